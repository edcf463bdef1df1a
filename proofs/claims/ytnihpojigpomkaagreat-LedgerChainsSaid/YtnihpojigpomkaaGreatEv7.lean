/- Maps in a walk: made, asked, written to. -/
import Derived.Test.YtnihpojigpomkaaGreatEv6
namespace Go.Proofs.YtnihpojigpomkaaGreat.Ev
section
variable {P : Program} {B : Base} {Q : Post} {h0 : Heap} {W : List Nat} {N : Nat} {D : List Nat} {K : List Fr} {s : Sl} {L : Ob} {T : Tg} {md : Bool} {ops : Array Oper} {d : Nat} {ty : TypeId} {pos : String} {af : Array Edge} {gd : Option (Nat × Bool)} {l : List Oper}
end
/-- a set of ints, as a map whose values are true -/
def mapE : List Int → Nat → List (AV × AV × Nat)
  | [], _ => []
  | x :: l, c => (.int .i64 x, .bool true, c) :: mapE l (c + 1)
end Go.Proofs.YtnihpojigpomkaaGreat.Ev

/- A walk through a region that draws its order, operation by operation: each one is known by its kind and the label of its block; blocks may be made. -/
namespace Go.Proofs.YtnihpojigpomkaaGreat.Ev
variable {P : Program} {B : Base}
def rlOk (n : Nat) : Rl → Bool
  | [] => true
  | q :: l => (match q.2 with | some b => Nat.ble b n | none => true) && rlOk n l
structure WE (P : Program) (B : Base) (Q : Post) (h0 : Heap) (W : List Nat) (N : Nat) (D : List Nat) (K : List Fr) (ops : Array Oper) (l : List Oper) (s : Sl) (L : Ob) (T : Tg) (cls : List Nat) (n : Nat) (rl : Rl) : Prop where
  run : ∀ a h recs, Sat a N s D → DS h0 W recs L T h → recs.map (fun r => (r.ty, r.blk)) = rl.map (fun q => (q.1, blkL cls q.2)) → ops.toList.drop recs.length = l → cls.Nodup → (∀ i ∈ cls, i < h.next) → cls.length = n → (∀ i ∈ W, i < h0.next) → KRun P B Q (.job (.drawn ops (masksR ops) (kindsR ops) l recs) :: K) .normal a h
section
variable {Q : Post} {h0 : Heap} {W : List Nat} {N : Nat} {D : List Nat} {K : List Fr} {s : Sl} {L : Ob} {T : Tg} {rnd : Option Nat} {cls : List Nat} {n : Nat} {rl : Rl} {ops : Array Oper} {d : Nat} {op : Op} {ty : TypeId} {pos : String} {af : Array Edge} {gd : Option (Nat × Bool)} {l : List Oper} {o : Oper}
end
end Go.Proofs.YtnihpojigpomkaaGreat.Ev

/- A drawn region, operation by operation: append, whose block is known. -/
namespace Go.Proofs.YtnihpojigpomkaaGreat.Ev
variable {P : Program} {B : Base}
section
variable {Q : Post} {h0 : Heap} {W : List Nat} {N : Nat} {D : List Nat} {K : List Fr} {s : Sl} {L : Ob} {T : Tg} {cls : List Nat} {n : Nat} {rl : Rl} {ops : Array Oper} {d : Nat} {ty : TypeId} {pos : String} {af : Array Edge} {gd : Option (Nat × Bool)} {l : List Oper} {o : Oper}
variable {x y : Operand} {t tx e : TypeId} {u : AV} {sz m : Nat} {new : List AV} {i2 off2 : Nat} {c2 : ACap} {ob2 : AObj}
end
end Go.Proofs.YtnihpojigpomkaaGreat.Ev
