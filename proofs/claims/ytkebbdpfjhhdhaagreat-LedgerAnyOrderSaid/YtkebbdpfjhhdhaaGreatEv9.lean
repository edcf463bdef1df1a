/- Closed calls in steps: a call that is too long for one evaluation, cut anywhere, inside of calls too. -/
import Derived.Test.YtkebbdpfjhhdhaaGreatEv8
namespace Go.Proofs.YtkebbdpfjhhdhaaGreat.Ev
variable {P : Program} {Q : Post}
/-- what a caller in a region that draws its order remembers -/
structure DF where
  masks : List Nat
  kinds : List Nat
  recs : List Rec
  blk : Option Nat
  next : Nat
  lo : Nat
  hid : List (Nat × Nat)
/-- a caller that waits -/
inductive RK where
  | call (fn : Func)
  | round (l : Nat)
structure CF where
  kd : RK
  a : AAct
  dst : Option Tmp
  ops : Array Oper
  l : List Oper
  n0 : Nat
  dr : Option DF
def CF.go (c : CF) (h : Heap) : Option (Job × Heap) := match c.dr with
  | none => some (.ops c.ops c.l, h)
  | some d => if freeAll (d.masks.getD d.recs.length 0) ⟨d.kinds.getD d.recs.length 0, d.blk, d.next, h.next⟩ d.recs d.recs.length = true then some (.drawn c.ops d.masks d.kinds c.l (⟨d.kinds.getD d.recs.length 0, d.blk, d.next, h.next⟩ :: d.recs), { h with lo := d.lo, hid := d.hid }) else none
/-- the value that a call or a round says -/
def valM (P : Program) : RK → Ex → AAct → Heap → Option (AV × Heap)
  | .call fn, ex, a, h => match rEnd P fn (some ⟨ex, aundef, a, h⟩) with
    | some o => some (o.v, o.h)
    | none => none
  | .round l, ex, _, h => match endA h l ex with
    | some g => some (.bool ex.isNormal, g)
    | none => none
def retM (P : Program) (c : CF) (ex : Ex) (a : AAct) (h : Heap) : Option (Job × AAct × Heap) := match valM P c.kd ex a h with
  | some (v, g) => if Nat.ble c.n0 g.next then match c.a.put c.dst v, c.go g with
    | some a2, some (j, h2) => some (j, a2, h2)
    | _, _ => none
    else none
  | none => none
/-- a range over a function that waits -/
structure RF where
  fn : Func
  a : AAct
  l : Nat
  mark : List Nat
  rnd : Option Nat
  n0 : Nat
def retR (P : Program) (c : RF) (ex : Ex) (a : AAct) (h : Heap) : Option (Option Code × Heap) := match rEnd P c.fn (some ⟨ex, aundef, a, h⟩) with
  | some ⟨.normal, _, _, g⟩ => if Nat.ble c.n0 g.next then match leaveA g c.l with
    | some (pd, g4) => if Nat.ble g.next g4.next then some (pd, g4) else none
    | none => none
    else none
  | _ => none
inductive SF where
  | op (c : CF)
  | rng (c : RF)
def pendK (rnd : Option Nat) (pd : Option Code) (K : List Fr) : List Fr := match pd with
  | none => K
  | some c => .job (.code rnd c) :: K
/-- what must hold when a call ends -/
def QS (P : Program) (Q : Post) : List (SF × List Fr) → Post
  | [] => Q
  | (.op c, K) :: S => fun ex a h => ∃ j a2 h2, retM P c ex a h = some (j, a2, h2) ∧ KRun P noB (QS P Q S) (.job j :: K) .normal a2 h2
  | (.rng c, K) :: S => fun ex a h => ∃ pd g, retR P c ex a h = some (pd, g) ∧ KRun P noB (QS P Q S) (pendK c.rnd pd K) .normal { c.a with defers := c.mark ++ c.a.defers } g
structure MS where
  S : List (SF × List Fr)
  K : List Fr
  ex : Ex
  a : AAct
  h : Heap
def MS.holds (P : Program) (Q : Post) (s : MS) : Prop := KRun P noB (QS P Q s.S) s.K s.ex s.a s.h
def bigM (P : Program) (n : Nat) (j : Job) (S : List (SF × List Fr)) (K : List Fr) (a : AAct) (h : Heap) : Option MS := match run P n j a h with
  | some o => some ⟨S, K, o.ex, o.a, o.h⟩
  | none => none
def callM (P : Program) (f : Nat) (args : List AV) (g : Heap) (S : List (SF × List Fr)) (K : List Fr) (c : Func → SF) : Option MS := match enters P f with
  | some fn => match fn.body with
    | some b => some ⟨(c fn, K) :: S, [.job (.code none b)], .normal, ⟨initT args 0, if Nat.ble args.length fn.ntmps then fn.ntmps else args.length, []⟩, g⟩
    | none => none
  | none => none
def roundM (l : Nat) (args : List AV) (g : Heap) (S : List (SF × List Fr)) (K : List Fr) (c : CF) : Option MS := match g.get l with
  | some (.loop q) => if args.length = q.params.size ∧ q.state = .ready then some ⟨(.op c, K) :: S, [.job (.code (some l) q.assign), .busy l, .job (.code (some l) q.body)], .normal, ⟨setAll q.tmps q.size q.params.toList args, q.size, []⟩, g⟩ else none
  | _ => none
def putM (S : List (SF × List Fr)) (K : List Fr) (a : AAct) (d : Option Tmp) (j : Job) : Option (AV × Heap) → Option MS
  | some (v, h) => match a.put d v with
    | some a' => some ⟨S, .job j :: K, .normal, a', h⟩
    | none => none
  | none => none
def opM (P : Program) (n : Nat) (ops : Array Oper) (o : Oper) (l : List Oper) (S : List (SF × List Fr)) (K : List Fr) (a : AAct) (h : Heap) : Option MS :=
  if wantedA ops a o then match evOp P h a.eval o with
    | some (.enter f args, g) => if Nat.ble h.next g.next then callM P f args g S K (fun fn => .op ⟨.call fn, a, o.dst, ops, l, g.next, none⟩) else none
    | some (.round r args, g) => if Nat.ble h.next g.next then roundM r args g S K ⟨.round r, a, o.dst, ops, l, g.next, none⟩ else none
    | some x => if Nat.ble h.next x.2.next then putM S K a o.dst (.ops ops l) (rOp2 (run P n) a x) else none
    | none => none
  else putM S K a o.dst (.ops ops l) (some (aundef, h))
def drM (P : Program) (n : Nat) (ops : Array Oper) (masks kinds : List Nat) (recs : List Rec) (o : Oper) (l : List Oper) (S : List (SF × List Fr)) (K : List Fr) (a : AAct) (h : Heap) : Option MS :=
  if wantedA ops a o then match evOp P (evHeap (kinds.getD recs.length 0) (masks.getD recs.length 0) recs h) a.eval o with
    | some (.enter f args, g) => if Nat.ble h.next g.next then callM P f args g S K (fun fn => .op ⟨.call fn, a, o.dst, ops, l, g.next, some ⟨masks, kinds, recs, blkOf a.eval o.op, h.next, h.lo, h.hid⟩⟩) else none
    | some (.round r args, g) => if Nat.ble h.next g.next then roundM r args g S K ⟨.round r, a, o.dst, ops, l, g.next, some ⟨masks, kinds, recs, blkOf a.eval o.op, h.next, h.lo, h.hid⟩⟩ else none
    | some x => if Nat.ble h.next x.2.next then match rOp2 (run P n) a x with
        | some (v, g) => if freeAll (masks.getD recs.length 0) ⟨kinds.getD recs.length 0, blkOf a.eval o.op, h.next, g.next⟩ recs recs.length = true then putM S K a o.dst (.drawn ops masks kinds l (⟨kinds.getD recs.length 0, blkOf a.eval o.op, h.next, g.next⟩ :: recs)) (some (v, { g with lo := h.lo, hid := h.hid })) else none
        | none => none
      else none
    | none => none
  else putM S K a o.dst (.drawn ops masks kinds l (⟨0, none, h.next, h.next⟩ :: recs)) (some (aundef, h))
def rangeM (P : Program) (rnd : Option Nat) (f : Operand) (ps : Array Tmp) (assign body : Code) (S : List (SF × List Fr)) (K : List Fr) (a : AAct) (h : Heap) : Option MS := match a.eval f, enterA h rnd with
  | some (.fn (.func g) fs cs), some (d, mark, h1) => if Nat.ble h.next h1.next then callM P g (fs ++ [.fn (.yield h1.next) [] []] ++ cs) (h1.new (.loop ⟨.ready, none, a.tmps, a.size, ps, assign, body, d⟩)).2 S K (fun fn => .rng ⟨fn, a, h1.next, mark, rnd, h1.next + 1⟩) else none
  | _, _ => none
def codeM (P : Program) (n : Nat) (rnd : Option Nat) (c : Code) (S : List (SF × List Fr)) (K : List Fr) (a : AAct) (h : Heap) : Option MS := match c with
  | .skip => some ⟨S, K, .normal, a, h⟩
  | .label _ => some ⟨S, K, .normal, a, h⟩
  | .exit id => some ⟨S, K, .exit id, a, h⟩
  | .ret => some ⟨S, K, .ret, a, h⟩
  | .seq x y => some ⟨S, .job (.code rnd x) :: .job (.code rnd y) :: K, .normal, a, h⟩
  | .cond c x y => match a.eval c with
    | some (.bool b) => some ⟨S, .job (.code rnd (if b then x else y)) :: K, .normal, a, h⟩
    | _ => none
  | .block id b => some ⟨S, .job (.code rnd b) :: .blk id :: K, .normal, a, h⟩
  | .loop b => some ⟨S, .job (.code rnd b) :: .job (.code rnd (.loop b)) :: K, .normal, a, h⟩
  | .scope b => some ⟨S, .job (.code rnd b) :: K, .normal, a, h⟩
  | .region _ ops false => some ⟨S, .job (.ops ops ops.toList) :: K, .normal, a, h⟩
  | .region _ ops true => if staticOk ops = true then some ⟨S, .job (.drawn ops (masksOf ops.toList []).reverse (kindsOf ops (masksOf ops.toList []).reverse) ops.toList []) :: K, .normal, a, h⟩ else none
  | .rangeFunc f ps assign body => rangeM P rnd f ps assign body S K a h
  | c => bigM P n (.code rnd c) S K a h
def jobM (P : Program) (n : Nat) (j : Job) (S : List (SF × List Fr)) (K : List Fr) (a : AAct) (h : Heap) : Option MS := match j with
  | .code rnd c => codeM P n rnd c S K a h
  | .ops _ [] => some ⟨S, K, .normal, a, h⟩
  | .ops ops (o :: l) => opM P n ops o l S K a h
  | .drawn _ _ _ [] _ => some ⟨S, K, .normal, a, h⟩
  | .drawn ops masks kinds (o :: l) recs => drM P n ops masks kinds recs o l S K a h
  | j => bigM P n j S K a h
def stepM (P : Program) (n : Nat) : MS → Option MS
  | ⟨S, .job j :: K, .normal, a, h⟩ => jobM P n j S K a h
  | ⟨S, .job _ :: K, .exit id, a, h⟩ => some ⟨S, K, .exit id, a, h⟩
  | ⟨S, .job _ :: K, .ret, a, h⟩ => some ⟨S, K, .ret, a, h⟩
  | ⟨S, .blk id :: K, ex, a, h⟩ => some ⟨S, K, ex.out id, a, h⟩
  | ⟨S, .busy l :: K, .normal, a, h⟩ => match busyA h l with
    | some g => some ⟨S, K, .normal, a, g⟩
    | none => none
  | ⟨(.op c, K) :: S, [], ex, a, h⟩ => match retM P c ex a h with
    | some (j, a2, h2) => some ⟨S, .job j :: K, .normal, a2, h2⟩
    | none => none
  | ⟨(.rng c, K) :: S, [], ex, a, h⟩ => match retR P c ex a h with
    | some (pd, g) => some ⟨S, pendK c.rnd pd K, .normal, { c.a with defers := c.mark ++ c.a.defers }, g⟩
    | none => none
  | _ => none
/-- a call that ended -/
theorem Run.called {f : Nat} {args : List AV} {fn : Func} {b : Code} {a : AAct} {g : Heap} {o1 o : Out} (hf : enters P f = some fn) (hb : fn.body = some b) (r : Run P noB (.code none b) ⟨initT args 0, if Nat.ble args.length fn.ntmps then fn.ntmps else args.length, []⟩ g o1) (he : rEnd P fn (some ⟨o1.ex, aundef, o1.a, o1.h⟩) = some o) (hn : g.next ≤ o.h.next) : Run P noB (.call f args) a g o := by
  obtain ⟨n, e⟩ := r
  have he' : rEnd P fn (some o1) = some o := by
    obtain ⟨ex, v, a1, h1⟩ := o1
    cases ex <;> exact he
  exact Run.call (n := n) rfl (by unfold rCall; rw [hf]; simp only [hb]; rw [e]; exact he') hn
/-- some steps -/
def iterM (P : Program) (n : Nat) (m : Nat) : MS → Option MS := Nat.rec (fun s => some s) (fun _ ih s => match stepM P n s with
  | some s' => ih s'
  | none => none) m
def headC : Code → Code
  | .seq x _ => x
  | c => c
def startM (c : Code) (a : AAct) (h : Heap) : MS := ⟨[], [.job (.code none (headC c))], .normal, a, h⟩
/-- where a part ends -/
def endQ (a : AAct) (h : Heap) : Post := fun ex a' h' => ex = .normal ∧ a' = a ∧ h' = h
/-- that a part begins here and has ended there, with what is named of the memory -/
def keepM (h h' : Heap) (l : List Nat) (g : Heap) : Prop := h.plainH = true ∧ h'.keep l = g
theorem CodeOk.runB (hP : P.follows .mixedOrders = true) {c : Code} {a : AAct} {h : Heap} {o : Out} (e : Run P noB (.code none c) a h o) : CodeOk P c a h o := by
  obtain ⟨n, e⟩ := e
  have s := runB_sound hP (SoundC.runs (P := P) (B := noB) (@noB_sound P)) n
  exact ⟨s.a.next e, fun k ht ha hr m => s.a.code e k ht ha hr m⟩
/-- where a piece of code lies -/
def atP : Code → List Nat → Code
  | c, [] => c
  | .seq x _, 0 :: p => atP x p
  | .seq _ y, _ :: p => atP y p
  | .cond _ x _, 0 :: p => atP x p
  | .cond _ _ y, _ :: p => atP y p
  | .block _ b, _ :: p => atP b p
  | .loop b, _ :: p => atP b p
  | .scope b, _ :: p => atP b p
  | .rangeFunc _ _ x _, 0 :: p => atP x p
  | .rangeFunc _ _ _ y, _ :: p => atP y p
  | c, _ => c
def setsT (t : T AObj) : List (Nat × AObj) → T AObj
  | [] => t
  | (i, o) :: l => setsT (t.set i o) l
def delsT (t : T AObj) : List Nat → T AObj
  | [] => t
  | i :: l => delsT (t.del i) l
def opsC : Code → Array Oper
  | .region _ ops _ => ops
  | _ => #[]
def atF (f : Func) (p : List Nat) : Code := atP (f.body.getD .skip) p
def opJ (f : Func) (p : List Nat) (k : Nat) : Fr := .job (.ops (opsC (atF f p)) ((opsC (atF f p)).toList.drop k))
def drJ (f : Func) (p : List Nat) (k : Nat) (recs : List Rec) : Fr := .job (.drawn (opsC (atF f p)) (masksOf (opsC (atF f p)).toList []).reverse (kindsOf (opsC (atF f p)) (masksOf (opsC (atF f p)).toList []).reverse) ((opsC (atF f p)).toList.drop k) recs)
def cfJ (kd : RK) (a : AAct) (dst : Option Tmp) (f : Func) (p : List Nat) (k n0 : Nat) : SF := .op ⟨kd, a, dst, opsC (atF f p), (opsC (atF f p)).toList.drop k, n0, none⟩
def cdJ (kd : RK) (a : AAct) (dst : Option Tmp) (f : Func) (p : List Nat) (k n0 : Nat) (recs : List Rec) (blk : Option Nat) (next lo : Nat) (hid : List (Nat × Nat)) : SF := .op ⟨kd, a, dst, opsC (atF f p), (opsC (atF f p)).toList.drop k, n0, some ⟨(masksOf (opsC (atF f p)).toList []).reverse, kindsOf (opsC (atF f p)) (masksOf (opsC (atF f p)).toList []).reverse, recs, blk, next, lo, hid⟩⟩
def coJ (rnd : Option Nat) (c : Code) : Fr := .job (.code rnd c)
def loJ (f : Func) (p : List Nat) (st : LoopState) (pd : Option Code) (tmps : T AV) (size d : Nat) : AObj := match atF f p with
  | .rangeFunc _ ps assign body => .loop ⟨st, pd, tmps, size, ps, assign, body, d⟩
  | _ => .deferred false
/-- the last steps of a part -/
def lastM (P : Program) (n m : Nat) (s : MS) (l : List Nat) : Option (AAct × Heap) := match iterM P n m s with
  | some ⟨[], [], .normal, a, h⟩ => some (a, h.keep l)
  | _ => none
end Go.Proofs.YtkebbdpfjhhdhaaGreat.Ev
