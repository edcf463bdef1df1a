/- Maps in a walk: made, asked, written to. -/
import Derived.Test.YtlldifgofcbfoaaEv6
namespace Go.Proofs.Ytlldifgofcbfoaa.Ev
section
variable {P : Program} {B : Base} {Q : Post} {h0 : Heap} {W : List Nat} {N : Nat} {D : List Nat} {K : List Fr} {s : Sl} {L : Ob} {T : Tg} {md : Bool} {ops : Array Oper} {d : Nat} {ty : TypeId} {pos : String} {af : Array Edge} {gd : Option (Nat × Bool)} {l : List Oper}
theorem St.makeMap {t : TypeId} (k : ∀ j, h0.next ≤ j → WO P B Q h0 W N D K false ops l ((d, .map j) :: s) ((j, .map [] 0) :: L) []) (hw : wantS ops s N ⟨some d, .makeMap t none, ty, pos, af, gd⟩ = some true := by exact rfl) (hd : Nat.blt d N = true := by exact rfl) : WO P B Q h0 W N D K false ops (⟨some d, .makeMap t none, ty, pos, af, gd⟩ :: l) s L [] :=
  WO.op1 (v := fun j => .map j) (ob := fun _ => .map [] 0) hw hd (fun a h ha hh => ⟨_, h.next, ROp.value ha rfl (Nat.le_succ _), hh.gd.ss.new _⟩) k
theorem St.lookupV {t : TypeId} {x i : Operand} {ok : Bool} {v : AV} (he : ∀ h, Vw h0 W L h → evOp P h (evS s) ⟨some d, .lookup t x i ok, ty, pos, af, gd⟩ = some (.value v, h)) (k : WO P B Q h0 W N D K md ops l ((d, v) :: s) L T) (hw : wantS ops s N ⟨some d, .lookup t x i ok, ty, pos, af, gd⟩ = some true := by exact rfl) (hd : Nat.blt d N = true := by exact rfl) : WO P B Q h0 W N D K md ops (⟨some d, .lookup t x i ok, ty, pos, af, gd⟩ :: l) s L T :=
  WO.opE hw hd (fun _ h ha hh => ⟨h, ROp.value ha (he h hh) (Nat.le_refl _), hh.gd.ss⟩) k
theorem St.mapUpd {A C : Ob} {t : TypeId} {m x y : Operand} {r c c' : Nat} {es es' : List (AV × AV × Nat)} (hL : L = A ++ (r, .map es c) :: C) (he : ∀ h g, h.get r = some (.map es c) → h.set r (.map es' c') = some g → evOp P h (evS s) ⟨none, .mapUpdate t m x y, ty, pos, af, gd⟩ = some (.skip, g)) (k : WO P B Q h0 W N D K false ops l s (A ++ (r, .map es' c') :: C) [])
    (hw : wantS ops s N ⟨none, .mapUpdate t m x y, ty, pos, af, gd⟩ = some true := by exact rfl) : WO P B Q h0 W N D K false ops (⟨none, .mapUpdate t m x y, ty, pos, af, gd⟩ :: l) s L [] := by
  subst hL
  constructor
  · rintro - a h ha hh
    obtain ⟨h1, h3⟩ := hh.store (o' := .map es' c')
    have hg := (hh.own (r, .map es c) (by simp)).1
    exact KRun.op (v := aundef) (g := { h with t := h.t.set r (.map es' c') }) (wantS_eq ha hw) (ROp.skip ha (he h _ hg h1) (Nat.le_refl _)) rfl (k.seq rfl a _ ha h3)
  · intro e; cases e
end
/-- a set of ints, as a map whose values are true -/
def mapE : List Int → Nat → List (AV × AV × Nat)
  | [], _ => []
  | x :: l, c => (.int .i64 x, .bool true, c) :: mapE l (c + 1)
theorem mapE_snoc (x : Int) : ∀ (l : List Int) (c : Nat), mapE (l ++ [x]) c = mapE l c ++ [(.int .i64 x, .bool true, c + l.length)]
  | [], c => rfl
  | y :: l, c => by
    show (AV.int .i64 y, AV.bool true, c) :: mapE (l ++ [x]) (c + 1) = _
    rw [mapE_snoc x l (c + 1)]
    simp only [mapE, List.cons_append, List.length_cons]
    rw [show c + 1 + l.length = c + (l.length + 1) by omega]
theorem findE_no {k : Int} : ∀ {l : List Int} {c i : Nat}, k ∉ l → findE (.int .i64 k) (mapE l c) i = some none
  | [], _, _, _ => rfl
  | x :: l, c, i, h => by
    have h1 : (k == x) = false := by
      simp
      exact fun e => h (by rw [e]; exact List.mem_cons_self ..)
    show (match sameKey (AV.int .i64 k) (AV.int .i64 x) with
      | some true => some (some (i, (AV.bool true, c)))
      | some false => findE (.int .i64 k) (mapE l (c + 1)) (i + 1)
      | none => none) = _
    simp only [sameKey, if_true, h1]
    exact findE_no fun q => h (List.mem_cons_of_mem _ q)
theorem findE_yes {k : Int} : ∀ {l : List Int} {c i : Nat}, k ∈ l → ∃ j n, findE (.int .i64 k) (mapE l c) i = some (some (j, .bool true, n))
  | [], _, _, h => by cases h
  | x :: l, c, i, h => by
    show ∃ j n, (match sameKey (AV.int .i64 k) (AV.int .i64 x) with
      | some true => some (some (i, (AV.bool true, c)))
      | some false => findE (.int .i64 k) (mapE l (c + 1)) (i + 1)
      | none => none) = _
    by_cases e : k = x
    · subst e
      simp [sameKey]
    · have h1 : (k == x) = false := by simpa using e
      simp only [sameKey, if_true, h1]
      exact findE_yes ((List.mem_cons.1 h).resolve_left e)
end Go.Proofs.Ytlldifgofcbfoaa.Ev
