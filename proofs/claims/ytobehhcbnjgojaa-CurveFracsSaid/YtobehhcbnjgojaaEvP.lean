/- Operations that touch no memory. -/
import Derived.Test.YtobehhcbnjgojaaEvR
import Derived.Laws.StructEq
import Derived.Laws.Tables
import Derived.Laws.Cells
namespace Go.Proofs.Ytobehhcbnjgojaa.Ev
variable {P : Program}

def OpR (E : Env) (a : AAct) (A : Act) (l : List Operand) : Prop := ∀ x ∈ l, ∀ v, a.eval x = some v → VR E v (A.eval x)
theorem OpR.one {E a A x} (h : OpR E a A [x]) {v} (hv : a.eval x = some v) : VR E v (A.eval x) := h x (List.mem_singleton.2 rfl) v hv
theorem OpR.sub {E a A l m} (h : OpR E a A l) (hm : ∀ x ∈ m, x ∈ l) : OpR E a A m := fun x hx => h x (hm x hx)
theorem OpR.list {E a A} : ∀ {l : List Operand} {vs : List AV}, OpR E a A l → mapO a l = some vs → VRs E vs (l.map A.eval)
  | [], vs, _, h => by simp [mapO] at h; subst h; exact VRs.nil
  | x :: l, vs, hR, h => by
    simp only [mapO] at h
    split at h
    · rename_i v ws hv hws
      cases h
      exact VRs.cons (hR x (by simp) v hv) (OpR.list (hR.sub (by simp; exact fun _ h => .inr h)) hws)
    · cases h

theorem run_size {t s} (h : sizeT P t = some s) (w : World) : (sizeOf t).run P w = .ok s w := by
  unfold sizeT at h
  cases hi : P.info? t with
  | none => rw [hi] at h; cases h
  | some i => rw [hi] at h; simp at h; subst h; simp [sizeOf, typeInfo, hi]
theorem run_aggT {t b} (h : isAggT P t = some b) (w : World) : (isAgg t).run P w = .ok b w := by
  unfold isAggT at h
  split at h <;> cases h
  · rename_i hu; simp [isAgg, run_underlying hu]
  · rename_i hu; simp [isAgg, run_underlying hu]
  · rename_i d h1 h2 hu; simp only [isAgg, Sem.run_bind, run_underlying hu, Result.andThen_ok]
    rfl
theorem run_zeroT {t z} (h : zeroT P t = some z) (w : World) : ∃ Z, (zeroValue t).run P w = .ok Z w ∧ (∀ E, VR E z Z) ∧ ∃ i, P.info? t = some i ∧ i.zero = some Z := by
  unfold zeroT at h
  cases hi : P.info? t with
  | none => rw [hi] at h; simp at h
  | some i =>
    rw [hi] at h
    cases hz : i.zero with
    | none => simp [hz] at h
    | some Z => simp [hz] at h; exact ⟨Z, by simp [zeroValue, typeInfo, hi, hz], fun E => abs_VR h, i, rfl, hz⟩

theorem VRs.arr {E : Env} {l : List AV} {L : List Value} {n : Nat} {v : AV} (h : VRs E l L) (hv : l[n]? = some v) : ∃ V, (L.toArray)[n]? = some V ∧ VR E v V := by
  obtain ⟨V, h1, h2⟩ := h.get hv
  exact ⟨V, by simpa using h1, h2⟩
theorem run_partE {E : Env} {t l off v L} (h : partE P t l off = some v) (hl : VRs E l L) (w : World) : ∃ V, (part t L.toArray off).run P w = .ok V w ∧ VR E v V := by
  unfold partE at h
  split at h
  · rename_i s ha hs
    simp only [Option.map_eq_some_iff] at h
    obtain ⟨q, hq, rfl⟩ := h
    rw [dropN_eq] at hq
    obtain ⟨h1, rfl⟩ := takeN_eq hq
    refine ⟨.agg (L.toArray.extract off (off + s)), by simp [part, run_aggT ha, run_size hs], ?_⟩
    simp only [VR]
    exact ⟨(L.drop off).take s, by simp [List.extract_toArray, List.extract], (hl.drop off).take s⟩
  · rename_i ha
    rw [nthN_eq] at h
    obtain ⟨V, h1, h2⟩ := hl.arr h
    simp at h1
    exact ⟨V, by simp [part, run_aggT ha, h1], h2⟩
  · cases h
theorem run_partA {E : Env} {t l off v L} (h : partA P t l off = some v) (hl : VRs E l L) (w : World) : ∃ V, (part t L.toArray off).run P w = .ok V w ∧ VR E v V := run_partE h hl w

/-! equality -/
theorem eqFs_run {E : Env} {w : World} {d D : Nat} (ih : ∀ {t x y b X Y}, eqT P d t x y = some b → VR E x X → VR E y Y → (Op.equalIn D t X Y).run P w = .ok b w) {xs ys : List AV} {Xs Ys : List Value} (hx : VRs E xs Xs) (hy : VRs E ys Ys) :
    ∀ {fs : List Field} {b}, eqFs P (eqT P d) fs xs ys = some b → (Op.eqFields D Xs.toArray Ys.toArray fs).run P w = .ok b w
  | [], b, h => by simp [eqFs] at h; subst h; simp [Op.eqFields]
  | f :: fs, b, h => by
    simp only [eqFs] at h
    split at h
    · cases h
    · rename_i hn
      split at h
      · rename_i x y h1 h2
        obtain ⟨X, r1, v1⟩ := run_partE h1 hx w
        obtain ⟨Y, r2, v2⟩ := run_partE h2 hy w
        simp only [Op.eqFields, ne_eq, hn, not_false_eq_true, if_true, Sem.run_bind, r1, r2, Result.andThen_ok]
        split at h
        · rename_i h3
          have := ih h3 v1 v2
          simp only [this, Result.andThen_ok, Bool.not_true, Bool.false_eq_true, if_false]
          exact eqFs_run ih hx hy h
        · rename_i r h3
          cases b with
          | true => exact absurd h h3
          | false =>
            have := ih h v1 v2
            simp [this]
      · cases h

theorem fieldsOf_eq {t fs} (h : P.underlying t = some (.struct fs)) : P.fieldsOf t = fs := by unfold Program.fieldsOf; rw [h]
theorem eqT_run {E : Env} {w : World} : ∀ {d D : Nat} {t x y b X Y}, eqT P d t x y = some b → d ≤ D → VR E x X → VR E y Y → (Op.equalIn D t X Y).run P w = .ok b w
  | 0, _, _, _, _, _, _, _, h, _, _, _ => by simp [eqT] at h
  | d + 1, 0, _, _, _, _, _, _, _, hD, _, _ => by omega
  | d + 1, D + 1, t, x, y, b, X, Y, h, hD, hx, hy => by
    unfold eqT at h
    split at h
    · rename_i hu; cases h; simp only [VR] at hx hy; subst hx hy; simp [Op.equalIn, run_underlying hu]
    · rename_i hu; split at h
      · rename_i he; cases h; simp only [VR] at hx hy; subst hx hy; simp [Op.equalIn, run_underlying hu, he]
      · cases h
    · rename_i hu; cases h; simp only [VR] at hx hy; subst hx hy
      rw [run_equalIn_string w D t _ _ hu]; simp [ByteArray.toList_eq]
    · rename_i hu; cases h; simp only [VR] at hx hy; subst hx hy; simp [Op.equalIn, run_underlying hu]
    · rename_i hu; cases h; simp only [VR] at hx hy; subst hx; obtain ⟨_, _, _, rfl⟩ := hy; simp [Op.equalIn, run_underlying hu]
    · rename_i hu; cases h; simp only [VR] at hx hy; subst hy; obtain ⟨_, _, _, rfl⟩ := hx; simp [Op.equalIn, run_underlying hu]
    · rename_i hu; cases h; simp only [VR] at hx hy; subst hx hy; simp [Op.equalIn, run_underlying hu]
    · rename_i hu; cases h; simp only [VR] at hx hy; subst hx; obtain ⟨_, _, _, rfl⟩ := hy; simp [Op.equalIn, run_underlying hu]
    · rename_i hu; cases h; simp only [VR] at hx hy; subst hy; obtain ⟨_, _, _, rfl⟩ := hx; simp [Op.equalIn, run_underlying hu]
    · rename_i hu; cases h; simp only [VR] at hx hy; subst hx hy; simp [Op.equalIn, run_underlying hu]
    · rename_i hu; cases h; simp only [VR] at hx hy; subst hx; obtain ⟨_, _, _, rfl⟩ := hy; simp [Op.equalIn, run_underlying hu]
    · rename_i hu; cases h; simp only [VR] at hx hy; subst hy; obtain ⟨_, _, _, rfl⟩ := hx; simp [Op.equalIn, run_underlying hu]
    · rename_i hu; cases h; simp only [VR] at hx hy; subst hx hy; simp [Op.equalIn, run_underlying hu]
    · rename_i hu; cases h; simp only [VR] at hx hy; subst hx; obtain ⟨_, _, _, rfl, _⟩ := hy; simp [Op.equalIn, run_underlying hu]
    · rename_i hu; cases h; simp only [VR] at hx hy; subst hy; obtain ⟨_, _, _, rfl, _⟩ := hx; simp [Op.equalIn, run_underlying hu]
    · rename_i fs xs ys hu
      split at h
      · cases h
      · rename_i hp
        simp only [VR] at hx hy
        obtain ⟨Xs, rfl, hx⟩ := hx
        obtain ⟨Ys, rfl, hy⟩ := hy
        rw [run_equalIn_struct w D t _ _ (by rw [fieldsOf_eq hu]; exact hu) (by simpa using hp), fieldsOf_eq hu]
        exact eqFs_run (fun h k k' => eqT_run h (by omega) k k') hx hy h
    · cases h

/-! the operations, one by one: what each comes to in whatever world -/
/-- run without memory -/
def PureR (P : Program) (E : Env) (v : Option AV) (s : Sem Value) : Prop := ∀ u, v = some u → ∀ w, ∃ V, s.run P w = .ok V w ∧ VR E u V

theorem evInt_run {E : Env} {op k x y} (hk : op ≠ .shl ∧ op ≠ .shr) (t : TypeId) : PureR P E (evInt op k x y) (binOp op t (.int k x) (.int k y)) := by
  intro u hu w
  cases op <;> simp only [evInt] at hu
  case shl => exact absurd rfl hk.1
  case shr => exact absurd rfl hk.2
  case quo =>
    split at hu
    · cases hu
    · rename_i h; cases hu; exact ⟨_, by simp [binOp, Op.intDiv, h], rfl⟩
  case rem =>
    split at hu
    · cases hu
    · rename_i h; cases hu; exact ⟨_, by simp [binOp, Op.intDiv, h], rfl⟩
  all_goals (cases hu; exact ⟨_, by simp [binOp, Op.intArith, Op.intBits, Op.intCmp], rfl⟩)
theorem evShift_run {E : Env} {op k j x y} (t : TypeId) (hk : op = .shl ∨ op = .shr) : PureR P E (evShift op k x y) (binOp op t (.int k x) (.int j y)) := by
  intro u hu w
  unfold evShift at hu
  split at hu
  · cases hu
  · rename_i h
    rcases hk with rfl | rfl <;> (simp only at hu; cases hu; exact ⟨_, by simp [binOp, Op.shift, h], rfl⟩)
theorem toList_mk (l : List UInt8) : (⟨l.toArray⟩ : ByteArray).toList = l := by rw [ByteArray.toList_eq]
theorem evStr_run {E : Env} {op x y} (t : TypeId) : PureR P E (evStr op x y) (binOp op t (.string ⟨x.toArray⟩) (.string ⟨y.toArray⟩)) := by
  intro u hu w
  have hs : ∀ l : List UInt8, (⟨l.toArray⟩ : ByteArray).size = l.length := fun l => by show (l.toArray).size = _; simp
  cases op <;> simp only [evStr] at hu <;> try (cases hu; done)
  case add =>
    split at hu
    · rename_i hl
      cases hu
      refine ⟨.string ⟨(x ++ y).toArray⟩, ?_, by simp only [VR]⟩
      have h2 : ¬ ((x.length + y.length : Nat) : Int) > IntKind.i64.max := by unfold IntKind.max; simp [IntKind.signed, IntKind.bits]; omega
      have h3 : (⟨x.toArray⟩ ++ ⟨y.toArray⟩ : ByteArray) = ⟨(x ++ y).toArray⟩ := by
        apply ByteArray.ext; simp
      simp only [binOp, Op.stringOp, hs, if_neg h2, Sem.run_pure, h3]
    · cases hu
  all_goals (cases hu; exact ⟨_, by simp [binOp, Op.stringOp], rfl⟩)
end Go.Proofs.Ytobehhcbnjgojaa.Ev
