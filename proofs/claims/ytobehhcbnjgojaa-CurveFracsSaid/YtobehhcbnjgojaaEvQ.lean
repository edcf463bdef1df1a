/- Operations that touch no memory, end. -/
import Derived.Test.YtobehhcbnjgojaaEvP
namespace Go.Proofs.Ytobehhcbnjgojaa.Ev
variable {P : Program}

theorem eq_run {E : Env} {d t x y b} (h : eqT P d t x y = some b) (hd : d ≤ 10000) {X Y} (hx : VR E x X) (hy : VR E y Y) (w : World) :
    (binOp .eql t X Y).run P w = .ok (.bool b) w ∧ (binOp .neq t X Y).run P w = .ok (.bool !b) w := by
  have key := eqT_run (w := w) h hd hx hy
  cases d with
  | zero => simp [eqT] at h
  | succ d =>
  unfold eqT at h
  split at h
  · simp only [VR] at hx hy; subst hx hy; constructor <;> simp [binOp, Op.equal, Op.maxDepth, key]
  · split at h
    · rename_i he; cases h; simp only [VR] at hx hy; subst hx hy; subst he; constructor <;> simp [binOp, Op.intCmp, bne]
    · cases h
  · cases h; simp only [VR] at hx hy; subst hx hy; constructor <;> simp [binOp, Op.stringOp]
  · simp only [VR] at hx hy; subst hx hy; constructor <;> simp [binOp, Op.equal, Op.maxDepth, key]
  · simp only [VR] at hx hy; subst hx; obtain ⟨_, _, _, rfl⟩ := hy; constructor <;> simp [binOp, Op.equal, Op.maxDepth, key]
  · simp only [VR] at hx hy; subst hy; obtain ⟨_, _, _, rfl⟩ := hx; constructor <;> simp [binOp, Op.equal, Op.maxDepth, key]
  · simp only [VR] at hx hy; subst hx hy; constructor <;> simp [binOp, Op.equal, Op.maxDepth, key]
  · simp only [VR] at hx hy; subst hx; obtain ⟨_, _, _, rfl⟩ := hy; constructor <;> simp [binOp, Op.equal, Op.maxDepth, key]
  · simp only [VR] at hx hy; subst hy; obtain ⟨_, _, _, rfl⟩ := hx; constructor <;> simp [binOp, Op.equal, Op.maxDepth, key]
  · simp only [VR] at hx hy; subst hx hy; constructor <;> simp [binOp, Op.equal, Op.maxDepth, key]
  · simp only [VR] at hx hy; subst hx; obtain ⟨_, _, _, rfl⟩ := hy; constructor <;> simp [binOp, Op.equal, Op.maxDepth, key]
  · simp only [VR] at hx hy; subst hy; obtain ⟨_, _, _, rfl⟩ := hx; constructor <;> simp [binOp, Op.equal, Op.maxDepth, key]
  · simp only [VR] at hx hy; subst hx hy; constructor <;> simp [binOp, Op.equal, Op.maxDepth, key]
  · simp only [VR] at hx hy; subst hx; obtain ⟨_, _, _, rfl, _⟩ := hy; constructor <;> simp [binOp, Op.equal, Op.maxDepth, key]
  · simp only [VR] at hx hy; subst hy; obtain ⟨_, _, _, rfl, _⟩ := hx; constructor <;> simp [binOp, Op.equal, Op.maxDepth, key]
  · simp only [VR] at hx hy; obtain ⟨_, rfl, _⟩ := hx; obtain ⟨_, rfl, _⟩ := hy; constructor <;> simp [binOp, Op.equal, Op.maxDepth, key]
  · cases h

theorem guard_run {E : Env} {t : TypeId} {x : AV} (hg : guardOk P t x = true) (hn : x ≠ .nilI) {X Y : Value} (hx : VR E x X) (op : BinOp) (o q : Operand) (w : World) : (eqGuard op t o q X Y).run P w = .ok () w := by
  cases x with
  | agg l =>
    simp only [VR] at hx
    obtain ⟨L, rfl, _⟩ := hx
    simp only [guardOk, Bool.not_eq_true'] at hg
    cases op <;> simp [eqGuard] <;> cases Y <;> simp [hg]
  | nilI => exact absurd rfl hn
  | fn f a c => simp only [VR] at hx; obtain ⟨_, _, _, rfl, _⟩ := hx; cases op <;> simp [eqGuard]
  | iface t v => simp only [VR] at hx; obtain ⟨_, rfl, _⟩ := hx; cases op <;> simp [eqGuard]
  | tup l => simp only [VR] at hx; obtain ⟨_, rfl, _⟩ := hx; cases op <;> simp [eqGuard]
  | ptr i o => simp only [VR] at hx; obtain ⟨_, _, _, rfl⟩ := hx; cases op <;> simp [eqGuard]
  | slice i o n c => simp only [VR] at hx; obtain ⟨_, _, _, rfl⟩ := hx; cases op <;> simp [eqGuard]
  | map i => simp only [VR] at hx; obtain ⟨_, _, _, rfl⟩ := hx; cases op <;> simp [eqGuard]
  | _ => simp only [VR] at hx; subst hx; cases op <;> simp [eqGuard]

theorem evBin_run {E : Env} {op t x y X Y} (hx : VR E x X) (hy : VR E y Y) (o q : Operand) : PureR P E (evBin P op t x y) (do eqGuard op t o q X Y; binOp op t X Y) := by
  intro u hu w
  unfold evBin at hu
  split at hu
  · rename_i k a j b
    simp only [VR] at hx hy
    subst hx hy
    have hg : (eqGuard op t o q (.int k a) (.int j b)).run P w = .ok () w := by cases op <;> simp [eqGuard]
    simp only [Sem.run_bind, hg, Result.andThen_ok]
    split at hu
    · rename_i hop; exact evShift_run t hop u hu w
    · rename_i hop
      split at hu
      · rename_i hk; subst hk; exact evInt_run ⟨fun e => hop (.inl e), fun e => hop (.inr e)⟩ t u hu w
      · cases hu
  · simp only [VR] at hx hy
    subst hx hy
    have hg : ∀ x y : ByteArray, (eqGuard op t o q (.string x) (.string y)).run P w = .ok () w := fun x y => by cases op <;> simp [eqGuard]
    simp only [Sem.run_bind, hg, Result.andThen_ok]
    exact evStr_run t u hu w
  · unfold evEq at hu
    split at hu
    · split at hu
      · rename_i hg
        simp only [Option.map_eq_some_iff] at hu
        obtain ⟨b, hb, rfl⟩ := hu
        have hn : x ≠ .nilI := by rintro rfl; simp [eqT] at hb
        simp only [Sem.run_bind, guard_run hg hn hx, Result.andThen_ok]
        exact ⟨.bool b, (eq_run hb (by omega) hx hy w).1, rfl⟩
      · cases hu
    · split at hu
      · rename_i hg
        simp only [Option.map_eq_some_iff] at hu
        obtain ⟨b, hb, rfl⟩ := hu
        have hn : x ≠ .nilI := by rintro rfl; simp [eqT] at hb
        simp only [Sem.run_bind, guard_run hg hn hx, Result.andThen_ok]
        exact ⟨.bool !b, (eq_run hb (by omega) hx hy w).2, rfl⟩
      · cases hu
    · cases hu

theorem evUn_run {E : Env} {op x X} (hx : VR E x X) : PureR P E (evUn op x) (Op.unary op X) := by
  intro u hu w
  unfold evUn at hu
  split at hu
  · simp only [VR] at hx; subst hx; simp only [evInt] at hu; cases hu; exact ⟨_, by simp [Op.unary, Op.intArith], rfl⟩
  · simp only [VR] at hx; subst hx; simp only [evInt] at hu; cases hu; exact ⟨_, by simp [Op.unary, Op.intBits], rfl⟩
  · simp only [VR] at hx; subst hx; cases hu; exact ⟨_, by simp [Op.unary], rfl⟩
  · cases hu

/-! building -/
def PRs (E : Env) : List (Nat × AV) → List (Nat × Value) → Prop
  | [], L => L = []
  | p :: l, L => ∃ V L', L = (p.1, V) :: L' ∧ VR E p.2 V ∧ PRs E l L'
theorem OpR.parts {E a A} : ∀ {l : List (Nat × Operand)} {vs}, OpR E a A (l.map (·.2)) → mapP a l = some vs → PRs E vs (l.map fun p => (p.1, A.eval p.2))
  | [], vs, _, h => by simp [mapP] at h; subst h; simp [PRs]
  | (i, x) :: l, vs, hR, h => by
    simp only [mapP] at h
    split at h
    · rename_i v ws hv hws
      cases h
      exact ⟨_, _, rfl, hR x (by simp) v hv, OpR.parts (hR.sub (by simp; exact fun _ _ h => .inr ⟨_, h⟩)) hws⟩
    · cases h
theorem fold_set (l : List Value) : ∀ (off k : Nat) (cs : Array Value), ((l.zipIdx k).foldl (fun (cs : Array Value) (p : Value × Nat) => cs.setIfInBounds (off + p.2) p.1) cs).toList = cs.toList.take (off + k) ++ (l.take (cs.size - (off + k))) ++ cs.toList.drop (off + k + l.length) := by
  induction l with
  | nil => intro off k cs; simp
  | cons v l ih =>
    intro off k cs
    rw [List.zipIdx_cons, List.foldl_cons, ih]
    simp only [Array.size_setIfInBounds, Array.toList_setIfInBounds]
    by_cases h : off + k < cs.size
    · have h' : off + k < cs.toList.length := by simpa using h
      rw [show off + (k + 1) = off + k + 1 from by omega, List.take_set, List.drop_set_of_lt (by omega)]
      rw [List.take_succ_eq_append_getElem (by simpa using h'), List.set_append_right _ _ (by simp; omega)]
      have e1 : min (off + k) cs.toList.length = off + k := by omega
      simp only [List.length_take, e1, Nat.sub_self, List.set_cons_zero, List.append_assoc, List.singleton_append, List.length_cons]
      rw [show cs.size - (off + k) = (cs.size - (off + k + 1)) + 1 from by omega, List.take_succ_cons]
      simp [Nat.add_assoc, Nat.add_comm 1]
    · have h' : cs.toList.length ≤ off + k := by simpa using h
      rw [List.set_eq_of_length_le h']
      rw [List.take_of_length_le (by omega), List.take_of_length_le (l := cs.toList) (i := off + k) h', show cs.size - (off + (k + 1)) = 0 from by omega, show cs.size - (off + k) = 0 from by omega]
      rw [List.drop_eq_nil_of_le (by omega), List.drop_eq_nil_of_le (by omega)]
      simp
theorem fill_run {E : Env} {place : Nat → Option (Nat × Nat)} : ∀ {parts : List (Nat × AV)} {Parts : List (Nat × Value)} {cells r : List AV} {Cells : List Value}, fillA place cells parts = some r → PRs E parts Parts → VRs E cells Cells →
    ∃ R, Instr.fill place Cells.toArray Parts = some R.toArray ∧ VRs E r R
  | [], Parts, cells, r, Cells, h, hp, hc => by
    simp [fillA] at h; subst h; simp only [PRs] at hp; subst hp
    exact ⟨Cells, by simp [Instr.fill], hc⟩
  | (i, v) :: parts, _, cells, r, Cells, h, hp, hc => by
    simp only [PRs] at hp
    obtain ⟨V, L, rfl, hv, hp⟩ := hp
    simp only [fillA] at h
    split at h
    · cases h
    · rename_i off size hpl
      split at h
      · rename_i hs
        split at h
        · rename_i c hov
          obtain ⟨h1, rfl⟩ := overN_eq hov
          have hcv := hv.cells
          have l1 : V.cells.size = size := by rw [← hs, ← hcv.len]; simp
          have l2 := hc.len
          have l3 := hcv.len
          obtain ⟨R, h2, h3⟩ := fill_run (Cells := Cells.take off ++ V.cells.toList ++ Cells.drop (off + v.cells.length)) h hp (((hc.take off).append hcv).append (hc.drop _))
          refine ⟨R, ?_, h3⟩
          simp only [Instr.fill, hpl, l1, ne_eq, not_true_eq_false, decide_false, Bool.false_or]
          have e1 : ¬ (off + size > Cells.toArray.size) := by simp; omega
          simp only [e1, decide_false, Bool.false_eq_true, if_false]
          rw [← h2]
          congr 1
          apply Array.ext'
          have := fold_set V.cells.toList off 0 Cells.toArray
          rw [← Array.foldl_toList, Array.toList_zipIdx]
          rw [this]
          simp only [Nat.add_zero, List.append_assoc]
          rw [List.take_of_length_le (l := V.cells.toList) (by simp; omega), l3]
        · cases h
      · cases h
end Go.Proofs.Ytobehhcbnjgojaa.Ev
