/- Plain facts of layer 9: what was said in a case, each once, tells the same as all that was said. No walk, no number of a function. -/
import Derived.Test.YtehmkhlcejcniaaKs
import Derived.Test.YtehmkhlcejcniaaKv
namespace Go.Proofs.Ytehmkhlcejcniaa
theorem alike_iff {a b : Le} : alikeB a b = true ↔ a.cs = b.cs ∧ a.kd = b.kd ∧ a.rd = b.rd ∧ a.fr = b.fr ∧ a.vo = b.vo ∧ a.fi = b.fi := by unfold alikeB; simp
theorem alike_symm (a b : Le) : alikeB a b = alikeB b a := by
  rw [Bool.eq_iff_iff, alike_iff, alike_iff]
  constructor <;> (rintro ⟨h1, h2, h3, h4, h5, h6⟩; exact ⟨h1.symm, h2.symm, h3.symm, h4.symm, h5.symm, h6.symm⟩)
theorem atL_take {l : List Le} {i k : Nat} (h : k < i) : atL (l.take i) k = atL l k := by unfold atL; simp [List.getElem?_take, h]
theorem atL_app {A : List Le} {y : Le} {k : Nat} (h : k < A.length) : atL (A ++ [y]) k = atL A k := by unfold atL; rw [List.getElem?_append_left h]
theorem atL_last {A : List Le} {y : Le} : atL (A ++ [y]) A.length = y := by unfold atL; simp
theorem take_step {l : List Le} {i : Nat} (h : i < l.length) : l.take (i + 1) = l.take i ++ [atL l i] := by
  rw [List.take_succ_eq_append_getElem h]
  unfold atL
  simp [h]
/-! the last vote, the last word -/
theorem lv_take {l : List Le} {a cs : Int} {i : Nat} : ∀ {k : Nat}, k ≤ i → lvR (l.take i) a cs k = lvR l a cs k ∧ lvF (l.take i) a cs k = lvF l a cs k ∧ lwR (l.take i) a cs k = lwR l a cs k
  | 0, _ => ⟨rfl, rfl, rfl⟩
  | k + 1, h => by
    obtain ⟨h1, h2, h3⟩ := lv_take (l := l) (a := a) (cs := cs) (i := i) (k := k) (by omega)
    simp only [lvR, lvF, lwR, h1, h2, h3, atL_take (show k < i by omega), and_self]
theorem lv_app {A : List Le} {y : Le} {a cs : Int} : ∀ {k : Nat}, k ≤ A.length → lvR (A ++ [y]) a cs k = lvR A a cs k ∧ lvF (A ++ [y]) a cs k = lvF A a cs k ∧ lwR (A ++ [y]) a cs k = lwR A a cs k
  | 0, _ => ⟨rfl, rfl, rfl⟩
  | k + 1, h => by
    obtain ⟨h1, h2, h3⟩ := lv_app (A := A) (y := y) (a := a) (cs := cs) (k := k) (by omega)
    simp only [lvR, lvF, lwR, h1, h2, h3, atL_app (show k < A.length by omega), and_self]
theorem vR_snoc {A : List Le} {y : Le} {a cs : Int} : vR (A ++ [y]) a cs = (if voteB y a cs = true ∧ y.rd > vR A a cs then y.rd else vR A a cs) ∧ vF (A ++ [y]) a cs = (if voteB y a cs = true ∧ y.rd > vR A a cs then y.fi else vF A a cs) ∧ wR (A ++ [y]) a cs = (if wordB y a cs = true then max (wR A a cs) y.rd else wR A a cs) := by
  obtain ⟨h1, h2, h3⟩ := lv_app (A := A) (y := y) (a := a) (cs := cs) (Nat.le_refl _)
  unfold vR vF wR
  rw [List.length_append, List.length_singleton]
  simp only [lvR, lvF, lwR, h1, h2, h3, atL_last, and_self]
theorem lv_mono {l : List Le} {a cs : Int} : ∀ {k i : Nat}, i < k → (voteB (atL l i) a cs = true → (atL l i).rd ≤ lvR l a cs k) ∧ (wordB (atL l i) a cs = true → (atL l i).rd ≤ lwR l a cs k)
  | 0, i, h => by omega
  | k + 1, i, h => by
    by_cases e : i = k
    · subst e
      refine ⟨fun hv => ?_, fun hw => ?_⟩
      · rw [lvR]
        split
        · omega
        · rename_i hn
          have : ¬ (atL l i).rd > lvR l a cs i := fun g => hn ⟨hv, g⟩
          omega
      · rw [lwR, if_pos hw]
        omega
    · obtain ⟨h1, h2⟩ := lv_mono (l := l) (a := a) (cs := cs) (k := k) (i := i) (by omega)
      refine ⟨fun hv => ?_, fun hw => ?_⟩
      · have := h1 hv
        rw [lvR]
        split <;> omega
      · have := h2 hw
        rw [lwR]
        split <;> omega
theorem vR_ge {A : List Le} {a cs : Int} {z : Le} (hz : z ∈ A) : (voteB z a cs = true → z.rd ≤ vR A a cs) ∧ (wordB z a cs = true → z.rd ≤ wR A a cs) := by
  obtain ⟨i, hi, rfl⟩ := List.mem_iff_getElem.1 hz
  have := lv_mono (l := A) (a := a) (cs := cs) (k := A.length) (i := i) hi
  rw [show atL A i = A[i] by unfold atL; simp [hi]] at this
  exact this
theorem vote_alike {y z : Le} (h : alikeB y z = true) (a cs : Int) : voteB y a cs = voteB z a cs ∧ wordB y a cs = wordB z a cs := by
  obtain ⟨h1, h2, h3, h4, h5, h6⟩ := alike_iff.1 h
  unfold voteB wordB caseB
  rw [h1, h2, h4]
  exact ⟨rfl, rfl⟩
theorem word_case {y : Le} {a cs : Int} (h : y.cs ≠ cs) : voteB y a cs = false ∧ wordB y a cs = false := by
  unfold voteB wordB caseB
  simp [h]
/-- of a case the last vote and the last word are those of all letters -/
theorem ded_lv {l : List Le} {a cs : Int} : ∀ i, vR (dedT l cs i) a cs = lvR l a cs i ∧ vF (dedT l cs i) a cs = lvF l a cs i ∧ wR (dedT l cs i) a cs = lwR l a cs i
  | 0 => ⟨rfl, rfl, rfl⟩
  | i + 1 => by
    obtain ⟨h1, h2, h3⟩ := ded_lv (l := l) (a := a) (cs := cs) i
    rw [dedT, stepD, lvR, lvF, lwR, ← h1, ← h2, ← h3]
    by_cases hc : (atL l i).cs = cs
    · rw [if_pos hc]
      cases ha : (dedT l cs i).any (alikeB (atL l i))
      · rw [if_neg (by simp)]
        exact vR_snoc
      · rw [if_pos rfl]
        obtain ⟨z, hz, hal⟩ := List.any_eq_true.1 ha
        obtain ⟨g1, g2⟩ := vote_alike hal a cs
        obtain ⟨k1, k2⟩ := vR_ge (a := a) (cs := cs) hz
        have hrd := (alike_iff.1 hal).2.2.1
        have hn : ¬ (voteB (atL l i) a cs = true ∧ (atL l i).rd > vR (dedT l cs i) a cs) := fun ⟨g3, g4⟩ => by
          rw [g1] at g3
          have := k1 g3
          omega
        rw [if_neg hn, if_neg hn]
        refine ⟨rfl, rfl, ?_⟩
        split
        · rename_i hw
          rw [g2] at hw
          have := k2 hw
          omega
        · rfl
    · rw [if_neg hc]
      obtain ⟨g1, g2⟩ := word_case (a := a) hc
      rw [g1, g2]
      simp
/-! what is asked of all letters of a case, the same for letters that say the same -/
structure Inv {β : Type} (cs : Int) (t : Le → Bool) (w : Le → β) : Prop where
  cs : ∀ y, t y = true → y.cs = cs
  t : ∀ y z, alikeB y z = true → t y = t z
  w : ∀ y z, alikeB y z = true → w y = w z
theorem ded_find {β : Type} {l : List Le} {cs : Int} {t : Le → Bool} {w : Le → β} (v : Inv cs t w) : ∀ {i : Nat}, i ≤ l.length → ((dedT l cs i).find? t).map w = ((l.take i).find? t).map w
  | 0, _ => by simp [dedT]
  | i + 1, h => by
    have ih := ded_find v (l := l) (i := i) (by omega)
    rw [dedT, stepD, take_step (show i < l.length by omega), List.find?_append]
    by_cases hc : (atL l i).cs = cs
    · rw [if_pos hc]
      cases ha : (dedT l cs i).any (alikeB (atL l i))
      · rw [if_neg (by simp), List.find?_append]
        cases h1 : (dedT l cs i).find? t with
        | some z =>
          rw [h1] at ih
          cases h2 : (l.take i).find? t with
          | some z2 => rw [h2] at ih; simpa using ih
          | none => rw [h2] at ih; simp at ih
        | none =>
          rw [h1] at ih
          cases h2 : (l.take i).find? t with
          | some z2 => rw [h2] at ih; simp at ih
          | none => rfl
      · rw [if_pos rfl]
        obtain ⟨z, hz, hal⟩ := List.any_eq_true.1 ha
        cases h2 : (l.take i).find? t with
        | some z2 => rw [h2] at ih; simpa using ih
        | none =>
          rw [h2] at ih
          have h1 : (dedT l cs i).find? t = none := by
            cases h1 : (dedT l cs i).find? t with
            | none => rfl
            | some _ => rw [h1] at ih; simp at ih
          rw [h1]
          have hz2 : t z = false := by
            have := List.find?_eq_none.1 h1 z hz
            simpa using this
          have hy : t (atL l i) = false := by rw [v.t _ _ hal]; exact hz2
          simp [List.find?_cons, hy]
    · rw [if_neg hc, ih]
      have hy : t (atL l i) = false := by
        cases h1 : t (atL l i)
        · rfl
        · exact absurd (v.cs _ h1) hc
      simp [List.find?_cons, hy]
theorem any_find {l : List Le} {t : Le → Bool} : l.any t = (l.find? t).isSome := by
  rw [Bool.eq_iff_iff, List.any_eq_true, List.find?_isSome]
theorem ded_any {l : List Le} {cs : Int} {t : Le → Bool} (v : Inv cs t (fun _ => ())) {i : Nat} (h : i ≤ l.length) : (dedT l cs i).any t = (l.take i).any t := by
  rw [any_find, any_find]
  have := congrArg Option.isSome (ded_find v h)
  simpa using this
theorem inv_of (kd cs rd : Int) {β : Type} {w : Le → β} (hw : ∀ y z, alikeB y z = true → w y = w z) : Inv cs (ofB kd cs rd) w where
  cs := fun y h => by unfold ofB at h; simp at h; exact h.2.1
  t := fun y z h => by obtain ⟨h1, h2, h3, _⟩ := alike_iff.1 h; unfold ofB; rw [h1, h2, h3]
  w := hw
theorem inv_alike (x : Le) : Inv x.cs (fun y => alikeB y x) (fun _ => ()) where
  cs := fun y h => (alike_iff.1 h).1
  t := fun y z h => by
    obtain ⟨h1, h2, h3, h4, h5, h6⟩ := alike_iff.1 h
    rw [Bool.eq_iff_iff, alike_iff, alike_iff, h1, h2, h3, h4, h5, h6]
  w := fun _ _ _ => rfl
theorem inv_isP (cs rd a : Int) : Inv cs (isP cs rd a) (fun y => (y.vo, y.fi)) where
  cs := fun y h => by unfold isP at h; simp at h; exact h.2.1
  t := fun y z h => by obtain ⟨h1, h2, h3, h4, _⟩ := alike_iff.1 h; unfold isP; rw [h1, h2, h3, h4]
  w := fun y z h => by obtain ⟨_, _, _, _, h5, h6⟩ := alike_iff.1 h; rw [h5, h6]
theorem pr_find (l : List Le) (cs rd : Int) : prB l cs rd = (l.find? (ofB 3 cs rd)).isSome ∧ prF l cs rd = ((l.find? (ofB 3 cs rd)).map (·.fi)).getD 0 := by
  refine ⟨by rw [pr_there]; exact any_find, ?_⟩
  cases h : l.find? (ofB 3 cs rd) with
  | none =>
    have : prI l cs rd = -1 := idxF_none fun i hi => by
      have := List.find?_eq_none.1 h l[i] (List.getElem_mem hi)
      rw [show atL l i = l[i] by unfold atL; simp [hi]]
      simpa using this
    unfold prF
    rw [this, if_pos (by omega)]
    rfl
  | some z =>
    obtain ⟨hz, i, hi, e, hb⟩ := List.find?_eq_some_iff_getElem.1 h
    have ha : ∀ j (hj : j < l.length), atL l j = l[j] := fun j hj => by unfold atL; simp [hj]
    have : prI l cs rd = (i : Int) := idxF_first hi (fun j hj => by
      have := hb j hj
      rw [ha j (by omega)]
      simpa using this) (by rw [ha i hi, e]; exact hz)
    unfold prF
    rw [this, if_neg (by omega), Int.toNat_natCast, ha i hi, e]
    rfl
theorem ded_pr {l : List Le} {cs rd : Int} {i : Nat} (h : i ≤ l.length) : prB (dedT l cs i) cs rd = prB (l.take i) cs rd ∧ prF (dedT l cs i) cs rd = prF (l.take i) cs rd := by
  obtain ⟨a1, a2⟩ := pr_find (dedT l cs i) cs rd
  obtain ⟨b1, b2⟩ := pr_find (l.take i) cs rd
  have hf := ded_find (inv_of 3 cs rd (w := fun y => y.fi) (fun y z h => (alike_iff.1 h).2.2.2.2.2)) h
  rw [a1, a2, b1, b2, hf]
  refine ⟨?_, rfl⟩
  have := congrArg Option.isSome hf
  simpa using this
end Go.Proofs.Ytehmkhlcejcniaa
