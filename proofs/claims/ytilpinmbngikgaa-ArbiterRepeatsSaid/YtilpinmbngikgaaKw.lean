/- Plain facts of layer 9: the program's test of a letter and the specification's are the same, as long as all letters before are lawful. -/
import Derived.Test.YtilpinmbngikgaaKe
import Derived.Test.YtilpinmbngikgaaKh
import Derived.Test.YtilpinmbngikgaaKt
namespace Go.Proofs.Ytilpinmbngikgaa
theorem good_say {c : Int} {l : List Le} {i : Nat} (h : badN c l i = false) (ha : (dedT l (atL l i).cs i).any (alikeB (atL l i)) = false) : sayC c (dedT l (atL l i).cs i) (atL l i) = true := by
  unfold badN at h
  rw [ha] at h
  simpa using h
/-- an arbiter promises once in a round -/
theorem ded_uniq {c : Int} {l : List Le} {cs : Int} : ∀ {i : Nat}, (∀ j, j < i → badN c l j = false) → ∀ y ∈ dedT l cs i, ∀ z ∈ dedT l cs i, y.kd = 2 → z.kd = 2 → y.fr = z.fr → y.rd = z.rd → y = z
  | 0, _, y, hy, _, _, _, _, _, _ => by cases hy
  | i + 1, hg, y, hy, z, hz, ky, kz, hf, hr => by
    have ih := ded_uniq (c := c) (l := l) (cs := cs) (i := i) fun j hj => hg j (by omega)
    rw [dedT, stepD] at hy hz
    by_cases hc : (atL l i).cs = cs
    · rw [if_pos hc] at hy hz
      cases ha : (dedT l cs i).any (alikeB (atL l i))
      · rw [ha, if_neg (by simp)] at hy hz
        have key : (atL l i).kd = 2 → ∀ y ∈ dedT l cs i, y.kd = 2 → y.fr = (atL l i).fr → y.rd ≠ (atL l i).rd := fun hk y hy ky hf => by
          have hs := good_say (hg i (by omega)) (by rw [hc]; exact ha)
          rw [hc] at hs
          unfold sayC at hs
          rw [if_pos hk] at hs
          unfold canPr at hs
          simp only [Bool.and_eq_true, decide_eq_true_eq] at hs
          obtain ⟨_, _, _, hcy⟩ := ded_mem hy
          have hw : wordB y (atL l i).fr (atL l i).cs = true := by unfold wordB caseB; simp [ky, hf, hcy, hc]
          have := (vR_ge (a := (atL l i).fr) (cs := (atL l i).cs) hy).2 hw
          omega
        rcases List.mem_append.1 hy with hy | hy <;> rcases List.mem_append.1 hz with hz | hz
        · exact ih y hy z hz ky kz hf hr
        · have := List.mem_singleton.1 hz
          subst this
          exact absurd hr (key kz y hy ky hf)
        · have := List.mem_singleton.1 hy
          subst this
          exact absurd hr.symm (key ky z hz kz hf.symm)
        · rw [List.mem_singleton.1 hy, List.mem_singleton.1 hz]
      · rw [ha, if_pos rfl] at hy hz
        exact ih y hy z hz ky kz hf hr
    · rw [if_neg hc] at hy hz
      exact ih y hy z hz ky kz hf hr
section
variable {c : Int} {l : List Le} {cs rd : Int} {i : Nat}
theorem isP_of {y : Le} {a : Nat} (hy : y ∈ prms (dedT l cs i) rd) (hfr : 0 ≤ y.fr) (ha : y.fr.toNat = a) : y ∈ dedT l cs i ∧ isP cs rd (a : Int) y = true := by
  obtain ⟨h1, h2⟩ := List.mem_filter.1 hy
  obtain ⟨_, _, _, h3⟩ := ded_mem h1
  unfold prmB at h2
  simp only [Bool.and_eq_true, decide_eq_true_eq] at h2
  refine ⟨h1, ?_⟩
  have : y.fr = (a : Int) := by omega
  unfold isP
  simp [h2.1, h2.2, h3, this]
theorem isP_at {y : Le} {a : Int} (h : isP cs rd a y = true) : y.kd = 2 ∧ y.cs = cs ∧ y.rd = rd ∧ y.fr = a := by
  unfold isP at h
  simpa using h
/-- the first promise of an arbiter among what was said is its only one -/
theorem find_only (hg : ∀ j, j < i → badN c l j = false) {y : Le} {a : Int} (hy : y ∈ dedT l cs i) (h : isP cs rd a y = true) : (dedT l cs i).find? (isP cs rd a) = some y := by
  cases hf : (dedT l cs i).find? (isP cs rd a) with
  | none =>
    have := List.find?_eq_none.1 hf y hy
    rw [h] at this
    exact absurd rfl this
  | some z =>
    have hz := List.mem_of_find?_eq_some hf
    have hp := List.find?_some hf
    obtain ⟨a1, a2, a3, a4⟩ := isP_at h
    obtain ⟨b1, b2, b3, b4⟩ := isP_at hp
    rw [ded_uniq hg z hz y hy b1 a1 (b4.trans a4.symm) (b3.trans a3.symm)]
theorem cnt_eq (hi : i ≤ l.length) (hg : ∀ j, j < i → badN c l j = false) (hc : 3 ≤ c ∧ c ≤ 7) (hfr : ∀ y ∈ dedT l cs i, 0 ≤ y.fr ∧ y.fr < c) (n : Int) : (popN (vBits (dedT l cs i) rd n) : Int) = upN (prR (l.take i) cs rd c.toNat) n := by
  rw [upN_count]
  have ht : ∀ a : Nat, (vBits (dedT l cs i) rd n).testBit a = true ↔ ∃ y ∈ dedT l cs i, isP cs rd (a : Int) y = true ∧ y.vo ≤ n := fun a => by
    unfold vBits
    rw [bits_test]
    constructor
    · rintro ⟨k, h1, h2, h3⟩
      have hm := prms_mem h1
      have hm2 : atL (prms (dedT l cs i) rd) k ∈ prms (dedT l cs i) rd := List.mem_filter.2 hm
      obtain ⟨g1, g2⟩ := isP_of hm2 (hfr _ hm.1).1 h3
      exact ⟨_, g1, g2, h2⟩
    · rintro ⟨y, h1, h2, h3⟩
      obtain ⟨a1, a2, a3, a4⟩ := isP_at h2
      have hy : y ∈ prms (dedT l cs i) rd := List.mem_filter.2 ⟨h1, by unfold prmB; simp [a1, a3]⟩
      obtain ⟨k, hk, rfl⟩ := List.mem_iff_getElem.1 hy
      have e : atL (prms (dedT l cs i) rd) k = (prms (dedT l cs i) rd)[k] := by unfold atL; simp [hk]
      exact ⟨k, hk, by rw [e]; exact h3, by rw [e, a4]; omega⟩
  unfold popN
  rw [count_le (m := c.toNat) (n := 7) (by omega) fun a h1 h2 => by
    cases hb : (vBits (dedT l cs i) rd n).testBit a
    · rfl
    · obtain ⟨y, h3, h4, _⟩ := (ht a).1 hb
      have := (hfr y h3).2
      have := (isP_at h4).2.2.2
      omega]
  congr 2
  refine List.filter_congr fun a _ => ?_
  have hf := ded_find (inv_isP cs rd (a : Int)) hi
  rw [Bool.eq_iff_iff, ht a]
  cases h : (l.take i).find? (isP cs rd (a : Int)) with
  | none =>
    rw [h] at hf
    simp only [Bool.false_eq_true, iff_false]
    rintro ⟨y, h1, h2, _⟩
    rw [find_only hg h1 h2] at hf
    simp at hf
  | some z =>
    rw [h] at hf
    simp only [decide_eq_true_eq]
    constructor
    · rintro ⟨y, h1, h2, h3⟩
      rw [find_only hg h1 h2] at hf
      simp at hf
      omega
    · intro hz
      cases hA : (dedT l cs i).find? (isP cs rd (a : Int)) with
      | none => rw [hA] at hf; simp at hf
      | some y =>
        rw [hA] at hf
        simp at hf
        exact ⟨y, List.mem_of_find?_eq_some hA, List.find?_some hA, by omega⟩
theorem lets_eq (hi : i ≤ l.length) (hg : ∀ j, j < i → badN c l j = false) (hc : 3 ≤ c ∧ c ≤ 7) (hfr : ∀ y ∈ dedT l cs i, 0 ≤ y.fr ∧ y.fr < c) {x : Le} (hx : x.rd = rd) : (prms (dedT l cs i) rd).any (letsB c (dedT l cs i) x) = (prR (l.take i) cs rd c.toNat).any (letR c (prR (l.take i) cs rd c.toNat) x.fi) := by
  have hcn := cnt_eq (rd := rd) hi hg hc hfr
  rw [Bool.eq_iff_iff, List.any_eq_true, List.any_eq_true]
  constructor
  · rintro ⟨y, hy, hl⟩
    have hm := (List.mem_filter.1 hy).1
    have hb := hfr y hm
    obtain ⟨_, hp⟩ := isP_of hy hb.1 rfl
    have hf := ded_find (inv_isP cs rd ((y.fr.toNat : Nat) : Int)) hi
    rw [find_only hg hm hp] at hf
    cases h : (l.take i).find? (isP cs rd ((y.fr.toNat : Nat) : Int)) with
    | none => rw [h] at hf; simp at hf
    | some z =>
      rw [h] at hf
      simp at hf
      refine ⟨z, List.mem_filterMap.2 ⟨y.fr.toNat, List.mem_range.2 (by omega), h⟩, ?_⟩
      unfold letsB at hl
      unfold letR
      rw [hx, hcn] at hl
      rw [← hf.1, ← hf.2]
      exact hl
  · rintro ⟨z, hz, hl⟩
    obtain ⟨a, ha, h⟩ := List.mem_filterMap.1 hz
    have hf := ded_find (inv_isP cs rd (a : Int)) hi
    rw [h] at hf
    cases hA : (dedT l cs i).find? (isP cs rd (a : Int)) with
    | none => rw [hA] at hf; simp at hf
    | some y =>
      rw [hA] at hf
      simp at hf
      have hp := isP_at (List.find?_some hA)
      refine ⟨y, List.mem_filter.2 ⟨List.mem_of_find?_eq_some hA, by unfold prmB; simp [hp.1, hp.2.2.1]⟩, ?_⟩
      unfold letR at hl
      unfold letsB
      rw [hx, hcn, hf.1, hf.2]
      exact hl
end
theorem law_eq {c : Int} {l : List Le} {i : Nat} (hc : 3 ≤ c ∧ c ≤ 7) (hfm : ∀ x ∈ l, frmB c x = true) (hlt : i < l.length) (hg : ∀ j, j < i → badN c l j = false) : badN c l i = badS c l i := by
  have hi : i ≤ l.length := by omega
  have hme : ∀ k, k < l.length → atL l k ∈ l := fun k hk => by unfold atL; simp [hk]
  have hfr : ∀ y ∈ dedT l (atL l i).cs i, 0 ≤ y.fr ∧ y.fr < c := fun y hy => by
    obtain ⟨k, h1, rfl, _⟩ := ded_mem hy
    have := hfm _ (hme k (by omega))
    unfold frmB headB at this
    simp only [Bool.and_eq_true] at this
    exact arB_yes this.1.2.2.2.2.1
  have hpl : (l.take i).length = i := by rw [List.length_take]; omega
  have hal : (dedT l (atL l i).cs i).any (alikeB (atL l i)) = (l.take i).any (fun y => alikeB y (atL l i)) := by
    rw [← ded_any (inv_alike (atL l i)) hi]
    congr 1
    funext y
    exact alike_symm _ _
  have hvw : ∀ a, vR (dedT l (atL l i).cs i) a (atL l i).cs = vR (l.take i) a (atL l i).cs ∧ vF (dedT l (atL l i).cs i) a (atL l i).cs = vF (l.take i) a (atL l i).cs ∧ wR (dedT l (atL l i).cs i) a (atL l i).cs = wR (l.take i) a (atL l i).cs := fun a => by
    obtain ⟨h1, h2, h3⟩ := ded_lv (l := l) (a := a) (cs := (atL l i).cs) i
    obtain ⟨g1, g2, g3⟩ := lv_take (l := l) (a := a) (cs := (atL l i).cs) (i := i) (Nat.le_refl i)
    rw [h1, h2, h3, ← g1, ← g2, ← g3]
    unfold vR vF wR
    rw [hpl]
    exact ⟨rfl, rfl, rfl⟩
  have hth : ∀ kd, thereB (dedT l (atL l i).cs i) kd (atL l i).cs (atL l i).rd = thereB (l.take i) kd (atL l i).cs (atL l i).rd := fun kd => ded_any (inv_of kd _ _ fun _ _ _ => rfl) hi
  obtain ⟨hp1, hp2⟩ := ded_pr (cs := (atL l i).cs) (rd := (atL l i).rd) hi
  unfold badN badS
  congr 1
  unfold lawR
  rw [hal]
  cases (l.take i).any (fun y => alikeB y (atL l i))
  rotate_left
  · rfl
  rw [if_neg (by simp), Bool.false_or]
  unfold sayC
  obtain ⟨v1, v2, v3⟩ := hvw (atL l i).fr
  by_cases k1 : (atL l i).kd = 1
  · rw [if_neg (by omega), if_neg (by omega), if_neg (by omega), if_pos k1]
  rw [if_neg k1]
  by_cases k2 : (atL l i).kd = 2
  · rw [if_pos k2, if_pos k2]
    unfold canPr
    rw [hth, v1, v2, v3]
  rw [if_neg k2, if_neg k2]
  by_cases k3 : (atL l i).kd = 3
  · rw [if_pos k3, if_pos k3]
    unfold canPp propR
    rw [hp1, pr_there, lets_eq hi hg hc hfr rfl, cnt_eq hi hg hc hfr]
  rw [if_neg k3, if_neg k3]
  have k4 : (atL l i).kd = 4 := by
    have := hfm _ (hme i hlt)
    unfold frmB kindB at this
    simp [k1, k2, k3] at this
    exact this.2.1
  rw [if_pos k4]
  unfold canVo openB
  rw [hp1, hp2, v1, v3]
  congr 2
  exact Bool.and_comm _ _
theorem fst_eq {c : Int} {l : List Le} (hc : 3 ≤ c ∧ c ≤ 7) (hfm : ∀ x ∈ l, frmB c x = true) : fstN (badN c l) l.length 0 = fstN (badS c l) l.length 0 := by
  have key : ∀ m, m ≤ l.length → (∀ j, j < m → badN c l j = false) ∨ ∃ k, k < m ∧ (∀ j, j < k → badN c l j = false) ∧ badN c l k = true := by
    intro m
    induction m with
    | zero => exact fun _ => .inl fun j hj => absurd hj (by omega)
    | succ m ih =>
      intro hm
      rcases ih (by omega) with h | ⟨k, h1, h2, h3⟩
      · cases hb : badN c l m
        · exact .inl (less_succ' h hb)
        · exact .inr ⟨m, by omega, h, hb⟩
      · exact .inr ⟨k, by omega, h2, h3⟩
  rcases key l.length (Nat.le_refl _) with h | ⟨k, h1, h2, h3⟩
  · rw [fstN_no h, fstN_no fun j hj => by rw [← law_eq hc hfm hj fun q hq => h q (by omega)]; exact h j hj]
  · rw [fstN_yes h1 h2 h3, fstN_yes h1 (fun j hj => by rw [← law_eq hc hfm (by omega) fun q hq => h2 q (by omega)]; exact h2 j hj) (by rw [← law_eq hc hfm h1 h2]; exact h3)]
end Go.Proofs.Ytilpinmbngikgaa
