/- What the spans of crossings are. -/
import Derived.Test.YtcaemeedmnpdjaaCg
namespace Go.Proofs.Ytcaemeedmnpdjaa
open Go.Proofs.Ytcaemeedmnpdjaa.Ev

/-- a run of zeros, or two neighbours of which the sign changes -/
def CrEl (sg : Int → Int) (e : Int × Int) : Prop := (∀ z, e.1 ≤ z → z ≤ e.2 → sg z = 0) ∨ (e.2 = e.1 + 1 ∧ sg e.1 ≠ 0 ∧ sg e.2 = - sg e.1)
structure CrOk (sg : Int → Int) (lo : Int) (n : Nat) (l : List (Int × Int)) : Prop where
  el : ∀ e ∈ l, lo ≤ e.1 ∧ e.1 ≤ e.2 ∧ e.2 < lo + n ∧ CrEl sg e
  zero : ∀ z, lo ≤ z → z < lo + n → sg z = 0 → ∃ e ∈ l, e.1 ≤ z ∧ z ≤ e.2
  pair : ∀ z, lo ≤ z → z + 1 < lo + n → sg z = 0 → sg (z + 1) = 0 → ∃ e ∈ l, e.1 ≤ z ∧ z < e.2
  cross : ∀ z, lo ≤ z → z + 1 < lo + n → sg z ≠ 0 → sg (z + 1) = - sg z → (z, z + 1) ∈ l
  last : n ≠ 0 → sg (lo + n - 1) = 0 → ∃ l' p, l = l' ++ [(p, lo + n - 1)] ∧ ∀ z, p ≤ z → z ≤ lo + n - 1 → sg z = 0
theorem crTo_ok (sg : Int → Int) (lo : Int) : ∀ n, CrOk sg lo n (crTo sg lo n)
  | 0 => ⟨fun e h => by simp [crTo] at h, fun z a b => by simp at b; omega, fun z a b => by simp at b; omega, fun z a b => by simp at b; omega, fun h => absurd rfl h⟩
  | n + 1 => by
    obtain ⟨i1, i2, i3, i4, i5⟩ := crTo_ok sg lo n
    have hl : lo + ((n + 1 : Nat) : Int) - 1 = lo + n := by omega
    by_cases h0 : sg (lo + n) = 0
    · by_cases hc : n ≠ 0 ∧ sg (lo + n - 1) = 0
      · obtain ⟨l', p, e, hz⟩ := i5 hc.1 hc.2
        have hs : crTo sg lo (n + 1) = l' ++ [(p, lo + n)] := by
          simp only [crTo]
          rw [if_pos h0, if_pos hc, e]
          simp [setHi]
        have hp : lo ≤ p ∧ p ≤ lo + n - 1 := by
          have := i1 (p, lo + n - 1) (by rw [e]; simp)
          exact ⟨this.1, this.2.1⟩
        have hz' : ∀ z, p ≤ z → z ≤ lo + n → sg z = 0 := fun z a b => by
          by_cases ez : z = lo + n
          · rw [ez]; exact h0
          · exact hz z a (by omega)
        rw [hs]
        rw [e] at i1 i2 i3 i4
        refine ⟨fun q hq => ?_, fun z a b k => ?_, fun z a b k k2 => ?_, fun z a b k k2 => ?_, fun _ _ => ⟨l', p, by rw [hl], by rw [hl]; exact hz'⟩⟩
        · rcases List.mem_append.1 hq with hq | hq
          · have := i1 q (List.mem_append.2 (.inl hq))
            exact ⟨this.1, this.2.1, by omega, this.2.2.2⟩
          · obtain rfl := List.mem_singleton.1 hq
            exact ⟨hp.1, by simp only; omega, by simp only; omega, .inl hz'⟩
        · by_cases hzl : z < lo + n
          · obtain ⟨q, hq, q1, q2⟩ := i2 z a hzl k
            rcases List.mem_append.1 hq with hq | hq
            · exact ⟨q, List.mem_append.2 (.inl hq), q1, q2⟩
            · obtain rfl := List.mem_singleton.1 hq
              exact ⟨_, List.mem_append.2 (.inr (List.mem_singleton.2 rfl)), q1, by simp only at q2 ⊢; omega⟩
          · exact ⟨_, List.mem_append.2 (.inr (List.mem_singleton.2 rfl)), by simp only; omega, by simp only; omega⟩
        · by_cases hzl : z + 1 < lo + n
          · obtain ⟨q, hq, q1, q2⟩ := i3 z a hzl k k2
            rcases List.mem_append.1 hq with hq | hq
            · exact ⟨q, List.mem_append.2 (.inl hq), q1, q2⟩
            · obtain rfl := List.mem_singleton.1 hq
              exact ⟨_, List.mem_append.2 (.inr (List.mem_singleton.2 rfl)), q1, by simp only at q2 ⊢; omega⟩
          · exact ⟨_, List.mem_append.2 (.inr (List.mem_singleton.2 rfl)), by simp only; omega, by simp only; omega⟩
        · have hzl : z + 1 < lo + n := by
            rcases Int.lt_or_le (z + 1) (lo + n) with g | g
            · exact g
            · have : z + 1 = lo + n := by omega
              rw [this, h0] at k2
              omega
          rcases List.mem_append.1 (i4 z a hzl k k2) with hq | hq
          · exact List.mem_append.2 (.inl hq)
          · have := List.mem_singleton.1 hq
            have e1 : z = p := congrArg Prod.fst this
            exact absurd (hz z (by omega) (by omega)) k
      · have hs : crTo sg lo (n + 1) = crTo sg lo n ++ [(lo + n, lo + n)] := by
          simp only [crTo]
          rw [if_pos h0, if_neg hc]
        rw [hs]
        refine ⟨fun q hq => ?_, fun z a b k => ?_, fun z a b k k2 => ?_, fun z a b k k2 => ?_, fun _ _ => ⟨_, lo + n, by rw [hl], fun z a b => by rw [show z = lo + n by omega]; exact h0⟩⟩
        · rcases List.mem_append.1 hq with hq | hq
          · have := i1 q hq
            exact ⟨this.1, this.2.1, by omega, this.2.2.2⟩
          · obtain rfl := List.mem_singleton.1 hq
            exact ⟨by simp only; omega, by simp only; omega, by simp only; omega, .inl fun z a b => by simp only at a b; rw [show z = lo + n by omega]; exact h0⟩
        · by_cases hzl : z < lo + n
          · obtain ⟨q, hq, q1, q2⟩ := i2 z a hzl k
            exact ⟨q, List.mem_append.2 (.inl hq), q1, q2⟩
          · exact ⟨_, List.mem_append.2 (.inr (List.mem_singleton.2 rfl)), by simp only; omega, by simp only; omega⟩
        · by_cases hzl : z + 1 < lo + n
          · obtain ⟨q, hq, q1, q2⟩ := i3 z a hzl k k2
            exact ⟨q, List.mem_append.2 (.inl hq), q1, q2⟩
          · exfalso
            refine hc ⟨by omega, ?_⟩
            rw [show lo + n - 1 = z by omega]
            exact k
        · have hzl : z + 1 < lo + n := by
            rcases Int.lt_or_le (z + 1) (lo + n) with g | g
            · exact g
            · have : z + 1 = lo + n := by omega
              rw [this, h0] at k2
              omega
          exact List.mem_append.2 (.inl (i4 z a hzl k k2))
    · by_cases hc : n ≠ 0 ∧ sg (lo + n) = - sg (lo + n - 1)
      · have hs : crTo sg lo (n + 1) = crTo sg lo n ++ [(lo + n - 1, lo + n)] := by
          simp only [crTo]
          rw [if_neg h0, if_pos hc]
        rw [hs]
        refine ⟨fun q hq => ?_, fun z a b k => ?_, fun z a b k k2 => ?_, fun z a b k k2 => ?_, fun _ k => absurd (by rw [← hl]; exact k) h0⟩
        · rcases List.mem_append.1 hq with hq | hq
          · have := i1 q hq
            exact ⟨this.1, this.2.1, by omega, this.2.2.2⟩
          · obtain rfl := List.mem_singleton.1 hq
            exact ⟨by simp only; omega, by simp only; omega, by simp only; omega, .inr ⟨by simp only; omega, fun e => h0 (by rw [hc.2]; simp only at e; omega), hc.2⟩⟩
        · by_cases hzl : z < lo + n
          · obtain ⟨q, hq, q1, q2⟩ := i2 z a hzl k
            exact ⟨q, List.mem_append.2 (.inl hq), q1, q2⟩
          · exact absurd (by rw [show lo + n = z by omega]; exact k) h0
        · by_cases hzl : z + 1 < lo + n
          · obtain ⟨q, hq, q1, q2⟩ := i3 z a hzl k k2
            exact ⟨q, List.mem_append.2 (.inl hq), q1, q2⟩
          · exact absurd (by rw [show lo + n = z + 1 by omega]; exact k2) h0
        · by_cases hzl : z + 1 < lo + n
          · exact List.mem_append.2 (.inl (i4 z a hzl k k2))
          · refine List.mem_append.2 (.inr (List.mem_singleton.2 ?_))
            rw [show lo + n = z + 1 by omega]
            simp
      · have hs : crTo sg lo (n + 1) = crTo sg lo n := by
          simp only [crTo]
          rw [if_neg h0, if_neg hc]
        rw [hs]
        refine ⟨fun q hq => ?_, fun z a b k => ?_, fun z a b k k2 => ?_, fun z a b k k2 => ?_, fun _ k => absurd (by rw [← hl]; exact k) h0⟩
        · have := i1 q hq
          exact ⟨this.1, this.2.1, by omega, this.2.2.2⟩
        · by_cases hzl : z < lo + n
          · exact i2 z a hzl k
          · exact absurd (by rw [show lo + n = z by omega]; exact k) h0
        · by_cases hzl : z + 1 < lo + n
          · exact i3 z a hzl k k2
          · exact absurd (by rw [show lo + n = z + 1 by omega]; exact k2) h0
        · by_cases hzl : z + 1 < lo + n
          · exact i4 z a hzl k k2
          · exfalso
            refine hc ⟨by omega, ?_⟩
            rw [show lo + n - 1 = z by omega, show lo + n = z + 1 by omega]
            exact k2
theorem difF_sign {ka kb : List (Int × Int)} {x : Int} (hd : 0 < difD ka kb x) : (difF ka kb x).1.sign = sgX ka kb x := by
  have hc := lo_cross (n := difN ka kb x) (d := difD ka kb x)
  have h1 : (difF ka kb x).1.sign = (difN ka kb x).sign := sign_of_mul hd (loD_pos (n := difN ka kb x) hd).1 hc
  rw [h1]
  unfold sgX ordF
  rw [cmpI_sign]
  rfl
def isTog (l : List (Int × Int)) (x : Int) : Bool := l.any fun e => decide (e.1 ≤ x) && decide (x < e.2)
def isAl (l : List (Int × Int)) (x : Int) : Bool := l.any fun e => decide (e.1 ≤ x) && decide (x ≤ e.2)
/-- what is asked of two neighbours -/
theorem cr_facts {sg : Int → Int} {lo : Int} {n : Nat} {x : Int} (h1 : lo ≤ x) (h2 : x + 1 < lo + n) (hv : sg x = -1 ∨ sg x = 0 ∨ sg x = 1) : (sg x = 0 → isAl (crTo sg lo n) x = true) ∧ (isTog (crTo sg lo n) x = false → ¬ (sg x ≠ 0 ∧ sg (x + 1) = - sg x)) ∧ (isTog (crTo sg lo n) x = true → (sg x = 0 ∧ sg (x + 1) = 0) ∨ sg (x + 1) = - sg x) := by
  obtain ⟨i1, i2, i3, i4, i5⟩ := crTo_ok sg lo n
  refine ⟨fun h => ?_, fun h k => ?_, fun h => ?_⟩
  · obtain ⟨e, he, a, b⟩ := i2 x h1 (by omega) h
    exact List.any_eq_true.2 ⟨e, he, by simp [a, b]⟩
  · have := List.any_eq_false.1 h _ (i4 x h1 h2 k.1 k.2)
    simp at this
    omega
  · obtain ⟨e, he, k⟩ := List.any_eq_true.1 h
    simp only [Bool.and_eq_true, decide_eq_true_eq] at k
    obtain ⟨_, _, _, g⟩ := i1 e he
    rcases g with g | ⟨g1, g2, g3⟩
    · exact .inl ⟨g x k.1 (by omega), g (x + 1) (by omega) (by omega)⟩
    · have e1 : e.1 = x := by omega
      rw [e1] at g1 g3
      rw [g1] at g3
      exact .inr g3
/-- what is asked of a span -/
theorem cr_el {sg : Int → Int} {lo : Int} {n : Nat} {e : Int × Int} (he : e ∈ crTo sg lo n) : lo ≤ e.1 ∧ e.1 ≤ e.2 ∧ e.2 < lo + n ∧ ((sg e.1 = 0 ∧ sg e.2 = 0) ∨ sg e.2 = - sg e.1) := by
  obtain ⟨a, b, c, g⟩ := (crTo_ok sg lo n).el e he
  refine ⟨a, b, c, ?_⟩
  rcases g with g | ⟨g1, g2, g3⟩
  · exact .inl ⟨g _ (Int.le_refl _) b, g _ b (Int.le_refl _)⟩
  · exact .inr g3
end Go.Proofs.Ytcaemeedmnpdjaa
