/- Plain facts of layer 9: what was said in a case, each once; the first letter that is not lawful. No walk, no number of a function. -/
import Derived.Test.YtehmkhlcejcniaaKq
namespace Go.Proofs.Ytehmkhlcejcniaa
def stepD (A : List Le) (y : Le) (cs : Int) : List Le := if y.cs = cs then (if A.any (alikeB y) = true then A else A ++ [y]) else A
/-- the letters of a case among the first k, each once -/
def dedT (l : List Le) (cs : Int) : Nat → List Le
  | 0 => []
  | k + 1 => stepD (dedT l cs k) (atL l k) cs
theorem ded_mem {l : List Le} {cs : Int} {y : Le} : ∀ {k : Nat}, y ∈ dedT l cs k → ∃ i, i < k ∧ y = atL l i ∧ y.cs = cs
  | 0, h => by cases h
  | k + 1, h => by
    rw [dedT, stepD] at h
    split at h
    · rename_i hc
      split at h
      · obtain ⟨i, h1, h2⟩ := ded_mem h
        exact ⟨i, by omega, h2⟩
      · rcases List.mem_append.1 h with h | h
        · obtain ⟨i, h1, h2⟩ := ded_mem h
          exact ⟨i, by omega, h2⟩
        · have := List.mem_singleton.1 h
          subst this
          exact ⟨k, by omega, rfl, hc⟩
    · obtain ⟨i, h1, h2⟩ := ded_mem h
      exact ⟨i, by omega, h2⟩
theorem ded_len {l : List Le} {cs : Int} : ∀ {k : Nat}, (dedT l cs k).length ≤ k
  | 0 => Nat.le_refl _
  | k + 1 => by
    have := ded_len (l := l) (cs := cs) (k := k)
    rw [dedT, stepD]
    split
    · split
      · omega
      · rw [List.length_append, List.length_singleton]; omega
    · omega
/-- the first number below a bound that passes a test -/
def fstN (t : Nat → Bool) : Nat → Nat → Int
  | 0, _ => -1
  | n + 1, k => if t k = true then (k : Int) else fstN t n (k + 1)
theorem fstN_at {t : Nat → Bool} : ∀ {n k m : Nat}, m ≤ n → (∀ i, i < m → t (k + i) = false) → fstN t n k = fstN t (n - m) (k + m)
  | n, k, 0, _, _ => rfl
  | 0, k, m + 1, h, _ => by omega
  | n + 1, k, m + 1, h, hf => by
    have h0 := hf 0 (by omega)
    rw [Nat.add_zero] at h0
    rw [fstN, if_neg (by rw [h0]; simp), fstN_at (n := n) (k := k + 1) (m := m) (by omega) fun i hi => by
      have := hf (i + 1) (by omega)
      rwa [show k + (i + 1) = k + 1 + i by omega] at this]
    congr 1 <;> omega
theorem fstN_yes {t : Nat → Bool} {n m : Nat} (hm : m < n) (h : ∀ i, i < m → t i = false) (h2 : t m = true) : fstN t n 0 = m := by
  rw [fstN_at (m := m) (by omega) (fun i hi => by rw [Nat.zero_add]; exact h i hi), Nat.zero_add]
  obtain ⟨q, hq⟩ : ∃ q, n - m = q + 1 := ⟨n - m - 1, by omega⟩
  rw [hq, fstN, if_pos h2]
theorem fstN_no {t : Nat → Bool} {n : Nat} (h : ∀ i, i < n → t i = false) : fstN t n 0 = -1 := by
  rw [fstN_at (m := n) (Nat.le_refl _) (fun i hi => by rw [Nat.zero_add]; exact h i hi), Nat.sub_self]
  rfl
/-! what was said in each case, in a list of cases -/
abbrev CT := List (Int × Nat × List Le)
/-- a case stands in the list, or it doesn't -/
theorem ct_split (cs : Int) : ∀ T : CT, (∀ e ∈ T, e.1 ≠ cs) ∨ ∃ A j ls B, T = A ++ (cs, j, ls) :: B ∧ ∀ e ∈ A, e.1 ≠ cs
  | [] => .inl fun e h => by cases h
  | (k, j, ls) :: r => by
    by_cases h : k = cs
    · subst h
      exact .inr ⟨[], j, ls, r, rfl, fun e h => by cases h⟩
    · rcases ct_split cs r with h2 | ⟨A, j2, ls2, B, rfl, h2⟩
      · exact .inl fun e he => by
          rcases List.mem_cons.1 he with rfl | he
          · exact h
          · exact h2 e he
      · exact .inr ⟨(k, j, ls) :: A, j2, ls2, B, rfl, fun e he => by
          rcases List.mem_cons.1 he with rfl | he
          · exact h
          · exact h2 e he⟩
/-- the list of cases says what the first k letters said -/
structure CtOk (l : List Le) (k : Nat) (T : CT) : Prop where
  nd : (T.map (·.1)).Nodup
  is : ∀ e ∈ T, e.2.2 = dedT l e.1 k ∧ 0 < e.2.2.length
  no : ∀ cs, (∀ e ∈ T, e.1 ≠ cs) → dedT l cs k = []
theorem ctOk_nil (l : List Le) : CtOk l 0 [] := ⟨List.nodup_nil, fun e h => (by cases h), fun _ _ => rfl⟩
theorem ded_other {l : List Le} {k : Nat} {cs : Int} (h : (atL l k).cs ≠ cs) : dedT l cs (k + 1) = dedT l cs k := by rw [dedT, stepD, if_neg h]
theorem ded_alike {l : List Le} {k : Nat} (h : (dedT l (atL l k).cs k).any (alikeB (atL l k)) = true) : dedT l (atL l k).cs (k + 1) = dedT l (atL l k).cs k := by rw [dedT, stepD, if_pos rfl, if_pos h]
theorem ded_new {l : List Le} {k : Nat} (h : (dedT l (atL l k).cs k).any (alikeB (atL l k)) = false) : dedT l (atL l k).cs (k + 1) = dedT l (atL l k).cs k ++ [atL l k] := by rw [dedT, stepD, if_pos rfl, if_neg (by rw [h]; simp)]
theorem CtOk.same {l : List Le} {k : Nat} {T : CT} (q : CtOk l k T) (h : (dedT l (atL l k).cs k).any (alikeB (atL l k)) = true) : CtOk l (k + 1) T := by
  have e : ∀ cs, dedT l cs (k + 1) = dedT l cs k := fun cs => by
    by_cases hc : (atL l k).cs = cs
    · subst hc; exact ded_alike h
    · exact ded_other hc
  exact ⟨q.nd, fun x hx => by rw [e]; exact q.is x hx, fun cs hc => by rw [e]; exact q.no cs hc⟩
theorem CtOk.upd {l : List Le} {k j j' : Nat} {A B : CT} {ls : List Le} (q : CtOk l k (A ++ ((atL l k).cs, j, ls) :: B)) (h : (dedT l (atL l k).cs k).any (alikeB (atL l k)) = false) : CtOk l (k + 1) (A ++ ((atL l k).cs, j', ls ++ [atL l k]) :: B) := by
  have hn := q.nd
  rw [List.map_append, List.map_cons] at hn
  have hne : ∀ e, e ∈ A ∨ e ∈ B → e.1 ≠ (atL l k).cs := fun e he hc => by
    obtain ⟨_, h2, h3⟩ := List.nodup_append.1 hn
    rcases he with he | he
    · exact h3 e.1 (List.mem_map.2 ⟨e, he, rfl⟩) _ (List.mem_cons_self ..) hc
    · rw [List.nodup_cons] at h2
      exact h2.1 (List.mem_map.2 ⟨e, he, hc⟩)
  refine ⟨by rw [List.map_append, List.map_cons]; exact hn, fun e he => ?_, fun cs hc => ?_⟩
  · rcases List.mem_append.1 he with he | he
    · rw [ded_other (fun e2 => hne e (.inl he) e2.symm)]
      exact q.is e (List.mem_append.2 (.inl he))
    · rcases List.mem_cons.1 he with rfl | he
      · refine ⟨?_, by simp⟩
        rw [ded_new h]
        have := (q.is _ (List.mem_append.2 (.inr (List.mem_cons_self ..)))).1
        rw [← this]
      · rw [ded_other (fun e2 => hne e (.inr he) e2.symm)]
        exact q.is e (List.mem_append.2 (.inr (List.mem_cons_of_mem _ he)))
  · have h1 : (atL l k).cs ≠ cs := hc ((atL l k).cs, j', ls ++ [atL l k]) (by simp)
    rw [ded_other h1]
    refine q.no cs fun e he => ?_
    rcases List.mem_append.1 he with he | he
    · exact hc e (by simp [he])
    · rcases List.mem_cons.1 he with rfl | he
      · exact h1
      · exact hc e (by simp [he])
theorem CtOk.new {l : List Le} {k j' : Nat} {T : CT} (q : CtOk l k T) (hno : ∀ e ∈ T, e.1 ≠ (atL l k).cs) : CtOk l (k + 1) (T ++ [((atL l k).cs, j', [atL l k])]) := by
  have hd := q.no _ hno
  refine ⟨?_, fun e he => ?_, fun cs hc => ?_⟩
  · rw [List.map_append, List.map_cons, List.map_nil, List.nodup_append]
    refine ⟨q.nd, by simp, fun a ha b hb => ?_⟩
    obtain ⟨e, he, rfl⟩ := List.mem_map.1 ha
    rw [List.mem_singleton.1 hb]
    exact hno e he
  · rcases List.mem_append.1 he with he | he
    · rw [ded_other (fun e2 => hno e he e2.symm)]
      exact q.is e he
    · have := List.mem_singleton.1 he
      subst this
      refine ⟨?_, by simp⟩
      rw [ded_new (by rw [hd]; rfl), hd]
      rfl
  · have h1 : (atL l k).cs ≠ cs := hc ((atL l k).cs, j', [atL l k]) (by simp)
    rw [ded_other h1]
    exact q.no cs fun e he => hc e (by simp [he])
end Go.Proofs.Ytehmkhlcejcniaa
