/- Plain facts of layer 9: a group's bits are counted as its arbiters. No walk, no number of a function. -/
import Derived.Test.YtehmkhlcejcniaaKs
namespace Go.Proofs.Ytehmkhlcejcniaa
theorem bits_test {p : List Le} {last : Int} {a : Nat} : ∀ {k : Nat}, (bitsTo p last k).testBit a = true ↔ ∃ i, i < k ∧ (atL p i).vo ≤ last ∧ (atL p i).fr.toNat = a
  | 0 => by simp [bitsTo]
  | k + 1 => by
    have ih := bits_test (p := p) (last := last) (a := a) (k := k)
    rw [bitsTo]
    split
    · rename_i hle
      rw [Nat.testBit_or, Bool.or_eq_true, ih, Nat.testBit_two_pow]
      simp only [decide_eq_true_eq]
      constructor
      · rintro (⟨i, h1, h2, h3⟩ | h)
        · exact ⟨i, by omega, h2, h3⟩
        · exact ⟨k, by omega, hle, h⟩
      · rintro ⟨i, h1, h2, h3⟩
        by_cases e : i = k
        · subst e; exact .inr h3
        · exact .inl ⟨i, by omega, h2, h3⟩
    · rename_i hle
      rw [ih]
      constructor
      · rintro ⟨i, h1, h2, h3⟩; exact ⟨i, by omega, h2, h3⟩
      · rintro ⟨i, h1, h2, h3⟩
        by_cases e : i = k
        · subst e; exact absurd h2 hle
        · exact ⟨i, by omega, h2, h3⟩
theorem count_le {t : Nat → Bool} {m : Nat} : ∀ {n : Nat}, m ≤ n → (∀ a, m ≤ a → a < n → t a = false) → ((List.range n).filter t).length = ((List.range m).filter t).length
  | 0, h, _ => by rw [show m = 0 by omega]
  | n + 1, h, hf => by
    by_cases e : m = n + 1
    · rw [e]
    · rw [List.range_succ, List.filter_append, List.length_append, count_le (n := n) (by omega) fun a h1 h2 => hf a h1 (by omega)]
      have := hf n (by omega) (by omega)
      simp [this]
theorem upT_snoc {l : List Le} {n : Int} {y : Le} : ∀ {k : Nat}, k ≤ l.length → upT (l ++ [y]) n k = upT l n k
  | 0, _ => rfl
  | k + 1, h => by
    have ih := upT_snoc (l := l) (n := n) (y := y) (k := k) (by omega)
    have e : atL (l ++ [y]) k = atL l k := by unfold atL; rw [List.getElem?_append_left (by omega)]
    rw [upT, upT, ih, e]
theorem upN_snoc {l : List Le} {n : Int} {y : Le} : upN (l ++ [y]) n = upN l n + if y.vo ≤ n then 1 else 0 := by
  unfold upN
  rw [List.length_append, List.length_singleton, upT, upT_snoc (Nat.le_refl _)]
  have e : atL (l ++ [y]) l.length = y := by unfold atL; simp
  rw [e]
  split <;> omega
/-- how many first promises have a Voted of at most a round -/
theorem upN_count {l : List Le} {cs rd n : Int} : ∀ k : Nat, upN (prR l cs rd k) n = (((List.range k).filter fun (a : Nat) => match l.find? (isP cs rd (a : Int)) with | some y => decide (y.vo ≤ n) | none => false).length : Int)
  | 0 => rfl
  | k + 1 => by
    have ih := upN_count (l := l) (cs := cs) (rd := rd) (n := n) k
    rw [prR_succ, List.range_succ, List.filter_append, List.length_append]
    cases h : l.find? (isP cs rd (k : Int)) with
    | none =>
      rw [show (none : Option Le).toList = [] from rfl, List.append_nil, ih]
      simp [h]
    | some y =>
      rw [show (some y).toList = [y] from rfl, upN_snoc, ih]
      by_cases hy : y.vo ≤ n <;> simp [h, hy]
end Go.Proofs.Ytehmkhlcejcniaa
