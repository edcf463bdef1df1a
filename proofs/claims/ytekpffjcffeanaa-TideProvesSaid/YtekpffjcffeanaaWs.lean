/- Plain facts of the highest and the lowest water. No walk. -/
import Derived.Test.YtekpffjcffeanaaWr
namespace Go.Proofs.Ytekpffjcffeanaa

/-- the first of the minutes 0 to k beyond which no other one goes -/
def exK (b : Bool) (f : Nat → Int) : Nat → Nat
  | 0 => 0
  | k + 1 => if bey b (f (k + 1)) (f (exK b f k)) = true then k + 1 else exK b f k
/-- the first stand of a list beyond which no other one goes -/
def bestL (b : Bool) : List Sd → Sd
  | [] => noSd
  | x :: r => r.foldl (fun m x => if bey b x.ht m.ht = true then x else m) x
theorem exK_le (b : Bool) (f : Nat → Int) : ∀ k, exK b f k ≤ k
  | 0 => Nat.le_refl _
  | k + 1 => by
    have := exK_le b f k
    unfold exK
    split <;> omega
theorem bey_trans {b : Bool} {x y z : Int} (h1 : bey b x y = false) (h2 : bey b y z = false) : bey b x z = false := by
  unfold bey at *
  cases b <;> simp at * <;> omega
theorem bey_self (b : Bool) (x : Int) : bey b x x = false := by
  unfold bey
  cases b <;> simp
theorem bey_not {b : Bool} {x y : Int} (h : bey b x y = true) : bey b y x = false := by
  unfold bey at *
  cases b <;> simp at * <;> omega
theorem exK_best (b : Bool) (f : Nat → Int) : ∀ k i, i ≤ k → bey b (f i) (f (exK b f k)) = false
  | 0, i, h => by
    have : i = 0 := by omega
    subst this
    exact bey_self _ _
  | k + 1, i, h => by
    unfold exK
    split
    · rename_i hc
      rcases Nat.lt_succ_iff_lt_or_eq.1 (Nat.lt_succ_of_le h) with h2 | h2
      · exact bey_trans (exK_best b f k i (by omega)) (bey_not hc)
      · rw [h2]; exact bey_self _ _
    · rename_i hc
      rcases Nat.lt_succ_iff_lt_or_eq.1 (Nat.lt_succ_of_le h) with h2 | h2
      · exact exK_best b f k i (by omega)
      · rw [h2]; simpa using hc
end Go.Proofs.Ytekpffjcffeanaa
