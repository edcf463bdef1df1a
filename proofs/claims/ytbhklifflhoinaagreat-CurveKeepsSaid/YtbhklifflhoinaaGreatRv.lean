/- The reference's Over over the calculator's memory. -/
import Derived.Test.YtbhklifflhoinaaGreatRo
namespace Go.Proofs.YtbhklifflhoinaaGreat
open Go.Proofs.YtbhklifflhoinaaGreat.Ev

def overE (ks : List (Int × Int)) (err lo hi : Int) : PE :=
  if errOn ks err lo hi = 0 then ⟨pkR lo ((intsX lo hi).map (valF ks)), 0⟩ else ⟨⟨0, 0, 0, 0, 0, 0⟩, errOn ks err lo hi⟩
theorem errL_one {ks : List (Int × Int)} {err lo hi : Int} : errL [(⟨none, 0, ks, err⟩ : Cur)] lo hi = errOn ks err lo hi := by
  unfold errL errOn
  by_cases h : chk ks err = 0
  · simp [chkL, chkOn_one, h]
  · simp [chkL, h]
theorem errOn_zero {ks err lo hi} (h : errOn ks err lo hi = 0) : chk ks err = 0 ∧ lo ≤ hi ∧ inDom ks lo hi = true := by
  unfold errOn at h
  split at h
  · rename_i h0
    split at h
    · cases h
    · split at h
      · rename_i h1 h2; exact ⟨h0, by omega, h2⟩
      · cases h
  · rename_i h0; exact absurd h h0
theorem inDom_at {ks : List (Int × Int)} {lo hi x : Int} (h : inDom ks lo hi = true) (h1 : lo ≤ x) (h2 : x ≤ hi) : inDom ks x x = true := by
  simp only [inDom, Bool.and_eq_true, decide_eq_true_eq] at h ⊢
  omega
end Go.Proofs.YtbhklifflhoinaaGreat
