/- Plain facts: gauges against a level, those on which the least and the greatest level rest. No walk. -/
import Derived.Test.YtgjkfmcjalcefaaGreatQp
namespace Go.Proofs.YtgjkfmcjalcefaaGreat

def agG (cs : List Cy) (ss : List Sh) (g : Ga) (v : Int) : Bool := decide ((lvG cs ss g).1 ≤ v) && decide (v ≤ (lvG cs ss g).2)
/-- the least ID of those that do not agree -/
def agF (cs : List Cy) (ss : List Sh) (v : Int) (x : Int) (g : Ga) : Int := if agG cs ss g v = true then x else min x g.id
def agsR (cs : List Cy) (ss : List Sh) (l : List Ga) (v : Int) : Int := if inB v 4000 = true then l.foldl (agF cs ss v) 1099511627776 else 0
theorem ags_succ {cs ss} {l : List Ga} {v : Int} {k : Nat} (h : k < l.length) : (l.take (k + 1)).foldl (agF cs ss v) 1099511627776 = agF cs ss v ((l.take k).foldl (agF cs ss v) 1099511627776) (nthG l k) := by
  rw [List.take_succ_eq_append_getElem h, List.foldl_append, nthG_eq h]
  rfl
def restsR (level : Int) (cs : List Cy) (ss : List Sh) (l : List Ga) : Int × Int × Int :=
  if (levelsR level cs ss l).2 ≠ 0 then (0, 0, (levelsR level cs ss l).2) else (agsR cs ss l ((levelsR level cs ss l).1.1 - 1), agsR cs ss l ((levelsR level cs ss l).1.2 + 1), 0)
theorem levels_ok {lv cs ss l} (h : (levelsR lv cs ss l).2 = 0) : chkGs lv cs ss l = 0 ∧ (levelsR lv cs ss l).1 = comG cs ss l ∧ (comG cs ss l).1 ≤ (comG cs ss l).2 := by
  unfold levelsR at h ⊢
  by_cases h0 : chkGs lv cs ss l = 0
  · rw [if_neg (by simp [h0])] at h ⊢
    by_cases h1 : (comG cs ss l).1 ≤ (comG cs ss l).2
    · rw [if_pos h1]
      exact ⟨h0, rfl, h1⟩
    · rw [if_neg h1] at h
      cases h
  · rw [if_pos h0] at h
    exact absurd h h0
end Go.Proofs.YtgjkfmcjalcefaaGreat
