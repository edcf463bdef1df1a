/- Plain facts of waters: errors, corrections, heights. No walk. -/
import Derived.Test.YtgjkfmcjalcefaaGreatTp
namespace Go.Proofs.YtgjkfmcjalcefaaGreat

structure Sh where
  fr : Int
  to : Int
  ad : Int
def noS : Sh := ⟨0, 0, 0⟩
def nthC (cs : List Cy) (i : Nat) : Cy := cs[i]?.getD noC
def nthS (ss : List Sh) (i : Nat) : Sh := ss[i]?.getD noS
theorem nthC_eq {cs : List Cy} {i : Nat} (h : i < cs.length) : nthC cs i = cs[i] := by simp [nthC, h]
theorem nthS_eq {ss : List Sh} {i : Nat} (h : i < ss.length) : nthS ss i = ss[i] := by simp [nthS, h]
def ids (cs : List Cy) : List Int := cs.map (·.id)
/-- the first error of cycles -/
def chkC (seen : List Int) : List Cy → Int
  | [] => 0
  | c :: r => if cyOk c = false then 1 else if c.id ∈ seen then 6 else chkC (seen ++ [c.id]) r
theorem chkC_drop {seen : List Int} {cs : List Cy} {k : Nat} (h : k < cs.length) : chkC seen (cs.drop k) = if cyOk (nthC cs k) = false then 1 else if (nthC cs k).id ∈ seen then 6 else chkC (seen ++ [(nthC cs k).id]) (cs.drop (k + 1)) := by
  rw [List.drop_eq_getElem_cons h, chkC, nthC_eq h]
theorem ids_succ {cs : List Cy} {k : Nat} (h : k < cs.length) : ids (cs.take (k + 1)) = ids (cs.take k) ++ [(nthC cs k).id] := by
  unfold ids
  rw [List.take_succ_eq_append_getElem h, List.map_append, nthC_eq h]
  rfl
def shBad (before : Int) (s : Sh) : Bool := decide (s.fr ≤ before) || (decide (s.to < s.fr) || (decide (728 < s.to) || !inB s.ad 4000))
def chkS (before : Int) : List Sh → Int
  | [] => 0
  | s :: r => if shBad before s = true then 1 else chkS s.to r
theorem chkS_drop {before : Int} {ss : List Sh} {k : Nat} (h : k < ss.length) : chkS before (ss.drop k) = if shBad before (nthS ss k) = true then 1 else chkS (nthS ss k).to (ss.drop (k + 1)) := by
  rw [List.drop_eq_getElem_cons h, chkS, nthS_eq h]
/-- the error of a water -/
def chkW (level : Int) (cs : List Cy) (ss : List Sh) : Int :=
  if inB level 4000 = false then 1 else if 6 < cs.length ∨ 20 < ss.length then 2 else if chkC [] cs ≠ 0 then chkC [] cs else chkS (-1) ss
def corD (day : Int) : List Sh → Int
  | [] => 0
  | s :: r => if s.fr ≤ day ∧ day ≤ s.to then s.ad else corD day r
theorem corD_drop {day : Int} {ss : List Sh} {k : Nat} (h : k < ss.length) : corD day (ss.drop k) = if (nthS ss k).fr ≤ day ∧ day ≤ (nthS ss k).to then (nthS ss k).ad else corD day (ss.drop (k + 1)) := by
  rw [List.drop_eq_getElem_cons h, corD, nthS_eq h]
def sumV (cs : List Cy) (t : Int) (k : Nat) : Int := ((cs.take k).map fun c => valC c t).foldl (· + ·) 0
theorem sumV_succ {cs : List Cy} {t : Int} {k : Nat} (h : k < cs.length) : sumV cs t (k + 1) = sumV cs t k + valC (nthC cs k) t := by
  unfold sumV
  rw [List.take_succ_eq_append_getElem h, List.map_append, List.foldl_append, nthC_eq h]
  rfl
def bareV (cs : List Cy) (ss : List Sh) (t : Int) : Int := corD (t / 1440) ss + sumV cs t cs.length
/-- the height of a water, or an error -/
def heightR (level : Int) (cs : List Cy) (ss : List Sh) (t : Int) : Int × Int :=
  if chkW level cs ss ≠ 0 then (0, chkW level cs ss) else if (decide (0 ≤ t) && decide (t ≤ 1048576)) = false then (0, 1) else (level + bareV cs ss t, 0)
/-- a right water -/
structure WOk (level : Int) (cs : List Cy) (ss : List Sh) : Prop where
  l1 : -4000 ≤ level
  l2 : level ≤ 4000
  n1 : cs.length ≤ 6
  n2 : ss.length ≤ 20
  cs : chkC [] cs = 0
  ss : chkS (-1) ss = 0
theorem chkW_ok {level : Int} {cs : List Cy} {ss : List Sh} (h : chkW level cs ss = 0) : WOk level cs ss := by
  unfold chkW at h
  split at h
  · cases h
  · rename_i h1
    split at h
    · cases h
    · rename_i h2
      split at h
      · rename_i h3
        exact absurd h h3
      · rename_i h3
        have := inB_iff.1 (by simpa using h1 : inB level 4000 = true)
        exact ⟨this.1, this.2, by omega, by omega, by simpa using h3, h⟩
theorem chkC_all : ∀ {cs : List Cy} {seen : List Int}, chkC seen cs = 0 → ∀ c ∈ cs, CyOk c
  | [], _, _, c, hc => by cases hc
  | d :: r, seen, h, c, hc => by
    unfold chkC at h
    split at h
    · cases h
    · rename_i h1
      split at h
      · cases h
      · rcases List.mem_cons.1 hc with rfl | hc
        · exact cyOk_iff.1 (by simpa using h1)
        · exact chkC_all h c hc
theorem chkS_all : ∀ {ss : List Sh} {before : Int}, chkS before ss = 0 → ∀ s ∈ ss, -4000 ≤ s.ad ∧ s.ad ≤ 4000
  | [], _, _, c, hc => by cases hc
  | d :: r, before, h, c, hc => by
    unfold chkS at h
    split at h
    · cases h
    · rename_i h1
      rcases List.mem_cons.1 hc with rfl | hc
      · unfold shBad at h1
        simp only [Bool.or_eq_true, not_or] at h1
        exact inB_iff.1 (by simpa using h1.2.2.2)
      · exact chkS_all h c hc
theorem corD_bd {day : Int} : ∀ {ss : List Sh}, (∀ s ∈ ss, -4000 ≤ s.ad ∧ s.ad ≤ 4000) → -4000 ≤ corD day ss ∧ corD day ss ≤ 4000
  | [], _ => by simp [corD]
  | s :: r, h => by
    unfold corD
    split
    · exact h s (List.mem_cons_self ..)
    · exact corD_bd fun x hx => h x (List.mem_cons_of_mem _ hx)
theorem sumV_bd {cs : List Cy} {t : Int} (h : ∀ c ∈ cs, CyOk c) : ∀ k, k ≤ cs.length → -4000 * (k : Int) ≤ sumV cs t k ∧ sumV cs t k ≤ 4000 * (k : Int)
  | 0, _ => by simp [sumV]
  | k + 1, hk => by
    obtain ⟨h1, h2⟩ := sumV_bd (t := t) h k (by omega)
    rw [sumV_succ (show k < cs.length by omega)]
    have := valC_bd (h (nthC cs k) (by rw [nthC_eq (by omega)]; exact List.getElem_mem _)) t
    omega
end Go.Proofs.YtgjkfmcjalcefaaGreat
