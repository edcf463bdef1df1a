/- Plain facts of gauges: errors, levels. No walk. -/
import Derived.Test.YtgjkfmcjalcefaaGreatUp
namespace Go.Proofs.YtgjkfmcjalcefaaGreat

structure Ga where
  id : Int
  tk : Int
  lo : Int
  hi : Int
def noG : Ga := ⟨0, 0, 0, 0⟩
def nthG (l : List Ga) (i : Nat) : Ga := l[i]?.getD noG
theorem nthG_eq {l : List Ga} {i : Nat} (h : i < l.length) : nthG l i = l[i] := by simp [nthG, h]
def gaOk (g : Ga) : Bool := (decide (1 ≤ g.id) && decide (g.id ≤ 1099511627776)) && ((decide (0 ≤ g.tk) && decide (g.tk ≤ 1048576)) && (decide (g.lo ≤ g.hi) && (decide (-40000 ≤ g.lo) && decide (g.hi ≤ 40000))))
structure GaOk (g : Ga) : Prop where
  id1 : 1 ≤ g.id
  id2 : g.id ≤ 1099511627776
  tk1 : 0 ≤ g.tk
  tk2 : g.tk ≤ 1048576
  le : g.lo ≤ g.hi
  lo : -40000 ≤ g.lo
  hi : g.hi ≤ 40000
theorem gaOk_iff {g : Ga} : gaOk g = true ↔ GaOk g := by
  unfold gaOk
  simp only [Bool.and_eq_true, decide_eq_true_eq]
  exact ⟨fun ⟨⟨a, b⟩, ⟨d, e⟩, f, g, i⟩ => ⟨a, b, d, e, f, g, i⟩, fun ⟨a, b, d, e, f, g, i⟩ => ⟨⟨a, b⟩, ⟨d, e⟩, f, g, i⟩⟩
def gids (l : List Ga) : List Int := l.map (·.id)
/-- the first error of gauges -/
def chkG (seen : List Int) : List Ga → Int
  | [] => 0
  | g :: r => if gaOk g = false then 1 else if g.id ∈ seen then 6 else chkG (seen ++ [g.id]) r
theorem chkG_drop {seen : List Int} {l : List Ga} {k : Nat} (h : k < l.length) : chkG seen (l.drop k) = if gaOk (nthG l k) = false then 1 else if (nthG l k).id ∈ seen then 6 else chkG (seen ++ [(nthG l k).id]) (l.drop (k + 1)) := by
  rw [List.drop_eq_getElem_cons h, chkG, nthG_eq h]
theorem gids_succ {l : List Ga} {k : Nat} (h : k < l.length) : gids (l.take (k + 1)) = gids (l.take k) ++ [(nthG l k).id] := by
  unfold gids
  rw [List.take_succ_eq_append_getElem h, List.map_append, nthG_eq h]
  rfl
theorem chkG_all : ∀ {l : List Ga} {seen : List Int}, chkG seen l = 0 → ∀ g ∈ l, GaOk g
  | [], _, _, c, hc => by cases hc
  | d :: r, seen, h, c, hc => by
    unfold chkG at h
    split at h
    · cases h
    · rename_i h1
      split at h
      · cases h
      · rcases List.mem_cons.1 hc with rfl | hc
        · exact gaOk_iff.1 (by simpa using h1)
        · exact chkG_all h c hc
/-- no error: the IDs are different, and none was seen before -/
theorem chkG_ids : ∀ {l : List Ga} {seen : List Int}, chkG seen l = 0 → (gids l).Nodup ∧ ∀ g ∈ l, g.id ∉ seen
  | [], _, _ => ⟨List.nodup_nil, fun _ h => by cases h⟩
  | d :: r, seen, h => by
    unfold chkG at h
    split at h
    · cases h
    · split at h
      · cases h
      · rename_i h1 h2
        obtain ⟨k1, k2⟩ := chkG_ids h
        refine ⟨?_, fun g hg => ?_⟩
        · show (d.id :: gids r).Nodup
          refine List.nodup_cons.2 ⟨fun hm => ?_, k1⟩
          obtain ⟨g, hg, e⟩ := List.mem_map.1 hm
          exact k2 g hg (by rw [e]; simp)
        · rcases List.mem_cons.1 hg with rfl | hg
          · exact h2
          · exact fun hs => k2 g hg (List.mem_append_left _ hs)
/-- the error of gauges of a water -/
def chkGs (level : Int) (cs : List Cy) (ss : List Sh) (l : List Ga) : Int :=
  if chkW level cs ss ≠ 0 then chkW level cs ss else if 40 < l.length then 2 else chkG [] l
/-- the levels with which a gauge agrees, and those of all -/
def lvG (cs : List Cy) (ss : List Sh) (g : Ga) : Int × Int := (max (-4000) (g.lo - bareV cs ss g.tk), min 4000 (g.hi - bareV cs ss g.tk))
def meetP (a b : Int × Int) : Int × Int := (max a.1 b.1, min a.2 b.2)
def comG (cs : List Cy) (ss : List Sh) (l : List Ga) : Int × Int := (l.map (lvG cs ss)).foldl meetP (-4000, 4000)
def levelsR (level : Int) (cs : List Cy) (ss : List Sh) (l : List Ga) : (Int × Int) × Int :=
  if chkGs level cs ss l ≠ 0 then ((0, 0), chkGs level cs ss l) else if (comG cs ss l).1 ≤ (comG cs ss l).2 then (comG cs ss l, 0) else ((0, 0), 9)
theorem com_succ {cs : List Cy} {ss : List Sh} {l : List Ga} {k : Nat} (h : k < l.length) : comG cs ss (l.take (k + 1)) = meetP (comG cs ss (l.take k)) (lvG cs ss (nthG l k)) := by
  unfold comG
  rw [List.take_succ_eq_append_getElem h, List.map_append, List.foldl_append, nthG_eq h]
  rfl
/-- a level agrees with all: it lies within -/
theorem com_iff (cs : List Cy) (ss : List Sh) (l : List Ga) (v : Int) : ((comG cs ss l).1 ≤ v ∧ v ≤ (comG cs ss l).2) ↔ ((-4000 ≤ v ∧ v ≤ 4000) ∧ ∀ g ∈ l, (lvG cs ss g).1 ≤ v ∧ v ≤ (lvG cs ss g).2) := by
  have key : ∀ (m : List Ga) (a : Int × Int), (((m.map (lvG cs ss)).foldl meetP a).1 ≤ v ∧ v ≤ ((m.map (lvG cs ss)).foldl meetP a).2) ↔ ((a.1 ≤ v ∧ v ≤ a.2) ∧ ∀ g ∈ m, (lvG cs ss g).1 ≤ v ∧ v ≤ (lvG cs ss g).2) := by
    intro m
    induction m with
    | nil => intro a; simp
    | cons g r ih =>
      intro a
      rw [List.map_cons, List.foldl_cons, ih]
      simp only [List.mem_cons, forall_eq_or_imp, meetP]
      constructor
      · rintro ⟨⟨h1, h2⟩, h3⟩
        exact ⟨⟨by omega, by omega⟩, ⟨by omega, by omega⟩, h3⟩
      · rintro ⟨⟨h1, h2⟩, ⟨h3, h4⟩, h5⟩
        exact ⟨⟨by omega, by omega⟩, h5⟩
  exact key l (-4000, 4000)
end Go.Proofs.YtgjkfmcjalcefaaGreat
