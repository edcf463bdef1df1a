
/- Lists of one and of two curves that a call lays; the contracts of Value, Values, over and Over. -/
import Derived.Test.YtcmjmdjhpmlomaaPeak
namespace Go.Proofs.Ytcmjmdjhpmlomaa
open Go.RowKit

theorem one_forall {p : Cur → Prop} {c : Cur} (h : p c) : ∀ i (hi : i < [c].length), p [c][i] := fun i hi => by
  have : i = 0 := by simp at hi; exact hi
  subst this
  exact h
theorem two_forall {p : Cur → Prop} {c d : Cur} (h : p c) (h2 : p d) : ∀ i (hi : i < [c, d].length), p [c, d][i] := fun i hi => by
  match i, hi with
  | 0, _ => exact h
  | 1, _ => exact h2
theorem uniq_pos {l : List Int} (h : 0 < l.length) : 0 < (uniq l).length := by
  unfold uniq Lib.compact Lib.compactUpTo
  rw [List.length_map]
  apply List.length_pos_of_mem (a := 0)
  rw [List.mem_filter]
  exact ⟨List.mem_range.2 h, by simp [Lib.keeps]⟩
theorem cornX_pos (lo hi : Int) (l : List Cur) : 0 < (cornX lo hi l).length := uniq_pos (by rw [sortX_len]; simp [rawX])
theorem cornX_le {lo hi : Int} {l : List Cur} (h : ∀ i (h : i < l.length), l[i].ks.length ≤ 40) (h2 : l.length ≤ 12) : (cornX lo hi l).length ≤ 1000000 := by
  have h1 := uniq_len (sortX (rawX lo hi l))
  rw [sortX_len] at h1
  have h3 := rawX_len (lo := lo) (hi := hi) h
  unfold cornX
  omega

theorem cvAt_one {w : World} {g c n : Nat} {A : Option Addr} {ks : List (Int × Int)} {err : Int} (hn : n = ks.length) (hb : Blk w g 33 #[.slice A n c, .int .i64 err]) (hk : KnAt w A ks) (hl : ks.length ≤ 1000000000000) : CvAt w (some ⟨g, 0, none⟩) [⟨A, c, ks, err⟩] := by
  subst hn
  refine ⟨fun _ => ⟨g, 0, rfl, hb.lt, fun i hi => ?_⟩, fun i hi => ?_⟩
  · obtain rfl : i = 0 := by simp at hi; omega
    exact ⟨hb.cell 0, hb.cell 1⟩
  · obtain rfl : i = 0 := by simp at hi; omega
    exact ⟨hk, hl⟩
theorem cvAt_two {w : World} {g c c2 : Nat} {A A2 : Option Addr} {ks ks2 : List (Int × Int)} {err err2 : Int} (hb : Blk w g 33 #[.slice A ks.length c, .int .i64 err, .slice A2 ks2.length c2, .int .i64 err2]) (hk : KnAt w A ks) (hl : ks.length ≤ 1000000000000) (hk2 : KnAt w A2 ks2) (hl2 : ks2.length ≤ 1000000000000) :
    CvAt w (some ⟨g, 0, none⟩) [⟨A, c, ks, err⟩, ⟨A2, c2, ks2, err2⟩] := by
  refine ⟨fun _ => ⟨g, 0, rfl, hb.lt, fun i hi => ?_⟩, fun i hi => ?_⟩
  · match i, hi with
    | 0, _ => exact ⟨hb.cell 0, hb.cell 1⟩
    | 1, _ => exact ⟨hb.cell 2, hb.cell 3⟩
  · match i, hi with
    | 0, _ => exact ⟨hk, hl⟩
    | 1, _ => exact ⟨hk2, hl2⟩
theorem Blk.new_ {w : World} {t : TypeId} {cs : Array Value} {g : Nat} (hg : g = w.heap.size) : Blk (w.alloc (.cells cs t)) g t cs := by subst hg; exact Blk.new w t cs

/-- does a valid curve cover an x? -/
def inDom (ks : List (Int × Int)) (lo hi : Int) : Bool := decide (dLo ks ≤ lo) && decide (hi ≤ dHi ks)
/-- the error of a curve and a span -/
def errOn (ks : List (Int × Int)) (err lo hi : Int) : Int := if chk ks err = 0 then (if hi < lo then 1 else if inDom ks lo hi then 0 else 3) else chk ks err
theorem chkOn_one {c : Cur} {lo hi : Int} : chkOn [c] lo hi = if hi < lo then 1 else if inDom c.ks lo hi then 0 else 3 := by simp [chkOn, covL, inDom]

theorem ownsInts {w : World} {B : Nat} {v : Value} {l : List Int} (h : w.ownsRow B 3 1 v l.length (l.map (Value.int .i64))) (hne : 0 < l.length) :
    ∃ g c, v = .slice (some ⟨g, 0, none⟩) l.length c ∧ g < w.heap.size ∧ ∀ i (hi : i < l.length), w.cell? ⟨g, 0 + i, none⟩ = some (.int .i64 l[i]) := by
  obtain ⟨g, cap, cur, h1, h2, h3, _⟩ := ownsRow_form h (by intro e; simp [e] at hne)
  subst h1
  refine ⟨g, cap, rfl, (Array.getElem?_eq_some_iff.1 h3).1, fun i hi => ?_⟩
  rw [Nat.zero_add, h.cellAt i (by omega)]
  simp [hi]

end Go.Proofs.Ytcmjmdjhpmlomaa
