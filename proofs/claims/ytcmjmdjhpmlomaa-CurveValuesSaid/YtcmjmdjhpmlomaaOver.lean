/- Lists of one and of two curves that a call lays; the contracts of Value, Values, over and Over. -/
import Derived.Test.YtcmjmdjhpmlomaaPeak
namespace Go.Proofs.Ytcmjmdjhpmlomaa
open Go.RowKit

theorem one_forall {p : Cur → Prop} {c : Cur} (h : p c) : ∀ i (hi : i < [c].length), p [c][i] := fun i hi => by
  have : i = 0 := by simp at hi; exact hi
  subst this
  exact h
theorem two_forall {p : Cur → Prop} {c d : Cur} (h : p c) (h2 : p d) : ∀ i (hi : i < [c, d].length), p [c, d][i] := fun i hi => by
  match i, hi with
  | 0, _ => exact h
  | 1, _ => exact h2
theorem uniq_pos {l : List Int} (h : 0 < l.length) : 0 < (uniq l).length := by
  unfold uniq Lib.compact Lib.compactUpTo
  rw [List.length_map]
  apply List.length_pos_of_mem (a := 0)
  rw [List.mem_filter]
  exact ⟨List.mem_range.2 h, by simp [Lib.keeps]⟩
theorem cornX_pos (lo hi : Int) (l : List Cur) : 0 < (cornX lo hi l).length := uniq_pos (by rw [sortX_len]; simp [rawX])
theorem cornX_le {lo hi : Int} {l : List Cur} (h : ∀ i (h : i < l.length), l[i].ks.length ≤ 40) (h2 : l.length ≤ 12) : (cornX lo hi l).length ≤ 1000000 := by
  have h1 := uniq_len (sortX (rawX lo hi l))
  rw [sortX_len] at h1
  have h3 := rawX_len (lo := lo) (hi := hi) h
  unfold cornX
  omega

theorem cvAt_one {w : World} {g c n : Nat} {A : Option Addr} {ks : List (Int × Int)} {err : Int} (hn : n = ks.length) (hb : Blk w g 33 #[.slice A n c, .int .i64 err]) (hk : KnAt w A ks) (hl : ks.length ≤ 1000000000000) : CvAt w (some ⟨g, 0, none⟩) [⟨A, c, ks, err⟩] := by
  subst hn
  refine ⟨fun _ => ⟨g, 0, rfl, hb.lt, fun i hi => ?_⟩, fun i hi => ?_⟩
  · obtain rfl : i = 0 := by simp at hi; omega
    exact ⟨hb.cell 0, hb.cell 1⟩
  · obtain rfl : i = 0 := by simp at hi; omega
    exact ⟨hk, hl⟩
theorem cvAt_two {w : World} {g c c2 : Nat} {A A2 : Option Addr} {ks ks2 : List (Int × Int)} {err err2 : Int} (hb : Blk w g 33 #[.slice A ks.length c, .int .i64 err, .slice A2 ks2.length c2, .int .i64 err2]) (hk : KnAt w A ks) (hl : ks.length ≤ 1000000000000) (hk2 : KnAt w A2 ks2) (hl2 : ks2.length ≤ 1000000000000) :
    CvAt w (some ⟨g, 0, none⟩) [⟨A, c, ks, err⟩, ⟨A2, c2, ks2, err2⟩] := by
  refine ⟨fun _ => ⟨g, 0, rfl, hb.lt, fun i hi => ?_⟩, fun i hi => ?_⟩
  · match i, hi with
    | 0, _ => exact ⟨hb.cell 0, hb.cell 1⟩
    | 1, _ => exact ⟨hb.cell 2, hb.cell 3⟩
  · match i, hi with
    | 0, _ => exact ⟨hk, hl⟩
    | 1, _ => exact ⟨hk2, hl2⟩
theorem Blk.new_ {w : World} {t : TypeId} {cs : Array Value} {g : Nat} (hg : g = w.heap.size) : Blk (w.alloc (.cells cs t)) g t cs := by subst hg; exact Blk.new w t cs

/-- does a valid curve cover an x? -/
def inDom (ks : List (Int × Int)) (lo hi : Int) : Bool := decide (dLo ks ≤ lo) && decide (hi ≤ dHi ks)
/-- the error of a curve and a span -/
def errOn (ks : List (Int × Int)) (err lo hi : Int) : Int := if chk ks err = 0 then (if hi < lo then 1 else if inDom ks lo hi then 0 else 3) else chk ks err
theorem chkOn_one {c : Cur} {lo hi : Int} : chkOn [c] lo hi = if hi < lo then 1 else if inDom c.ks lo hi then 0 else 3 := by simp [chkOn, covL, inDom]

set_option maxHeartbeats 1000000 in
theorem checkOn_one (w : World) (g c : Nat) (A : Option Addr) (ks : List (Int × Int)) (err lo hi : Int) (hne : ks ≠ []) (hl : ks.length ≤ 1000000000000) (hb : Blk w g 33 #[.slice A ks.length c, .int .i64 err]) (hk : KnAt w A ks) :
    Calls Try.prog 73 #[.agg #[.int .i64 lo, .int .i64 hi], .slice (some ⟨g, 0, none⟩) 1 1] w fun e w' => e = .returned (.int .i64 (if hi < lo then 1 else if inDom ks lo hi then 0 else 3)) ∧ Below w.heap.size w w' := by
  have h := checkOn_any w (some ⟨g, 0, none⟩) 1 [⟨A, c, ks, err⟩] lo hi (by simp) (cvAt_one rfl hb hk hl) (one_forall (p := fun c => c.ks ≠ []) hne)
  rw [chkOn_one] at h
  exact h
theorem checkAt_one (w : World) (g c : Nat) (A : Option Addr) (ks : List (Int × Int)) (err x : Int) (hne : ks ≠ []) (hl : ks.length ≤ 1000000000000) (hb : Blk w g 33 #[.slice A ks.length c, .int .i64 err]) (hk : KnAt w A ks) :
    Calls Try.prog 66 #[.int .i64 x, .slice (some ⟨g, 0, none⟩) 1 1] w fun e w' => e = .returned (.int .i64 (if inDom ks x x then 0 else 3)) ∧ Below w.heap.size w w' := by
  have h := checkAt_any w (some ⟨g, 0, none⟩) 1 [⟨A, c, ks, err⟩] x (by simp) (cvAt_one rfl hb hk hl) (one_forall (p := fun c => c.ks ≠ []) hne)
  rw [chkOn_one, if_neg (by omega)] at h
  exact h
theorem corners_one (w : World) (g c : Nat) (A : Option Addr) (ks : List (Int × Int)) (err lo hi : Int) (hl : ks.length ≤ 40) (hb : Blk w g 33 #[.slice A ks.length c, .int .i64 err]) (hk : KnAt w A ks) :
    Calls Try.prog 99 #[.agg #[.int .i64 lo, .int .i64 hi], .slice (some ⟨g, 0, none⟩) 1 1] w (RetInts w.heap.size w (cornX lo hi [⟨none, 0, ks, 0⟩])) := by
  have h := corners_any w (some ⟨g, 0, none⟩) 1 [⟨A, c, ks, err⟩] lo hi (by simp) (cvAt_one rfl hb hk (by omega)) (one_forall (p := fun c => c.ks.length ≤ 40) hl)
  have e := cornX_ks (lo := lo) (hi := hi) (l := [⟨A, c, ks, err⟩]) (l' := [⟨none, 0, ks, 0⟩]) rfl
  rw [e] at h
  exact h

theorem ownsInts {w : World} {B : Nat} {v : Value} {l : List Int} (h : w.ownsRow B 3 1 v l.length (l.map (Value.int .i64))) (hne : 0 < l.length) :
    ∃ g c, v = .slice (some ⟨g, 0, none⟩) l.length c ∧ g < w.heap.size ∧ ∀ i (hi : i < l.length), w.cell? ⟨g, 0 + i, none⟩ = some (.int .i64 l[i]) := by
  obtain ⟨g, cap, cur, h1, h2, h3, _⟩ := ownsRow_form h (by intro e; simp [e] at hne)
  subst h1
  refine ⟨g, cap, rfl, (Array.getElem?_eq_some_iff.1 h3).1, fun i hi => ?_⟩
  rw [Nat.zero_add, h.cellAt i (by omega)]
  simp [hi]

set_option maxHeartbeats 1000000 in
theorem over_any (w : World) (A : Option Addr) (c : Nat) (ks : List (Int × Int)) (err lo hi : Int) (v : Vd ks err) (hlh : lo ≤ hi) (h0 : -4000 ≤ lo) (h1 : hi ≤ 4000) (hk : KnAt w A ks) :
    Calls Try.prog 74 #[.agg #[.slice A ks.length c, .int .i64 err], .agg #[.int .i64 lo, .int .i64 hi]] w fun e w' =>
      e = .returned (.agg #[.int .i64 (overK ks lo hi).ln, .int .i64 (overK ks lo hi).ld, .int .i64 (overK ks lo hi).hn, .int .i64 (overK ks lo hi).hd, .int .i64 (overK ks lo hi).al, .int .i64 (overK ks lo hi).ah]) ∧ Below w.heap.size w w' := by
  have hl := v.le
  have hmem := fun x => cornX_mem (lo := lo) (hi := hi) (x := x) (l := [⟨none, 0, ks, 0⟩]) hlh
  have hlen := cornX_pos lo hi [⟨none, 0, ks, 0⟩]
  have hlen2 := cornX_le (lo := lo) (hi := hi) (one_forall (p := fun c => c.ks.length ≤ 40) (c := ⟨none, 0, ks, 0⟩) hl) (by simp)
  have hov := Lib.hid (show overK ks lo hi = pkOf (cornX lo hi [⟨none, 0, ks, 0⟩]) ((cornX lo hi [⟨none, 0, ks, 0⟩]).map (valF ks)) from rfl)
  go_enter Try.func74, Try.ntmps74
  go_wp2_with fail
  refine (corners_one _ _ _ _ _ err _ _ hl (Blk.new_ (by simp)) (hk.below (by (repeat' (first | with_reducible exact Below.refl _ _ | with_reducible assumption | (with_reducible refine Below.setCell ?_ (by first | omega | (simp; done) | (simp; omega)) _) | (with_reducible refine Below.alloc ?_ (by first | omega | (simp; done) | (simp; omega)) _) | (with_reducible refine Below.drew ?_) | (with_reducible refine Below.trans ?_ (Below.mono (by with_reducible assumption) (by first | omega | (simp; done) | (simp; omega))))))))).mono ?_
  rintro e w1 ⟨v1, rfl, hown, hb⟩
  generalize cornX lo hi [⟨none, 0, ks, 0⟩] = X at *
  obtain ⟨gx, cx, hv1, hgx, hcx⟩ := ownsInts hown hlen
  subst hv1
  obtain ⟨hc, hf⟩ := bcell hb
  have hz := hb.size
  simp at hz
  (try have hzw0 : w.heap.size < w1.heap.size := by omega); (try have hzw1 : w.heap.size + 1 < w1.heap.size := by omega); (try have hzw2 : w.heap.size + 1 + 1 < w1.heap.size := by omega); (try have hzw3 : w.heap.size + 1 + 1 + 1 < w1.heap.size := by omega); (try have hzwr0 : wr.heap.size < w1.heap.size := by omega); (try have hzwr1 : wr.heap.size + 1 < w1.heap.size := by omega); (try have hzwr2 : wr.heap.size + 1 + 1 < w1.heap.size := by omega); (try have hzwr3 : wr.heap.size + 1 + 1 + 1 < w1.heap.size := by omega); (try have hzw20 : w2.heap.size < w1.heap.size := by omega); (try have hzw21 : w2.heap.size + 1 < w1.heap.size := by omega); (try have hzw30 : w3.heap.size < w1.heap.size := by omega); (try have hzw31 : w3.heap.size + 1 < w1.heap.size := by omega); (try have hzb : b < w1.heap.size := by omega); (try have hzb2 : b2 < w1.heap.size := by omega); (try have hzb3 : b3 < w1.heap.size := by omega); (try have hzb4 : b4 < w1.heap.size := by omega); (try have hzBs : Bs < w1.heap.size := by omega)
  have bc : w1.cell? ⟨w.heap.size, 0, none⟩ = some (.slice A ks.length c) := (hc _ _ (by simp; omega)).trans (by simp [go_sem])
  have bc2 : w1.cell? ⟨w.heap.size, 1, none⟩ = some (.int .i64 err) := (hc _ _ (by simp; omega)).trans (by simp [go_sem])
  have hbw : Below w.heap.size w w1 := by (repeat' (first | with_reducible exact Below.refl _ _ | with_reducible assumption | (with_reducible refine Below.setCell ?_ (by first | omega | (simp; done) | (simp; omega)) _) | (with_reducible refine Below.alloc ?_ (by first | omega | (simp; done) | (simp; omega)) _) | (with_reducible refine Below.drew ?_) | (with_reducible refine Below.trans ?_ (Below.mono (by with_reducible assumption) (by first | omega | (simp; done) | (simp; omega))))))
  have hk1 := hk.below hbw
  have hpk := peak_any w1 gx 0 cx X hlen hlen2 hgx hcx 113 #[.pointer (some ⟨w.heap.size, 0, none⟩)] (valF ks) (enters_of Try.func113 (by kernel_rfl) rfl)
    (fun W x hx hB => over1_any W w.heap.size A c ks err x v (by have := hmem x hx; omega) (by have := hmem x hx; omega) ((hB.cell (p := ⟨w.heap.size, 0, none⟩) (by simp; omega)).trans bc) ((hB.cell (p := ⟨w.heap.size, 1, none⟩) (by simp; omega)).trans bc2) (hk1.below hB))
    (fun x hx => (v.fr (by have := hmem x hx; omega) (by have := hmem x hx; omega)).small)
  have HBW := Lib.hid hbw
  clear hmem hown hcx hbw hk1 bc bc2 hk
  go_wp2_with fail
  refine hpk.mono ?_
  rintro e w2 ⟨rfl, hb2⟩
  obtain ⟨hc2, hf2⟩ := bcell hb2
  have hz2 := hb2.size
  (try have hzw0 : w.heap.size < w2.heap.size := by omega); (try have hzw1 : w.heap.size + 1 < w2.heap.size := by omega); (try have hzw2 : w.heap.size + 1 + 1 < w2.heap.size := by omega); (try have hzw3 : w.heap.size + 1 + 1 + 1 < w2.heap.size := by omega); (try have hzwr0 : wr.heap.size < w2.heap.size := by omega); (try have hzwr1 : wr.heap.size + 1 < w2.heap.size := by omega); (try have hzwr2 : wr.heap.size + 1 + 1 < w2.heap.size := by omega); (try have hzwr3 : wr.heap.size + 1 + 1 + 1 < w2.heap.size := by omega); (try have hzw10 : w1.heap.size < w2.heap.size := by omega); (try have hzw11 : w1.heap.size + 1 < w2.heap.size := by omega); (try have hzw30 : w3.heap.size < w2.heap.size := by omega); (try have hzw31 : w3.heap.size + 1 < w2.heap.size := by omega); (try have hzb : b < w2.heap.size := by omega); (try have hzb2 : b2 < w2.heap.size := by omega); (try have hzb3 : b3 < w2.heap.size := by omega); (try have hzb4 : b4 < w2.heap.size := by omega); (try have hzBs : Bs < w2.heap.size := by omega)
  go_wp2
  refine bodyPost_ret (v := .agg #[.int .i64 (pkOf X (X.map (valF ks))).ln, .int .i64 (pkOf X (X.map (valF ks))).ld, .int .i64 (pkOf X (X.map (valF ks))).hn, .int .i64 (pkOf X (X.map (valF ks))).hd, .int .i64 (pkOf X (X.map (valF ks))).al, .int .i64 (pkOf X (X.map (valF ks))).ah]) (by simp only [results, Try.results74]; go_simp) rfl ⟨?_, ?_⟩
  · rw [hov.out]
  · have := HBW.out
    have hb3 : Below w.heap.size w1 w2 := hb2.mono (by omega)
    have := this.trans hb3
    (repeat' (first | with_reducible exact Below.refl _ _ | with_reducible assumption | (with_reducible refine Below.setCell ?_ (by first | omega | (simp; done) | (simp; omega)) _) | (with_reducible refine Below.alloc ?_ (by first | omega | (simp; done) | (simp; omega)) _) | (with_reducible refine Below.drew ?_) | (with_reducible refine Below.trans ?_ (Below.mono (by with_reducible assumption) (by first | omega | (simp; done) | (simp; omega))))))
end Go.Proofs.Ytcmjmdjhpmlomaa
