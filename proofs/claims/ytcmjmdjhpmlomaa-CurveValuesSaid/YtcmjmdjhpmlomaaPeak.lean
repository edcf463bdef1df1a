/- The contracts of peak and over. -/
import Derived.Test.YtcmjmdjhpmlomaaMost
import Derived.Test.YtcmjmdjhpmlomaaCorn
namespace Go.Proofs.Ytcmjmdjhpmlomaa
open Go.RowKit

theorem info_frac : (Try.prog.info? 23).map (fun i => (i.zero, i.size, i.bytes)) = some (some (.agg #[.int .i64 0, .int .i64 0]), 2, 16) := by kernel_rfl

def lessF (x y : Int × Int) : Bool := decide (ordF x.1 x.2 y.1 y.2 < 0)
def moreF (x y : Int × Int) : Bool := decide (0 < ordF x.1 x.2 y.1 y.2)
/-- a list of fractions, cell by cell -/
def flatF (l : List (Int × Int)) : List Value := l.flatMap fun f => [Value.int .i64 f.1, Value.int .i64 f.2]
theorem flatF_len : ∀ (l : List (Int × Int)), (flatF l).length = l.length * 2
  | [] => rfl
  | f :: l => by have := flatF_len l; simp [flatF] at this ⊢; omega
theorem flatF_get : ∀ (l : List (Int × Int)) (i : Nat) (h : i < l.length), (flatF l)[i * 2]? = some (.int .i64 l[i].1) ∧ (flatF l)[i * 2 + 1]? = some (.int .i64 l[i].2)
  | [], i, h => by simp at h
  | f :: l, 0, _ => by simp [flatF]
  | f :: l, i + 1, h => by
    have h1 := flatF_get l i (by simpa using h)
    have e : flatF (f :: l) = Value.int .i64 f.1 :: Value.int .i64 f.2 :: flatF l := by simp [flatF]
    rw [e, show (i + 1) * 2 = i * 2 + 1 + 1 by omega]
    simpa using h1

/-- least, greatest, and where first -/
structure Pk where
  ln : Int
  ld : Int
  hn : Int
  hd : Int
  al : Int
  ah : Int
def pkOf (xs : List Int) (fs : List (Int × Int)) : Pk :=
  let i := bestIx lessF (0, 0) fs fs.length
  let j := bestIx moreF (0, 0) fs fs.length
  ⟨(fs[i]?.getD (0, 0)).1, (fs[i]?.getD (0, 0)).2, (fs[j]?.getD (0, 0)).1, (fs[j]?.getD (0, 0)).2, xs[i]?.getD 0, xs[j]?.getD 0⟩

theorem ownsRow_up {w w' : World} {B n size : Nat} {e : TypeId} {v : Value} {xs : List Value} (h : w.ownsRow B e size v n xs) (hb : Below w.heap.size w w') : w'.ownsRow B e size v n xs :=
  h.kept (grownBy_of_below hb) (by cases hv : v.ownBlock <;> simp)
theorem flatF_snoc (l : List (Int × Int)) (f : Int × Int) : flatF (l ++ [f]) = flatF l ++ [Value.int .i64 f.1, Value.int .i64 f.2] := by simp [flatF]

set_option maxRecDepth 100000 in
set_option maxHeartbeats 1000000 in
theorem peak_any (w : World) (b off cap : Nat) (xs : List Int) (hne : 0 < xs.length) (hlen : xs.length ≤ 1000000) (hb : b < w.heap.size) (hx : ∀ i (h : i < xs.length), w.cell? ⟨b, off + i, none⟩ = some (.int .i64 xs[i])) (g : Nat) (capt : Array Value) (at_ : Int → Int × Int)
    (eg : ∀ args w, (callFunc g args).run Try.prog w = .ok (.enter g args) w)
    (hg : ∀ (W : World) (x : Int), x ∈ xs → Below w.heap.size w W → Calls Try.prog g (#[.int .i64 x] ++ capt) W fun e W' => e = .returned (.agg #[.int .i64 (at_ x).1, .int .i64 (at_ x).2]) ∧ Below W.heap.size W W')
    (hs : ∀ x, x ∈ xs → Small (at_ x).1 (at_ x).2) :
    Calls Try.prog 98 #[.slice (some ⟨b, off, none⟩) xs.length cap, .func (.func g) #[] capt] w fun e w' =>
      e = .returned (.agg #[.int .i64 (pkOf xs (xs.map at_)).ln, .int .i64 (pkOf xs (xs.map at_)).ld, .int .i64 (pkOf xs (xs.map at_)).hn, .int .i64 (pkOf xs (xs.map at_)).hd, .int .i64 (pkOf xs (xs.map at_)).al, .int .i64 (pkOf xs (xs.map at_)).ah]) ∧ Below w.heap.size w w' := by
  obtain ⟨i0, hi0, hz0, hz1, hz2⟩ := info_parts info_frac
  have hmk : ∀ W : World, (Instr.makeSlice 102 (.int .i64 0) (.int .i64 (xs.length : Int))).run Try.prog W = .ok (.slice (some ⟨W.heap.size, 0, none⟩) 0 xs.length) (W.alloc (.cells (madeCells #[.int .i64 0, .int .i64 0] (xs.length * 2)) 23)) := fun W => by
    have hr := run_make (P := Try.prog) W 102 23 i0 _ Try.underlying102 hi0 hz0 .i64 .i64 0 xs.length (by omega) (by omega) (by rw [hz2]; omega) (by omega)
    simp only [Int.toNat_natCast, Int.toNat_zero, hz1] at hr
    exact hr
  go_enter Try.func98, Try.ntmps98
  go_wp2
  have hrow0 := World.ownsRow_made (base := w.heap.size + 1) (e := 23) (size := 2) (w.alloc (.cells #[.int .i64 0, .int .i64 0, .int .i64 0, .int .i64 0, .int .i64 0, .int .i64 0] 47)) (madeCells #[.int .i64 0, .int .i64 0] (xs.length * 2)) xs.length (by simp) (by unfold maxLen; omega) (size_madeCells _ _)
  rw [World.size_alloc] at hrow0
  clear hmk
  go_loopw [5, 7, 15] (fun v _ i wr => ∃ k : Nat, k ≤ xs.length ∧ i = .int .i64 k ∧ wr.ownsRow (w.heap.size + 1) 23 2 v k (flatF ((xs.take k).map at_)) ∧ Below (w.heap.size + 1) (w.alloc (.cells #[.int .i64 0, .int .i64 0, .int .i64 0, .int .i64 0, .int .i64 0, .int .i64 0] 47)) wr) (fun _ _ i _ => xs.length - (intOf i).toNat)
  case atStart => exact ⟨0, by omega, rfl, by simpa [flatF] using hrow0, by (repeat' (first | with_reducible exact Below.refl _ _ | with_reducible assumption | (with_reducible refine Below.setCell ?_ (by first | omega | (simp; done) | (simp; omega)) _) | (with_reducible refine Below.alloc ?_ (by first | omega | (simp; done) | (simp; omega)) _) | (with_reducible refine Below.drew ?_) | (with_reducible refine Below.trans ?_ (Below.mono (by with_reducible assumption) (by first | omega | (simp; done) | (simp; omega))))))⟩
  case round =>
    obtain ⟨k, hkl, rfl, hown, hbw⟩ := hrel
    clear hrow0
    have hz := hbw.size
    simp at hz
    (try have hzw0 : w.heap.size < wr.heap.size := by omega); (try have hzw1 : w.heap.size + 1 < wr.heap.size := by omega); (try have hzw2 : w.heap.size + 1 + 1 < wr.heap.size := by omega); (try have hzw3 : w.heap.size + 1 + 1 + 1 < wr.heap.size := by omega); (try have hzw10 : w1.heap.size < wr.heap.size := by omega); (try have hzw11 : w1.heap.size + 1 < wr.heap.size := by omega); (try have hzw20 : w2.heap.size < wr.heap.size := by omega); (try have hzw21 : w2.heap.size + 1 < wr.heap.size := by omega); (try have hzw30 : w3.heap.size < wr.heap.size := by omega); (try have hzw31 : w3.heap.size + 1 < wr.heap.size := by omega); (try have hzb : b < wr.heap.size := by omega); (try have hzb2 : b2 < wr.heap.size := by omega); (try have hzb3 : b3 < wr.heap.size := by omega); (try have hzb4 : b4 < wr.heap.size := by omega); (try have hzBs : Bs < wr.heap.size := by omega)
    have hBw : Below w.heap.size w wr := by (repeat' (first | with_reducible exact Below.refl _ _ | with_reducible assumption | (with_reducible refine Below.setCell ?_ (by first | omega | (simp; done) | (simp; omega)) _) | (with_reducible refine Below.alloc ?_ (by first | omega | (simp; done) | (simp; omega)) _) | (with_reducible refine Below.drew ?_) | (with_reducible refine Below.trans ?_ (Below.mono (by with_reducible assumption) (by first | omega | (simp; done) | (simp; omega))))))
    by_cases hlt : k < xs.length
    · have hxc := (hBw.cell (p := ⟨b, _, none⟩) hb).trans (hx k hlt)
      have hgx := hg wr xs[k] (List.getElem_mem hlt) hBw
      have hstep := Lib.hid (show flatF ((xs.take (k + 1)).map at_) = flatF ((xs.take k).map at_) ++ [Value.int .i64 (at_ xs[k]).1, Value.int .i64 (at_ xs[k]).2] by
        rw [List.take_succ_eq_append_getElem hlt, List.map_append, List.map_singleton, flatF_snoc])
      generalize hS : flatF ((xs.take k).map at_) = S at *
      generalize xs[k] = x at *
      generalize at_ x = v at *
      obtain ⟨vn, vd⟩ := v
      have hlt' : (k : Int) < xs.length := by omega
      have HB := Lib.hid hbw
      have HBw := Lib.hid hBw
      clear hx hg hs hbw hS hBw
      go_wp2_with (first
        | (at_builtin; refine wpList_append_own _ rfl _ _ 102 rfl (w.heap.size + 1) 23 i0 (.agg #[.int .i64 0, .int .i64 0]) 2 16 Try.underlying102 hi0 hz0 hz1 hz2 rfl (by decide) _ _ _ rfl ((ownsRow_up hown HB1.out).alloc _) ⟨w1.heap.size, 0, none⟩ 1 1 [.int .i64 vn, .int .i64 vd] rfl rfl Hc1.out Hc2.out (by have := Hc3.out; exact this) (by omega) Hc5.out ?_; intro v2 w2 hown3 hgrow _)
        | ((with_reducible refine hgx.mono ?_); rintro e w1 ⟨rfl, hb1⟩; have HB1 := Lib.hid hb1; have hz1' := hb1.size; clear hb1
           have Hc1 : Hid (∀ j u, ([Value.int .i64 vn, Value.int .i64 vd])[j]? = some u → (w1.alloc (.cells #[.int .i64 vn, .int .i64 vd] 23)).cell? ((⟨w1.heap.size, 0, none⟩ : Addr).add j) = some u) := by
             intro j u hj
             match j, hj with
             | 0, hj => simp at hj; subst hj; simp [Addr.add]
             | 1, hj => simp at hj; subst hj; simp [Addr.add]
           have Hc2 : Hid (∀ u ∈ ([Value.int .i64 vn, Value.int .i64 vd]), u.oneCell' = true) := by intro u hu; simp at hu; rcases hu with rfl | rfl <;> rfl
           have Hc3 : Hid (k + 1 ≤ maxLen) := by show k + 1 ≤ maxLen; unfold maxLen; omega
           have Hc5 : Hid (w.heap.size + 1 ≤ (w1.alloc (.cells #[.int .i64 vn, .int .i64 vd] 23)).heap.size) := by show _ ≤ _; simp; omega))
      have hB2 : Below (w.heap.size + 1) wr w2 := ((HB1.out.mono (by omega)).alloc (by omega) _).grown hgrow (by simp; omega) (fun r hr => (hown.lt r hr).1)
      refine ⟨⟨k + 1, by omega, by simp, ?_, HB.out.trans hB2⟩, by simp [intOf]; omega⟩
      rw [hstep.out]; exact hown3
    · obtain rfl : k = xs.length := by omega
      rw [List.take_length] at hown
      have hfl : (xs.map at_).length = xs.length := List.length_map _
      have hsm : ∀ i (h : i < (xs.map at_).length), Small (xs.map at_)[i].1 (xs.map at_)[i].2 := fun i h => by rw [List.getElem_map]; exact hs _ (List.getElem_mem _)
      generalize hfs : xs.map at_ = fs at *
      have Hfs := Lib.hid hfs
      clear hfs
      have hform : ∃ gq cq, u5 = .slice (some ⟨gq, 0, none⟩) xs.length cq ∧ gq < wr.heap.size ∧ w.heap.size + 1 ≤ gq ∧ ∀ i (h : i < fs.length), wr.cell? ⟨gq, 0 + i * 2, none⟩ = some (.int .i64 fs[i].1) ∧ wr.cell? ⟨gq, 0 + i * 2 + 1, none⟩ = some (.int .i64 fs[i].2) := by
        rcases hown.2 with ⟨_, h0⟩ | ⟨gq, cq, cur, h1, h2, h3, _⟩
        · omega
        · subst h1
          refine ⟨gq, cq, rfl, (Array.getElem?_eq_some_iff.1 h3).1, h2, fun i hi => ?_⟩
          have := flatF_get fs i hi
          simp only [Nat.zero_add]
          exact ⟨(hown.cellAt _ (by omega)).trans this.1, (hown.cellAt _ (by omega)).trans this.2⟩
      obtain ⟨gq, cq, rfl, hgl, hgb, hcs⟩ := hform
      have hF1 := fun (W : World) (hW : Below wr.heap.size wr W) => foremostF_any W gq 0 cq fs (by omega) (by omega) (Nat.lt_of_lt_of_le hgl hW.size) (fun i h => ⟨(hW.cell (p := ⟨gq, _, none⟩) hgl).trans (hcs i h).1, (hW.cell (p := ⟨gq, _, none⟩) hgl).trans (hcs i h).2⟩) hsm 95 lessF (enters_of Try.func95 (by kernel_rfl) rfl) (fun W x y h1 h2 => isLess_any _ _ _ _ h1 h2 W)
      have hF2 := fun (W : World) (hW : Below wr.heap.size wr W) => foremostF_any W gq 0 cq fs (by omega) (by omega) (Nat.lt_of_lt_of_le hgl hW.size) (fun i h => ⟨(hW.cell (p := ⟨gq, _, none⟩) hgl).trans (hcs i h).1, (hW.cell (p := ⟨gq, _, none⟩) hgl).trans (hcs i h).2⟩) hsm 83 moreF (enters_of Try.func83 (by kernel_rfl) rfl) (fun W x y h1 h2 => isMore_any _ _ _ _ h1 h2 W)
      have hi1 := bestIx_lt lessF (0, 0) fs (Nat.le_refl _) (by omega)
      have hi2 := bestIx_lt moreF (0, 0) fs (Nat.le_refl _) (by omega)
      have hj1 : bestIx lessF (0, 0) fs fs.length < xs.length := by omega
      have hj2 : bestIx moreF (0, 0) fs fs.length < xs.length := by omega
      have hpk := Lib.hid (show pkOf xs fs = ⟨(fs[bestIx lessF (0, 0) fs fs.length]).1, (fs[bestIx lessF (0, 0) fs fs.length]).2, (fs[bestIx moreF (0, 0) fs fs.length]).1, (fs[bestIx moreF (0, 0) fs fs.length]).2, xs[bestIx lessF (0, 0) fs fs.length]'hj1, xs[bestIx moreF (0, 0) fs fs.length]'hj2⟩ by
        unfold pkOf
        simp [hi1, hi2, hj1, hj2])
      have q1 := hcs _ hi1
      have q2 := hcs _ hi2
      have q3 := hx (bestIx lessF (0, 0) fs fs.length) hj1
      have q4 := hx (bestIx moreF (0, 0) fs fs.length) hj2
      generalize bestIx lessF (0, 0) fs fs.length = i1 at *
      generalize bestIx moreF (0, 0) fs fs.length = i2 at *
      simp only [hfl] at hF1 hF2
      have g1 : (i1 : Int) < xs.length := by omega
      have g2 : (i2 : Int) < xs.length := by omega
      obtain ⟨q1a, q1b⟩ := q1
      obtain ⟨q2a, q2b⟩ := q2
      simp only [Nat.zero_add] at q1a q1b q2a q2b
      generalize fs[i1] = f1 at *
      generalize fs[i2] = f2 at *
      generalize xs[i1] = x1 at *
      generalize xs[i2] = x2 at *
      clear hcs hx hs hg hsm hfl hown
      have HB := Lib.hid hbw
      have HBw := Lib.hid hBw
      clear hbw hBw
      have hF1' := hF1 wr (Below.refl _ _)
      clear hF1
      have e4 : wr.cell? ⟨w.heap.size, 0, none⟩ = some (.int .i64 0) := (HB.out.cell (p := ⟨w.heap.size, 0, none⟩) (by simp)).trans (by simp)
      have e5 : wr.cell? ⟨w.heap.size, 1, none⟩ = some (.int .i64 0) := (HB.out.cell (p := ⟨w.heap.size, 1, none⟩) (by simp)).trans (by simp)
      have e6 : wr.cell? ⟨w.heap.size, 2, none⟩ = some (.int .i64 0) := (HB.out.cell (p := ⟨w.heap.size, 2, none⟩) (by simp)).trans (by simp)
      have e7 : wr.cell? ⟨w.heap.size, 3, none⟩ = some (.int .i64 0) := (HB.out.cell (p := ⟨w.heap.size, 3, none⟩) (by simp)).trans (by simp)
      have e8 : wr.cell? ⟨w.heap.size, 4, none⟩ = some (.int .i64 0) := (HB.out.cell (p := ⟨w.heap.size, 4, none⟩) (by simp)).trans (by simp)
      have e9 : wr.cell? ⟨w.heap.size, 5, none⟩ = some (.int .i64 0) := (HB.out.cell (p := ⟨w.heap.size, 5, none⟩) (by simp)).trans (by simp)
      have hfr : ∀ o, wr.frozen? ⟨w.heap.size, o, none⟩ = false := fun o => (HB.out.frozen (p := ⟨w.heap.size, o, none⟩) (by simp)).trans (by simp)
      have q3' := (HBw.out.cell (p := ⟨b, _, none⟩) hb).trans q3
      have q4' := (HBw.out.cell (p := ⟨b, _, none⟩) hb).trans q4
      clear q3 q4
      go_wp2_with (first
        | ((with_reducible refine hF1'.mono ?_); rintro e w1 ⟨rfl, hb1⟩; have hF2' := hF2 w1 hb1; clear hF1')
        | ((with_reducible refine hF2'.mono ?_); rintro e w2 ⟨rfl, hb2⟩; clear hF2'))
      have hB12 : Below wr.heap.size wr w2 := hb1.trans (hb2.mono hb1.size)
      have hz12 := hB12.size
      have r1 := (hB12.cell (p := ⟨gq, _, none⟩) hgl).trans q1a
      have r2 := (hB12.cell (p := ⟨gq, _, none⟩) hgl).trans q1b
      have r3 := (hB12.cell (p := ⟨gq, _, none⟩) hgl).trans q2a
      have r4 := (hB12.cell (p := ⟨gq, _, none⟩) hgl).trans q2b
      have r5 := (hB12.cell (p := ⟨b, _, none⟩) (by show b < _; omega)).trans q3'
      have r6 := (hB12.cell (p := ⟨b, _, none⟩) (by show b < _; omega)).trans q4'
      have hwl : w.heap.size < wr.heap.size := by omega
      have s0 := (hB12.cell (p := ⟨w.heap.size, 0, none⟩) hwl).trans e4
      have s1 := (hB12.cell (p := ⟨w.heap.size, 1, none⟩) hwl).trans e5
      have s2 := (hB12.cell (p := ⟨w.heap.size, 2, none⟩) hwl).trans e6
      have s3 := (hB12.cell (p := ⟨w.heap.size, 3, none⟩) hwl).trans e7
      have s4 := (hB12.cell (p := ⟨w.heap.size, 4, none⟩) hwl).trans e8
      have s5 := (hB12.cell (p := ⟨w.heap.size, 5, none⟩) hwl).trans e9
      have hfr2 : ∀ o, w2.frozen? ⟨w.heap.size, o, none⟩ = false := fun o => (hB12.frozen (p := ⟨w.heap.size, o, none⟩) hwl).trans (hfr o)
      have hw2 : Below w.heap.size w w2 := HBw.out.trans (hB12.mono (by omega))
      have HW2 := Lib.hid hw2
      have hgl2 : gq < w2.heap.size := by omega
      have hbl2 : b < w2.heap.size := by omega
      have hwl2 : w.heap.size < w2.heap.size := by omega
      clear hw2 hB12 hb1 hb2 hF2 e4 e5 e6 e7 e8 e9 hfr q1a q1b q2a q2b q3' q4'
      (refine wp_region_below 17 (by kernel_rfl) (by kernel_rfl) ?_; simp only [List.take_succ_cons, List.take_zero, List.drop_succ_cons, List.drop_zero]; (repeat (first | (apply quiet_op; (focus (go_simp; done)); (focus (intro w2 hC; obtain ⟨hc, hf⟩ := bcell hC; clear hC; go_simp; (try go_bits); first | with_reducible rfl | with_reducible exact ⟨rfl, rfl⟩)); intro K hK; go_simp; (try go_bits); refine hK _ ?_; clear hK K) | (apply quiet_skip; (focus (go_simp; done)); intro K hK; go_simp; (try go_bits); refine hK _ ?_; clear hK K))); refine wpQuiet_nil ?_; intro w1 hb; obtain ⟨hc, hf⟩ := bcell hb; have hz := hb.size; (try simp at hz); (try have hzw0 : w.heap.size < w1.heap.size := by omega); (try have hzw1 : w.heap.size + 1 < w1.heap.size := by omega); (try have hzw2 : w.heap.size + 1 + 1 < w1.heap.size := by omega); (try have hzw3 : w.heap.size + 1 + 1 + 1 < w1.heap.size := by omega); (try have hzwr0 : wr.heap.size < w1.heap.size := by omega); (try have hzwr1 : wr.heap.size + 1 < w1.heap.size := by omega); (try have hzwr2 : wr.heap.size + 1 + 1 < w1.heap.size := by omega); (try have hzwr3 : wr.heap.size + 1 + 1 + 1 < w1.heap.size := by omega); (try have hzw20 : w2.heap.size < w1.heap.size := by omega); (try have hzw21 : w2.heap.size + 1 < w1.heap.size := by omega); (try have hzw30 : w3.heap.size < w1.heap.size := by omega); (try have hzw31 : w3.heap.size + 1 < w1.heap.size := by omega); (try have hzb : b < w1.heap.size := by omega); (try have hzb2 : b2 < w1.heap.size := by omega); (try have hzb3 : b3 < w1.heap.size := by omega); (try have hzb4 : b4 < w1.heap.size := by omega); (try have hzBs : Bs < w1.heap.size := by omega); (try have hcwb := fun o => (show Below w.heap.size w w1 by ((repeat' (first | with_reducible exact Below.refl _ _ | with_reducible assumption | (with_reducible refine Below.setCell ?_ (by first | omega | (simp; done) | (simp; omega)) _) | (with_reducible refine Below.alloc ?_ (by first | omega | (simp; done) | (simp; omega)) _) | (with_reducible refine Below.drew ?_) | (with_reducible refine Below.trans ?_ (Below.mono (by with_reducible assumption) (by first | omega | (simp; done) | (simp; omega)))))); first | done | fail)).cell (p := ⟨b, o, none⟩) (show b < w.heap.size by with_reducible assumption)); (try have hcwb2 := fun o => (show Below w.heap.size w w1 by ((repeat' (first | with_reducible exact Below.refl _ _ | with_reducible assumption | (with_reducible refine Below.setCell ?_ (by first | omega | (simp; done) | (simp; omega)) _) | (with_reducible refine Below.alloc ?_ (by first | omega | (simp; done) | (simp; omega)) _) | (with_reducible refine Below.drew ?_) | (with_reducible refine Below.trans ?_ (Below.mono (by with_reducible assumption) (by first | omega | (simp; done) | (simp; omega)))))); first | done | fail)).cell (p := ⟨b2, o, none⟩) (show b2 < w.heap.size by with_reducible assumption)); (try have hcwb3 := fun o => (show Below w.heap.size w w1 by ((repeat' (first | with_reducible exact Below.refl _ _ | with_reducible assumption | (with_reducible refine Below.setCell ?_ (by first | omega | (simp; done) | (simp; omega)) _) | (with_reducible refine Below.alloc ?_ (by first | omega | (simp; done) | (simp; omega)) _) | (with_reducible refine Below.drew ?_) | (with_reducible refine Below.trans ?_ (Below.mono (by with_reducible assumption) (by first | omega | (simp; done) | (simp; omega)))))); first | done | fail)).cell (p := ⟨b3, o, none⟩) (show b3 < w.heap.size by with_reducible assumption)); (try have hcwrb := fun o => (show Below wr.heap.size wr w1 by ((repeat' (first | with_reducible exact Below.refl _ _ | with_reducible assumption | (with_reducible refine Below.setCell ?_ (by first | omega | (simp; done) | (simp; omega)) _) | (with_reducible refine Below.alloc ?_ (by first | omega | (simp; done) | (simp; omega)) _) | (with_reducible refine Below.drew ?_) | (with_reducible refine Below.trans ?_ (Below.mono (by with_reducible assumption) (by first | omega | (simp; done) | (simp; omega)))))); first | done | fail)).cell (p := ⟨b, o, none⟩) (show b < wr.heap.size by with_reducible assumption)); (try have hcwrb2 := fun o => (show Below wr.heap.size wr w1 by ((repeat' (first | with_reducible exact Below.refl _ _ | with_reducible assumption | (with_reducible refine Below.setCell ?_ (by first | omega | (simp; done) | (simp; omega)) _) | (with_reducible refine Below.alloc ?_ (by first | omega | (simp; done) | (simp; omega)) _) | (with_reducible refine Below.drew ?_) | (with_reducible refine Below.trans ?_ (Below.mono (by with_reducible assumption) (by first | omega | (simp; done) | (simp; omega)))))); first | done | fail)).cell (p := ⟨b2, o, none⟩) (show b2 < wr.heap.size by with_reducible assumption)); (try have hcwrb3 := fun o => (show Below wr.heap.size wr w1 by ((repeat' (first | with_reducible exact Below.refl _ _ | with_reducible assumption | (with_reducible refine Below.setCell ?_ (by first | omega | (simp; done) | (simp; omega)) _) | (with_reducible refine Below.alloc ?_ (by first | omega | (simp; done) | (simp; omega)) _) | (with_reducible refine Below.drew ?_) | (with_reducible refine Below.trans ?_ (Below.mono (by with_reducible assumption) (by first | omega | (simp; done) | (simp; omega)))))); first | done | fail)).cell (p := ⟨b3, o, none⟩) (show b3 < wr.heap.size by with_reducible assumption)))
      go_wp2
      refine bodyPost_ret (v := .agg #[.int .i64 f1.1, .int .i64 f1.2, .int .i64 f2.1, .int .i64 f2.2, .int .i64 x1, .int .i64 x2]) (by simp only [results, Try.results98]; go_simp) rfl ⟨?_, ?_⟩
      · rw [Hfs.out, hpk.out]
      · have hw3 := HW2.out.trans (hb.mono (by omega))
        (repeat' (first | with_reducible exact Below.refl _ _ | with_reducible assumption | (with_reducible refine Below.setCell ?_ (by first | omega | (simp; done) | (simp; omega)) _) | (with_reducible refine Below.alloc ?_ (by first | omega | (simp; done) | (simp; omega)) _) | (with_reducible refine Below.drew ?_) | (with_reducible refine Below.trans ?_ (Below.mono (by with_reducible assumption) (by first | omega | (simp; done) | (simp; omega))))))

/-! over -/
def valF (ks : List (Int × Int)) (x : Int) : Int × Int := (valN ks x, valD ks x)
def overK (ks : List (Int × Int)) (lo hi : Int) : Pk := pkOf (cornX lo hi [⟨none, 0, ks, 0⟩]) ((cornX lo hi [⟨none, 0, ks, 0⟩]).map (valF ks))

theorem cornX_ks {lo hi : Int} {l l' : List Cur} (h : l.map (·.ks) = l'.map (·.ks)) : cornX lo hi l = cornX lo hi l' := by
  unfold cornX rawX
  have : (l.flatMap fun c => innerX lo hi c.ks) = l'.flatMap fun c => innerX lo hi c.ks := by
    have e1 : (l.flatMap fun c => innerX lo hi c.ks) = (l.map (·.ks)).flatMap (innerX lo hi) := by rw [List.flatMap_map]
    have e2 : (l'.flatMap fun c => innerX lo hi c.ks) = (l'.map (·.ks)).flatMap (innerX lo hi) := by rw [List.flatMap_map]
    rw [e1, e2, h]
  rw [this]

theorem uniq_mem {l : List Int} {x : Int} (h : x ∈ uniq l) : x ∈ l := by
  unfold uniq Lib.compact Lib.compactUpTo at h
  obtain ⟨i, hi, rfl⟩ := List.mem_map.1 h
  have hi2 := List.mem_range.1 (List.mem_filter.1 hi).1
  have : l.toArray[i]! = l[i] := by rw [getElem!_pos _ i (by simpa using hi2)]; simp
  rw [this]
  exact List.getElem_mem _
theorem cornX_mem {lo hi x : Int} {l : List Cur} (hlh : lo ≤ hi) (h : x ∈ cornX lo hi l) : lo ≤ x ∧ x ≤ hi := by
  have h1 := uniq_mem h
  have h2 : x ∈ rawX lo hi l := (List.mergeSort_perm _ _).mem_iff.1 h1
  unfold rawX at h2
  rcases List.mem_append.1 h2 with h3 | h3
  · simp at h3; omega
  · obtain ⟨c, hc, hx⟩ := List.mem_flatMap.1 h3
    unfold innerX at hx
    obtain ⟨k, hk, rfl⟩ := List.mem_map.1 hx
    have := (List.mem_filter.1 hk).2
    simp at this
    omega

theorem over1_any (W : World) (Bs : Nat) (A : Option Addr) (c : Nat) (ks : List (Int × Int)) (err x : Int) (v : Vd ks err) (h0 : -4000 ≤ x) (h1 : x ≤ 4000) (hb1 : W.cell? ⟨Bs, 0, none⟩ = some (.slice A ks.length c)) (hb2 : W.cell? ⟨Bs, 1, none⟩ = some (.int .i64 err)) (hk : KnAt W A ks) :
    Calls Try.prog 113 #[.int .i64 x, .pointer (some ⟨Bs, 0, none⟩)] W fun e W' => e = .returned (.agg #[.int .i64 (valN ks x), .int .i64 (valD ks x)]) ∧ Below W.heap.size W W' := by
  have hB : Bs < W.heap.size := World.block_lt_of_cell? _ _ hb1
  obtain ⟨w, rfl⟩ : ∃ w, w = W := ⟨_, rfl⟩
  go_enter Try.func113, Try.ntmps113
  go_wp2_with (go_at_call 67; ((with_reducible refine (value_any _ _ _ _ _ _ v h0 h1 (hk.below (by (repeat' (first | with_reducible exact Below.refl _ _ | with_reducible assumption | (with_reducible refine Below.setCell ?_ (by first | omega | (simp; done) | (simp; omega)) _) | (with_reducible refine Below.alloc ?_ (by first | omega | (simp; done) | (simp; omega)) _) | (with_reducible refine Below.drew ?_) | (with_reducible refine Below.trans ?_ (Below.mono (by with_reducible assumption) (by first | omega | (simp; done) | (simp; omega))))))))).mono ?_); rintro e w1 ⟨rfl, hb⟩; obtain ⟨hc, hf⟩ := bcell hb; have hz := hb.size; (try simp at hz); (try have hzw0 : w.heap.size < w1.heap.size := by omega); (try have hzw1 : w.heap.size + 1 < w1.heap.size := by omega); (try have hzw2 : w.heap.size + 1 + 1 < w1.heap.size := by omega); (try have hzw3 : w.heap.size + 1 + 1 + 1 < w1.heap.size := by omega); (try have hzwr0 : wr.heap.size < w1.heap.size := by omega); (try have hzwr1 : wr.heap.size + 1 < w1.heap.size := by omega); (try have hzwr2 : wr.heap.size + 1 + 1 < w1.heap.size := by omega); (try have hzwr3 : wr.heap.size + 1 + 1 + 1 < w1.heap.size := by omega); (try have hzw20 : w2.heap.size < w1.heap.size := by omega); (try have hzw21 : w2.heap.size + 1 < w1.heap.size := by omega); (try have hzw30 : w3.heap.size < w1.heap.size := by omega); (try have hzw31 : w3.heap.size + 1 < w1.heap.size := by omega); (try have hzb : b < w1.heap.size := by omega); (try have hzb2 : b2 < w1.heap.size := by omega); (try have hzb3 : b3 < w1.heap.size := by omega); (try have hzb4 : b4 < w1.heap.size := by omega); (try have hzBs : Bs < w1.heap.size := by omega); (try have hcwb := fun o => (show Below w.heap.size w w1 by ((repeat' (first | with_reducible exact Below.refl _ _ | with_reducible assumption | (with_reducible refine Below.setCell ?_ (by first | omega | (simp; done) | (simp; omega)) _) | (with_reducible refine Below.alloc ?_ (by first | omega | (simp; done) | (simp; omega)) _) | (with_reducible refine Below.drew ?_) | (with_reducible refine Below.trans ?_ (Below.mono (by with_reducible assumption) (by first | omega | (simp; done) | (simp; omega)))))); first | done | fail)).cell (p := ⟨b, o, none⟩) (show b < w.heap.size by with_reducible assumption)); (try have hcwb2 := fun o => (show Below w.heap.size w w1 by ((repeat' (first | with_reducible exact Below.refl _ _ | with_reducible assumption | (with_reducible refine Below.setCell ?_ (by first | omega | (simp; done) | (simp; omega)) _) | (with_reducible refine Below.alloc ?_ (by first | omega | (simp; done) | (simp; omega)) _) | (with_reducible refine Below.drew ?_) | (with_reducible refine Below.trans ?_ (Below.mono (by with_reducible assumption) (by first | omega | (simp; done) | (simp; omega)))))); first | done | fail)).cell (p := ⟨b2, o, none⟩) (show b2 < w.heap.size by with_reducible assumption)); (try have hcwb3 := fun o => (show Below w.heap.size w w1 by ((repeat' (first | with_reducible exact Below.refl _ _ | with_reducible assumption | (with_reducible refine Below.setCell ?_ (by first | omega | (simp; done) | (simp; omega)) _) | (with_reducible refine Below.alloc ?_ (by first | omega | (simp; done) | (simp; omega)) _) | (with_reducible refine Below.drew ?_) | (with_reducible refine Below.trans ?_ (Below.mono (by with_reducible assumption) (by first | omega | (simp; done) | (simp; omega)))))); first | done | fail)).cell (p := ⟨b3, o, none⟩) (show b3 < w.heap.size by with_reducible assumption)); (try have hcwrb := fun o => (show Below wr.heap.size wr w1 by ((repeat' (first | with_reducible exact Below.refl _ _ | with_reducible assumption | (with_reducible refine Below.setCell ?_ (by first | omega | (simp; done) | (simp; omega)) _) | (with_reducible refine Below.alloc ?_ (by first | omega | (simp; done) | (simp; omega)) _) | (with_reducible refine Below.drew ?_) | (with_reducible refine Below.trans ?_ (Below.mono (by with_reducible assumption) (by first | omega | (simp; done) | (simp; omega)))))); first | done | fail)).cell (p := ⟨b, o, none⟩) (show b < wr.heap.size by with_reducible assumption)); (try have hcwrb2 := fun o => (show Below wr.heap.size wr w1 by ((repeat' (first | with_reducible exact Below.refl _ _ | with_reducible assumption | (with_reducible refine Below.setCell ?_ (by first | omega | (simp; done) | (simp; omega)) _) | (with_reducible refine Below.alloc ?_ (by first | omega | (simp; done) | (simp; omega)) _) | (with_reducible refine Below.drew ?_) | (with_reducible refine Below.trans ?_ (Below.mono (by with_reducible assumption) (by first | omega | (simp; done) | (simp; omega)))))); first | done | fail)).cell (p := ⟨b2, o, none⟩) (show b2 < wr.heap.size by with_reducible assumption)); (try have hcwrb3 := fun o => (show Below wr.heap.size wr w1 by ((repeat' (first | with_reducible exact Below.refl _ _ | with_reducible assumption | (with_reducible refine Below.setCell ?_ (by first | omega | (simp; done) | (simp; omega)) _) | (with_reducible refine Below.alloc ?_ (by first | omega | (simp; done) | (simp; omega)) _) | (with_reducible refine Below.drew ?_) | (with_reducible refine Below.trans ?_ (Below.mono (by with_reducible assumption) (by first | omega | (simp; done) | (simp; omega)))))); first | done | fail)).cell (p := ⟨b3, o, none⟩) (show b3 < wr.heap.size by with_reducible assumption))))
  refine bodyPost_ret (v := .agg #[.int .i64 (valN ks x), .int .i64 (valD ks x)]) (by simp only [results, Try.results113]; go_simp) rfl ⟨rfl, ?_⟩
  (repeat' (first | with_reducible exact Below.refl _ _ | with_reducible assumption | (with_reducible refine Below.setCell ?_ (by first | omega | (simp; done) | (simp; omega)) _) | (with_reducible refine Below.alloc ?_ (by first | omega | (simp; done) | (simp; omega)) _) | (with_reducible refine Below.drew ?_) | (with_reducible refine Below.trans ?_ (Below.mono (by with_reducible assumption) (by first | omega | (simp; done) | (simp; omega))))))
end Go.Proofs.Ytcmjmdjhpmlomaa
