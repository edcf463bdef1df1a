/- Contracts of package curve's functions on numbers and fractions. -/
import Derived.Test.YtcmjmdjhpmlomaaProg
import Derived.Test.YtcmjmdjhpmlomaaBase
namespace Go.Proofs.Ytcmjmdjhpmlomaa
open Go.RowKit

theorem within_any (n m : Int) (hm : 0 ≤ m) (hm2 : m ≤ 1000000000000000000) (w : World) :
    Calls Try.prog 57 #[.int .i64 n, .int .i64 m] w fun e w' => e = .returned (.bool (inB n m)) ∧ w = w' := by
  go_enter Try.func57, Try.ntmps57
  go_wp2
  · go_ret
    refine ⟨?_, rfl⟩
    have h1 : -m ≤ n := by assumption
    simp [inB, h1]
  · go_ret
    refine ⟨?_, rfl⟩
    have h1 : n < -m := by assumption
    simp [inB]; omega

set_option maxHeartbeats 400000 in
theorem divisor_any (a b : Int) (ha : -2305843009213693952 ≤ a) (ha2 : a ≤ 2305843009213693952) (hb : -2305843009213693952 ≤ b) (hb2 : b ≤ 2305843009213693952) (w : World) :
    Calls Try.prog 106 #[.int .i64 a, .int .i64 b] w fun e w' => e = .returned (.int .i64 (Int.gcd a b)) ∧ w = w' := by
  go_enter Try.func106, Try.ntmps106
  go_wp2
  go_loop [0, 1] (fun x y => ∃ p q : Int, -2305843009213693952 ≤ p ∧ p ≤ 2305843009213693952 ∧ -2305843009213693952 ≤ q ∧ q ≤ 2305843009213693952 ∧ x = .int .i64 p ∧ y = .int .i64 q ∧ Hid (Int.gcd p q = Int.gcd a b)) (fun x _ => (intOf x).natAbs)
  case atStart => exact ⟨a, b, ha, ha2, hb, hb2, rfl, rfl, rfl⟩
  case round =>
    obtain ⟨p, q, h1, h2, h3, h4, rfl, rfl, hg⟩ := hrel
    by_cases hp : p = 0
    · subst hp
      go_wp2
      · go_ret
        have h : q < -q := by assumption
        refine ⟨ret_int ?_, rfl⟩
        rw [← hg.out, Int.gcd_zero_left]; omega
      · go_ret
        have h : -q ≤ q := by assumption
        refine ⟨ret_int ?_, rfl⟩
        rw [← hg.out, Int.gcd_zero_left]; omega
    · go_wp2
      have k1 := Int.natAbs_tmod q p
      have k2 := Nat.mod_lt q.natAbs (show 0 < p.natAbs by omega)
      refine ⟨⟨q.tmod p, p, by omega, by omega, by omega, by omega, rfl, rfl, ?_⟩, ?_⟩
      · show _ = _
        rw [gcd_step]; exact hg.out
      · simp only [intOf]; omega

set_option maxHeartbeats 400000 in
theorem lowest_any (n d : Int) (hn : -2305843009213693952 ≤ n) (hn2 : n ≤ 2305843009213693952) (hd0 : d ≠ 0) (hd : -2305843009213693952 ≤ d) (hd2 : d ≤ 2305843009213693952) (w : World) :
    Calls Try.prog 58 #[.int .i64 n, .int .i64 d] w fun e w' => e = .returned (.agg #[.int .i64 (loN n d), .int .i64 (loD n d)]) ∧ Below w.heap.size w w' := by
  obtain ⟨g1, g2⟩ := gcd_bd (n := n) hd0 hd hd2
  obtain ⟨t1, t1'⟩ := tdiv_bd (b := (Int.gcd n d : Int)) hn hn2
  obtain ⟨t2, t2'⟩ := tdiv_bd (b := (Int.gcd n d : Int)) hd hd2
  by_cases h : d < 0
  · have e1 := Lib.hid (show loN n d = -n.tdiv (Int.gcd n d) by unfold loN sg; rw [if_pos h, Int.tdiv_neg])
    have e2 := Lib.hid (show loD n d = -d.tdiv (Int.gcd n d) by unfold loD sg; rw [if_pos h, Int.tdiv_neg])
    go_enter Try.func58, Try.ntmps58
    go_wp2_with (go_at_call 106; refine (divisor_any _ _ (by omega) (by omega) (by omega) (by omega) _).mono ?_; rintro e w' ⟨rfl, rfl⟩)
    go_region
    go_wp2
    refine bodyPost_ret (v := .agg #[.int .i64 (-n.tdiv (Int.gcd n d)), .int .i64 (-d.tdiv (Int.gcd n d))]) (by simp [results, Try.results58, go_sem]) rfl ⟨ret_frac e1.out.symm e2.out.symm, ?_⟩
    exact ((Below.refl _ _).alloc (Nat.le_refl _) _).drew
  · have e1 := Lib.hid (show loN n d = n.tdiv (Int.gcd n d) by unfold loN sg; rw [if_neg h])
    have e2 := Lib.hid (show loD n d = d.tdiv (Int.gcd n d) by unfold loD sg; rw [if_neg h])
    go_enter Try.func58, Try.ntmps58
    go_wp2_with (go_at_call 106; refine (divisor_any _ _ (by omega) (by omega) (by omega) (by omega) _).mono ?_; rintro e w' ⟨rfl, rfl⟩)
    go_region
    go_wp2
    refine bodyPost_ret (v := .agg #[.int .i64 (n.tdiv (Int.gcd n d)), .int .i64 (d.tdiv (Int.gcd n d))]) (by simp [results, Try.results58, go_sem]) rfl ⟨ret_frac e1.out.symm e2.out.symm, ?_⟩
    exact ((Below.refl _ _).alloc (Nat.le_refl _) _).drew

/-! cmp -/
theorem isNaN_any (x : Int) (w : World) :
    Calls Try.prog 125 #[.int .i64 x] w fun e w' => e = .returned (.bool false) ∧ w = w' := by
  go_enter Try.func125, Try.ntmps125
  go_wp2
  go_ret
  exact ⟨rfl, rfl⟩

set_option maxHeartbeats 400000 in
theorem cmp_any (x y : Int) (w : World) :
    Calls Try.prog 103 #[.int .i64 x, .int .i64 y] w fun e w' => e = .returned (.int .i64 (cmpI x y)) ∧ w = w' := by
  have hc := Lib.hid (show cmpI x y = if x < y then -1 else if y < x then 1 else 0 from rfl)
  go_enter Try.func103, Try.ntmps103
  go_wp2_with (go_at_call 125; refine (isNaN_any _ _).mono ?_; rintro e w' ⟨rfl, rfl⟩)
  all_goals (go_ret; refine ⟨ret_int ?_, rfl⟩; rw [hc.out]; (repeat' split) <;> first | rfl | omega)

/-- the products do not wrap -/
structure Small (a b : Int) : Prop where
  n1 : -1099511627776 ≤ a
  n2 : a ≤ 1099511627776
  d1 : -4194304 ≤ b
  d2 : b ≤ 4194304

theorem Small.mul {a b c d : Int} (h1 : Small a b) (h2 : Small c d) : -4611686018427387904 ≤ a * d ∧ a * d ≤ 4611686018427387904 :=
  mul_bd h1.n1 h1.n2 h2.d1 h2.d2
theorem Small.den {a b c d : Int} (h1 : Small a b) (h2 : Small c d) : -17592186044416 ≤ b * d ∧ b * d ≤ 17592186044416 :=
  mul_bd h1.d1 h1.d2 h2.d1 h2.d2

set_option maxHeartbeats 400000 in
theorem order_any (a b c d : Int) (h1 : Small a b) (h2 : Small c d) (w : World) :
    Calls Try.prog 62 #[.agg #[.int .i64 a, .int .i64 b], .agg #[.int .i64 c, .int .i64 d]] w fun e w' => e = .returned (.int .i64 (ordF a b c d)) ∧ Below w.heap.size w w' := by
  obtain ⟨p1, p2⟩ := h1.mul h2
  obtain ⟨p3, p4⟩ := h2.mul h1
  go_enter Try.func62, Try.ntmps62
  go_wp2_with (go_at_call 103; refine (cmp_any _ _ _).mono ?_; rintro e w' ⟨rfl, rfl⟩)
  go_ret
  exact ⟨rfl, ((Below.refl _ _).alloc (Nat.le_refl _) _).alloc (by simp) _⟩

set_option maxHeartbeats 400000 in
theorem isLess_any (a b c d : Int) (h1 : Small a b) (h2 : Small c d) (w : World) :
    Calls Try.prog 95 #[.agg #[.int .i64 a, .int .i64 b], .agg #[.int .i64 c, .int .i64 d]] w fun e w' => e = .returned (.bool (decide (ordF a b c d < 0))) ∧ Below w.heap.size w w' := by
  go_enter Try.func95, Try.ntmps95
  go_wp2_with (go_at_call 62; refine (order_any _ _ _ _ h1 h2 _).mono ?_; rintro e w' ⟨rfl, hb⟩)
  all_goals go_ret
  all_goals exact ⟨by simp [*], ((Below.refl _ _).alloc (Nat.le_refl _) _).alloc (by simp) _ |>.trans (hb.mono (by simp; omega))⟩

set_option maxHeartbeats 400000 in
theorem isMore_any (a b c d : Int) (h1 : Small a b) (h2 : Small c d) (w : World) :
    Calls Try.prog 83 #[.agg #[.int .i64 a, .int .i64 b], .agg #[.int .i64 c, .int .i64 d]] w fun e w' => e = .returned (.bool (decide (0 < ordF a b c d))) ∧ Below w.heap.size w w' := by
  go_enter Try.func83, Try.ntmps83
  go_wp2_with (go_at_call 62; refine (order_any _ _ _ _ h1 h2 _).mono ?_; rintro e w' ⟨rfl, hb⟩)
  all_goals go_ret
  all_goals exact ⟨by simp [*], ((Below.refl _ _).alloc (Nat.le_refl _) _).alloc (by simp) _ |>.trans (hb.mono (by simp; omega))⟩

set_option maxHeartbeats 400000 in
theorem plus_any (a b n : Int) (h1 : Small a b) (hn : -4000 ≤ n) (hn2 : n ≤ 4000) (w : World) :
    Calls Try.prog 111 #[.agg #[.int .i64 a, .int .i64 b], .int .i64 n] w fun e w' => e = .returned (.agg #[.int .i64 (a + n * b), .int .i64 b]) ∧ Below w.heap.size w w' := by
  obtain ⟨p1, p2⟩ := mul_bd hn hn2 h1.d1 h1.d2
  have q1 := h1.n1
  have q2 := h1.n2
  go_enter Try.func111, Try.ntmps111
  go_wp2
  refine bodyPost_ret (v := .agg #[.int .i64 (a + n * b), .int .i64 b]) (by simp [results, Try.results111, go_sem]) rfl ⟨rfl, ?_⟩
  exact ((Below.refl _ _).alloc (Nat.le_refl _) _).alloc (by simp) _

set_option maxHeartbeats 400000 in
theorem difference_any (a b c d : Int) (h1 : Small a b) (h2 : Small c d) (hb0 : b * d ≠ 0)
    (hd : -2305843009213693952 ≤ a * d - c * b) (hd2 : a * d - c * b ≤ 2305843009213693952) (w : World) :
    Calls Try.prog 101 #[.agg #[.int .i64 a, .int .i64 b], .agg #[.int .i64 c, .int .i64 d]] w fun e w' => e = .returned (.agg #[.int .i64 (loN (a * d - c * b) (b * d)), .int .i64 (loD (a * d - c * b) (b * d))]) ∧ Below w.heap.size w w' := by
  obtain ⟨p1, p2⟩ := h1.mul h2
  obtain ⟨p3, p4⟩ := h2.mul h1
  obtain ⟨p5, p6⟩ := h1.den h2
  go_enter Try.func101, Try.ntmps101
  go_wp2_with (go_at_call 58; ((with_reducible refine (lowest_any _ _ hd hd2 hb0 (by omega) (by omega) _).mono ?_); rintro e w1 ⟨rfl, hb⟩; obtain ⟨hc, hf⟩ := bcell hb; have hz := hb.size; (try simp at hz); (try have hzw0 : w.heap.size < w1.heap.size := by omega); (try have hzw1 : w.heap.size + 1 < w1.heap.size := by omega); (try have hzw2 : w.heap.size + 1 + 1 < w1.heap.size := by omega); (try have hzw3 : w.heap.size + 1 + 1 + 1 < w1.heap.size := by omega); (try have hzwr0 : wr.heap.size < w1.heap.size := by omega); (try have hzwr1 : wr.heap.size + 1 < w1.heap.size := by omega); (try have hzwr2 : wr.heap.size + 1 + 1 < w1.heap.size := by omega); (try have hzwr3 : wr.heap.size + 1 + 1 + 1 < w1.heap.size := by omega); (try have hzw20 : w2.heap.size < w1.heap.size := by omega); (try have hzw21 : w2.heap.size + 1 < w1.heap.size := by omega); (try have hzw30 : w3.heap.size < w1.heap.size := by omega); (try have hzw31 : w3.heap.size + 1 < w1.heap.size := by omega); (try have hzb : b < w1.heap.size := by omega); (try have hzb2 : b2 < w1.heap.size := by omega); (try have hzb3 : b3 < w1.heap.size := by omega); (try have hzb4 : b4 < w1.heap.size := by omega); (try have hzBs : Bs < w1.heap.size := by omega); (try have hcwb := fun o => (show Below w.heap.size w w1 by ((repeat' (first | with_reducible exact Below.refl _ _ | with_reducible assumption | (with_reducible refine Below.setCell ?_ (by first | omega | (simp; done) | (simp; omega)) _) | (with_reducible refine Below.alloc ?_ (by first | omega | (simp; done) | (simp; omega)) _) | (with_reducible refine Below.drew ?_) | (with_reducible refine Below.trans ?_ (Below.mono (by with_reducible assumption) (by first | omega | (simp; done) | (simp; omega)))))); first | done | fail)).cell (p := ⟨b, o, none⟩) (show b < w.heap.size by with_reducible assumption)); (try have hcwb2 := fun o => (show Below w.heap.size w w1 by ((repeat' (first | with_reducible exact Below.refl _ _ | with_reducible assumption | (with_reducible refine Below.setCell ?_ (by first | omega | (simp; done) | (simp; omega)) _) | (with_reducible refine Below.alloc ?_ (by first | omega | (simp; done) | (simp; omega)) _) | (with_reducible refine Below.drew ?_) | (with_reducible refine Below.trans ?_ (Below.mono (by with_reducible assumption) (by first | omega | (simp; done) | (simp; omega)))))); first | done | fail)).cell (p := ⟨b2, o, none⟩) (show b2 < w.heap.size by with_reducible assumption)); (try have hcwb3 := fun o => (show Below w.heap.size w w1 by ((repeat' (first | with_reducible exact Below.refl _ _ | with_reducible assumption | (with_reducible refine Below.setCell ?_ (by first | omega | (simp; done) | (simp; omega)) _) | (with_reducible refine Below.alloc ?_ (by first | omega | (simp; done) | (simp; omega)) _) | (with_reducible refine Below.drew ?_) | (with_reducible refine Below.trans ?_ (Below.mono (by with_reducible assumption) (by first | omega | (simp; done) | (simp; omega)))))); first | done | fail)).cell (p := ⟨b3, o, none⟩) (show b3 < w.heap.size by with_reducible assumption)); (try have hcwrb := fun o => (show Below wr.heap.size wr w1 by ((repeat' (first | with_reducible exact Below.refl _ _ | with_reducible assumption | (with_reducible refine Below.setCell ?_ (by first | omega | (simp; done) | (simp; omega)) _) | (with_reducible refine Below.alloc ?_ (by first | omega | (simp; done) | (simp; omega)) _) | (with_reducible refine Below.drew ?_) | (with_reducible refine Below.trans ?_ (Below.mono (by with_reducible assumption) (by first | omega | (simp; done) | (simp; omega)))))); first | done | fail)).cell (p := ⟨b, o, none⟩) (show b < wr.heap.size by with_reducible assumption)); (try have hcwrb2 := fun o => (show Below wr.heap.size wr w1 by ((repeat' (first | with_reducible exact Below.refl _ _ | with_reducible assumption | (with_reducible refine Below.setCell ?_ (by first | omega | (simp; done) | (simp; omega)) _) | (with_reducible refine Below.alloc ?_ (by first | omega | (simp; done) | (simp; omega)) _) | (with_reducible refine Below.drew ?_) | (with_reducible refine Below.trans ?_ (Below.mono (by with_reducible assumption) (by first | omega | (simp; done) | (simp; omega)))))); first | done | fail)).cell (p := ⟨b2, o, none⟩) (show b2 < wr.heap.size by with_reducible assumption)); (try have hcwrb3 := fun o => (show Below wr.heap.size wr w1 by ((repeat' (first | with_reducible exact Below.refl _ _ | with_reducible assumption | (with_reducible refine Below.setCell ?_ (by first | omega | (simp; done) | (simp; omega)) _) | (with_reducible refine Below.alloc ?_ (by first | omega | (simp; done) | (simp; omega)) _) | (with_reducible refine Below.drew ?_) | (with_reducible refine Below.trans ?_ (Below.mono (by with_reducible assumption) (by first | omega | (simp; done) | (simp; omega)))))); first | done | fail)).cell (p := ⟨b3, o, none⟩) (show b3 < wr.heap.size by with_reducible assumption))))
  refine bodyPost_ret (v := .agg #[.int .i64 (loN (a * d - c * b) (b * d)), .int .i64 (loD (a * d - c * b) (b * d))]) (by simp [results, Try.results101, go_sem, hc]) rfl ⟨rfl, ?_⟩
  (repeat' (first | with_reducible exact Below.refl _ _ | with_reducible assumption | (with_reducible refine Below.setCell ?_ (by first | omega | (simp; done) | (simp; omega)) _) | (with_reducible refine Below.alloc ?_ (by first | omega | (simp; done) | (simp; omega)) _) | (with_reducible refine Below.drew ?_) | (with_reducible refine Below.trans ?_ (Below.mono (by with_reducible assumption) (by first | omega | (simp; done) | (simp; omega))))))

theorem isSpan_any (a b : Int) (w : World) :
    Calls Try.prog 87 #[.agg #[.int .i64 a, .int .i64 b]] w fun e w' => e = .returned (.bool (decide (a ≤ b))) ∧ Below w.heap.size w w' := by
  go_enter Try.func87, Try.ntmps87
  go_wp2
  all_goals go_ret
  all_goals exact ⟨by simp [*], (Below.refl _ _).alloc (Nat.le_refl _) _⟩

/-! pieces and lines: (x0, y0) to (x1, y1) -/
theorem rise_any (x0 y0 x1 y1 : Int) (h1 : -200000 ≤ y0) (h2 : y0 ≤ 200000) (h3 : -200000 ≤ y1) (h4 : y1 ≤ 200000) (w : World) :
    Calls Try.prog 80 #[.agg #[.int .i64 x0, .int .i64 y0, .int .i64 x1, .int .i64 y1]] w fun e w' => e = .returned (.int .i64 (y1 - y0)) ∧ Below w.heap.size w w' := by
  go_enter Try.func80, Try.ntmps80
  go_wp2
  go_ret
  exact ⟨rfl, (Below.refl _ _).alloc (Nat.le_refl _) _⟩

theorem run_any (x0 y0 x1 y1 : Int) (h1 : -200000 ≤ x0) (h2 : x0 ≤ 200000) (h3 : -200000 ≤ x1) (h4 : x1 ≤ 200000) (w : World) :
    Calls Try.prog 81 #[.agg #[.int .i64 x0, .int .i64 y0, .int .i64 x1, .int .i64 y1]] w fun e w' => e = .returned (.int .i64 (x1 - x0)) ∧ Below w.heap.size w w' := by
  go_enter Try.func81, Try.ntmps81
  go_wp2
  go_ret
  exact ⟨rfl, (Below.refl _ _).alloc (Nat.le_refl _) _⟩

/-- a line through (x0, y0), and a number: nothing wraps -/
structure LineOk (x0 y0 ri ru : Int) : Prop where
  a1 : -4000 ≤ x0
  a2 : x0 ≤ 4000
  b1 : -200000 ≤ y0
  b2 : y0 ≤ 200000
  c1 : -200000 ≤ ri
  c2 : ri ≤ 200000
  d1 : 0 < ru
  d2 : ru ≤ 4000

theorem num_any (x0 y0 ri ru x : Int) (h : LineOk x0 y0 ri ru) (h1 : -4000 ≤ x) (h2 : x ≤ 4000) (w : World) :
    Calls Try.prog 126 #[.agg #[.int .i64 x0, .int .i64 y0, .int .i64 ri, .int .i64 ru], .int .i64 x] w fun e w' => e = .returned (.int .i64 (y0 * ru + ri * (x - x0))) ∧ Below w.heap.size w w' := by
  obtain ⟨a1, a2, b1, b2, c1, c2, d1, d2⟩ := h
  obtain ⟨p1, p2⟩ := mul_bd b1 b2 (show -4000 ≤ ru by omega) d2
  obtain ⟨p3, p4⟩ := mul_bd c1 c2 (show -8000 ≤ x - x0 by omega) (by omega)
  go_enter Try.func126, Try.ntmps126
  go_wp2
  go_ret
  exact ⟨rfl, (Below.refl _ _).alloc (Nat.le_refl _) _⟩

theorem at_any (x0 y0 ri ru x : Int) (h : LineOk x0 y0 ri ru) (h1 : -4000 ≤ x) (h2 : x ≤ 4000) (w : World) :
    Calls Try.prog 109 #[.agg #[.int .i64 x0, .int .i64 y0, .int .i64 ri, .int .i64 ru], .int .i64 x] w fun e w' =>
      e = .returned (.agg #[.int .i64 (loN (y0 * ru + ri * (x - x0)) ru), .int .i64 (loD (y0 * ru + ri * (x - x0)) ru)]) ∧ Below w.heap.size w w' := by
  obtain ⟨a1, a2, b1, b2, c1, c2, d1, d2⟩ := id h
  obtain ⟨p1, p2⟩ := mul_bd b1 b2 (show -4000 ≤ ru by omega) d2
  obtain ⟨p3, p4⟩ := mul_bd c1 c2 (show -8000 ≤ x - x0 by omega) (by omega)
  go_enter Try.func109, Try.ntmps109
  go_wp2
  (refine wp_region_below 6 (by kernel_rfl) (by kernel_rfl) ?_; simp only [List.take_succ_cons, List.take_zero, List.drop_succ_cons, List.drop_zero]; (repeat (first | (apply quiet_op; (focus (go_simp; done)); (focus (intro w2 hC; obtain ⟨hc, hf⟩ := bcell hC; clear hC; go_simp; (try go_bits); first | with_reducible rfl | with_reducible exact ⟨rfl, rfl⟩)); intro K hK; go_simp; (try go_bits); refine hK _ ?_; clear hK K) | (apply quiet_call; (focus (go_simp; done)); (focus (intro w2 hC; obtain ⟨hc, hf⟩ := bcell hC; clear hC; go_simp; (try go_bits); first | with_reducible rfl | with_reducible exact ⟨rfl, rfl⟩)); (focus (intro w2 hC; first | (go_at_call 126; with_reducible exact Calls.up hC (num_any _ _ _ _ _ h h1 h2 _)) | (go_at_call 58; with_reducible exact Calls.up hC (lowest_any _ _ (by omega) (by omega) (by omega) (by omega) (by omega) _)))); intro K hK; go_simp; (try go_bits); refine hK _ ?_; clear hK K) | (apply quiet_skip; (focus (go_simp; done)); intro K hK; go_simp; (try go_bits); refine hK _ ?_; clear hK K))); refine wpQuiet_nil ?_; intro w1 hb; obtain ⟨hc, hf⟩ := bcell hb; have hz := hb.size; (try simp at hz); (try have hzw0 : w.heap.size < w1.heap.size := by omega); (try have hzw1 : w.heap.size + 1 < w1.heap.size := by omega); (try have hzw2 : w.heap.size + 1 + 1 < w1.heap.size := by omega); (try have hzw3 : w.heap.size + 1 + 1 + 1 < w1.heap.size := by omega); (try have hzwr0 : wr.heap.size < w1.heap.size := by omega); (try have hzwr1 : wr.heap.size + 1 < w1.heap.size := by omega); (try have hzwr2 : wr.heap.size + 1 + 1 < w1.heap.size := by omega); (try have hzwr3 : wr.heap.size + 1 + 1 + 1 < w1.heap.size := by omega); (try have hzw20 : w2.heap.size < w1.heap.size := by omega); (try have hzw21 : w2.heap.size + 1 < w1.heap.size := by omega); (try have hzw30 : w3.heap.size < w1.heap.size := by omega); (try have hzw31 : w3.heap.size + 1 < w1.heap.size := by omega); (try have hzb : b < w1.heap.size := by omega); (try have hzb2 : b2 < w1.heap.size := by omega); (try have hzb3 : b3 < w1.heap.size := by omega); (try have hzb4 : b4 < w1.heap.size := by omega); (try have hzBs : Bs < w1.heap.size := by omega); (try have hcwb := fun o => (show Below w.heap.size w w1 by ((repeat' (first | with_reducible exact Below.refl _ _ | with_reducible assumption | (with_reducible refine Below.setCell ?_ (by first | omega | (simp; done) | (simp; omega)) _) | (with_reducible refine Below.alloc ?_ (by first | omega | (simp; done) | (simp; omega)) _) | (with_reducible refine Below.drew ?_) | (with_reducible refine Below.trans ?_ (Below.mono (by with_reducible assumption) (by first | omega | (simp; done) | (simp; omega)))))); first | done | fail)).cell (p := ⟨b, o, none⟩) (show b < w.heap.size by with_reducible assumption)); (try have hcwb2 := fun o => (show Below w.heap.size w w1 by ((repeat' (first | with_reducible exact Below.refl _ _ | with_reducible assumption | (with_reducible refine Below.setCell ?_ (by first | omega | (simp; done) | (simp; omega)) _) | (with_reducible refine Below.alloc ?_ (by first | omega | (simp; done) | (simp; omega)) _) | (with_reducible refine Below.drew ?_) | (with_reducible refine Below.trans ?_ (Below.mono (by with_reducible assumption) (by first | omega | (simp; done) | (simp; omega)))))); first | done | fail)).cell (p := ⟨b2, o, none⟩) (show b2 < w.heap.size by with_reducible assumption)); (try have hcwb3 := fun o => (show Below w.heap.size w w1 by ((repeat' (first | with_reducible exact Below.refl _ _ | with_reducible assumption | (with_reducible refine Below.setCell ?_ (by first | omega | (simp; done) | (simp; omega)) _) | (with_reducible refine Below.alloc ?_ (by first | omega | (simp; done) | (simp; omega)) _) | (with_reducible refine Below.drew ?_) | (with_reducible refine Below.trans ?_ (Below.mono (by with_reducible assumption) (by first | omega | (simp; done) | (simp; omega)))))); first | done | fail)).cell (p := ⟨b3, o, none⟩) (show b3 < w.heap.size by with_reducible assumption)); (try have hcwrb := fun o => (show Below wr.heap.size wr w1 by ((repeat' (first | with_reducible exact Below.refl _ _ | with_reducible assumption | (with_reducible refine Below.setCell ?_ (by first | omega | (simp; done) | (simp; omega)) _) | (with_reducible refine Below.alloc ?_ (by first | omega | (simp; done) | (simp; omega)) _) | (with_reducible refine Below.drew ?_) | (with_reducible refine Below.trans ?_ (Below.mono (by with_reducible assumption) (by first | omega | (simp; done) | (simp; omega)))))); first | done | fail)).cell (p := ⟨b, o, none⟩) (show b < wr.heap.size by with_reducible assumption)); (try have hcwrb2 := fun o => (show Below wr.heap.size wr w1 by ((repeat' (first | with_reducible exact Below.refl _ _ | with_reducible assumption | (with_reducible refine Below.setCell ?_ (by first | omega | (simp; done) | (simp; omega)) _) | (with_reducible refine Below.alloc ?_ (by first | omega | (simp; done) | (simp; omega)) _) | (with_reducible refine Below.drew ?_) | (with_reducible refine Below.trans ?_ (Below.mono (by with_reducible assumption) (by first | omega | (simp; done) | (simp; omega)))))); first | done | fail)).cell (p := ⟨b2, o, none⟩) (show b2 < wr.heap.size by with_reducible assumption)); (try have hcwrb3 := fun o => (show Below wr.heap.size wr w1 by ((repeat' (first | with_reducible exact Below.refl _ _ | with_reducible assumption | (with_reducible refine Below.setCell ?_ (by first | omega | (simp; done) | (simp; omega)) _) | (with_reducible refine Below.alloc ?_ (by first | omega | (simp; done) | (simp; omega)) _) | (with_reducible refine Below.drew ?_) | (with_reducible refine Below.trans ?_ (Below.mono (by with_reducible assumption) (by first | omega | (simp; done) | (simp; omega)))))); first | done | fail)).cell (p := ⟨b3, o, none⟩) (show b3 < wr.heap.size by with_reducible assumption)))
  go_wp2
  refine bodyPost_ret (v := .agg #[.int .i64 (loN (y0 * ru + ri * (x - x0)) ru), .int .i64 (loD (y0 * ru + ri * (x - x0)) ru)]) (by simp [results, Try.results109, go_sem, hc]) rfl ⟨rfl, ?_⟩
  (repeat' (first | with_reducible exact Below.refl _ _ | with_reducible assumption | (with_reducible refine Below.setCell ?_ (by first | omega | (simp; done) | (simp; omega)) _) | (with_reducible refine Below.alloc ?_ (by first | omega | (simp; done) | (simp; omega)) _) | (with_reducible refine Below.drew ?_) | (with_reducible refine Below.trans ?_ (Below.mono (by with_reducible assumption) (by first | omega | (simp; done) | (simp; omega))))))

theorem within_is {n m : Int} {b : Bool} (h : inB n m = b) (hm : 0 ≤ m) (hm2 : m ≤ 1000000000000000000) (w : World) :
    Calls Try.prog 57 #[.int .i64 n, .int .i64 m] w fun e w' => e = .returned (.bool b) ∧ w = w' := by
  have := within_any n m hm hm2 w
  rwa [h] at this
theorem loN_bd {n d B : Int} (h : -B ≤ n) (h2 : n ≤ B) : -B ≤ loN n d ∧ loN n d ≤ B := tdiv_bd h h2
/-- a fraction and an error -/
structure FE where
  n : Int
  d : Int
  e : Int
def FE.val (r : FE) : Value := .tuple #[.agg #[.int .i64 r.n, .int .i64 r.d], .int .i64 r.e]
end Go.Proofs.Ytcmjmdjhpmlomaa
