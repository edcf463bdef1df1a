/- The contracts of the reference's fractions. -/
import Derived.Test.YtcmjmdjhpmlomaaLowest
namespace Go.Proofs.Ytcmjmdjhpmlomaa
open Go.RowKit

set_option maxHeartbeats 400000 in
theorem rdiv_any (a b : Int) (ha : -2305843009213693952 ≤ a) (ha2 : a ≤ 2305843009213693952) (hb : 0 ≤ b) (hb2 : b ≤ 2305843009213693952) (w : World) :
    Calls Try.prog 107 #[.int .i64 a, .int .i64 b] w fun e w' => e = .returned (.int .i64 (Int.gcd a b)) ∧ Below w.heap.size w w' := by
  obtain ⟨p, hp⟩ : ∃ p : Int, p = if a < 0 then -a else a := ⟨_, rfl⟩
  have hp0 : 0 ≤ p := by rw [hp]; split <;> omega
  have hp2 : p ≤ 2305843009213693952 := by rw [hp]; split <;> omega
  have hg0 := Lib.hid (show Int.gcd p b = Int.gcd a b by rw [hp]; split <;> simp [Int.neg_gcd])
  by_cases h : a < 0
  · rw [if_pos h] at hp
    go_enter Try.func107, Try.ntmps107
    go_wp2
    go_loopw [0, 1] (fun x y wr => ∃ p q : Int, 0 ≤ p ∧ p ≤ 2305843009213693952 ∧ 0 ≤ q ∧ q ≤ 2305843009213693952 ∧ x = .int .i64 p ∧ y = .int .i64 q ∧ Hid (Int.gcd p q = Int.gcd a b) ∧ Below w.heap.size w wr) (fun _ y _ => (intOf y).natAbs)
    case atStart => exact ⟨-a, b, by omega, by omega, hb, hb2, rfl, rfl, hp ▸ hg0, Below.refl _ _⟩
    case round =>
      obtain ⟨p, q, h1, h2, h3, h4, rfl, rfl, hg, hbw⟩ := hrel
      by_cases hq : 0 < q
      · have hq0 : q ≠ 0 := by omega
        have k1 := Int.emod_nonneg p hq0
        have k2 := Int.emod_lt_of_pos p hq
        go_wp2
        go_region
        go_wp2
        refine ⟨⟨q, p % q, by omega, by omega, by omega, by omega, rfl, rfl, ?_, hbw.drew⟩, ?_⟩
        · show _ = _
          rw [← hg.out, ← Int.tmod_eq_emod_of_nonneg h1, Int.gcd_comm p q, ← gcd_step q p, Int.gcd_comm]
        · simp only [intOf]; omega
      · obtain rfl : q = 0 := by omega
        go_wp2
        go_ret
        refine ⟨ret_int ?_, hbw⟩
        rw [← hg.out, Int.gcd_zero_right]; omega
  · rw [if_neg h] at hp
    go_enter Try.func107, Try.ntmps107
    go_wp2
    go_loopw [0, 1] (fun x y wr => ∃ p q : Int, 0 ≤ p ∧ p ≤ 2305843009213693952 ∧ 0 ≤ q ∧ q ≤ 2305843009213693952 ∧ x = .int .i64 p ∧ y = .int .i64 q ∧ Hid (Int.gcd p q = Int.gcd a b) ∧ Below w.heap.size w wr) (fun _ y _ => (intOf y).natAbs)
    case atStart => exact ⟨a, b, by omega, by omega, hb, hb2, rfl, rfl, rfl, Below.refl _ _⟩
    case round =>
      obtain ⟨p, q, h1, h2, h3, h4, rfl, rfl, hg, hbw⟩ := hrel
      by_cases hq : 0 < q
      · have hq0 : q ≠ 0 := by omega
        have k1 := Int.emod_nonneg p hq0
        have k2 := Int.emod_lt_of_pos p hq
        go_wp2
        go_region
        go_wp2
        refine ⟨⟨q, p % q, by omega, by omega, by omega, by omega, rfl, rfl, ?_, hbw.drew⟩, ?_⟩
        · show _ = _
          rw [← hg.out, ← Int.tmod_eq_emod_of_nonneg h1, Int.gcd_comm p q, ← gcd_step q p, Int.gcd_comm]
        · simp only [intOf]; omega
      · obtain rfl : q = 0 := by omega
        go_wp2
        go_ret
        refine ⟨ret_int ?_, hbw⟩
        rw [← hg.out, Int.gcd_zero_right]; omega

/-! plain -/
theorem lo_mul {n d : Int} : loN n d * sg n d = n ∧ loD n d * sg n d = d := by
  have h1 : sg n d ∣ n := by unfold sg; split <;> simp [Int.neg_dvd, Int.gcd_dvd_left]
  have h2 : sg n d ∣ d := by unfold sg; split <;> simp [Int.neg_dvd, Int.gcd_dvd_right]
  exact ⟨Int.tdiv_mul_cancel h1, Int.tdiv_mul_cancel h2⟩
theorem sg_abs {n d : Int} : (sg n d).natAbs = Int.gcd n d := by unfold sg; split <;> simp
theorem lo_gcd {n d : Int} (h : d ≠ 0) : Int.gcd (loN n d) (loD n d) = 1 := by
  have h1 := Int.gcd_mul_right (loN n d) (sg n d) (loD n d)
  rw [lo_mul.1, lo_mul.2, sg_abs] at h1
  have h2 : 0 < Int.gcd n d := by have := Int.gcd_ne_zero_right (a := n) h; omega
  exact Nat.eq_of_mul_eq_mul_right h2 (by omega)
theorem loD_pos' {n d : Int} (h : d ≠ 0) : 0 < loD n d := by
  have h1 : loD n d * sg n d = d := lo_mul.2
  by_cases hd : d < 0
  · have : sg n d < 0 := by have := Int.gcd_ne_zero_right (a := n) h; unfold sg; rw [if_pos hd]; omega
    rcases Int.lt_trichotomy (loD n d) 0 with h2 | h2 | h2
    · have := Int.mul_pos_of_neg_of_neg h2 this; omega
    · rw [h2] at h1; omega
    · exact h2
  · have : 0 < sg n d := by have := Int.gcd_ne_zero_right (a := n) h; unfold sg; rw [if_neg hd]; omega
    rcases Int.lt_trichotomy (loD n d) 0 with h2 | h2 | h2
    · have := Int.mul_neg_of_neg_of_pos h2 this; omega
    · rw [h2] at h1; omega
    · exact h2
theorem isF_lo {n d : Int} (h : d ≠ 0) (hn : inB n 549755813888 = true) : isF (loN n d) (loD n d) = decide (loD n d ≤ 4194304) := by
  obtain ⟨h1, h2⟩ := inB_iff.1 hn
  have h3 := loN_bd (d := d) h1 h2
  have h4 := loD_pos' (n := n) h
  unfold isF
  rw [lo_gcd h, inB_iff.2 h3, decide_eq_true (show 1 ≤ loD n d by omega)]
  simp
theorem lo_pos {n d : Int} (h : 0 < d) : loN n d = n.tdiv (Int.gcd n d) ∧ loD n d = d.tdiv (Int.gcd n d) := by
  unfold loN loD sg; rw [if_neg (by omega)]; exact ⟨rfl, rfl⟩
theorem lo_neg {n d : Int} (h : d < 0) : loN (-n) (-d) = loN n d ∧ loD (-n) (-d) = loD n d := by
  have e : Int.gcd (-n) (-d) = Int.gcd n d := by simp [Int.neg_gcd, Int.gcd_neg]
  unfold loN loD sg
  rw [if_neg (by omega), if_pos h, e]
  simp [Int.neg_tdiv, Int.tdiv_neg]

set_option maxHeartbeats 1000000 in
theorem rlow_any (n d : Int) (hn : -2305843009213693952 ≤ n) (hn2 : n ≤ 2305843009213693952) (hd : 0 < d) (hd2 : d ≤ 2305843009213693952) (w : World) :
    Calls Try.prog 59 #[.int .i64 n, .int .i64 d] w fun e w' => e = .returned (.agg #[.int .i64 (loN n d), .int .i64 (loD n d)]) ∧ Below w.heap.size w w' := by
  obtain ⟨g1, g2⟩ := gcd_bd (n := n) (B := 2305843009213693952) (show d ≠ 0 by omega) (by omega) hd2
  obtain ⟨t1, t1'⟩ := tdiv_bd (b := (Int.gcd n d : Int)) hn hn2
  obtain ⟨t2, t2'⟩ := tdiv_bd (b := (Int.gcd n d : Int)) (show -2305843009213693952 ≤ d by omega) hd2
  have hr := Lib.hid (lo_pos (n := n) hd)
  have hv := rdiv_any n d hn hn2 (by omega) hd2
  generalize (Int.gcd n d : Int) = g at *
  have g0 : g ≠ 0 := by omega
  go_enter Try.func59, Try.ntmps59
  go_wp2_with (go_at_call 107; ((with_reducible refine (hv _).mono ?_); rintro e w1 ⟨rfl, hb⟩; obtain ⟨hc, hf⟩ := bcell hb; have hz := hb.size; (try simp at hz); (try have hzw0 : w.heap.size < w1.heap.size := by omega); (try have hzw1 : w.heap.size + 1 < w1.heap.size := by omega); (try have hzw2 : w.heap.size + 1 + 1 < w1.heap.size := by omega); (try have hzw3 : w.heap.size + 1 + 1 + 1 < w1.heap.size := by omega); (try have hzwr0 : wr.heap.size < w1.heap.size := by omega); (try have hzwr1 : wr.heap.size + 1 < w1.heap.size := by omega); (try have hzwr2 : wr.heap.size + 1 + 1 < w1.heap.size := by omega); (try have hzwr3 : wr.heap.size + 1 + 1 + 1 < w1.heap.size := by omega); (try have hzw20 : w2.heap.size < w1.heap.size := by omega); (try have hzw21 : w2.heap.size + 1 < w1.heap.size := by omega); (try have hzw30 : w3.heap.size < w1.heap.size := by omega); (try have hzw31 : w3.heap.size + 1 < w1.heap.size := by omega); (try have hzb : b < w1.heap.size := by omega); (try have hzb2 : b2 < w1.heap.size := by omega); (try have hzb3 : b3 < w1.heap.size := by omega); (try have hzb4 : b4 < w1.heap.size := by omega); (try have hzBs : Bs < w1.heap.size := by omega); (try have hcwb := fun o => (show Below w.heap.size w w1 by ((repeat' (first | with_reducible exact Below.refl _ _ | with_reducible assumption | (with_reducible refine Below.setCell ?_ (by first | omega | (simp; done) | (simp; omega)) _) | (with_reducible refine Below.alloc ?_ (by first | omega | (simp; done) | (simp; omega)) _) | (with_reducible refine Below.drew ?_) | (with_reducible refine Below.trans ?_ (Below.mono (by with_reducible assumption) (by first | omega | (simp; done) | (simp; omega)))))); first | done | fail)).cell (p := ⟨b, o, none⟩) (show b < w.heap.size by with_reducible assumption)); (try have hcwb2 := fun o => (show Below w.heap.size w w1 by ((repeat' (first | with_reducible exact Below.refl _ _ | with_reducible assumption | (with_reducible refine Below.setCell ?_ (by first | omega | (simp; done) | (simp; omega)) _) | (with_reducible refine Below.alloc ?_ (by first | omega | (simp; done) | (simp; omega)) _) | (with_reducible refine Below.drew ?_) | (with_reducible refine Below.trans ?_ (Below.mono (by with_reducible assumption) (by first | omega | (simp; done) | (simp; omega)))))); first | done | fail)).cell (p := ⟨b2, o, none⟩) (show b2 < w.heap.size by with_reducible assumption)); (try have hcwb3 := fun o => (show Below w.heap.size w w1 by ((repeat' (first | with_reducible exact Below.refl _ _ | with_reducible assumption | (with_reducible refine Below.setCell ?_ (by first | omega | (simp; done) | (simp; omega)) _) | (with_reducible refine Below.alloc ?_ (by first | omega | (simp; done) | (simp; omega)) _) | (with_reducible refine Below.drew ?_) | (with_reducible refine Below.trans ?_ (Below.mono (by with_reducible assumption) (by first | omega | (simp; done) | (simp; omega)))))); first | done | fail)).cell (p := ⟨b3, o, none⟩) (show b3 < w.heap.size by with_reducible assumption)); (try have hcwrb := fun o => (show Below wr.heap.size wr w1 by ((repeat' (first | with_reducible exact Below.refl _ _ | with_reducible assumption | (with_reducible refine Below.setCell ?_ (by first | omega | (simp; done) | (simp; omega)) _) | (with_reducible refine Below.alloc ?_ (by first | omega | (simp; done) | (simp; omega)) _) | (with_reducible refine Below.drew ?_) | (with_reducible refine Below.trans ?_ (Below.mono (by with_reducible assumption) (by first | omega | (simp; done) | (simp; omega)))))); first | done | fail)).cell (p := ⟨b, o, none⟩) (show b < wr.heap.size by with_reducible assumption)); (try have hcwrb2 := fun o => (show Below wr.heap.size wr w1 by ((repeat' (first | with_reducible exact Below.refl _ _ | with_reducible assumption | (with_reducible refine Below.setCell ?_ (by first | omega | (simp; done) | (simp; omega)) _) | (with_reducible refine Below.alloc ?_ (by first | omega | (simp; done) | (simp; omega)) _) | (with_reducible refine Below.drew ?_) | (with_reducible refine Below.trans ?_ (Below.mono (by with_reducible assumption) (by first | omega | (simp; done) | (simp; omega)))))); first | done | fail)).cell (p := ⟨b2, o, none⟩) (show b2 < wr.heap.size by with_reducible assumption)); (try have hcwrb3 := fun o => (show Below wr.heap.size wr w1 by ((repeat' (first | with_reducible exact Below.refl _ _ | with_reducible assumption | (with_reducible refine Below.setCell ?_ (by first | omega | (simp; done) | (simp; omega)) _) | (with_reducible refine Below.alloc ?_ (by first | omega | (simp; done) | (simp; omega)) _) | (with_reducible refine Below.drew ?_) | (with_reducible refine Below.trans ?_ (Below.mono (by with_reducible assumption) (by first | omega | (simp; done) | (simp; omega)))))); first | done | fail)).cell (p := ⟨b3, o, none⟩) (show b3 < wr.heap.size by with_reducible assumption))))
  go_region
  go_wp2
  refine bodyPost_ret (v := .agg #[.int .i64 (n.tdiv g), .int .i64 (d.tdiv g)]) (by simp only [results, Try.results59]; go_simp) rfl ⟨?_, ?_⟩
  · rw [hr.out.1, hr.out.2]
  · (repeat' (first | with_reducible exact Below.refl _ _ | with_reducible assumption | (with_reducible refine Below.setCell ?_ (by first | omega | (simp; done) | (simp; omega)) _) | (with_reducible refine Below.alloc ?_ (by first | omega | (simp; done) | (simp; omega)) _) | (with_reducible refine Below.drew ?_) | (with_reducible refine Below.trans ?_ (Below.mono (by with_reducible assumption) (by first | omega | (simp; done) | (simp; omega))))))

set_option maxHeartbeats 1000000 in
theorem rvalid_any (n d : Int) (w : World) :
    Calls Try.prog 60 #[.agg #[.int .i64 n, .int .i64 d]] w fun e w' => e = .returned (.bool (isF n d)) ∧ Below w.heap.size w w' := by
  by_cases h1 : 1 ≤ d
  · by_cases h2 : d ≤ 4194304
    · by_cases h3 : -549755813888 ≤ n
      · by_cases h4 : n ≤ 549755813888
        · have h3' : inB n 549755813888 = true := inB_iff.2 ⟨h3, h4⟩
          have hv := rdiv_any n d (by omega) (by omega) (by omega) (by omega)
          by_cases h5 : Int.gcd n d = 1
          · have e1 := Lib.hid (show isF n d = true by simp [isF, h1, h2, h3', h5])
            rw [h5] at hv
            go_enter Try.func60, Try.ntmps60
            go_wp2_with (go_at_call 107; ((with_reducible refine (hv _).mono ?_); rintro e w1 ⟨rfl, hb⟩; obtain ⟨hc, hf⟩ := bcell hb; have hz := hb.size; (try simp at hz); (try have hzw0 : w.heap.size < w1.heap.size := by omega); (try have hzw1 : w.heap.size + 1 < w1.heap.size := by omega); (try have hzw2 : w.heap.size + 1 + 1 < w1.heap.size := by omega); (try have hzw3 : w.heap.size + 1 + 1 + 1 < w1.heap.size := by omega); (try have hzwr0 : wr.heap.size < w1.heap.size := by omega); (try have hzwr1 : wr.heap.size + 1 < w1.heap.size := by omega); (try have hzwr2 : wr.heap.size + 1 + 1 < w1.heap.size := by omega); (try have hzwr3 : wr.heap.size + 1 + 1 + 1 < w1.heap.size := by omega); (try have hzw20 : w2.heap.size < w1.heap.size := by omega); (try have hzw21 : w2.heap.size + 1 < w1.heap.size := by omega); (try have hzw30 : w3.heap.size < w1.heap.size := by omega); (try have hzw31 : w3.heap.size + 1 < w1.heap.size := by omega); (try have hzb : b < w1.heap.size := by omega); (try have hzb2 : b2 < w1.heap.size := by omega); (try have hzb3 : b3 < w1.heap.size := by omega); (try have hzb4 : b4 < w1.heap.size := by omega); (try have hzBs : Bs < w1.heap.size := by omega); (try have hcwb := fun o => (show Below w.heap.size w w1 by ((repeat' (first | with_reducible exact Below.refl _ _ | with_reducible assumption | (with_reducible refine Below.setCell ?_ (by first | omega | (simp; done) | (simp; omega)) _) | (with_reducible refine Below.alloc ?_ (by first | omega | (simp; done) | (simp; omega)) _) | (with_reducible refine Below.drew ?_) | (with_reducible refine Below.trans ?_ (Below.mono (by with_reducible assumption) (by first | omega | (simp; done) | (simp; omega)))))); first | done | fail)).cell (p := ⟨b, o, none⟩) (show b < w.heap.size by with_reducible assumption)); (try have hcwb2 := fun o => (show Below w.heap.size w w1 by ((repeat' (first | with_reducible exact Below.refl _ _ | with_reducible assumption | (with_reducible refine Below.setCell ?_ (by first | omega | (simp; done) | (simp; omega)) _) | (with_reducible refine Below.alloc ?_ (by first | omega | (simp; done) | (simp; omega)) _) | (with_reducible refine Below.drew ?_) | (with_reducible refine Below.trans ?_ (Below.mono (by with_reducible assumption) (by first | omega | (simp; done) | (simp; omega)))))); first | done | fail)).cell (p := ⟨b2, o, none⟩) (show b2 < w.heap.size by with_reducible assumption)); (try have hcwb3 := fun o => (show Below w.heap.size w w1 by ((repeat' (first | with_reducible exact Below.refl _ _ | with_reducible assumption | (with_reducible refine Below.setCell ?_ (by first | omega | (simp; done) | (simp; omega)) _) | (with_reducible refine Below.alloc ?_ (by first | omega | (simp; done) | (simp; omega)) _) | (with_reducible refine Below.drew ?_) | (with_reducible refine Below.trans ?_ (Below.mono (by with_reducible assumption) (by first | omega | (simp; done) | (simp; omega)))))); first | done | fail)).cell (p := ⟨b3, o, none⟩) (show b3 < w.heap.size by with_reducible assumption)); (try have hcwrb := fun o => (show Below wr.heap.size wr w1 by ((repeat' (first | with_reducible exact Below.refl _ _ | with_reducible assumption | (with_reducible refine Below.setCell ?_ (by first | omega | (simp; done) | (simp; omega)) _) | (with_reducible refine Below.alloc ?_ (by first | omega | (simp; done) | (simp; omega)) _) | (with_reducible refine Below.drew ?_) | (with_reducible refine Below.trans ?_ (Below.mono (by with_reducible assumption) (by first | omega | (simp; done) | (simp; omega)))))); first | done | fail)).cell (p := ⟨b, o, none⟩) (show b < wr.heap.size by with_reducible assumption)); (try have hcwrb2 := fun o => (show Below wr.heap.size wr w1 by ((repeat' (first | with_reducible exact Below.refl _ _ | with_reducible assumption | (with_reducible refine Below.setCell ?_ (by first | omega | (simp; done) | (simp; omega)) _) | (with_reducible refine Below.alloc ?_ (by first | omega | (simp; done) | (simp; omega)) _) | (with_reducible refine Below.drew ?_) | (with_reducible refine Below.trans ?_ (Below.mono (by with_reducible assumption) (by first | omega | (simp; done) | (simp; omega)))))); first | done | fail)).cell (p := ⟨b2, o, none⟩) (show b2 < wr.heap.size by with_reducible assumption)); (try have hcwrb3 := fun o => (show Below wr.heap.size wr w1 by ((repeat' (first | with_reducible exact Below.refl _ _ | with_reducible assumption | (with_reducible refine Below.setCell ?_ (by first | omega | (simp; done) | (simp; omega)) _) | (with_reducible refine Below.alloc ?_ (by first | omega | (simp; done) | (simp; omega)) _) | (with_reducible refine Below.drew ?_) | (with_reducible refine Below.trans ?_ (Below.mono (by with_reducible assumption) (by first | omega | (simp; done) | (simp; omega)))))); first | done | fail)).cell (p := ⟨b3, o, none⟩) (show b3 < wr.heap.size by with_reducible assumption))))
            go_ret
            exact ⟨ret_bool e1.out.symm, by (repeat' (first | with_reducible exact Below.refl _ _ | with_reducible assumption | (with_reducible refine Below.setCell ?_ (by first | omega | (simp; done) | (simp; omega)) _) | (with_reducible refine Below.alloc ?_ (by first | omega | (simp; done) | (simp; omega)) _) | (with_reducible refine Below.drew ?_) | (with_reducible refine Below.trans ?_ (Below.mono (by with_reducible assumption) (by first | omega | (simp; done) | (simp; omega))))))⟩
          · have e1 := Lib.hid (show isF n d = false by simp [isF, h5])
            have h6 : ((Int.gcd n d : Int) == 1) = false := by simp; omega
            generalize (Int.gcd n d : Int) = g at *
            go_enter Try.func60, Try.ntmps60
            go_wp2_with (go_at_call 107; ((with_reducible refine (hv _).mono ?_); rintro e w1 ⟨rfl, hb⟩; obtain ⟨hc, hf⟩ := bcell hb; have hz := hb.size; (try simp at hz); (try have hzw0 : w.heap.size < w1.heap.size := by omega); (try have hzw1 : w.heap.size + 1 < w1.heap.size := by omega); (try have hzw2 : w.heap.size + 1 + 1 < w1.heap.size := by omega); (try have hzw3 : w.heap.size + 1 + 1 + 1 < w1.heap.size := by omega); (try have hzwr0 : wr.heap.size < w1.heap.size := by omega); (try have hzwr1 : wr.heap.size + 1 < w1.heap.size := by omega); (try have hzwr2 : wr.heap.size + 1 + 1 < w1.heap.size := by omega); (try have hzwr3 : wr.heap.size + 1 + 1 + 1 < w1.heap.size := by omega); (try have hzw20 : w2.heap.size < w1.heap.size := by omega); (try have hzw21 : w2.heap.size + 1 < w1.heap.size := by omega); (try have hzw30 : w3.heap.size < w1.heap.size := by omega); (try have hzw31 : w3.heap.size + 1 < w1.heap.size := by omega); (try have hzb : b < w1.heap.size := by omega); (try have hzb2 : b2 < w1.heap.size := by omega); (try have hzb3 : b3 < w1.heap.size := by omega); (try have hzb4 : b4 < w1.heap.size := by omega); (try have hzBs : Bs < w1.heap.size := by omega); (try have hcwb := fun o => (show Below w.heap.size w w1 by ((repeat' (first | with_reducible exact Below.refl _ _ | with_reducible assumption | (with_reducible refine Below.setCell ?_ (by first | omega | (simp; done) | (simp; omega)) _) | (with_reducible refine Below.alloc ?_ (by first | omega | (simp; done) | (simp; omega)) _) | (with_reducible refine Below.drew ?_) | (with_reducible refine Below.trans ?_ (Below.mono (by with_reducible assumption) (by first | omega | (simp; done) | (simp; omega)))))); first | done | fail)).cell (p := ⟨b, o, none⟩) (show b < w.heap.size by with_reducible assumption)); (try have hcwb2 := fun o => (show Below w.heap.size w w1 by ((repeat' (first | with_reducible exact Below.refl _ _ | with_reducible assumption | (with_reducible refine Below.setCell ?_ (by first | omega | (simp; done) | (simp; omega)) _) | (with_reducible refine Below.alloc ?_ (by first | omega | (simp; done) | (simp; omega)) _) | (with_reducible refine Below.drew ?_) | (with_reducible refine Below.trans ?_ (Below.mono (by with_reducible assumption) (by first | omega | (simp; done) | (simp; omega)))))); first | done | fail)).cell (p := ⟨b2, o, none⟩) (show b2 < w.heap.size by with_reducible assumption)); (try have hcwb3 := fun o => (show Below w.heap.size w w1 by ((repeat' (first | with_reducible exact Below.refl _ _ | with_reducible assumption | (with_reducible refine Below.setCell ?_ (by first | omega | (simp; done) | (simp; omega)) _) | (with_reducible refine Below.alloc ?_ (by first | omega | (simp; done) | (simp; omega)) _) | (with_reducible refine Below.drew ?_) | (with_reducible refine Below.trans ?_ (Below.mono (by with_reducible assumption) (by first | omega | (simp; done) | (simp; omega)))))); first | done | fail)).cell (p := ⟨b3, o, none⟩) (show b3 < w.heap.size by with_reducible assumption)); (try have hcwrb := fun o => (show Below wr.heap.size wr w1 by ((repeat' (first | with_reducible exact Below.refl _ _ | with_reducible assumption | (with_reducible refine Below.setCell ?_ (by first | omega | (simp; done) | (simp; omega)) _) | (with_reducible refine Below.alloc ?_ (by first | omega | (simp; done) | (simp; omega)) _) | (with_reducible refine Below.drew ?_) | (with_reducible refine Below.trans ?_ (Below.mono (by with_reducible assumption) (by first | omega | (simp; done) | (simp; omega)))))); first | done | fail)).cell (p := ⟨b, o, none⟩) (show b < wr.heap.size by with_reducible assumption)); (try have hcwrb2 := fun o => (show Below wr.heap.size wr w1 by ((repeat' (first | with_reducible exact Below.refl _ _ | with_reducible assumption | (with_reducible refine Below.setCell ?_ (by first | omega | (simp; done) | (simp; omega)) _) | (with_reducible refine Below.alloc ?_ (by first | omega | (simp; done) | (simp; omega)) _) | (with_reducible refine Below.drew ?_) | (with_reducible refine Below.trans ?_ (Below.mono (by with_reducible assumption) (by first | omega | (simp; done) | (simp; omega)))))); first | done | fail)).cell (p := ⟨b2, o, none⟩) (show b2 < wr.heap.size by with_reducible assumption)); (try have hcwrb3 := fun o => (show Below wr.heap.size wr w1 by ((repeat' (first | with_reducible exact Below.refl _ _ | with_reducible assumption | (with_reducible refine Below.setCell ?_ (by first | omega | (simp; done) | (simp; omega)) _) | (with_reducible refine Below.alloc ?_ (by first | omega | (simp; done) | (simp; omega)) _) | (with_reducible refine Below.drew ?_) | (with_reducible refine Below.trans ?_ (Below.mono (by with_reducible assumption) (by first | omega | (simp; done) | (simp; omega)))))); first | done | fail)).cell (p := ⟨b3, o, none⟩) (show b3 < wr.heap.size by with_reducible assumption))))
            go_ret
            exact ⟨ret_bool e1.out.symm, by (repeat' (first | with_reducible exact Below.refl _ _ | with_reducible assumption | (with_reducible refine Below.setCell ?_ (by first | omega | (simp; done) | (simp; omega)) _) | (with_reducible refine Below.alloc ?_ (by first | omega | (simp; done) | (simp; omega)) _) | (with_reducible refine Below.drew ?_) | (with_reducible refine Below.trans ?_ (Below.mono (by with_reducible assumption) (by first | omega | (simp; done) | (simp; omega))))))⟩
        · have e1 := Lib.hid (show isF n d = false by simp [isF, inB, h4])
          go_enter Try.func60, Try.ntmps60
          go_wp2
          go_ret
          exact ⟨ret_bool e1.out.symm, by (repeat' (first | with_reducible exact Below.refl _ _ | with_reducible assumption | (with_reducible refine Below.setCell ?_ (by first | omega | (simp; done) | (simp; omega)) _) | (with_reducible refine Below.alloc ?_ (by first | omega | (simp; done) | (simp; omega)) _) | (with_reducible refine Below.drew ?_) | (with_reducible refine Below.trans ?_ (Below.mono (by with_reducible assumption) (by first | omega | (simp; done) | (simp; omega))))))⟩
      · have e1 := Lib.hid (show isF n d = false by simp [isF, inB, h3])
        go_enter Try.func60, Try.ntmps60
        go_wp2
        go_ret
        exact ⟨ret_bool e1.out.symm, by (repeat' (first | with_reducible exact Below.refl _ _ | with_reducible assumption | (with_reducible refine Below.setCell ?_ (by first | omega | (simp; done) | (simp; omega)) _) | (with_reducible refine Below.alloc ?_ (by first | omega | (simp; done) | (simp; omega)) _) | (with_reducible refine Below.drew ?_) | (with_reducible refine Below.trans ?_ (Below.mono (by with_reducible assumption) (by first | omega | (simp; done) | (simp; omega))))))⟩
    · have e1 := Lib.hid (show isF n d = false by simp [isF, h2])
      go_enter Try.func60, Try.ntmps60
      go_wp2
      go_ret
      exact ⟨ret_bool e1.out.symm, by (repeat' (first | with_reducible exact Below.refl _ _ | with_reducible assumption | (with_reducible refine Below.setCell ?_ (by first | omega | (simp; done) | (simp; omega)) _) | (with_reducible refine Below.alloc ?_ (by first | omega | (simp; done) | (simp; omega)) _) | (with_reducible refine Below.drew ?_) | (with_reducible refine Below.trans ?_ (Below.mono (by with_reducible assumption) (by first | omega | (simp; done) | (simp; omega))))))⟩
  · have e1 := Lib.hid (show isF n d = false by simp [isF, h1])
    go_enter Try.func60, Try.ntmps60
    go_wp2
    go_ret
    exact ⟨ret_bool e1.out.symm, by (repeat' (first | with_reducible exact Below.refl _ _ | with_reducible assumption | (with_reducible refine Below.setCell ?_ (by first | omega | (simp; done) | (simp; omega)) _) | (with_reducible refine Below.alloc ?_ (by first | omega | (simp; done) | (simp; omega)) _) | (with_reducible refine Below.drew ?_) | (with_reducible refine Below.trans ?_ (Below.mono (by with_reducible assumption) (by first | omega | (simp; done) | (simp; omega))))))⟩
end Go.Proofs.Ytcmjmdjhpmlomaa
