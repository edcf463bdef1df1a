/- The reference's divisor and Low over the calculator's memory. -/
import Derived.Test.YtbhklifflhoinaaGreatCr
namespace Go.Proofs.YtbhklifflhoinaaGreat
open Go.Proofs.YtbhklifflhoinaaGreat.Ev

def avF (r : FE) : AV := .tup [.agg [.int .i64 r.n, .int .i64 r.d], .int .i64 r.e]
def avR (r : RE) : AV := .tup [.agg [.int .i64 r.a, .int .i64 r.b, .int .i64 r.c, .int .i64 r.d], .int .i64 r.e]
set_option maxRecDepth 100000 in
set_option maxHeartbeats 4000000 in
theorem rdiv_con (h : Heap) (g : Gd h) (a b : Int) (ha : -2305843009213693952 ≤ a) (ha2 : a ≤ 2305843009213693952) (hb : 0 ≤ b) (hb2 : b ≤ 2305843009213693952) : Con Tryz.prog Bs 127 [.int .i64 a, .int .i64 b] h [] (.int .i64 (Int.gcd a b)) [] := by
  refine Con.start rfl Tryz.func127 rfl rfl Tryz.ntmps127 rfl rfl g ?_
  (refine WK.seq ?_; refine WK.region ?_; refine St.assign ?_; refine WO.nil ?_; refine WK.seq ?_; refine WK.seq ?_; refine WK.region ?_; refine St.move ?_; refine St.bin ?_; refine WO.nil ?_)
  refine St.splitC (fun hc => ?_) (fun hc => ?_)
  · (refine WK.region ?_; refine St.move ?_; refine St.unI ?_; refine St.assign ?_; refine WO.nil ?_; refine WK.seq ?_; refine WK.block ?_)
    refine WK.inv (ι := Int × Int) (fun z => [(0, .int .i64 z.1), (1, .int .i64 z.2)]) (fun _ => []) (fun z => 0 ≤ z.1 ∧ z.1 ≤ 2305843009213693952 ∧ 0 ≤ z.2 ∧ z.2 ≤ 2305843009213693952 ∧ Int.gcd z.1 z.2 = Int.gcd a b) (fun z => z.2.natAbs) (0 - a, b) ⟨?_, ?_, hb, hb2, ?_⟩ ⟨rfl, rfl, trivial⟩ (by (repeat (first | exact List.Sublist.refl _ | exact List.nil_sublist _ | apply List.Sublist.cons_cons | apply List.Sublist.cons))) ?_
    · show 0 ≤ 0 - a; simp at hc; omega
    · show 0 - a ≤ 2305843009213693952; simp at hc; omega
    · simp only [Int.zero_sub, Int.neg_gcd]
    rintro ⟨p, q⟩ ⟨h1, h2, h3, h4, hg⟩ ih
    simp only at h1 h2 h3 h4 hg ih ⊢
    (refine WK.seq ?_; refine WK.seq ?_; refine WK.region ?_; refine St.move ?_; refine St.bin ?_; refine WO.nil ?_)
    refine St.splitC (fun hq => ?_) (fun hq => ?_)
    · have hq : 0 < q := by simpa using hq
      have hq0 : (q == 0) = false := by simp; omega
      have k1 := Int.emod_nonneg p (show q ≠ 0 by omega)
      have k2 := Int.emod_lt_of_pos p hq
      (refine WK.skip ?_; refine WK.block ?_; refine WK.regionD ?_; refine St.move ?_; refine St.move ?_; refine St.move ?_)
      refine St.binX (r := .int .i64 (p % q)) ?_ rfl rfl ?_
      · unfold evBin evInt; simp [show q ≠ 0 by omega, Int.tmod_eq_emod_of_nonneg h1]
      (refine St.assign ?_; refine St.assign ?_; refine WO.nil ?_; refine WK.blk ?_)
      refine WK.le ?_ (by (repeat (first | exact List.Sublist.refl _ | exact List.nil_sublist _ | apply List.Sublist.cons_cons | apply List.Sublist.cons))) (ih (q, p % q) ⟨by omega, by omega, by omega, by omega, ?_⟩ (by simp only; omega))
      · exact ⟨rfl, rfl, trivial⟩
      · show Int.gcd q (p % q) = _
        rw [← hg, ← Int.tmod_eq_emod_of_nonneg h1, Int.gcd_comm p q, ← gcd_step q p, Int.gcd_comm]
    · have : q = 0 := by simp at hq; omega
      subst this
      (refine WK.exit ?_; refine WK.seq ?_; refine WK.region ?_; refine St.move ?_; refine St.assign ?_; refine WO.nil ?_)
      refine St.ret (by first | exact .tmp .nil | exact .cell .nil | exact .cell (.tmp .nil) | exact .tmp (.tmp .nil) | exact .cell (.cell .nil) | exact .tmp (.cell .nil) | exact .nil | exact .tmp (.cell (.tmp .nil)) | exact .cell (.tmp (.tmp .nil)) | exact .cell (.cell (.tmp .nil)) | exact .tmp (.tmp (.tmp .nil)) | exact .cell (.cell (.cell .nil))) ?_
      rw [← hg, Int.gcd_zero_right]
      simp [oneOf]; omega
  · (refine WK.skip ?_; refine WK.seq ?_; refine WK.block ?_)
    refine WK.inv (ι := Int × Int) (fun z => [(0, .int .i64 z.1), (1, .int .i64 z.2)]) (fun _ => []) (fun z => 0 ≤ z.1 ∧ z.1 ≤ 2305843009213693952 ∧ 0 ≤ z.2 ∧ z.2 ≤ 2305843009213693952 ∧ Int.gcd z.1 z.2 = Int.gcd a b) (fun z => z.2.natAbs) (a, b) ⟨?_, ?_, hb, hb2, ?_⟩ ⟨rfl, rfl, trivial⟩ (by (repeat (first | exact List.Sublist.refl _ | exact List.nil_sublist _ | apply List.Sublist.cons_cons | apply List.Sublist.cons))) ?_
    · show 0 ≤ a; simp at hc; omega
    · show a ≤ 2305843009213693952; simp at hc; omega
    · rfl
    rintro ⟨p, q⟩ ⟨h1, h2, h3, h4, hg⟩ ih
    simp only at h1 h2 h3 h4 hg ih ⊢
    (refine WK.seq ?_; refine WK.seq ?_; refine WK.region ?_; refine St.move ?_; refine St.bin ?_; refine WO.nil ?_)
    refine St.splitC (fun hq => ?_) (fun hq => ?_)
    · have hq : 0 < q := by simpa using hq
      have hq0 : (q == 0) = false := by simp; omega
      have k1 := Int.emod_nonneg p (show q ≠ 0 by omega)
      have k2 := Int.emod_lt_of_pos p hq
      (refine WK.skip ?_; refine WK.block ?_; refine WK.regionD ?_; refine St.move ?_; refine St.move ?_; refine St.move ?_)
      refine St.binX (r := .int .i64 (p % q)) ?_ rfl rfl ?_
      · unfold evBin evInt; simp [show q ≠ 0 by omega, Int.tmod_eq_emod_of_nonneg h1]
      (refine St.assign ?_; refine St.assign ?_; refine WO.nil ?_; refine WK.blk ?_)
      refine WK.le ?_ (by (repeat (first | exact List.Sublist.refl _ | exact List.nil_sublist _ | apply List.Sublist.cons_cons | apply List.Sublist.cons))) (ih (q, p % q) ⟨by omega, by omega, by omega, by omega, ?_⟩ (by simp only; omega))
      · exact ⟨rfl, rfl, trivial⟩
      · show Int.gcd q (p % q) = _
        rw [← hg, ← Int.tmod_eq_emod_of_nonneg h1, Int.gcd_comm p q, ← gcd_step q p, Int.gcd_comm]
    · have : q = 0 := by simp at hq; omega
      subst this
      (refine WK.exit ?_; refine WK.seq ?_; refine WK.region ?_; refine St.move ?_; refine St.assign ?_; refine WO.nil ?_)
      refine St.ret (by first | exact .tmp .nil | exact .cell .nil | exact .cell (.tmp .nil) | exact .tmp (.tmp .nil) | exact .cell (.cell .nil) | exact .tmp (.cell .nil) | exact .nil | exact .tmp (.cell (.tmp .nil)) | exact .cell (.tmp (.tmp .nil)) | exact .cell (.cell (.tmp .nil)) | exact .tmp (.tmp (.tmp .nil)) | exact .cell (.cell (.cell .nil))) ?_
      rw [← hg, Int.gcd_zero_right]
      simp [oneOf]; omega

set_option maxRecDepth 100000 in
set_option maxHeartbeats 4000000 in
theorem rlow_con (h : Heap) (g : Gd h) (n d : Int) (hn : -2305843009213693952 ≤ n) (hn2 : n ≤ 2305843009213693952) (hd : 0 < d) (hd2 : d ≤ 2305843009213693952) : Con Tryz.prog Bs 101 [.int .i64 n, .int .i64 d] h [] (.agg [.int .i64 (loN n d), .int .i64 (loD n d)]) [] := by
  obtain ⟨e1, e2⟩ := lo_pos (n := n) hd
  obtain ⟨g1, g2⟩ := gcd_bd (n := n) (d := d) (B := 2305843009213693952) (by omega) (by omega) hd2
  have b1 := tdiv_bd (b := (Int.gcd n d : Int)) hn hn2
  have b2 := tdiv_bd (a := d) (B := 2305843009213693952) (b := (Int.gcd n d : Int)) (by omega) hd2
  refine Con.start rfl Tryz.func101 rfl rfl Tryz.ntmps101 rfl rfl g ?_
  (refine WK.seq ?_; refine WK.region ?_; refine St.alloc fun _ _ => ?_; refine WO.nil ?_; refine WK.seq ?_; refine WK.region ?_; refine St.move ?_; refine St.move ?_)
  refine St.call (fun _ => rfl) (fun h hh => rdiv_con h hh.gd n d hn hn2 (by omega) hd2) ?_
  (refine St.assign ?_; refine WO.nil ?_; refine WK.seq ?_; refine WK.regionD ?_; refine St.move ?_; refine St.move ?_)
  refine St.binX (r := .int .i64 (loN n d)) ?_ rfl rfl ?_
  · unfold evBin evInt; rw [e1]; simp [wrap_ok (n := n.tdiv (Int.gcd n d)) (by omega)]; omega
  (refine St.move ?_; refine St.move ?_)
  refine St.binX (r := .int .i64 (loD n d)) ?_ rfl rfl ?_
  · unfold evBin evInt; rw [e2]; simp [wrap_ok (n := d.tdiv (Int.gcd n d)) (by omega)]; omega
  (refine St.build ?_; refine StD.store0 ?_; refine WO.nil ?_)
  refine St.ret (by first | exact .tmp .nil | exact .cell .nil | exact .cell (.tmp .nil) | exact .tmp (.tmp .nil) | exact .cell (.cell .nil) | exact .tmp (.cell .nil) | exact .nil | exact .tmp (.cell (.tmp .nil)) | exact .cell (.tmp (.tmp .nil)) | exact .cell (.cell (.tmp .nil)) | exact .tmp (.tmp (.tmp .nil)) | exact .cell (.cell (.cell .nil))) ?_
  rfl
end Go.Proofs.YtbhklifflhoinaaGreat
