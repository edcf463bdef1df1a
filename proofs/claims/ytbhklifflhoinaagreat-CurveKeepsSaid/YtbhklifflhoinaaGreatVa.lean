/- lineOver, value, around over the calculator's memory. -/
import Derived.Test.YtbhklifflhoinaaGreatIw
import Derived.Test.YtbhklifflhoinaaGreatEv6
namespace Go.Proofs.YtbhklifflhoinaaGreat
open Go.Proofs.YtbhklifflhoinaaGreat.Ev

set_option maxRecDepth 100000 in
set_option maxHeartbeats 4000000 in
theorem lineOver1_con (h : Heap) (g : Gd h) (lo hi x0 y0 x1 y1 : Int) (j : Nat) (hj : Rds h j 0 [.int .i64 lo, .int .i64 hi]) : Con Tryz.prog Bs 126 [.agg [.int .i64 x0, .int .i64 y0, .int .i64 x1, .int .i64 y1], .ptr j 0] h [] (.bool (decide (x0 ≤ lo) && decide (hi ≤ x1))) [] := by
  refine Con.start rfl Tryz.func126 rfl rfl Tryz.ntmps126 rfl rfl g ?_
  (refine WK.seq ?_; refine WK.region ?_; refine St.box fun _ _ => ?_; refine St.assign ?_; refine WO.nil ?_; refine WK.seq ?_; refine WK.region ?_; refine St.fieldAddr ?_; refine St.fieldAddr ?_; refine St.load ?_; refine St.fieldAddr ?_)
  refine St.loadX (fun h hh => (hh.rd (by simp) hj.1).one rfl) ?_
  (refine St.bin ?_; refine St.move ?_)
  refine St.split (fun hc => ?_) (fun hc => ?_)
  · (refine St.fieldAddr ?_)
    refine St.loadX (fun h hh => (hh.rd (by simp) hj.2.1).one rfl) ?_
    (refine St.fieldAddr ?_; refine St.fieldAddr ?_; refine St.load ?_; refine St.bin ?_; refine St.pickT ?_; refine St.assign ?_; refine WO.nil ?_)
    refine St.ret (by first | exact .tmp .nil | exact .cell .nil | exact .cell (.tmp .nil) | exact .tmp (.tmp .nil) | exact .cell (.cell .nil) | exact .tmp (.cell .nil) | exact .nil | exact .tmp (.cell (.tmp .nil)) | exact .cell (.tmp (.tmp .nil)) | exact .cell (.cell (.tmp .nil)) | exact .tmp (.tmp (.tmp .nil)) | exact .cell (.cell (.cell .nil))) ?_
    have hc' : x0 ≤ lo := of_decide_eq_true hc
    show AV.bool (decide (hi ≤ x1)) = _
    rw [decide_eq_true hc', Bool.true_and]
  · (refine St.skip ?_; refine St.skip ?_; refine St.skip ?_; refine St.skip ?_; refine St.skip ?_; refine St.skip ?_; refine St.pickF ?_; refine St.assign ?_; refine WO.nil ?_)
    refine St.ret (by first | exact .tmp .nil | exact .cell .nil | exact .cell (.tmp .nil) | exact .tmp (.tmp .nil) | exact .cell (.cell .nil) | exact .tmp (.cell .nil) | exact .nil | exact .tmp (.cell (.tmp .nil)) | exact .cell (.tmp (.tmp .nil)) | exact .cell (.cell (.tmp .nil)) | exact .tmp (.tmp (.tmp .nil)) | exact .cell (.cell (.cell .nil))) ?_
    have hc' : ¬ x0 ≤ lo := of_decide_eq_false hc
    show AV.bool false = _
    rw [decide_eq_false hc', Bool.false_and]

theorem Ev.Vw.rdsO {h0 h : Heap} {W : List Nat} {V : Ob} {j : Nat} {a b : AV} {l : List AV} {t : TypeId} (k : Vw h0 W V h) (hm : (j, .cells l t) ∈ V) (hl : l = [a, b]) : Rds h j 0 [a, b] := by
  subst hl
  exact ⟨k.rdO hm rfl, k.rdO hm rfl, trivial⟩
set_option maxRecDepth 100000 in
set_option maxHeartbeats 4000000 in
theorem lineOver_con (h : Heap) (g : Gd h) (b off : Nat) (c : ACap) (ks : List (Int × Int)) (err lo hi : Int) (v : Vd ks err) (hk : KnH h b off ks) : Con Tryz.prog Bs 99 [.agg [.slice b off ks.length c, .int .i64 err], .agg [.int .i64 lo, .int .i64 hi]] h [] (.agg [.int .i64 (lnOf ks lo hi).x0, .int .i64 (lnOf ks lo hi).y0, .int .i64 (lnOf ks lo hi).ri, .int .i64 (lnOf ks lo hi).ru]) [] := by
  have hpos := v.pos
  have hlen : ks.length ≤ 40 := v.le
  have F : ∀ (h : Heap) (j : Nat) (_ : Gd h) (_ : KnH h b off ks) (_ : Rds h j 0 [.int .i64 lo, .int .i64 hi]), Con Tryz.prog Bs 107 [.agg [.slice b off ks.length c, .int .i64 err], .fn (.func 126) [] [.ptr j 0]] h [] (.tup [pcF ks (firstPc ks (inPc ks lo hi)), .bool (firstPc ks (inPc ks lo hi)).isSome]) [] := fun h j g hk hj => find_pc h g b off c ks err 126 [] [.ptr j 0] (inPc ks lo hi) (by omega) hpos hk (fun k hk1 h' V hv =>
    lineOver1_con h' hv.gd lo hi _ _ _ _ j (hv.rds (by simp) hj))
  cases e : firstPc ks (inPc ks lo hi) with
  | none =>
    have e1 : lnOf ks lo hi = ⟨kx ks 0, ky ks 0, 0, 1⟩ := by unfold lnOf; rw [e]; rfl
    rw [e] at F
    rw [e1]
    refine Con.start rfl Tryz.func99 rfl rfl Tryz.ntmps99 rfl rfl g ?_
    (refine WK.seq ?_; refine WK.region ?_; refine St.box fun _ _ => ?_; refine St.box fun _ _ => ?_; refine St.alloc fun _ _ => ?_; refine WO.nil ?_; refine WK.seq ?_; refine WK.region ?_; refine St.load ?_; refine St.fn ?_)
    rename_i p hp q hq r hr
    refine St.call (fun _ => rfl) (fun h hh => F h q hh.gd (hk.vw hh) (hh.rdsO (l := [.int .i64 lo, .int .i64 hi]) (t := 27) (.tail _ (.head _)) rfl)) ?_
    (refine St.move ?_; refine St.extract ?_; refine St.extract ?_; refine St.alloc fun _ _ => ?_; refine St.store0 ?_; refine St.assign ?_; refine WO.nil ?_; refine WK.seq ?_; refine WK.seq ?_; refine WK.region ?_; refine St.move ?_; refine St.un ?_; refine WO.nil ?_; refine WK.condT ?_; refine WK.seq ?_; refine WK.region ?_; refine St.fieldAddr ?_; refine St.load ?_)
    refine St.at ?_
    skip
    refine St.loadX (fun h hh => ((hk.vw hh).at_ (z := 0) (n := 0) (by omega) (by omega)).agg (by simp) rfl rfl rfl) ?_
    (refine St.build ?_; refine St.store1 ?_; refine WO.nil ?_)
    refine St.ret (by first | exact .tmp .nil | exact .cell .nil | exact .cell (.tmp .nil) | exact .tmp (.tmp .nil) | exact .cell (.cell .nil) | exact .tmp (.cell .nil) | exact .nil | exact .tmp (.cell (.tmp .nil)) | exact .cell (.tmp (.tmp .nil)) | exact .cell (.cell (.tmp .nil)) | exact .tmp (.tmp (.tmp .nil)) | exact .cell (.cell (.cell .nil))) ?_
    rfl
  | some i =>
    have e1 : lnOf ks lo hi = ⟨kx ks i, ky ks i, ky ks (i + 1) - ky ks i, kx ks (i + 1) - kx ks i⟩ := by unfold lnOf; rw [e]; rfl
    have hi1 := firstPc_lt e
    obtain ⟨⟨a2, a3⟩, ⟨a6, a7⟩, a0, a4, a5⟩ := v.pc hi1
    rw [e] at F
    rw [e1]
    refine Con.start rfl Tryz.func99 rfl rfl Tryz.ntmps99 rfl rfl g ?_
    (refine WK.seq ?_; refine WK.region ?_; refine St.box fun _ _ => ?_; refine St.box fun _ _ => ?_; refine St.alloc fun _ _ => ?_; refine WO.nil ?_; refine WK.seq ?_; refine WK.region ?_; refine St.load ?_; refine St.fn ?_)
    rename_i p hp q hq r hr
    refine St.call (fun _ => rfl) (fun h hh => F h q hh.gd (hk.vw hh) (hh.rdsO (l := [.int .i64 lo, .int .i64 hi]) (t := 27) (.tail _ (.head _)) rfl)) ?_
    (refine St.move ?_; refine St.extract ?_; refine St.extract ?_; refine St.alloc fun _ _ => ?_; refine St.store0 ?_; refine St.assign ?_; refine WO.nil ?_; refine WK.seq ?_; refine WK.seq ?_; refine WK.region ?_; refine St.move ?_; refine St.un ?_; refine WO.nil ?_; refine WK.condF ?_; refine WK.skip ?_; refine WK.seq ?_; refine WK.regionD ?_; refine St.fieldAddr ?_; refine St.load ?_; refine St.load ?_)
    refine St.call (fun _ => rfl) (fun h hh => rise_con h hh.gd (kx ks i) (ky ks i) (kx ks (i + 1)) (ky ks (i + 1)) (by omega) (by omega) (by omega) (by omega)) ?_
    (refine St.load ?_)
    refine St.call (fun _ => rfl) (fun h hh => run_con h hh.gd (kx ks i) (ky ks i) (kx ks (i + 1)) (ky ks (i + 1)) (by omega) (by omega) (by omega) (by omega)) ?_
    (refine St.build ?_; refine StD.store1 ?_; refine WO.nil ?_)
    refine St.ret (by first | exact .tmp .nil | exact .cell .nil | exact .cell (.tmp .nil) | exact .tmp (.tmp .nil) | exact .cell (.cell .nil) | exact .tmp (.cell .nil) | exact .nil | exact .tmp (.cell (.tmp .nil)) | exact .cell (.tmp (.tmp .nil)) | exact .cell (.cell (.tmp .nil)) | exact .tmp (.tmp (.tmp .nil)) | exact .cell (.cell (.cell .nil))) ?_
    rfl

set_option maxRecDepth 100000 in
set_option maxHeartbeats 4000000 in
theorem num_con (h : Heap) (g : Gd h) (x0 y0 ri ru x : Int) (hl : LineOk x0 y0 ri ru) (h0 : -4000 ≤ x) (h1 : x ≤ 4000) : Con Tryz.prog Bs 103 [.agg [.int .i64 x0, .int .i64 y0, .int .i64 ri, .int .i64 ru], .int .i64 x] h [] (.int .i64 (y0 * ru + ri * (x - x0))) [] := by
  obtain ⟨a1, a2, b1, b2, c1, c2, d1, d2⟩ := hl
  obtain ⟨p1, p2⟩ := mul_bd b1 b2 (show -4000 ≤ ru by omega) d2
  obtain ⟨p3, p4⟩ := mul_bd c1 c2 (show -8000 ≤ x - x0 by omega) (show x - x0 ≤ 8000 by omega)
  refine Con.start rfl Tryz.func103 rfl rfl Tryz.ntmps103 rfl rfl g ?_
  (refine WK.seq ?_; refine WK.region ?_; refine St.box fun _ _ => ?_; refine St.assign ?_; refine WO.nil ?_; refine WK.seq ?_; refine WK.region ?_; refine St.fieldAddr ?_; refine St.fieldAddr ?_; refine St.load ?_; refine St.fieldAddr ?_; refine St.load ?_; refine St.binI ?_; refine St.fieldAddr ?_; refine St.load ?_; refine St.move ?_; refine St.fieldAddr ?_; refine St.fieldAddr ?_; refine St.load ?_; refine St.binI ?_; refine St.binI ?_; refine St.binI ?_; refine St.assign ?_; refine WO.nil ?_)
  refine St.ret (by first | exact .tmp .nil | exact .cell .nil | exact .cell (.tmp .nil) | exact .tmp (.tmp .nil) | exact .cell (.cell .nil) | exact .tmp (.cell .nil) | exact .nil | exact .tmp (.cell (.tmp .nil)) | exact .cell (.tmp (.tmp .nil)) | exact .cell (.cell (.tmp .nil)) | exact .tmp (.tmp (.tmp .nil)) | exact .cell (.cell (.cell .nil))) ?_
  rfl
set_option maxRecDepth 100000 in
set_option maxHeartbeats 4000000 in
theorem at_con (h : Heap) (g : Gd h) (x0 y0 ri ru x : Int) (hl : LineOk x0 y0 ri ru) (h0 : -4000 ≤ x) (h1 : x ≤ 4000) : Con Tryz.prog Bs 100 [.agg [.int .i64 x0, .int .i64 y0, .int .i64 ri, .int .i64 ru], .int .i64 x] h [] (.agg [.int .i64 (loN (y0 * ru + ri * (x - x0)) ru), .int .i64 (loD (y0 * ru + ri * (x - x0)) ru)]) [] := by
  have hl' := hl
  obtain ⟨a1, a2, b1, b2, c1, c2, d1, d2⟩ := hl'
  obtain ⟨p1, p2⟩ := mul_bd b1 b2 (show -4000 ≤ ru by omega) d2
  obtain ⟨p3, p4⟩ := mul_bd c1 c2 (show -8000 ≤ x - x0 by omega) (show x - x0 ≤ 8000 by omega)
  refine Con.start rfl Tryz.func100 rfl rfl Tryz.ntmps100 rfl rfl g ?_
  (refine WK.seq ?_; refine WK.region ?_; refine St.box fun _ _ => ?_; refine St.alloc fun _ _ => ?_; refine WO.nil ?_; refine WK.seq ?_; refine WK.regionD ?_; refine St.load ?_; refine St.move ?_)
  refine St.call (fun _ => rfl) (fun h hh => num_con h hh.gd x0 y0 ri ru x hl h0 h1) ?_
  (refine St.fieldAddr ?_; refine St.load ?_)
  refine St.call (fun _ => rfl) (fun h hh => lowest_con h hh.gd (y0 * ru + ri * (x - x0)) ru (by omega) (by omega) (by omega) (by omega) (by omega)) ?_
  (refine StD.store0 ?_; refine WO.nil ?_)
  refine St.ret (by first | exact .tmp .nil | exact .cell .nil | exact .cell (.tmp .nil) | exact .tmp (.tmp .nil) | exact .cell (.cell .nil) | exact .tmp (.cell .nil) | exact .nil | exact .tmp (.cell (.tmp .nil)) | exact .cell (.tmp (.tmp .nil)) | exact .cell (.cell (.tmp .nil)) | exact .tmp (.tmp (.tmp .nil)) | exact .cell (.cell (.cell .nil))) ?_
  rfl
set_option maxRecDepth 100000 in
set_option maxHeartbeats 4000000 in
theorem value_con (h : Heap) (g : Gd h) (b off : Nat) (c : ACap) (ks : List (Int × Int)) (err x : Int) (v : Vd ks err) (hk : KnH h b off ks) (h0 : -4000 ≤ x) (h1 : x ≤ 4000) : Con Tryz.prog Bs 57 [.agg [.slice b off ks.length c, .int .i64 err], .int .i64 x] h [] (.agg [.int .i64 (valN ks x), .int .i64 (valD ks x)]) [] := by
  refine Con.start rfl Tryz.func57 rfl rfl Tryz.ntmps57 rfl rfl g ?_
  (refine WK.seq ?_; refine WK.region ?_; refine St.box fun _ _ => ?_; refine St.alloc fun _ _ => ?_; refine WO.nil ?_; refine WK.seq ?_; refine WK.region ?_; refine St.load ?_; refine St.move ?_; refine St.move ?_; refine St.build ?_)
  refine St.call (fun _ => rfl) (fun h hh => lineOver_con h hh.gd b off c ks err x x v (hk.vw hh)) ?_
  (refine St.move ?_)
  refine St.call (fun _ => rfl) (fun h hh => at_con h hh.gd _ _ _ _ x (v.lnOk x x) h0 h1) ?_
  (refine St.store0 ?_; refine WO.nil ?_)
  refine St.ret (by first | exact .tmp .nil | exact .cell .nil | exact .cell (.tmp .nil) | exact .tmp (.tmp .nil) | exact .cell (.cell .nil) | exact .tmp (.cell .nil) | exact .nil | exact .tmp (.cell (.tmp .nil)) | exact .cell (.tmp (.tmp .nil)) | exact .cell (.cell (.tmp .nil)) | exact .tmp (.tmp (.tmp .nil)) | exact .cell (.cell (.cell .nil))) ?_
  rfl
set_option maxRecDepth 100000 in
set_option maxHeartbeats 4000000 in
theorem plus_con (h : Heap) (g : Gd h) (a b n : Int) (h1 : Small a b) (hn : -4000 ≤ n) (hn2 : n ≤ 4000) : Con Tryz.prog Bs 111 [.agg [.int .i64 a, .int .i64 b], .int .i64 n] h [] (.agg [.int .i64 (a + n * b), .int .i64 b]) [] := by
  obtain ⟨p1, p2⟩ := mul_bd hn hn2 h1.d1 h1.d2
  obtain ⟨q1, q2, q3, q4⟩ := h1
  refine Con.start rfl Tryz.func111 rfl rfl Tryz.ntmps111 rfl rfl g ?_
  (refine WK.seq ?_; refine WK.region ?_; refine St.box fun _ _ => ?_; refine St.alloc fun _ _ => ?_; refine WO.nil ?_; refine WK.seq ?_; refine WK.region ?_; refine St.fieldAddr ?_; refine St.load ?_; refine St.move ?_; refine St.fieldAddr ?_; refine St.load ?_; refine St.binI ?_; refine St.binI ?_; refine St.fieldAddr ?_; refine St.load ?_; refine St.build ?_; refine St.store0 ?_; refine WO.nil ?_)
  refine St.ret (by first | exact .tmp .nil | exact .cell .nil | exact .cell (.tmp .nil) | exact .tmp (.tmp .nil) | exact .cell (.cell .nil) | exact .tmp (.cell .nil) | exact .nil | exact .tmp (.cell (.tmp .nil)) | exact .cell (.tmp (.tmp .nil)) | exact .cell (.cell (.tmp .nil)) | exact .tmp (.tmp (.tmp .nil)) | exact .cell (.cell (.cell .nil))) ?_
  rfl
set_option maxRecDepth 100000 in
set_option maxHeartbeats 4000000 in
theorem around_con (h : Heap) (g : Gd h) (b off : Nat) (c : ACap) (ks : List (Int × Int)) (err x : Int) (v : Vd ks err) (hk : KnH h b off ks) (h0 : -4000 ≤ x) (h1 : x ≤ 4000) : Con Tryz.prog Bs 80 [.agg [.slice b off ks.length c, .int .i64 err], .int .i64 x] h [] (.agg [.int .i64 (valN ks x + (0 - err) * valD ks x), .int .i64 (valD ks x), .int .i64 (valN ks x + err * valD ks x), .int .i64 (valD ks x)]) [] := by
  have g0 := v.e0
  have g1 := v.e1
  have hf := (v.fr h0 h1).small
  refine Con.start rfl Tryz.func80 rfl rfl Tryz.ntmps80 rfl rfl g ?_
  (refine WK.seq ?_; refine WK.region ?_; refine St.box fun _ _ => ?_; refine St.alloc fun _ _ => ?_; refine WO.nil ?_; refine WK.seq ?_; refine WK.region ?_; refine St.load ?_; refine St.move ?_)
  refine St.call (fun _ => rfl) (fun h hh => value_con h hh.gd b off c ks err x v (hk.vw hh) h0 h1) ?_
  (refine St.alloc fun _ _ => ?_; refine St.store0 ?_; refine WO.nil ?_; refine WK.seq ?_; refine WK.regionD ?_; refine St.load ?_; refine St.fieldAddr ?_; refine St.load ?_; refine St.unI ?_)
  refine St.call (fun _ => rfl) (fun h hh => plus_con h hh.gd (valN ks x) (valD ks x) (0 - err) hf (by omega) (by omega)) ?_
  (refine St.load ?_; refine St.fieldAddr ?_; refine St.load ?_)
  refine St.call (fun _ => rfl) (fun h hh => plus_con h hh.gd (valN ks x) (valD ks x) err hf (by omega) (by omega)) ?_
  (refine St.build ?_; refine StD.store1 ?_; refine WO.nil ?_)
  refine St.ret (by first | exact .tmp .nil | exact .cell .nil | exact .cell (.tmp .nil) | exact .tmp (.tmp .nil) | exact .cell (.cell .nil) | exact .tmp (.cell .nil) | exact .nil | exact .tmp (.cell (.tmp .nil)) | exact .cell (.tmp (.tmp .nil)) | exact .cell (.cell (.tmp .nil)) | exact .tmp (.tmp (.tmp .nil)) | exact .cell (.cell (.cell .nil))) ?_
  rfl
end Go.Proofs.YtbhklifflhoinaaGreat
