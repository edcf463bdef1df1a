/- The law TideGauges over the calculator's memory: the walk. -/
import Derived.Test.YtgjkfmcjalcefaaGreatJi
import Derived.Test.YtgjkfmcjalcefaaGreatJe
import Derived.Test.YtgjkfmcjalcefaaGreatJj
import Derived.Test.YtgjkfmcjalcefaaGreatTd
import Derived.Test.YtgjkfmcjalcefaaGreatUe
import Derived.Test.YtgjkfmcjalcefaaGreatEe
namespace Go.Proofs.YtgjkfmcjalcefaaGreat
open Go.Proofs.YtgjkfmcjalcefaaGreat.Ev

theorem GaA.gvw {h0 h : Heap} {V : Ob} {v : AV} {l : List Ga} (k : GaA h0 v l) (hh : Vw h0 [] V h) : GaA h v l := by
  rcases k with k | ⟨b, off, m, rfl, hm, k⟩
  · exact .inl k
  · exact .inr ⟨b, off, m, rfl, hm, k.vw hh⟩
set_option maxRecDepth 100000 in
theorem sp_eql (x y : Int) : evBin Tryz.prog .eql 30 (.agg [.int .i64 x, .int .i64 y]) (.agg [.int .i64 x, .int .i64 y]) = some (.bool true) := by
  simp [evBin, evEq, guardOk, eqT, eqFs, partE, isAggT, takeN, dropN, nthN]
set_option maxRecDepth 100000 in
set_option maxHeartbeats 16000000 in
theorem gauges_con (h : Heap) (g : Gd h) (lv : Int) (cv sv v : AV) (cl : List Cw) (ss : List Sh) (l : List Ga) (hc : CyV h cv cl) (hss : ShV h sv ss) (hv : GaA h v l) (hcl : cl.length ≤ 9223372036854775807) :
    Con Tryz.prog Bs 3 [.agg [.int .i64 lv, cv, sv], v] h [] (.bool true) [] := by
  refine Con.start rfl Tryz.func3 rfl rfl Tryz.ntmps3 rfl rfl g ?_
  (refine WK.seq ?_; refine WK.region ?_; refine St.box fun _ _ => ?_; refine St.assign ?_; refine WO.nil ?_; refine WK.seq ?_; refine WK.seq ?_; refine WK.region ?_; refine St.load ?_)
  rename_i p2 hp2
  refine St.call (fun _ => rfl) (fun h2 hh => few_con h2 hh.gd lv cv sv cl ss (hc.vw hh) (hss.vw hh) hcl) ?_
  (refine St.un ?_; refine St.move ?_)
  refine St.split (fun h1 => ?_) (fun h1 => ?_)
  · (refine St.skip ?_; refine St.skip ?_; refine St.skip ?_; refine St.pickT ?_; refine WO.nil ?_; refine WK.condT ?_; refine WK.seq ?_; refine WK.region ?_)
    refine St.call (fun _ => rfl) (fun h2 hh => sanity_con h2 hh.gd) ?_
    (refine St.assign ?_; refine WO.nil ?_)
    refine St.ret (by first | exact .tmp .nil | exact .cell .nil | exact .cell (.tmp .nil) | exact .tmp (.tmp .nil) | exact .cell (.cell .nil) | exact .tmp (.cell .nil) | exact .nil | exact .tmp (.cell (.tmp .nil)) | exact .cell (.tmp (.tmp .nil)) | exact .cell (.cell (.tmp .nil)) | exact .tmp (.tmp (.tmp .nil)) | exact .cell (.cell (.cell .nil))) ?_
    rfl
  (refine St.move ?_)
  refine St.lenV rfl hv.gaV.len ?_
  (refine St.bin ?_; refine St.pickF ?_; refine WO.nil ?_)
  refine St.splitC (fun h2 => ?_) (fun h2 => ?_)
  · (refine WK.seq ?_; refine WK.region ?_)
    refine St.call (fun _ => rfl) (fun h2 hh => sanity_con h2 hh.gd) ?_
    (refine St.assign ?_; refine WO.nil ?_)
    refine St.ret (by first | exact .tmp .nil | exact .cell .nil | exact .cell (.tmp .nil) | exact .tmp (.tmp .nil) | exact .cell (.cell .nil) | exact .tmp (.cell .nil) | exact .nil | exact .tmp (.cell (.tmp .nil)) | exact .cell (.tmp (.tmp .nil)) | exact .cell (.cell (.tmp .nil)) | exact .tmp (.tmp (.tmp .nil)) | exact .cell (.cell (.cell .nil))) ?_
    rfl
  have hl60 : l.length ≤ 60 := by simp at h2; omega
  clear h1 h2
  (refine WK.skip ?_; refine WK.seq ?_; refine WK.region ?_; refine St.load ?_; refine St.move ?_)
  refine St.call (fun _ => rfl) (fun h2 hh => levels_con h2 hh.gd lv cv sv v cl ss l (hc.vw hh) (hss.vw hh) (hv.gaV.vw hh) (by omega)) ?_
  (refine St.move ?_; refine St.extract ?_; refine St.extract ?_; refine St.alloc fun _ _ => ?_; refine St.store0 ?_; refine St.assign ?_; refine WO.nil ?_; refine WK.seq ?_; refine WK.region ?_; refine St.load ?_; refine St.move ?_)
  refine St.call (fun _ => rfl) (fun h2 hh => rlevels_con h2 hh.gd lv cv sv v cl ss l (hc.vw hh) (hss.vw hh) (hv.gaV.vw hh) (by omega)) ?_
  (refine St.alloc fun _ _ => ?_; refine St.store0 ?_; refine WO.nil ?_; refine WK.seq ?_; refine WK.region ?_; refine St.load ?_; refine St.move ?_)
  refine St.call (fun _ => rfl) (fun h2 hh => rests_con h2 hh.gd lv cv sv v cl ss l (hc.vw hh) (hss.vw hh) (hv.gaV.vw hh) (by omega)) ?_
  (refine St.move ?_; refine St.extract ?_; refine St.extract ?_; refine St.extract ?_; refine St.assign ?_; refine St.assign ?_; refine St.assign ?_; refine WO.nil ?_; refine WK.seq ?_; refine WK.region ?_; refine St.load ?_; refine St.move ?_)
  refine St.call (fun _ => rfl) (fun h2 hh => rrests_con h2 hh.gd lv cv sv v cl ss l (hc.vw hh) (hss.vw hh) (hv.gaV.vw hh) (by omega)) ?_
  (refine St.move ?_; refine St.extract ?_; refine St.extract ?_; refine St.extract ?_; refine St.assign ?_; refine St.assign ?_; refine St.assign ?_; refine WO.nil ?_; refine WK.seq ?_; refine WK.region ?_; refine St.load ?_; refine St.move ?_)
  rename_i p5 hp5 p7 hp7
  generalize (levelsR lv (cys cl) ss l).1.1 = a1
  generalize (levelsR lv (cys cl) ss l).1.2 = a2
  generalize (levelsR lv (cys cl) ss l).2 = a3
  generalize (restsR lv (cys cl) ss l).1 = b1
  generalize (restsR lv (cys cl) ss l).2.1 = b2
  generalize (restsR lv (cys cl) ss l).2.2 = b3
  refine St.callR (fun _ => rfl) (fun h2 hh => clashesS_con h2 hh.gd lv cv sv v cl ss l (hc.vw hh) (hss.vw hh) (hv.gaV.vw hh) (by omega)) ?_
  rintro u1 L1 ⟨w1, l', hp, hso, rfl, hL1⟩
  refine WO.permF (L' := (p2, .cells [.int .i64 lv, cv, sv] 25) :: (p7, .cells [.int .i64 a1, .int .i64 a2, .int .i64 a3] 35) :: (p5, .cells [.int .i64 a1, .int .i64 a2] 30) :: L1) ?_ ?_
  · show List.Perm ((p2, .cells [.int .i64 lv, cv, sv] 25) :: (p7, .cells [.int .i64 a1, .int .i64 a2, .int .i64 a3] 35) :: (p5, .cells [.int .i64 a1, .int .i64 a2] 30) :: L1 : Ob) (L1 ++ [(p7, .cells [.int .i64 a1, .int .i64 a2, .int .i64 a3] 35), (p5, .cells [.int .i64 a1, .int .i64 a2] 30), (p2, .cells [.int .i64 lv, cv, sv] 25)])
    (refine perm_cnt fun _ _ => ?_; simp only [List.append_eq, List.cons_append, List.nil_append, List.count_append, List.count_cons, List.count_nil, Nat.add_zero, Nat.zero_add]; try ac_rfl)
  (refine St.move ?_; refine St.extract ?_; refine St.extract ?_; refine St.assign ?_; refine St.assign ?_; refine WO.nil ?_; refine WK.seq ?_; refine WK.region ?_; refine St.load ?_; refine St.move ?_)
  refine St.callR (fun _ => rfl) (fun h2 hh => rclashes_con h2 hh.gd lv cv sv v cl ss l (hc.vw hh) (hss.vw hh) (hv.gaV.vw hh) (by omega)) ?_
  rintro u2 L2 ⟨wB, ys, rfl, hB, hsq, hpq⟩
  refine WO.permF (L' := (p2, .cells [.int .i64 lv, cv, sv] 25) :: (p7, .cells [.int .i64 a1, .int .i64 a2, .int .i64 a3] 35) :: (p5, .cells [.int .i64 a1, .int .i64 a2] 30) :: (L1 ++ L2)) ?_ ?_
  · show List.Perm ((p2, .cells [.int .i64 lv, cv, sv] 25) :: (p7, .cells [.int .i64 a1, .int .i64 a2, .int .i64 a3] 35) :: (p5, .cells [.int .i64 a1, .int .i64 a2] 30) :: (L1 ++ L2) : Ob) (L2 ++ (p2, .cells [.int .i64 lv, cv, sv] 25) :: (p7, .cells [.int .i64 a1, .int .i64 a2, .int .i64 a3] 35) :: (p5, .cells [.int .i64 a1, .int .i64 a2] 30) :: L1)
    (refine perm_cnt fun _ _ => ?_; simp only [List.append_eq, List.cons_append, List.nil_append, List.count_append, List.count_cons, List.count_nil, Nat.add_zero, Nat.zero_add]; try ac_rfl)
  generalize hc0 : chkGs lv (cys cl) ss l = c0 at *
  (refine St.alloc fun _ _ => ?_)
  refine St.store0 (hv := store_i rfl hB.isL.okv rfl) ?_
  (refine WO.nil ?_; refine WK.seq ?_; refine WK.region ?_; refine St.load ?_; refine St.move ?_)
  rename_i p16 hp16
  refine St.callR (fun _ => rfl) (fun h2 hh => suspects_con h2 hh.gd lv cv sv v cl ss l (hc.vw hh) (hss.vw hh) (hv.gaV.vw hh) (by omega)) ?_
  rintro u3 L3 ⟨wC, rfl, hC⟩
  refine WO.permF (L' := (p2, .cells [.int .i64 lv, cv, sv] 25) :: (p16, .cells [wB, .int .i64 c0] 43) :: (p7, .cells [.int .i64 a1, .int .i64 a2, .int .i64 a3] 35) :: (p5, .cells [.int .i64 a1, .int .i64 a2] 30) :: (L1 ++ (L2 ++ L3))) ?_ ?_
  · show List.Perm ((p2, .cells [.int .i64 lv, cv, sv] 25) :: (p16, .cells [wB, .int .i64 c0] 43) :: (p7, .cells [.int .i64 a1, .int .i64 a2, .int .i64 a3] 35) :: (p5, .cells [.int .i64 a1, .int .i64 a2] 30) :: (L1 ++ (L2 ++ L3)) : Ob) (L3 ++ (p16, .cells [wB, .int .i64 c0] 43) :: (p2, .cells [.int .i64 lv, cv, sv] 25) :: (p7, .cells [.int .i64 a1, .int .i64 a2, .int .i64 a3] 35) :: (p5, .cells [.int .i64 a1, .int .i64 a2] 30) :: (L1 ++ L2))
    (refine perm_cnt fun _ _ => ?_; simp only [List.append_eq, List.cons_append, List.nil_append, List.count_append, List.count_cons, List.count_nil, Nat.add_zero, Nat.zero_add]; try ac_rfl)
  (refine St.move ?_; refine St.extract ?_; refine St.extract ?_; refine St.assign ?_; refine St.assign ?_; refine WO.nil ?_; refine WK.seq ?_; refine WK.region ?_; refine St.load ?_; refine St.move ?_)
  refine St.callR (fun _ => rfl) (fun h2 hh => rsuspects_con h2 hh.gd lv cv sv v cl ss l (hc.vw hh) (hss.vw hh) (hv.gvw hh) (by omega)) ?_
  rintro u4 L4 ⟨wD, rfl, hD⟩
  refine WO.permF (L' := (p16, .cells [wB, .int .i64 c0] 43) :: (p7, .cells [.int .i64 a1, .int .i64 a2, .int .i64 a3] 35) :: (p5, .cells [.int .i64 a1, .int .i64 a2] 30) :: (p2, .cells [.int .i64 lv, cv, sv] 25) :: (L1 ++ (L2 ++ (L3 ++ L4)))) ?_ ?_
  · show List.Perm ((p16, .cells [wB, .int .i64 c0] 43) :: (p7, .cells [.int .i64 a1, .int .i64 a2, .int .i64 a3] 35) :: (p5, .cells [.int .i64 a1, .int .i64 a2] 30) :: (p2, .cells [.int .i64 lv, cv, sv] 25) :: (L1 ++ (L2 ++ (L3 ++ L4))) : Ob) (L4 ++ (p2, .cells [.int .i64 lv, cv, sv] 25) :: (p16, .cells [wB, .int .i64 c0] 43) :: (p7, .cells [.int .i64 a1, .int .i64 a2, .int .i64 a3] 35) :: (p5, .cells [.int .i64 a1, .int .i64 a2] 30) :: (L1 ++ (L2 ++ L3)))
    (refine perm_cnt fun _ _ => ?_; simp only [List.append_eq, List.cons_append, List.nil_append, List.count_append, List.count_cons, List.count_nil, Nat.add_zero, Nat.zero_add]; try ac_rfl)
  have f1 : (susR lv (cys cl) ss l).1.length ≤ 1000000 := by
    have h1 := susTo_len (cys cl) ss l l.length
    unfold susR
    split
    · simp
    · split
      · simp
      · rw [sortX_len]; omega
  generalize (susR lv (cys cl) ss l).1 = xs at *
  generalize (susR lv (cys cl) ss l).2 = e4 at *
  (refine St.alloc fun _ _ => ?_)
  refine St.store0 (hv := store_i rfl hD.isL.okv rfl) ?_
  have e9 : ys = if c0 = 0 then clTo (cys cl) ss l' l'.length else [] := by
    by_cases hq : c0 = 0
    · rw [if_pos hq] at hpq ⊢
      exact cl_same (by rw [hc0, hq]) hp (hso hq) hsq hpq
    · rw [if_neg hq] at hpq ⊢
      exact List.perm_nil.1 hpq
  rw [← e9] at hL1
  have f2 : ys.length ≤ 1000000 := by
    have h1 := rcTo_len (cys cl) ss l l.length
    have h2 := hpq.length_eq
    have h3 : l.length * (l.length + 1) ≤ 60 * 61 := Nat.mul_le_mul (by omega) (by omega)
    by_cases hq : c0 = 0
    · rw [if_pos hq] at h2; omega
    · rw [if_neg hq] at h2; rw [h2]; exact Nat.zero_le _
  clear e9 hpq hsq hso hp hc0
  (refine WO.nil ?_; refine WK.seq ?_; refine WK.region ?_)
  refine St.call (fun _ => rfl) (fun h2 hh => sanity_con h2 hh.gd) ?_
  (refine St.move ?_; refine St.load ?_; refine St.fieldAddr ?_; refine St.load ?_)
  refine St.binX (sp_eql _ _) rfl rfl ?_
  (refine St.pickT ?_; refine St.move ?_; refine St.move ?_; refine St.fieldAddr ?_; refine St.load ?_; refine St.bin ?_; refine St.pickT ?_; refine St.move ?_)
  refine St.split (fun q1 => ?_) (fun q1 => ?_)
  rotate_left
  · simp at q1
  (refine St.move ?_; refine St.move ?_; refine St.bin ?_; refine St.pickT ?_; refine St.move ?_)
  refine St.split (fun q2 => ?_) (fun q2 => ?_)
  rotate_left
  · simp at q2
  (refine St.move ?_; refine St.move ?_; refine St.bin ?_; refine St.pickT ?_; refine St.move ?_)
  refine St.split (fun q3 => ?_) (fun q3 => ?_)
  rotate_left
  · simp at q3
  (refine St.move ?_; refine St.move ?_; refine St.bin ?_; refine St.pickT ?_; refine St.move ?_)
  refine St.split (fun q4 => ?_) (fun q4 => ?_)
  rotate_left
  · simp at q4
  (refine St.move ?_; refine St.fieldAddr ?_; refine St.load ?_)
  refine St.call (fun _ => rfl) (fun h2 hh => samePairs_con h2 hh.gd w1 wB ys (pr_v hL1 rfl hh (fun x hx => by simp [hx])) (pr_v hB.isL rfl hh (fun x hx => by simp [hx])) f2) ?_
  (refine St.pickT ?_; refine St.move ?_; refine St.move ?_; refine St.fieldAddr ?_; refine St.load ?_; refine St.bin ?_; refine St.pickT ?_; refine St.move ?_)
  refine St.split (fun q5 => ?_) (fun q5 => ?_)
  rotate_left
  · simp at q5
  (refine St.move ?_; refine St.fieldAddr ?_; refine St.load ?_)
  refine St.call (v := .bool true) (fun _ => rfl) (fun h2 hh => by
    have := sameInts_con h2 hh.gd wC wD xs xs (isl_it hC hh (fun x hx => by simp [hx])) (isl_it hD.isL hh (fun x hx => by simp [hx])) f1
    rwa [decide_eq_true rfl] at this) ?_
  (refine St.pickT ?_; refine St.move ?_; refine St.move ?_; refine St.fieldAddr ?_; refine St.load ?_; refine St.bin ?_; refine St.pickT ?_; refine St.assign ?_; refine WO.nil ?_)
  refine St.ret (by first | exact .tmp .nil | exact .cell .nil | exact .cell (.tmp .nil) | exact .tmp (.tmp .nil) | exact .cell (.cell .nil) | exact .tmp (.cell .nil) | exact .nil | exact .tmp (.cell (.tmp .nil)) | exact .cell (.tmp (.tmp .nil)) | exact .cell (.cell (.tmp .nil)) | exact .tmp (.tmp (.tmp .nil)) | exact .cell (.cell (.cell .nil))) ?_
  simp [oneOf]
end Go.Proofs.YtgjkfmcjalcefaaGreat
