/- The law TideTurns over the calculator's memory. -/
import Derived.Test.YtekpffjcffeanaaWl
namespace Go.Proofs.Ytekpffjcffeanaa
open Go.Proofs.Ytekpffjcffeanaa.Ev

set_option maxRecDepth 100000 in
set_option maxHeartbeats 32000000 in
theorem turnsLaw_con (h : Heap) (g : Gd h) (lv lo hi : Int) (cv sv : AV) (l : List Cw) (ss : List Sh) (hc : CyV h cv l) (hs : ShV h sv ss) (hl : l.length ≤ 9223372036854775807) :
    Con Try.prog Bs 12 [.agg [.int .i64 lv, cv, sv], .agg [.int .i64 lo, .int .i64 hi]] h [] (.bool true) [] := by
  have hlt := fun b => trnR_len (lv := lv) (cs := cys l) (ss := ss) (lo := lo) (hi := hi) (b := b)
  refine Con.start rfl Try.func12 rfl rfl Try.ntmps12 rfl rfl g ?_
  (refine WK.seq ?_; refine WK.region ?_; refine St.box fun _ _ => ?_; refine St.box fun _ _ => ?_; refine St.assign ?_; refine WO.nil ?_; refine WK.seq ?_; refine WK.seq ?_; refine WK.region ?_; refine St.load ?_)
  rename_i p2 hp2 p3 hp3
  refine St.call (fun _ => rfl) (fun h2 hh => few_con h2 hh.gd lv cv sv l ss (hc.vw hh) (hs.vw hh) hl) ?_
  (refine St.un ?_; refine St.move ?_)
  refine St.split (fun h1 => ?_) (fun h1 => ?_)
  · (refine St.skip ?_; refine St.skip ?_; refine St.skip ?_; refine St.pickT ?_; refine WO.nil ?_; refine WK.condT ?_; refine WK.seq ?_; refine WK.region ?_)
    refine St.call (fun _ => rfl) (fun h2 hh => sanity_con h2 hh.gd) ?_
    (refine St.assign ?_; refine WO.nil ?_)
    refine St.ret (by first | exact .tmp .nil | exact .cell .nil | exact .cell (.tmp .nil) | exact .tmp (.tmp .nil) | exact .cell (.cell .nil) | exact .tmp (.cell .nil) | exact .nil | exact .tmp (.cell (.tmp .nil)) | exact .cell (.tmp (.tmp .nil)) | exact .cell (.cell (.tmp .nil)) | exact .tmp (.tmp (.tmp .nil)) | exact .cell (.cell (.cell .nil))) ?_
    rfl
  (refine St.load ?_)
  refine St.call (fun _ => rfl) (fun h2 hh => short_con h2 hh.gd lo hi) ?_
  (refine St.un ?_; refine St.pickF ?_; refine WO.nil ?_)
  refine St.splitC (fun h1 => ?_) (fun h1 => ?_)
  · (refine WK.seq ?_; refine WK.region ?_)
    refine St.call (fun _ => rfl) (fun h2 hh => sanity_con h2 hh.gd) ?_
    (refine St.assign ?_; refine WO.nil ?_)
    refine St.ret (by first | exact .tmp .nil | exact .cell .nil | exact .cell (.tmp .nil) | exact .tmp (.tmp .nil) | exact .cell (.cell .nil) | exact .tmp (.cell .nil) | exact .nil | exact .tmp (.cell (.tmp .nil)) | exact .cell (.tmp (.tmp .nil)) | exact .cell (.cell (.tmp .nil)) | exact .tmp (.tmp (.tmp .nil)) | exact .cell (.cell (.cell .nil))) ?_
    rfl
  (refine WK.skip ?_; refine WK.seq ?_; refine WK.region ?_; refine St.load ?_; refine St.load ?_)
  refine St.callR (fun _ => rfl) (fun h2 hh => high_con h2 hh.gd lv lo hi cv sv l ss (hc.vw hh) (hs.vw hh)) ?_
  rintro v1 L1 ⟨u1, rfl, hu1⟩
  refine WO.permF (L' := (p3, .cells [.int .i64 lo, .int .i64 hi] 37) :: (p2, .cells [.int .i64 lv, cv, sv] 25) :: L1) (by (refine perm_cnt fun _ _ => ?_; simp only [List.append_eq, List.cons_append, List.nil_append, List.count_append, List.count_cons, List.count_nil, Nat.add_zero, Nat.zero_add]; try ac_rfl)) ?_
  (refine St.move ?_; refine St.extract ?_; refine St.extract ?_; refine St.assign ?_; refine St.assign ?_; refine WO.nil ?_; refine WK.seq ?_; refine WK.region ?_; refine St.load ?_; refine St.load ?_)
  refine St.callR (fun _ => rfl) (fun h2 hh => rturning_con true h2 hh.gd lv lo hi cv sv l ss (hc.vw hh) (hs.vw hh)) ?_
  rintro v2 L2 ⟨u2, rfl, hu2⟩
  have k2 := isl_ok hu2
  refine WO.permF (L' := (p3, .cells [.int .i64 lo, .int .i64 hi] 37) :: (p2, .cells [.int .i64 lv, cv, sv] 25) :: (L1 ++ L2)) (by (refine perm_cnt fun _ _ => ?_; simp only [List.append_eq, List.cons_append, List.nil_append, List.count_append, List.count_cons, List.count_nil, Nat.add_zero, Nat.zero_add]; try ac_rfl)) ?_
  (refine St.alloc fun _ _ => ?_)
  rename_i p7 hp7
  refine St.store0 (hv := store_res (by kernel_rfl) k2.1) ?_
  (refine WO.nil ?_; refine WK.seq ?_; refine WK.region ?_; refine St.load ?_; refine St.load ?_)
  refine St.callR (fun _ => rfl) (fun h2 hh => low_con h2 hh.gd lv lo hi cv sv l ss (hc.vw hh) (hs.vw hh)) ?_
  rintro v3 L3 ⟨u3, rfl, hu3⟩
  refine WO.permF (L' := (p3, .cells [.int .i64 lo, .int .i64 hi] 37) :: (p2, .cells [.int .i64 lv, cv, sv] 25) :: (p7, .cells [u2, .int .i64 (minR lv (cys l) ss lo hi)] 80) :: (L1 ++ (L2 ++ L3))) (by (refine perm_cnt fun _ _ => ?_; simp only [List.append_eq, List.cons_append, List.nil_append, List.count_append, List.count_cons, List.count_nil, Nat.add_zero, Nat.zero_add]; try ac_rfl)) ?_
  (refine St.move ?_; refine St.extract ?_; refine St.extract ?_; refine St.assign ?_; refine St.assign ?_; refine WO.nil ?_; refine WK.seq ?_; refine WK.region ?_; refine St.load ?_; refine St.load ?_)
  refine St.callR (fun _ => rfl) (fun h2 hh => rturning_con false h2 hh.gd lv lo hi cv sv l ss (hc.vw hh) (hs.vw hh)) ?_
  rintro v4 L4 ⟨u4, rfl, hu4⟩
  have k4 := isl_ok hu4
  refine WO.permF (L' := (p3, .cells [.int .i64 lo, .int .i64 hi] 37) :: (p2, .cells [.int .i64 lv, cv, sv] 25) :: (p7, .cells [u2, .int .i64 (minR lv (cys l) ss lo hi)] 80) :: (L1 ++ (L2 ++ (L3 ++ L4)))) (by (refine perm_cnt fun _ _ => ?_; simp only [List.append_eq, List.cons_append, List.nil_append, List.count_append, List.count_cons, List.count_nil, Nat.add_zero, Nat.zero_add]; try ac_rfl)) ?_
  (refine St.alloc fun _ _ => ?_)
  rename_i p10 hp10
  refine St.store0 (hv := store_res (by kernel_rfl) k4.1) ?_
  (refine WO.nil ?_; refine WK.seq ?_; refine WK.region ?_)
  refine St.call (fun _ => rfl) (fun h2 hh => sanity_con h2 hh.gd) ?_
  (refine St.move ?_; refine St.move ?_; refine St.fieldAddr ?_; refine St.load ?_)
  refine St.call (fun _ => rfl) (fun h2 hh => sameStands_con h2 hh.gd u1 u2 _ (isl_stv hu1 hh (fun x hx => by simp [hx])) (isl_stv hu2 hh (fun x hx => by simp [hx])) (Nat.le_trans (hlt _) (by omega))) ?_
  (refine St.pickT ?_; refine St.move ?_; refine St.move ?_; refine St.fieldAddr ?_; refine St.load ?_; refine St.bin ?_; refine St.pickT ?_; refine St.move ?_)
  refine St.split (fun _ => ?_) (fun hb => ?_)
  rotate_left
  · simp at hb
  (refine St.move ?_; refine St.fieldAddr ?_; refine St.load ?_)
  refine St.call (fun _ => rfl) (fun h2 hh => sameStands_con h2 hh.gd u3 u4 _ (isl_stv hu3 hh (fun x hx => by simp [hx])) (isl_stv hu4 hh (fun x hx => by simp [hx])) (Nat.le_trans (hlt _) (by omega))) ?_
  (refine St.pickT ?_; refine St.move ?_; refine St.move ?_; refine St.fieldAddr ?_; refine St.load ?_; refine St.bin ?_; refine St.pickT ?_; refine St.assign ?_; refine WO.nil ?_)
  refine St.ret (by first | exact .tmp .nil | exact .cell .nil | exact .cell (.tmp .nil) | exact .tmp (.tmp .nil) | exact .cell (.cell .nil) | exact .tmp (.cell .nil) | exact .nil | exact .tmp (.cell (.tmp .nil)) | exact .cell (.tmp (.tmp .nil)) | exact .cell (.cell (.tmp .nil)) | exact .tmp (.tmp (.tmp .nil)) | exact .cell (.cell (.cell .nil))) ?_
  simp [oneOf]
end Go.Proofs.Ytekpffjcffeanaa
