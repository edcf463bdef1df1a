/- Cuts that are found from left to right: prove over the calculator's memory. -/
import Derived.Test.YtekpffjcffeanaaYc
namespace Go.Proofs.Ytekpffjcffeanaa
open Go.Proofs.Ytekpffjcffeanaa.Ev

theorem grd_none {a : Nat → List Int} {lv H lo : Int} {k : Nat} (h : grd a lv H lo k = none) : ∀ j, grd a lv H lo (k + j) = none
  | 0 => h
  | j + 1 => by
    rw [← Nat.add_assoc, grd, grd_none h j]
    rfl
theorem grd_len {a : Nat → List Int} {lv H lo : Int} : ∀ {k : Nat} {g q : List Int}, grd a lv H lo k = some (g, q) → g.length ≤ k
  | 0, g, q, h => by
    cases h
    exact Nat.le_refl _
  | k + 1, g, q, h => by
    unfold grd at h
    simp only [Option.bind_eq_some_iff] at h
    obtain ⟨⟨g0, q0⟩, h0, h1⟩ := h
    have := grd_len h0
    simp only at h1
    by_cases c1 : H ≤ lv + sumL (if k = 0 then a k else lowR q0 (a k))
    · rw [if_pos c1] at h1
      simp only [Option.some.injEq, Prod.mk.injEq] at h1
      rw [← h1.1]
      omega
    · rw [if_neg c1] at h1
      by_cases c2 : H ≤ lv + sumL (a k)
      · rw [if_pos c2] at h1
        simp only [Option.some.injEq, Prod.mk.injEq] at h1
        rw [← h1.1, List.length_append, List.length_singleton]
        omega
      · rw [if_neg c2] at h1
        cases h1
set_option maxRecDepth 100000 in
set_option maxHeartbeats 64000000 in
theorem prove_con (h : Heap) (g : Gd h) (lv lo hi height : Int) (cv sv : AV) (cl : List Cw) (ss : List Sh) (hc : CyV h cv cl) (hs : ShV h sv ss) (m : MinOk lv (cys cl) ss lo hi) :
    ∃ v L, Con Try.prog Bs 73 [.agg [.int .i64 lv, cv, sv], .agg [.int .i64 lo, .int .i64 hi], .int .i64 height] h [] v L ∧ ∃ u cu, v = .tup [u, .bool (grd (fun k => addA (cys cl) ss (lo + (k : Int))) lv height lo (hi - lo + 1).toNat).isSome] ∧ (∀ c q, grd (fun k => addA (cys cl) ss (lo + (k : Int))) lv height lo (hi - lo + 1).toNat = some (c, q) → cu = c) ∧ IsL 3 1 cu.length (cu.map (AV.int .i64)) u L := by
  have w := m.w
  have m1 := m.l1
  have m2 := m.le
  have m3 := m.h2
  have m4 := m.n
  have l1 := w.l1
  have l2 := w.l2
  have hA7 : ∀ k : Nat, (addA (cys cl) ss (lo + (k : Int))).length = 7 := fun k => addK_len (Nat.le_refl _) w.n1
  have hAb : ∀ k : Nat, ∀ x ∈ addA (cys cl) ss (lo + (k : Int)), -4000 ≤ x ∧ x ≤ 4000 := fun k => addA_bd (t := lo + (k : Int)) (chkC_all w.cs) (chkS_all w.ss)
  have hy := moments_y h lv lo hi cv sv cl ss hc hs m
  generalize hAd : (fun k : Nat => addA (cys cl) ss (lo + (k : Int))) = A at *
  have hAk : ∀ k : Nat, addA (cys cl) ss (lo + (k : Int)) = A k := fun k => by rw [← hAd]
  simp only [hAk] at hA7 hAb hy
  refine Con.pick (Con.startR rfl Try.func73 rfl rfl Try.ntmps73 rfl rfl (SS.init g) ?_)
  (refine WK.seq ?_; refine WK.region ?_; refine St.box fun _ _ => ?_; refine St.box fun _ _ => ?_; refine St.box fun _ _ => ?_; refine St.assign ?_; refine St.assign ?_; refine WO.nil ?_; refine WK.scope ?_; refine WK.seq ?_; refine WK.region ?_; refine St.alloc fun _ _ => ?_; refine WO.nil ?_; refine WK.seq ?_; refine WK.region ?_; refine St.alloc fun _ _ => ?_; refine WO.nil ?_; refine WK.seq ?_; refine WK.region ?_; refine St.alloc fun _ _ => ?_; refine St.store0 ?_; refine WO.nil ?_; refine WK.seq ?_; refine WK.label ?_; refine WK.seq ?_; refine WK.seq ?_; refine WK.region ?_; refine St.load ?_; refine St.load ?_)
  rename_i p3 hp3 p4 hp4 p5 hp5 p8 hp8 p9 hp9 p10 hp10
  refine St.callR (fun _ => rfl) (fun h2 hh => moments_con h2 hh.gd lv lo hi cv sv) ?_
  rintro u L' ⟨j1, j2, rfl, rfl⟩
  (refine WO.nil ?_; refine WK.block ?_)
  refine WK.perm (L' := (j2, .cells [.int .i64 lo, .int .i64 hi] 37) :: (j1, .cells [.int .i64 lv, cv, sv] 25) :: (p10, .cells [.bool true] 4) :: (p9, .cells [.int .i64 0, .int .i64 0, .int .i64 0, .int .i64 0, .int .i64 0, .int .i64 0, .int .i64 0] 148) :: (p8, .cells [.slice0] 26) :: [(p5, .cells [.int .i64 height] 3), (p4, .cells [.int .i64 lo, .int .i64 hi] 37), (p3, .cells [.int .i64 lv, cv, sv] 25)]) (List.Perm.refl _) ?_
  refine rangeY (hb := h) (j1 := j1) (j2 := j2) (L0 := (p10, .cells [.bool true] 4) :: (p9, .cells [.int .i64 0, .int .i64 0, .int .i64 0, .int .i64 0, .int .i64 0, .int .i64 0, .int .i64 0] 148) :: (p8, .cells [.slice0] 26) :: [(p5, .cells [.int .i64 height] 3), (p4, .cells [.int .i64 lo, .int .i64 hi] 37), (p3, .cells [.int .i64 lv, cv, sv] 25)])
    (fun k Ln => ∃ z c q : List Int, ∃ w Lw, grd A lv height lo k = some (c, q) ∧ z.length = 7 ∧ (∀ x ∈ z, -4000 ≤ x ∧ x ≤ 4000) ∧ (0 < k → z = q) ∧ IsR 3 1 c.length (c.map (AV.int .i64)) w Lw ∧ Ln = (p10, .cells [.bool true] 4) :: (p9, .cells (z.map (AV.int .i64)) 148) :: (p8, .cells [w] 26) :: ([(p5, .cells [.int .i64 height] 3), (p4, .cells [.int .i64 lo, .int .i64 hi] 37), (p3, .cells [.int .i64 lv, cv, sv] 25)] ++ Lw))
    (fun pd Ln => pd = some (.exit 0) ∧ grd A lv height lo (hi - lo + 1).toNat = none ∧ ∃ z : List Int, Ln = (p10, .cells [.bool false] 4) :: (p9, .cells (z.map (AV.int .i64)) 148) :: (p8, .cells [.slice0] 26) :: [(p5, .cells [.int .i64 height] 3), (p4, .cells [.int .i64 lo, .int .i64 hi] 37), (p3, .cells [.int .i64 lv, cv, sv] 25)])
    hy rfl (SS.init g).vw (fun _ h => by cases h) (by (refine perm_cnt fun _ _ => ?_; simp only [List.append_eq, List.cons_append, List.nil_append, List.count_append, List.count_cons, List.count_nil, Nat.add_zero, Nat.zero_add]; try ac_rfl)) ⟨[0, 0, 0, 0, 0, 0, 0], [], [], .slice0, [], rfl, rfl, by simp, fun h => absurd h (Nat.lt_irrefl 0), .nil rfl rfl, rfl⟩ (fun _ => rfl) rfl ?_ ?_ ?_
  · rintro r2 q2 hq2 k Lk h2 hk ⟨z, c, q, w', Lw, hp, hz7, hzb, hzp, hw, rfl⟩ hl2
    have hW2 := hl2.ss.ltW
    have hcl := grd_len hp
    have hst : grd A lv height lo (k + 1) = if height ≤ lv + sumL (if k = 0 then A k else lowR q (A k)) then some (c, if k = 0 then A k else lowR q (A k)) else if height ≤ lv + sumL (A k) then some (c ++ [lo + (k : Int)], A k) else none := by
      rw [grd, hp]
      rfl
    have ak7 := hA7 k
    have akb := hAb k
    have hsa := sum_bd ak7 akb
    unfold sumL at hsa hst
    (refine WK.seq ?_; refine WK.region ?_; refine St.assign ?_; refine WO.nil ?_; refine WK.region ?_; refine St.alloc fun _ _ => ?_)
    rename_i j12 hj12
    refine St.store0 (hv := store_arr (by rw [List.length_map]; exact ak7) rfl (ints_ok _)) ?_
    (refine WO.nil ?_)
    refine WK.busyQ hq2.st (A := [(_, _)]) rfl ?_
    (refine WK.block ?_; refine WK.seq ?_; refine WK.region ?_)
    refine St.load (hv := load_arr (by rw [List.length_map]; exact ak7)) ?_
    (refine St.alloc fun _ _ => ?_)
    rename_i j13 hj13
    refine St.store0 (hv := store_arr (by rw [List.length_map]; exact ak7) rfl (ints_ok _)) ?_
    (refine WO.nil ?_; refine WK.seq ?_; refine WK.seq ?_; refine WK.region ?_; refine St.move ?_; refine St.fieldAddr ?_; refine St.load ?_; refine St.bin ?_; refine WO.nil ?_)
    refine St.splitC (fun b1 => ?_) (fun b1 => ?_)
    · have k0 : k ≠ 0 := by simp at b1; omega
      rw [if_neg k0, ← hzp (by omega)] at hst
      have hy7 := lowR_len (x := z) (y := A k) hz7 ak7
      have hyb := lowR_bd (c := 4000) (x := z) (y := A k) hzb akb
      (refine WK.region ?_)
      refine St.load (hv := load_arr (by rw [List.length_map]; exact hz7)) ?_
      skip
      refine St.load (hv := load_arr (by rw [List.length_map]; exact ak7)) ?_
      skip
      refine St.call (fun _ => rfl) (fun h3 hh => lower_con h3 hh.gd z (A k) hz7 ak7) ?_
      skip
      refine St.store0 (hv := store_arr (by rw [List.length_map]; exact hy7) (by rw [List.length_map]; exact ak7) (ints_ok _)) ?_
      have hsy := sum_bd (l := lowR z (A k)) hy7 hyb
      unfold sumL at hsy
      (refine WO.nil ?_; refine WK.block ?_; refine WK.seq ?_; refine WK.regionD ?_; refine St.fieldAddr ?_; refine St.load ?_)
      refine St.load (hv := load_arr (by rw [List.length_map]; exact hy7)) ?_
      skip
      refine St.call (fun _ => rfl) (fun h3 hh => sum_con h3 hh.gd (lowR z (A k)) hy7 hyb) ?_
      (refine St.binI ?_; refine St.load ?_; refine St.bin ?_; refine St.assign ?_; refine WO.nil ?_)
      refine St.splitC (fun c1 => ?_) (fun c1 => ?_)
      · rw [if_pos (by simpa using c1)] at hst
        (refine WK.region ?_)
        refine St.load (hv := load_arr (by rw [List.length_map]; exact hy7)) ?_
        skip
        refine St.store4 (hv := store_arr (by rw [List.length_map]; exact hy7) (by rw [List.length_map]; exact hz7) (ints_ok _)) ?_
        (refine WO.nil ?_; refine WK.blk ?_; refine WK.blk ?_)
        refine endY (Lk := (p10, .cells [.bool true] 4) :: (p9, .cells ((lowR z (A k)).map (AV.int .i64)) 148) :: (p8, .cells [w'] 26) :: ([(p5, .cells [.int .i64 height] 3), (p4, .cells [.int .i64 lo, .int .i64 hi] 37), (p3, .cells [.int .i64 lv, cv, sv] 25)] ++ Lw)) (X := [(j13, .cells ((lowR z (A k)).map (AV.int .i64)) 148), (j12, .cells ((A k).map (AV.int .i64)) 148)]) ?_ ⟨_, c, _, w', Lw, hst, hy7, hyb, fun _ => rfl, hw, rfl⟩
        (refine perm_cnt fun _ _ => ?_; simp only [List.append_eq, List.cons_append, List.nil_append, List.count_append, List.count_cons, List.count_nil, Nat.add_zero, Nat.zero_add]; try ac_rfl)
      rw [if_neg (by simpa using c1)] at hst
      (refine WK.seq ?_; refine WK.regionD ?_; refine St.fieldAddr ?_; refine St.load ?_)
      refine St.load (hv := load_arr (by rw [List.length_map]; exact ak7)) ?_
      skip
      refine St.call (fun _ => rfl) (fun h3 hh => sum_con h3 hh.gd (A k) ak7 akb) ?_
      (refine St.binI ?_; refine St.load ?_; refine St.bin ?_; refine St.assign ?_; refine WO.nil ?_)
      refine St.splitC (fun c2 => ?_) (fun c2 => ?_)
      rotate_left
      · rw [if_neg (by simpa using c2)] at hst
        (refine WK.seq ?_; refine WK.region ?_; refine St.store5 ?_; refine St.store3 ?_; refine WO.nil ?_)
        refine exitY (Lk := (p10, .cells [.bool false] 4) :: (p9, .cells (z.map (AV.int .i64)) 148) :: (p8, .cells [.slice0] 26) :: [(p5, .cells [.int .i64 height] 3), (p4, .cells [.int .i64 lo, .int .i64 hi] 37), (p3, .cells [.int .i64 lv, cv, sv] 25)]) (X := (j13, .cells ((lowR z (A k)).map (AV.int .i64)) 148) :: (j12, .cells ((A k).map (AV.int .i64)) 148) :: Lw) ?_ ⟨rfl, ?_, _, rfl⟩
        · (refine perm_cnt fun _ _ => ?_; simp only [List.append_eq, List.cons_append, List.nil_append, List.count_append, List.count_cons, List.count_nil, Nat.add_zero, Nat.zero_add]; try ac_rfl)
        · have := grd_none hst ((hi - lo + 1).toNat - (k + 1))
          rw [show k + 1 + ((hi - lo + 1).toNat - (k + 1)) = (hi - lo + 1).toNat by omega] at this
          exact this
      rw [if_pos (by simpa using c2)] at hst
      skip
      cases hw with
      | nil g1 g2 =>
        obtain rfl : c = [] := List.length_eq_zero_iff.1 g1
        refine WK.perm (L' := (j13, .cells ((lowR z (A k)).map (AV.int .i64)) 148) :: (j12, .cells ((A k).map (AV.int .i64)) 148) :: (r2, .loop q2.busy) :: (p10, .cells [.bool true] 4) :: (p9, .cells (z.map (AV.int .i64)) 148) :: (p8, .cells [.slice0] 26) :: [(p5, .cells [.int .i64 height] 3), (p4, .cells [.int .i64 lo, .int .i64 hi] 37), (p3, .cells [.int .i64 lv, cv, sv] 25)]) (List.Perm.refl _) ?_
        refine WK.regionE (n := 9) ((j13, .cells ((lowR z (A k)).map (AV.int .i64)) 148) :: (j12, .cells ((A k).map (AV.int .i64)) 148) :: (r2, .loop q2.busy) :: (p10, .cells [.bool true] 4) :: (p9, .cells (z.map (AV.int .i64)) 148) :: (p8, .cells [.slice0] 26) :: [(p5, .cells [.int .i64 height] 3), (p4, .cells [.int .i64 lo, .int .i64 hi] 37), (p3, .cells [.int .i64 lv, cv, sv] 25)]) (by (repeat (first | exact List.Sublist.refl _ | exact List.nil_sublist _ | apply List.Sublist.cons_cons | apply List.Sublist.cons))) ?_
        refine WE.load 5 ?_
        refine WE.move ?_
        refine WE.mkS 1 (fun i2 hi2 => ?_)
        refine WE.appNil (fun j14 hj14 => ?_) ⟨rfl, rfl, rfl, rfl, rfl, rfl, rfl, rfl, rfl, rfl, rfl, rfl⟩ (List.Mem.head _) rfl rfl
        refine WE.load 1 (hv := load_arr (by rw [List.length_map]; exact ak7)) ?_
        refine WE.store (A := [_, _, _, _, _]) 5 rfl ?_
        refine WE.store (A := [_, _, _, _]) 4 rfl (hv := store_arr (by rw [List.length_map]; exact ak7) (by rw [List.length_map]; exact hz7) (ints_ok _)) ?_
        refine WE.nil ?_
        (refine WK.blk ?_; refine WK.blk ?_)
        refine WK.perm (L' := (j14, .row [.int .i64 (lo + (k : Int))] 3 1) :: (i2, .cells [.int .i64 (lo + (k : Int))] 3) :: (j13, .cells ((lowR z (A k)).map (AV.int .i64)) 148) :: (j12, .cells ((A k).map (AV.int .i64)) 148) :: (r2, .loop q2.busy) :: (p10, .cells [.bool true] 4) :: (p9, .cells ((A k).map (AV.int .i64)) 148) :: (p8, .cells [.slice j14 0 1 (.m 0)] 26) :: [(p5, .cells [.int .i64 height] 3), (p4, .cells [.int .i64 lo, .int .i64 hi] 37), (p3, .cells [.int .i64 lv, cv, sv] 25)]) (List.Perm.refl _) ?_
        refine endY (Lk := (p10, .cells [.bool true] 4) :: (p9, .cells ((A k).map (AV.int .i64)) 148) :: (p8, .cells [.slice j14 0 1 (.m 0)] 26) :: ([(p5, .cells [.int .i64 height] 3), (p4, .cells [.int .i64 lo, .int .i64 hi] 37), (p3, .cells [.int .i64 lv, cv, sv] 25)] ++ [(j14, .row [.int .i64 (lo + (k : Int))] 3 1)])) (X := [(i2, .cells [.int .i64 (lo + (k : Int))] 3), (j13, .cells ((lowR z (A k)).map (AV.int .i64)) 148), (j12, .cells ((A k).map (AV.int .i64)) 148)]) ?_ ⟨A k, [lo + (k : Int)], A k, .slice j14 0 1 (.m 0), _, hst, ak7, akb, fun _ => rfl, .row j14 rfl, rfl⟩
        (refine perm_cnt fun _ _ => ?_; simp only [List.append_eq, List.cons_append, List.nil_append, List.count_append, List.count_cons, List.count_nil, Nat.add_zero, Nat.zero_add]; try ac_rfl)
      | row jr g1 =>
        refine WK.perm (L' := (j13, .cells ((lowR z (A k)).map (AV.int .i64)) 148) :: (j12, .cells ((A k).map (AV.int .i64)) 148) :: (r2, .loop q2.busy) :: (p10, .cells [.bool true] 4) :: (p9, .cells (z.map (AV.int .i64)) 148) :: (p8, .cells [.slice jr 0 c.length (.m 0)] 26) :: ([(p5, .cells [.int .i64 height] 3), (p4, .cells [.int .i64 lo, .int .i64 hi] 37), (p3, .cells [.int .i64 lv, cv, sv] 25)] ++ [(jr, .row (c.map (AV.int .i64)) 3 1)])) (List.Perm.refl _) ?_
        refine WK.regionE (n := 10) ((j13, .cells ((lowR z (A k)).map (AV.int .i64)) 148) :: (j12, .cells ((A k).map (AV.int .i64)) 148) :: (r2, .loop q2.busy) :: (p10, .cells [.bool true] 4) :: (p9, .cells (z.map (AV.int .i64)) 148) :: (p8, .cells [.slice jr 0 c.length (.m 0)] 26) :: ([(p5, .cells [.int .i64 height] 3), (p4, .cells [.int .i64 lo, .int .i64 hi] 37), (p3, .cells [.int .i64 lv, cv, sv] 25)] ++ [(jr, .row (c.map (AV.int .i64)) 3 1)])) (by (repeat (first | exact List.Sublist.refl _ | exact List.nil_sublist _ | apply List.Sublist.cons_cons | apply List.Sublist.cons))) ?_
        refine WE.load 5 ?_
        refine WE.move ?_
        refine WE.mkS 1 (fun i2 hi2 => ?_)
        refine WE.appRow (A := [_, _, _, _, _, _, _, _, _]) (C := []) (lb := 9) rfl rfl (fun j14 hj14 => ?_) ⟨rfl, rfl, rfl, rfl, rfl, rfl, rfl, rfl, rfl, rfl, rfl, rfl⟩ (List.Mem.head _) rfl g1 (by omega) (by omega)
        refine WE.load 1 (hv := load_arr (by rw [List.length_map]; exact ak7)) ?_
        refine WE.store (A := [_, _, _, _, _]) 5 rfl ?_
        refine WE.store (A := [_, _, _, _]) 4 rfl (hv := store_arr (by rw [List.length_map]; exact ak7) (by rw [List.length_map]; exact hz7) (ints_ok _)) ?_
        refine WE.nil ?_
        (refine WK.blk ?_; refine WK.blk ?_)
        refine WK.perm (L' := (j14, .row (c.map (AV.int .i64) ++ [.int .i64 (lo + (k : Int))]) 3 1) :: (i2, .cells [.int .i64 (lo + (k : Int))] 3) :: (j13, .cells ((lowR z (A k)).map (AV.int .i64)) 148) :: (j12, .cells ((A k).map (AV.int .i64)) 148) :: (r2, .loop q2.busy) :: (p10, .cells [.bool true] 4) :: (p9, .cells ((A k).map (AV.int .i64)) 148) :: (p8, .cells [.slice j14 0 (c.length + 1) (.m 0)] 26) :: [(p5, .cells [.int .i64 height] 3), (p4, .cells [.int .i64 lo, .int .i64 hi] 37), (p3, .cells [.int .i64 lv, cv, sv] 25)]) (List.Perm.refl _) ?_
        refine endY (Lk := (p10, .cells [.bool true] 4) :: (p9, .cells ((A k).map (AV.int .i64)) 148) :: (p8, .cells [.slice j14 0 (c.length + 1) (.m 0)] 26) :: ([(p5, .cells [.int .i64 height] 3), (p4, .cells [.int .i64 lo, .int .i64 hi] 37), (p3, .cells [.int .i64 lv, cv, sv] 25)] ++ [(j14, .row (c.map (AV.int .i64) ++ [.int .i64 (lo + (k : Int))]) 3 1)])) (X := [(i2, .cells [.int .i64 (lo + (k : Int))] 3), (j13, .cells ((lowR z (A k)).map (AV.int .i64)) 148), (j12, .cells ((A k).map (AV.int .i64)) 148)]) ?_ ⟨A k, c ++ [lo + (k : Int)], A k, .slice j14 0 (c.length + 1) (.m 0), _, hst, ak7, akb, fun _ => rfl, ?_, rfl⟩
        · (refine perm_cnt fun _ _ => ?_; simp only [List.append_eq, List.cons_append, List.nil_append, List.count_append, List.count_cons, List.count_nil, Nat.add_zero, Nat.zero_add]; try ac_rfl)
        · rw [List.length_append, List.map_append]
          exact .row j14 (by simp)
    · have k0 : k = 0 := by simp at b1; omega
      rw [if_pos k0] at hst
      have hsy := sum_bd (l := A k) ak7 akb
      unfold sumL at hsy
      (refine WK.skip ?_; refine WK.block ?_; refine WK.seq ?_; refine WK.regionD ?_; refine St.fieldAddr ?_; refine St.load ?_)
      refine St.load (hv := load_arr (by rw [List.length_map]; exact ak7)) ?_
      skip
      refine St.call (fun _ => rfl) (fun h3 hh => sum_con h3 hh.gd (A k) ak7 akb) ?_
      (refine St.binI ?_; refine St.load ?_; refine St.bin ?_; refine St.assign ?_; refine WO.nil ?_)
      refine St.splitC (fun c1 => ?_) (fun c1 => ?_)
      · rw [if_pos (by simpa using c1)] at hst
        (refine WK.region ?_)
        refine St.load (hv := load_arr (by rw [List.length_map]; exact ak7)) ?_
        skip
        refine St.store4 (hv := store_arr (by rw [List.length_map]; exact ak7) (by rw [List.length_map]; exact hz7) (ints_ok _)) ?_
        (refine WO.nil ?_; refine WK.blk ?_; refine WK.blk ?_)
        refine endY (Lk := (p10, .cells [.bool true] 4) :: (p9, .cells ((A k).map (AV.int .i64)) 148) :: (p8, .cells [w'] 26) :: ([(p5, .cells [.int .i64 height] 3), (p4, .cells [.int .i64 lo, .int .i64 hi] 37), (p3, .cells [.int .i64 lv, cv, sv] 25)] ++ Lw)) (X := [(j13, .cells ((A k).map (AV.int .i64)) 148), (j12, .cells ((A k).map (AV.int .i64)) 148)]) ?_ ⟨_, c, _, w', Lw, hst, ak7, akb, fun _ => rfl, hw, rfl⟩
        (refine perm_cnt fun _ _ => ?_; simp only [List.append_eq, List.cons_append, List.nil_append, List.count_append, List.count_cons, List.count_nil, Nat.add_zero, Nat.zero_add]; try ac_rfl)
      rw [if_neg (by simpa using c1)] at hst
      (refine WK.seq ?_; refine WK.regionD ?_; refine St.fieldAddr ?_; refine St.load ?_)
      refine St.load (hv := load_arr (by rw [List.length_map]; exact ak7)) ?_
      skip
      refine St.call (fun _ => rfl) (fun h3 hh => sum_con h3 hh.gd (A k) ak7 akb) ?_
      (refine St.binI ?_; refine St.load ?_; refine St.bin ?_; refine St.assign ?_; refine WO.nil ?_)
      refine St.splitC (fun c2 => ?_) (fun c2 => ?_)
      rotate_left
      · rw [if_neg (by simpa using c2)] at hst
        (refine WK.seq ?_; refine WK.region ?_; refine St.store5 ?_; refine St.store3 ?_; refine WO.nil ?_)
        refine exitY (Lk := (p10, .cells [.bool false] 4) :: (p9, .cells (z.map (AV.int .i64)) 148) :: (p8, .cells [.slice0] 26) :: [(p5, .cells [.int .i64 height] 3), (p4, .cells [.int .i64 lo, .int .i64 hi] 37), (p3, .cells [.int .i64 lv, cv, sv] 25)]) (X := (j13, .cells ((A k).map (AV.int .i64)) 148) :: (j12, .cells ((A k).map (AV.int .i64)) 148) :: Lw) ?_ ⟨rfl, ?_, _, rfl⟩
        · (refine perm_cnt fun _ _ => ?_; simp only [List.append_eq, List.cons_append, List.nil_append, List.count_append, List.count_cons, List.count_nil, Nat.add_zero, Nat.zero_add]; try ac_rfl)
        · have := grd_none hst ((hi - lo + 1).toNat - (k + 1))
          rw [show k + 1 + ((hi - lo + 1).toNat - (k + 1)) = (hi - lo + 1).toNat by omega] at this
          exact this
      rw [if_pos (by simpa using c2)] at hst
      skip
      cases hw with
      | nil g1 g2 =>
        obtain rfl : c = [] := List.length_eq_zero_iff.1 g1
        refine WK.perm (L' := (j13, .cells ((A k).map (AV.int .i64)) 148) :: (j12, .cells ((A k).map (AV.int .i64)) 148) :: (r2, .loop q2.busy) :: (p10, .cells [.bool true] 4) :: (p9, .cells (z.map (AV.int .i64)) 148) :: (p8, .cells [.slice0] 26) :: [(p5, .cells [.int .i64 height] 3), (p4, .cells [.int .i64 lo, .int .i64 hi] 37), (p3, .cells [.int .i64 lv, cv, sv] 25)]) (List.Perm.refl _) ?_
        refine WK.regionE (n := 9) ((j13, .cells ((A k).map (AV.int .i64)) 148) :: (j12, .cells ((A k).map (AV.int .i64)) 148) :: (r2, .loop q2.busy) :: (p10, .cells [.bool true] 4) :: (p9, .cells (z.map (AV.int .i64)) 148) :: (p8, .cells [.slice0] 26) :: [(p5, .cells [.int .i64 height] 3), (p4, .cells [.int .i64 lo, .int .i64 hi] 37), (p3, .cells [.int .i64 lv, cv, sv] 25)]) (by (repeat (first | exact List.Sublist.refl _ | exact List.nil_sublist _ | apply List.Sublist.cons_cons | apply List.Sublist.cons))) ?_
        refine WE.load 5 ?_
        refine WE.move ?_
        refine WE.mkS 1 (fun i2 hi2 => ?_)
        refine WE.appNil (fun j14 hj14 => ?_) ⟨rfl, rfl, rfl, rfl, rfl, rfl, rfl, rfl, rfl, rfl, rfl, rfl⟩ (List.Mem.head _) rfl rfl
        refine WE.load 1 (hv := load_arr (by rw [List.length_map]; exact ak7)) ?_
        refine WE.store (A := [_, _, _, _, _]) 5 rfl ?_
        refine WE.store (A := [_, _, _, _]) 4 rfl (hv := store_arr (by rw [List.length_map]; exact ak7) (by rw [List.length_map]; exact hz7) (ints_ok _)) ?_
        refine WE.nil ?_
        (refine WK.blk ?_; refine WK.blk ?_)
        refine WK.perm (L' := (j14, .row [.int .i64 (lo + (k : Int))] 3 1) :: (i2, .cells [.int .i64 (lo + (k : Int))] 3) :: (j13, .cells ((A k).map (AV.int .i64)) 148) :: (j12, .cells ((A k).map (AV.int .i64)) 148) :: (r2, .loop q2.busy) :: (p10, .cells [.bool true] 4) :: (p9, .cells ((A k).map (AV.int .i64)) 148) :: (p8, .cells [.slice j14 0 1 (.m 0)] 26) :: [(p5, .cells [.int .i64 height] 3), (p4, .cells [.int .i64 lo, .int .i64 hi] 37), (p3, .cells [.int .i64 lv, cv, sv] 25)]) (List.Perm.refl _) ?_
        refine endY (Lk := (p10, .cells [.bool true] 4) :: (p9, .cells ((A k).map (AV.int .i64)) 148) :: (p8, .cells [.slice j14 0 1 (.m 0)] 26) :: ([(p5, .cells [.int .i64 height] 3), (p4, .cells [.int .i64 lo, .int .i64 hi] 37), (p3, .cells [.int .i64 lv, cv, sv] 25)] ++ [(j14, .row [.int .i64 (lo + (k : Int))] 3 1)])) (X := [(i2, .cells [.int .i64 (lo + (k : Int))] 3), (j13, .cells ((A k).map (AV.int .i64)) 148), (j12, .cells ((A k).map (AV.int .i64)) 148)]) ?_ ⟨A k, [lo + (k : Int)], A k, .slice j14 0 1 (.m 0), _, hst, ak7, akb, fun _ => rfl, .row j14 rfl, rfl⟩
        (refine perm_cnt fun _ _ => ?_; simp only [List.append_eq, List.cons_append, List.nil_append, List.count_append, List.count_cons, List.count_nil, Nat.add_zero, Nat.zero_add]; try ac_rfl)
      | row jr g1 =>
        refine WK.perm (L' := (j13, .cells ((A k).map (AV.int .i64)) 148) :: (j12, .cells ((A k).map (AV.int .i64)) 148) :: (r2, .loop q2.busy) :: (p10, .cells [.bool true] 4) :: (p9, .cells (z.map (AV.int .i64)) 148) :: (p8, .cells [.slice jr 0 c.length (.m 0)] 26) :: ([(p5, .cells [.int .i64 height] 3), (p4, .cells [.int .i64 lo, .int .i64 hi] 37), (p3, .cells [.int .i64 lv, cv, sv] 25)] ++ [(jr, .row (c.map (AV.int .i64)) 3 1)])) (List.Perm.refl _) ?_
        refine WK.regionE (n := 10) ((j13, .cells ((A k).map (AV.int .i64)) 148) :: (j12, .cells ((A k).map (AV.int .i64)) 148) :: (r2, .loop q2.busy) :: (p10, .cells [.bool true] 4) :: (p9, .cells (z.map (AV.int .i64)) 148) :: (p8, .cells [.slice jr 0 c.length (.m 0)] 26) :: ([(p5, .cells [.int .i64 height] 3), (p4, .cells [.int .i64 lo, .int .i64 hi] 37), (p3, .cells [.int .i64 lv, cv, sv] 25)] ++ [(jr, .row (c.map (AV.int .i64)) 3 1)])) (by (repeat (first | exact List.Sublist.refl _ | exact List.nil_sublist _ | apply List.Sublist.cons_cons | apply List.Sublist.cons))) ?_
        refine WE.load 5 ?_
        refine WE.move ?_
        refine WE.mkS 1 (fun i2 hi2 => ?_)
        refine WE.appRow (A := [_, _, _, _, _, _, _, _, _]) (C := []) (lb := 9) rfl rfl (fun j14 hj14 => ?_) ⟨rfl, rfl, rfl, rfl, rfl, rfl, rfl, rfl, rfl, rfl, rfl, rfl⟩ (List.Mem.head _) rfl g1 (by omega) (by omega)
        refine WE.load 1 (hv := load_arr (by rw [List.length_map]; exact ak7)) ?_
        refine WE.store (A := [_, _, _, _, _]) 5 rfl ?_
        refine WE.store (A := [_, _, _, _]) 4 rfl (hv := store_arr (by rw [List.length_map]; exact ak7) (by rw [List.length_map]; exact hz7) (ints_ok _)) ?_
        refine WE.nil ?_
        (refine WK.blk ?_; refine WK.blk ?_)
        refine WK.perm (L' := (j14, .row (c.map (AV.int .i64) ++ [.int .i64 (lo + (k : Int))]) 3 1) :: (i2, .cells [.int .i64 (lo + (k : Int))] 3) :: (j13, .cells ((A k).map (AV.int .i64)) 148) :: (j12, .cells ((A k).map (AV.int .i64)) 148) :: (r2, .loop q2.busy) :: (p10, .cells [.bool true] 4) :: (p9, .cells ((A k).map (AV.int .i64)) 148) :: (p8, .cells [.slice j14 0 (c.length + 1) (.m 0)] 26) :: [(p5, .cells [.int .i64 height] 3), (p4, .cells [.int .i64 lo, .int .i64 hi] 37), (p3, .cells [.int .i64 lv, cv, sv] 25)]) (List.Perm.refl _) ?_
        refine endY (Lk := (p10, .cells [.bool true] 4) :: (p9, .cells ((A k).map (AV.int .i64)) 148) :: (p8, .cells [.slice j14 0 (c.length + 1) (.m 0)] 26) :: ([(p5, .cells [.int .i64 height] 3), (p4, .cells [.int .i64 lo, .int .i64 hi] 37), (p3, .cells [.int .i64 lv, cv, sv] 25)] ++ [(j14, .row (c.map (AV.int .i64) ++ [.int .i64 (lo + (k : Int))]) 3 1)])) (X := [(i2, .cells [.int .i64 (lo + (k : Int))] 3), (j13, .cells ((A k).map (AV.int .i64)) 148), (j12, .cells ((A k).map (AV.int .i64)) 148)]) ?_ ⟨A k, c ++ [lo + (k : Int)], A k, .slice j14 0 (c.length + 1) (.m 0), _, hst, ak7, akb, fun _ => rfl, ?_, rfl⟩
        · (refine perm_cnt fun _ _ => ?_; simp only [List.append_eq, List.cons_append, List.nil_append, List.count_append, List.count_cons, List.count_nil, Nat.add_zero, Nat.zero_add]; try ac_rfl)
        · rw [List.length_append, List.map_append]
          exact .row j14 (by simp)
  · rintro dq L' ⟨z, c, q, w', Lw, hp, hz7, hzb, hzp, hw, rfl⟩
    rw [hp]
    (refine WK.blk ?_; refine WK.seq ?_; refine WK.regionD ?_; refine St.load ?_; refine St.load ?_; refine St.assign ?_; refine St.assign ?_; refine WO.nil ?_)
    refine St.ret1 (A := (p10, .cells [.bool true] 4) :: (p9, .cells (z.map (AV.int .i64)) 148) :: (p8, .cells [w'] 26) :: ([(p5, .cells [.int .i64 height] 3), (p4, .cells [.int .i64 lo, .int .i64 hi] 37), (p3, .cells [.int .i64 lv, cv, sv] 25)] ++ Lw)) (C := []) rfl (.tmp (.tmp .nil)) ?_
    refine ⟨Lw, (p10, .cells [.bool true] 4) :: (p9, .cells (z.map (AV.int .i64)) 148) :: (p8, .cells [w'] 26) :: [(p5, .cells [.int .i64 height] 3), (p4, .cells [.int .i64 lo, .int .i64 hi] 37), (p3, .cells [.int .i64 lv, cv, sv] 25)], ?_, w', c, rfl, fun c' q' e => by cases e; rfl, hw.isL⟩
    (refine perm_cnt fun _ _ => ?_; simp only [List.append_eq, List.cons_append, List.nil_append, List.count_append, List.count_cons, List.count_nil, Nat.add_zero, Nat.zero_add]; try ac_rfl)
  · rintro dq cx L' ⟨e, hno, z, rfl⟩
    cases e
    rw [hno]
    (refine WK.exit ?_; refine WK.seq ?_; refine WK.regionD ?_; refine St.load ?_; refine St.load ?_; refine St.assign ?_; refine St.assign ?_; refine WO.nil ?_)
    refine St.ret1 (A := (p10, .cells [.bool false] 4) :: (p9, .cells (z.map (AV.int .i64)) 148) :: (p8, .cells [.slice0] 26) :: [(p5, .cells [.int .i64 height] 3), (p4, .cells [.int .i64 lo, .int .i64 hi] 37), (p3, .cells [.int .i64 lv, cv, sv] 25)]) (C := []) rfl (.tmp (.tmp .nil)) ?_
    exact ⟨[], _, List.Perm.refl _, .slice0, [], rfl, fun c' q' e => (by cases e), .nil rfl rfl⟩
end Go.Proofs.Ytekpffjcffeanaa
