/- Do cuts prove a height: proves over the calculator's memory. -/
import Derived.Test.YtekpffjcffeanaaYb
import Derived.Test.YtekpffjcffeanaaWe
namespace Go.Proofs.Ytekpffjcffeanaa
open Go.Proofs.Ytekpffjcffeanaa.Ev

theorem lowR_bd {c : Int} : ∀ {x y : List Int}, (∀ a ∈ x, -c ≤ a ∧ a ≤ c) → (∀ a ∈ y, -c ≤ a ∧ a ≤ c) → ∀ a ∈ lowR x y, -c ≤ a ∧ a ≤ c
  | [], _, _, _, a, h => by cases h
  | _ :: _, [], _, _, a, h => by cases h
  | p :: x, q :: y, hx, hy, a, h => by
    rcases List.mem_cons.1 h with rfl | h
    · have h1 := hx p (by simp)
      have h2 := hy q (by simp)
      omega
    · exact lowR_bd (fun b hb => hx b (by simp [hb])) (fun b hb => hy b (by simp [hb])) a h
theorem prv_none {a : Nat → List Int} {lv H lo : Int} {C : List Int} {k : Nat} (h : prv a lv H lo C k = none) : ∀ j, prv a lv H lo C (k + j) = none
  | 0 => h
  | j + 1 => by
    rw [← Nat.add_assoc, prv, prv_none h j]
    rfl
theorem sum_bd {l : List Int} (hl : l.length = 7) (h : ∀ x ∈ l, -4000 ≤ x ∧ x ≤ 4000) : -28000 ≤ sumL l ∧ sumL l ≤ 28000 := by
  have := fold_bd h 7 (by omega)
  rw [List.take_of_length_le (by omega)] at this
  unfold sumL
  omega
set_option maxRecDepth 100000 in
set_option maxHeartbeats 32000000 in
theorem proves_con (h : Heap) (g : Gd h) (lv lo hi height : Int) (cv sv v : AV) (cl : List Cw) (ss : List Sh) (C : List Int) (hc : CyV h cv cl) (hs : ShV h sv ss) (hv : ItV h v C) (hl : C.length ≤ 1000000) (m : MinOk lv (cys cl) ss lo hi) (hC : ascC lo C) :
    Con Try.prog Bs 75 [.agg [.int .i64 lv, cv, sv], .agg [.int .i64 lo, .int .i64 hi], .int .i64 height, v] h [] (.bool (prv (fun k => addA (cys cl) ss (lo + (k : Int))) lv height lo C (hi - lo + 1).toNat).isSome) [] := by
  have w := m.w
  have m1 := m.l1
  have m2 := m.le
  have m3 := m.h2
  have m4 := m.n
  have l1 := w.l1
  have l2 := w.l2
  have hA7 : ∀ k : Nat, (addA (cys cl) ss (lo + (k : Int))).length = 7 := fun k => addK_len (Nat.le_refl _) w.n1
  have hAb : ∀ k : Nat, ∀ x ∈ addA (cys cl) ss (lo + (k : Int)), -4000 ≤ x ∧ x ≤ 4000 := fun k => addA_bd (t := lo + (k : Int)) (chkC_all w.cs) (chkS_all w.ss)
  have hy := moments_y h lv lo hi cv sv cl ss hc hs m
  generalize hAd : (fun k : Nat => addA (cys cl) ss (lo + (k : Int))) = A at *
  have hAk : ∀ k : Nat, addA (cys cl) ss (lo + (k : Int)) = A k := fun k => by rw [← hAd]
  simp only [hAk] at hA7 hAb hy
  have hvc : v.cells = [v] := by rcases hv with ⟨rfl | rfl, _⟩ | ⟨_, _, _, rfl, _⟩ <;> rfl
  have key : ∃ w L, Con Try.prog Bs 75 [.agg [.int .i64 lv, cv, sv], .agg [.int .i64 lo, .int .i64 hi], .int .i64 height, v] h [] w L ∧ w = .bool (prv A lv height lo C (hi - lo + 1).toNat).isSome ∧ L = [] := by
    refine Con.pick (Con.startR rfl Try.func75 rfl rfl Try.ntmps75 rfl rfl (SS.init g) ?_)
    (refine WK.seq ?_; refine WK.region ?_; refine St.box fun _ _ => ?_; refine St.box fun _ _ => ?_; refine St.box fun _ _ => ?_; refine St.box fun _ _ => ?_; refine St.alloc fun _ _ => ?_; refine WO.nil ?_; refine WK.seq ?_; refine WK.region ?_; refine St.alloc fun _ _ => ?_; refine WO.nil ?_; refine WK.seq ?_; refine WK.seq ?_; refine WK.region ?_; refine St.load ?_; refine St.load ?_)
    rename_i p4 hp4 p5 hp5 p6 hp6 p7 hp7 p8 hp8 p9 hp9
    refine St.callR (fun _ => rfl) (fun h2 hh => moments_con h2 hh.gd lv lo hi cv sv) ?_
    rintro u L' ⟨j1, j2, rfl, rfl⟩
    (refine WO.nil ?_; refine WK.block ?_)
    rw [hvc]
    refine WK.perm (L' := (j2, .cells [.int .i64 lo, .int .i64 hi] 37) :: (j1, .cells [.int .i64 lv, cv, sv] 25) :: (p9, .cells [.int .i64 0, .int .i64 0, .int .i64 0, .int .i64 0, .int .i64 0, .int .i64 0, .int .i64 0] 148) :: (p8, .cells [.bool false] 4) :: [(p7, .cells [v] 26), (p6, .cells [.int .i64 height] 3), (p5, .cells [.int .i64 lo, .int .i64 hi] 37), (p4, .cells [.int .i64 lv, cv, sv] 25)]) (List.Perm.refl _) ?_
    refine rangeY (hb := h) (j1 := j1) (j2 := j2) (L0 := (p9, .cells [.int .i64 0, .int .i64 0, .int .i64 0, .int .i64 0, .int .i64 0, .int .i64 0, .int .i64 0] 148) :: (p8, .cells [.bool false] 4) :: [(p7, .cells [v] 26), (p6, .cells [.int .i64 height] 3), (p5, .cells [.int .i64 lo, .int .i64 hi] 37), (p4, .cells [.int .i64 lv, cv, sv] 25)])
      (fun k Ln => ∃ z p : List Int, prv A lv height lo C k = some p ∧ z.length = 7 ∧ (∀ x ∈ z, -4000 ≤ x ∧ x ≤ 4000) ∧ (0 < k → z = p) ∧ Ln = (p9, .cells (z.map (AV.int .i64)) 148) :: (p8, .cells [.bool false] 4) :: [(p7, .cells [v] 26), (p6, .cells [.int .i64 height] 3), (p5, .cells [.int .i64 lo, .int .i64 hi] 37), (p4, .cells [.int .i64 lv, cv, sv] 25)])
      (fun pd Ln => pd = some .ret ∧ prv A lv height lo C (hi - lo + 1).toNat = none ∧ ∃ z : List Int, Ln = (p9, .cells (z.map (AV.int .i64)) 148) :: (p8, .cells [.bool false] 4) :: [(p7, .cells [v] 26), (p6, .cells [.int .i64 height] 3), (p5, .cells [.int .i64 lo, .int .i64 hi] 37), (p4, .cells [.int .i64 lv, cv, sv] 25)])
      hy rfl (SS.init g).vw (fun _ h => by cases h) (by (refine perm_cnt fun _ _ => ?_; simp only [List.append_eq, List.cons_append, List.nil_append, List.count_append, List.count_cons, List.count_nil, Nat.add_zero, Nat.zero_add]; try ac_rfl)) ⟨[0, 0, 0, 0, 0, 0, 0], [], rfl, rfl, by simp, fun h => absurd h (Nat.lt_irrefl 0), rfl⟩ (fun _ => rfl) rfl ?_ ?_ ?_
    · rintro r2 q2 hq2 k Lk h2 hk ⟨z, p, hp, hz7, hzb, hzp, rfl⟩ hl2
      have hW2 := hl2.ss.ltW
      have hst : prv A lv height lo C (k + 1) = if lv + sumL (lowR (if lo + (k : Int) ∈ C ∨ k = 0 then A k else p) (A k)) < height then none else some (lowR (if lo + (k : Int) ∈ C ∨ k = 0 then A k else p) (A k)) := by
        rw [prv, hp]
        rfl
      have ak7 := hA7 k
      have akb := hAb k
      (refine WK.seq ?_; refine WK.region ?_; refine St.assign ?_; refine WO.nil ?_; refine WK.region ?_; refine St.alloc fun _ _ => ?_)
      rename_i j11 hj11
      refine St.store0 (hv := store_arr (by rw [List.length_map]; exact ak7) rfl (ints_ok _)) ?_
      (refine WO.nil ?_)
      refine WK.busyQ hq2.st (A := [(_, _)]) rfl ?_
      (refine WK.block ?_; refine WK.seq ?_; refine WK.seq ?_; refine WK.region ?_; refine St.load ?_; refine St.move ?_)
      refine St.callR (fun _ => rfl) (fun h3 hh => search_con h3 hh.gd lo (lo + (k : Int)) v C (hv.vw (hl2.to hh)) hl hC) ?_
      rintro u2 L2 ⟨iS, rfl, rfl⟩
      (refine St.move ?_; refine St.extract ?_; refine St.extract ?_; refine St.assign ?_; refine St.assign ?_; refine WO.nil ?_; refine WK.seq ?_; refine WK.region ?_; refine St.move ?_; refine St.move ?_)
      refine St.split (fun b1 => ?_) (fun b1 => ?_)
      · have hY : (if lo + (k : Int) ∈ C ∨ k = 0 then A k else p) = A k := if_pos (.inl (by simpa using b1))
        (refine St.skip ?_; refine St.skip ?_; refine St.skip ?_; refine St.skip ?_; refine St.pickT ?_; refine WO.nil ?_; refine WK.condT ?_; refine WK.region ?_)
        refine St.load (hv := load_arr (by rw [List.length_map]; exact ak7)) ?_
        skip
        refine St.store2 (hv := store_arr (by rw [List.length_map]; exact ak7) (by rw [List.length_map]; exact hz7) (ints_ok _)) ?_
        have hy7 := lowR_len (x := A k) (y := A k) ak7 ak7
        have hyb := lowR_bd (c := 4000) (x := A k) (y := A k) akb akb
        have hsb := sum_bd hy7 hyb
        unfold sumL at hsb hst
        rw [hY] at hst
        (refine WO.nil ?_; refine WK.seq ?_; refine WK.region ?_)
        refine St.load (hv := load_arr (by rw [List.length_map]; exact ak7)) ?_
        skip
        refine St.load (hv := load_arr (by rw [List.length_map]; exact ak7)) ?_
        skip
        refine St.call (fun _ => rfl) (fun h3 hh => lower_con h3 hh.gd (A k) (A k) ak7 ak7) ?_
        skip
        refine St.store2 (hv := store_arr (by rw [List.length_map]; exact hy7) (by rw [List.length_map]; exact ak7) (ints_ok _)) ?_
        (refine WO.nil ?_; refine WK.seq ?_; refine WK.regionD ?_; refine St.fieldAddr ?_; refine St.load ?_)
        refine St.load (hv := load_arr (by rw [List.length_map]; exact hy7)) ?_
        skip
        refine St.call (fun _ => rfl) (fun h3 hh => sum_con h3 hh.gd _ hy7 hyb) ?_
        (refine St.binI ?_; refine St.load ?_; refine St.bin ?_; refine WO.nil ?_)
        refine St.splitC (fun hlow => ?_) (fun hlow => ?_)
        · rw [if_pos (by simpa using hlow)] at hst
          (refine WK.seq ?_; refine WK.region ?_; refine St.store3 ?_; refine WO.nil ?_)
          refine retY (Lk := (p9, .cells ((lowR (A k) (A k)).map (AV.int .i64)) 148) :: (p8, .cells [.bool false] 4) :: [(p7, .cells [v] 26), (p6, .cells [.int .i64 height] 3), (p5, .cells [.int .i64 lo, .int .i64 hi] 37), (p4, .cells [.int .i64 lv, cv, sv] 25)]) (X := [(j11, .cells ((A k).map (AV.int .i64)) 148)]) ?_ ⟨rfl, ?_, _, rfl⟩
          · (refine perm_cnt fun _ _ => ?_; simp only [List.append_eq, List.cons_append, List.nil_append, List.count_append, List.count_cons, List.count_nil, Nat.add_zero, Nat.zero_add]; try ac_rfl)
          · have := prv_none hst ((hi - lo + 1).toNat - (k + 1))
            rw [show k + 1 + ((hi - lo + 1).toNat - (k + 1)) = (hi - lo + 1).toNat by omega] at this
            exact this
        · rw [if_neg (by simpa using hlow)] at hst
          (refine WK.skip ?_; refine WK.blk ?_)
          refine endY (Lk := (p9, .cells ((lowR (A k) (A k)).map (AV.int .i64)) 148) :: (p8, .cells [.bool false] 4) :: [(p7, .cells [v] 26), (p6, .cells [.int .i64 height] 3), (p5, .cells [.int .i64 lo, .int .i64 hi] 37), (p4, .cells [.int .i64 lv, cv, sv] 25)]) (X := [(j11, .cells ((A k).map (AV.int .i64)) 148)]) ?_ ⟨_, _, hst, hy7, hyb, fun _ => rfl, rfl⟩
          (refine perm_cnt fun _ _ => ?_; simp only [List.append_eq, List.cons_append, List.nil_append, List.count_append, List.count_cons, List.count_nil, Nat.add_zero, Nat.zero_add]; try ac_rfl)
      (refine St.move ?_; refine St.fieldAddr ?_; refine St.load ?_; refine St.bin ?_; refine St.pickF ?_; refine WO.nil ?_)
      refine St.splitC (fun b2 => ?_) (fun b2 => ?_)
      · have hY : (if lo + (k : Int) ∈ C ∨ k = 0 then A k else p) = A k := if_pos (.inr (by simp at b2; omega))
        (refine WK.region ?_)
        refine St.load (hv := load_arr (by rw [List.length_map]; exact ak7)) ?_
        skip
        refine St.store2 (hv := store_arr (by rw [List.length_map]; exact ak7) (by rw [List.length_map]; exact hz7) (ints_ok _)) ?_
        have hy7 := lowR_len (x := A k) (y := A k) ak7 ak7
        have hyb := lowR_bd (c := 4000) (x := A k) (y := A k) akb akb
        have hsb := sum_bd hy7 hyb
        unfold sumL at hsb hst
        rw [hY] at hst
        (refine WO.nil ?_; refine WK.seq ?_; refine WK.region ?_)
        refine St.load (hv := load_arr (by rw [List.length_map]; exact ak7)) ?_
        skip
        refine St.load (hv := load_arr (by rw [List.length_map]; exact ak7)) ?_
        skip
        refine St.call (fun _ => rfl) (fun h3 hh => lower_con h3 hh.gd (A k) (A k) ak7 ak7) ?_
        skip
        refine St.store2 (hv := store_arr (by rw [List.length_map]; exact hy7) (by rw [List.length_map]; exact ak7) (ints_ok _)) ?_
        (refine WO.nil ?_; refine WK.seq ?_; refine WK.regionD ?_; refine St.fieldAddr ?_; refine St.load ?_)
        refine St.load (hv := load_arr (by rw [List.length_map]; exact hy7)) ?_
        skip
        refine St.call (fun _ => rfl) (fun h3 hh => sum_con h3 hh.gd _ hy7 hyb) ?_
        (refine St.binI ?_; refine St.load ?_; refine St.bin ?_; refine WO.nil ?_)
        refine St.splitC (fun hlow => ?_) (fun hlow => ?_)
        · rw [if_pos (by simpa using hlow)] at hst
          (refine WK.seq ?_; refine WK.region ?_; refine St.store3 ?_; refine WO.nil ?_)
          refine retY (Lk := (p9, .cells ((lowR (A k) (A k)).map (AV.int .i64)) 148) :: (p8, .cells [.bool false] 4) :: [(p7, .cells [v] 26), (p6, .cells [.int .i64 height] 3), (p5, .cells [.int .i64 lo, .int .i64 hi] 37), (p4, .cells [.int .i64 lv, cv, sv] 25)]) (X := [(j11, .cells ((A k).map (AV.int .i64)) 148)]) ?_ ⟨rfl, ?_, _, rfl⟩
          · (refine perm_cnt fun _ _ => ?_; simp only [List.append_eq, List.cons_append, List.nil_append, List.count_append, List.count_cons, List.count_nil, Nat.add_zero, Nat.zero_add]; try ac_rfl)
          · have := prv_none hst ((hi - lo + 1).toNat - (k + 1))
            rw [show k + 1 + ((hi - lo + 1).toNat - (k + 1)) = (hi - lo + 1).toNat by omega] at this
            exact this
        · rw [if_neg (by simpa using hlow)] at hst
          (refine WK.skip ?_; refine WK.blk ?_)
          refine endY (Lk := (p9, .cells ((lowR (A k) (A k)).map (AV.int .i64)) 148) :: (p8, .cells [.bool false] 4) :: [(p7, .cells [v] 26), (p6, .cells [.int .i64 height] 3), (p5, .cells [.int .i64 lo, .int .i64 hi] 37), (p4, .cells [.int .i64 lv, cv, sv] 25)]) (X := [(j11, .cells ((A k).map (AV.int .i64)) 148)]) ?_ ⟨_, _, hst, hy7, hyb, fun _ => rfl, rfl⟩
          (refine perm_cnt fun _ _ => ?_; simp only [List.append_eq, List.cons_append, List.nil_append, List.count_append, List.count_cons, List.count_nil, Nat.add_zero, Nat.zero_add]; try ac_rfl)
      have k0 : k ≠ 0 := by simp at b2; omega
      have hY : (if lo + (k : Int) ∈ C ∨ k = 0 then A k else p) = z := by
        rw [if_neg (by simp at b1; simp [b1, k0])]
        exact (hzp (by omega)).symm
      have hy7 := lowR_len (x := z) (y := A k) hz7 ak7
      have hyb := lowR_bd (c := 4000) (x := z) (y := A k) hzb akb
      have hsb := sum_bd hy7 hyb
      unfold sumL at hsb hst
      rw [hY] at hst
      (refine WK.skip ?_; refine WK.seq ?_; refine WK.region ?_)
      refine St.load (hv := load_arr (by rw [List.length_map]; exact hz7)) ?_
      skip
      refine St.load (hv := load_arr (by rw [List.length_map]; exact ak7)) ?_
      skip
      refine St.call (fun _ => rfl) (fun h3 hh => lower_con h3 hh.gd (z) (A k) hz7 ak7) ?_
      skip
      refine St.store2 (hv := store_arr (by rw [List.length_map]; exact hy7) (by rw [List.length_map]; exact hz7) (ints_ok _)) ?_
      (refine WO.nil ?_; refine WK.seq ?_; refine WK.regionD ?_; refine St.fieldAddr ?_; refine St.load ?_)
      refine St.load (hv := load_arr (by rw [List.length_map]; exact hy7)) ?_
      skip
      refine St.call (fun _ => rfl) (fun h3 hh => sum_con h3 hh.gd _ hy7 hyb) ?_
      (refine St.binI ?_; refine St.load ?_; refine St.bin ?_; refine WO.nil ?_)
      refine St.splitC (fun hlow => ?_) (fun hlow => ?_)
      · rw [if_pos (by simpa using hlow)] at hst
        (refine WK.seq ?_; refine WK.region ?_; refine St.store3 ?_; refine WO.nil ?_)
        refine retY (Lk := (p9, .cells ((lowR (z) (A k)).map (AV.int .i64)) 148) :: (p8, .cells [.bool false] 4) :: [(p7, .cells [v] 26), (p6, .cells [.int .i64 height] 3), (p5, .cells [.int .i64 lo, .int .i64 hi] 37), (p4, .cells [.int .i64 lv, cv, sv] 25)]) (X := [(j11, .cells ((A k).map (AV.int .i64)) 148)]) ?_ ⟨rfl, ?_, _, rfl⟩
        · (refine perm_cnt fun _ _ => ?_; simp only [List.append_eq, List.cons_append, List.nil_append, List.count_append, List.count_cons, List.count_nil, Nat.add_zero, Nat.zero_add]; try ac_rfl)
        · have := prv_none hst ((hi - lo + 1).toNat - (k + 1))
          rw [show k + 1 + ((hi - lo + 1).toNat - (k + 1)) = (hi - lo + 1).toNat by omega] at this
          exact this
      · rw [if_neg (by simpa using hlow)] at hst
        (refine WK.skip ?_; refine WK.blk ?_)
        refine endY (Lk := (p9, .cells ((lowR (z) (A k)).map (AV.int .i64)) 148) :: (p8, .cells [.bool false] 4) :: [(p7, .cells [v] 26), (p6, .cells [.int .i64 height] 3), (p5, .cells [.int .i64 lo, .int .i64 hi] 37), (p4, .cells [.int .i64 lv, cv, sv] 25)]) (X := [(j11, .cells ((A k).map (AV.int .i64)) 148)]) ?_ ⟨_, _, hst, hy7, hyb, fun _ => rfl, rfl⟩
        (refine perm_cnt fun _ _ => ?_; simp only [List.append_eq, List.cons_append, List.nil_append, List.count_append, List.count_cons, List.count_nil, Nat.add_zero, Nat.zero_add]; try ac_rfl)
    · rintro dq L' ⟨z, p, hp, hz7, hzb, hzp, rfl⟩
      rw [hp]
      (refine WK.blk ?_; refine WK.seq ?_; refine WK.region ?_; refine St.store1 ?_; refine WO.nil ?_)
      refine St.ret1 (A := (p9, .cells (z.map (AV.int .i64)) 148) :: (p8, .cells [.bool true] 4) :: [(p7, .cells [v] 26), (p6, .cells [.int .i64 height] 3), (p5, .cells [.int .i64 lo, .int .i64 hi] 37), (p4, .cells [.int .i64 lv, cv, sv] 25)]) (C := []) rfl (.cell .nil) ?_
      exact ⟨[], _, List.Perm.refl _, rfl, rfl⟩
    · rintro dq c L' ⟨e, hno, z, rfl⟩
      cases e
      rw [hno]
      skip
      refine St.ret1 (A := (p9, .cells (z.map (AV.int .i64)) 148) :: (p8, .cells [.bool false] 4) :: [(p7, .cells [v] 26), (p6, .cells [.int .i64 height] 3), (p5, .cells [.int .i64 lo, .int .i64 hi] 37), (p4, .cells [.int .i64 lv, cv, sv] 25)]) (C := []) rfl (.cell .nil) ?_
      exact ⟨[], _, List.Perm.refl _, rfl, rfl⟩
  obtain ⟨w, L, hcon, rfl, rfl⟩ := key
  exact hcon
end Go.Proofs.Ytekpffjcffeanaa
