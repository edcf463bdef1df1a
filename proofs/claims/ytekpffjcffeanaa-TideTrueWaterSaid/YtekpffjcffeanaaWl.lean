/- HighWaters, LowWaters; the reference's Turning; the law TideTurns. -/
import Derived.Test.YtekpffjcffeanaaWk
namespace Go.Proofs.Ytekpffjcffeanaa
open Go.Proofs.Ytekpffjcffeanaa.Ev

set_option maxRecDepth 100000 in
theorem high_con (h : Heap) (g : Gd h) (lv lo hi : Int) (cv sv : AV) (cl : List Cw) (ss : List Sh) (hc : CyV h cv cl) (hs : ShV h sv ss) :
    ∃ v L, Con Try.prog Bs 27 [.agg [.int .i64 lv, cv, sv], .agg [.int .i64 lo, .int .i64 hi]] h [] v L ∧ ∃ u, v = .tup [u, .int .i64 (minR lv (cys cl) ss lo hi)] ∧ IsL 51 3 (trnR lv (cys cl) ss lo hi true).length (sdF (trnR lv (cys cl) ss lo hi true)) u L := by
  refine Con.pick (Con.startR rfl Try.func27 rfl rfl Try.ntmps27 rfl rfl (SS.init g) ?_)
  (refine WK.seq ?_; refine WK.region ?_; refine St.box fun _ _ => ?_; refine St.box fun _ _ => ?_; refine St.assign ?_; refine St.assign ?_; refine WO.nil ?_; refine WK.seq ?_; refine WK.region ?_; refine St.load ?_; refine St.load ?_)
  refine St.callR (fun _ => rfl) (fun h2 hh => turns_con 71 true high1_con h2 hh.gd lv lo hi cv sv cl ss (hc.vw hh) (hs.vw hh)) ?_
  rintro v L' ⟨u, rfl, hu⟩
  (refine St.extract ?_; refine St.extract ?_; refine St.assign ?_; refine St.assign ?_; refine WO.nil ?_)
  refine St.ret (by first | exact .tmp .nil | exact .cell .nil | exact .cell (.tmp .nil) | exact .tmp (.tmp .nil) | exact .cell (.cell .nil) | exact .tmp (.cell .nil) | exact .nil | exact .tmp (.cell (.tmp .nil)) | exact .cell (.tmp (.tmp .nil)) | exact .cell (.cell (.tmp .nil)) | exact .tmp (.tmp (.tmp .nil)) | exact .cell (.cell (.cell .nil))) ?_
  exact ⟨L', _, List.Perm.refl _, u, rfl, hu⟩
set_option maxRecDepth 100000 in
theorem low_con (h : Heap) (g : Gd h) (lv lo hi : Int) (cv sv : AV) (cl : List Cw) (ss : List Sh) (hc : CyV h cv cl) (hs : ShV h sv ss) :
    ∃ v L, Con Try.prog Bs 28 [.agg [.int .i64 lv, cv, sv], .agg [.int .i64 lo, .int .i64 hi]] h [] v L ∧ ∃ u, v = .tup [u, .int .i64 (minR lv (cys cl) ss lo hi)] ∧ IsL 51 3 (trnR lv (cys cl) ss lo hi false).length (sdF (trnR lv (cys cl) ss lo hi false)) u L := by
  refine Con.pick (Con.startR rfl Try.func28 rfl rfl Try.ntmps28 rfl rfl (SS.init g) ?_)
  (refine WK.seq ?_; refine WK.region ?_; refine St.box fun _ _ => ?_; refine St.box fun _ _ => ?_; refine St.assign ?_; refine St.assign ?_; refine WO.nil ?_; refine WK.seq ?_; refine WK.region ?_; refine St.load ?_; refine St.load ?_)
  refine St.callR (fun _ => rfl) (fun h2 hh => turns_con 72 false low1_con h2 hh.gd lv lo hi cv sv cl ss (hc.vw hh) (hs.vw hh)) ?_
  rintro v L' ⟨u, rfl, hu⟩
  (refine St.extract ?_; refine St.extract ?_; refine St.assign ?_; refine St.assign ?_; refine WO.nil ?_)
  refine St.ret (by first | exact .tmp .nil | exact .cell .nil | exact .cell (.tmp .nil) | exact .tmp (.tmp .nil) | exact .cell (.cell .nil) | exact .tmp (.cell .nil) | exact .nil | exact .tmp (.cell (.tmp .nil)) | exact .cell (.tmp (.tmp .nil)) | exact .cell (.cell (.tmp .nil)) | exact .tmp (.tmp (.tmp .nil)) | exact .cell (.cell (.cell .nil))) ?_
  exact ⟨L', _, List.Perm.refl _, u, rfl, hu⟩
theorem store_res {t ty : TypeId} {x y u : AV} {e : Int} (hs : sizeT Try.prog t = some 2) (ho : okCell u = true) : (AObj.cells [x, y] ty).store Try.prog t 0 (.agg [u, .int .i64 e]) = some (.cells [u, .int .i64 e] ty) := by
  have ha : ([u, AV.int .i64 e]).all okCell = true := by
    simp only [List.all_cons, ho, List.all_nil]
    rfl
  unfold AObj.store
  rw [hs]
  simp only []
  rw [if_pos ⟨rfl, ha⟩]
  rfl
set_option maxRecDepth 100000 in
theorem build_res {u : AV} {e : Int} (hu : (u = .slice0) ∨ ∃ i n c, u = .slice i 0 n c) : evBuild Try.prog 80 [(0, u), (1, .int .i64 e)] = some (.agg [u, .int .i64 e]) := by
  rcases hu with rfl | ⟨i, n, c, rfl⟩
  · kernel_rfl
  · kernel_rfl
theorem isl_form {e : TypeId} {sz n : Nat} {l : List AV} {v : AV} {L : Ob} (k : IsL e sz n l v L) : v = .slice0 ∨ ∃ i n c, v = .slice i 0 n c := by
  cases k with
  | nil => exact .inl rfl
  | cells => exact .inr ⟨_, _, _, rfl⟩
  | row => exact .inr ⟨_, _, _, rfl⟩
set_option maxRecDepth 100000 in
set_option maxHeartbeats 64000000 in
theorem rturning_con (b : Bool) (h : Heap) (g : Gd h) (lv lo hi : Int) (cv sv : AV) (cl : List Cw) (ss : List Sh) (hc : CyV h cv cl) (hs : ShV h sv ss) :
    ∃ v L, Con Try.prog Bs 46 [.agg [.int .i64 lv, cv, sv], .agg [.int .i64 lo, .int .i64 hi], .bool b] h [] v L ∧ ∃ u, v = .agg [u, .int .i64 (minR lv (cys cl) ss lo hi)] ∧ IsL 51 3 (trnR lv (cys cl) ss lo hi b).length (sdF (trnR lv (cys cl) ss lo hi b)) u L := by
  have hlen := stdR_len (lv := lv) (cs := cys cl) (ss := ss) (lo := lo) (hi := hi)
  refine Con.pick (Con.startR rfl Try.func46 rfl rfl Try.ntmps46 rfl rfl (SS.init g) ?_)
  (refine WK.seq ?_; refine WK.region ?_; refine St.box fun _ _ => ?_; refine St.box fun _ _ => ?_; refine St.alloc fun _ _ => ?_; refine WO.nil ?_; refine WK.seq ?_; refine WK.region ?_; refine St.load ?_; refine St.load ?_)
  rename_i p3 hp3 p4 hp4 p6 hp6
  refine St.callR (fun _ => rfl) (fun h2 hh => rstanding_con h2 hh.gd lv lo hi cv sv cl ss (hc.vw hh) (hs.vw hh)) ?_
  rintro v L' ⟨u, rfl, hu⟩
  have hu2 := isl_ok hu
  unfold trnR
  generalize stdR lv (cys cl) ss lo hi = l at *
  generalize minR lv (cys cl) ss lo hi = e at *
  (refine St.alloc fun _ _ => ?_)
  rename_i p7 hp7
  refine St.store0 (hv := store_res (by kernel_rfl) hu2.1) ?_
  (refine WO.nil ?_; refine WK.seq ?_; refine WK.region ?_; refine St.assign ?_; refine WO.nil ?_; refine WK.seq ?_; refine WK.seq ?_; refine WK.region ?_; refine St.assign ?_; refine WO.nil ?_; refine WK.block ?_)
  refine WK.perm (L' := (p7, .cells [u, .int .i64 e] 80) :: (p6, .cells [.slice0, .int .i64 0] 80) :: (p4, .cells [.int .i64 lo, .int .i64 hi] 37) :: (p3, .cells [.int .i64 lv, cv, sv] 25) :: L') (by (refine perm_cnt fun _ _ => ?_; simp only [List.append_eq, List.cons_append, List.nil_append, List.count_append, List.count_cons, List.count_nil, Nat.add_zero, Nat.zero_add]; try ac_rfl)) ?_
  refine WK.inv (ι := Nat × AV × Ob) (fun z => [(2, .bool b), (6, .ptr p6 0), (7, .ptr p7 0), (8, z.2.1), (9, .int .i64 ((z.1 + 1 : Nat) : Int))]) (fun z => (p7, .cells [u, .int .i64 e] 80) :: (p6, .cells [.slice0, .int .i64 0] 80) :: (L' ++ z.2.2)) (fun z => (z.1 = 0 ∨ z.1 + 1 ≤ l.length) ∧ IsL 51 3 (turnS l b (z.1 + 1)).length (sdF (turnS l b (z.1 + 1))) z.2.1 z.2.2) (fun z => l.length - z.1) (0, .slice0, []) ⟨.inl rfl, by rw [turnS_zero]; exact .nil rfl rfl⟩ ⟨rfl, rfl, rfl, rfl, rfl, trivial⟩ ?_ ?_
  · rw [List.append_nil]
    exact List.Sublist.cons_cons _ (List.Sublist.cons_cons _ ((List.sublist_cons_self _ _).trans (List.sublist_cons_self _ _)))
  rintro ⟨k, w, Lw⟩ ⟨hkl, hw⟩ ih
  simp only at hkl hw ih ⊢
  have htl := turnS_len l b (k + 1)
  (refine WK.seq ?_; refine WK.seq ?_; refine WK.region ?_; refine St.move ?_; refine St.binI ?_; refine St.fieldAddr ?_; refine St.load ?_)
  refine St.lenV rfl (isl_len hu Try.underlying47) ?_
  (refine St.bin ?_; refine WO.nil ?_)
  refine St.splitC (fun hcc => ?_) (fun hcc => ?_)
  rotate_left
  · have hend : turnS l b l.length = turnS l b (k + 1) := by
      have hle : l.length ≤ k + 2 := by simp at hcc; omega
      rcases Nat.lt_or_ge l.length (k + 1) with h3 | h3
      · have hk0 : k = 0 := by omega
        subst hk0
        rw [turnS_zero, show l.length = 0 by omega]
        rfl
      · have := turnS_all (l := l) (b := b) (k := k + 1) hle (l.length - (k + 1))
        rw [show k + 1 + (l.length - (k + 1)) = l.length by omega] at this
        exact this
    rw [hend]
    have hw2 := isl_ok hw
    (refine WK.exit ?_; refine WK.seq ?_; refine WK.region ?_; refine St.move ?_; refine St.fieldAddr ?_; refine St.load ?_)
    refine St.build ?_ (he := build_res (isl_form hw))
    refine St.store1 (hv := store_res (by kernel_rfl) hw2.1) ?_
    (refine WO.nil ?_)
    refine St.ret (by first | exact .tmp .nil | exact .cell .nil | exact .cell (.tmp .nil) | exact .tmp (.tmp .nil) | exact .cell (.cell .nil) | exact .tmp (.cell .nil) | exact .nil | exact .tmp (.cell (.tmp .nil)) | exact .cell (.tmp (.tmp .nil)) | exact .cell (.cell (.tmp .nil)) | exact .tmp (.tmp (.tmp .nil)) | exact .cell (.cell (.cell .nil))) ?_
    refine ⟨Lw, (p7, .cells [u, .int .i64 e] 80) :: (p6, .cells [w, .int .i64 e] 80) :: L', ?_, w, rfl, hw⟩
    (refine perm_cnt fun _ _ => ?_; simp only [List.append_eq, List.cons_append, List.nil_append, List.count_append, List.count_cons, List.count_nil, Nat.add_zero, Nat.zero_add]; try ac_rfl)
  have hlt : k + 2 < l.length := by simp at hcc; omega
  obtain ⟨js, c, o, rfl, rfl, ho, hl⟩ := hu.ne (by omega)
  have next : turnS l b (k + 1 + 1) = turnS l b (k + 1) → WK Try.prog Bs _ h [] _ [] _ _ _ := fun q => ih (k + 1, w, Lw) ⟨by simp only; omega, by simp only; rw [q]; exact hw⟩ (by simp only; omega)
  simp only at next
  (refine WK.skip ?_; refine WK.seq ?_; refine WK.block ?_; refine WK.seq ?_; refine WK.region ?_; refine St.fieldAddr ?_; refine St.load ?_; refine St.move ?_; refine St.binI ?_)
  refine St.at ?_
  (refine St.fieldAddr ?_)
  refine St.loadX (fun h2 hh => ((has_sth hh (j := js) (o := o) (by simp) ho).ht_ (z := ((k + 1 : Nat) : Int) - 1) (n := k) (by omega) (by omega)).one rfl) ?_
  (refine St.assign ?_; refine WO.nil ?_; refine WK.seq ?_; refine WK.region ?_; refine St.fieldAddr ?_; refine St.load ?_; refine St.move ?_)
  refine St.at ?_
  (refine St.fieldAddr ?_)
  refine St.loadX (fun h2 hh => ((has_sth hh (j := js) (o := o) (by simp) ho).ht_ (z := ((k + 1 : Nat) : Int)) (n := k + 1) (by omega) (by omega)).one rfl) ?_
  (refine St.assign ?_; refine WO.nil ?_; refine WK.seq ?_; refine WK.region ?_; refine St.fieldAddr ?_; refine St.load ?_; refine St.move ?_; refine St.binI ?_)
  refine St.at ?_
  (refine St.fieldAddr ?_)
  refine St.loadX (fun h2 hh => ((has_sth hh (j := js) (o := o) (by simp) ho).ht_ (z := ((k + 1 : Nat) : Int) + 1) (n := k + 2) (by omega) (by omega)).one rfl) ?_
  have fin : turnS l b (k + 1 + 1) = turnS l b (k + 1) ++ [nthD l (k + 1)] → ∀ (w3 : AV) (Lw3 : Ob), IsL 51 3 ((turnS l b (k + 1)).length + 1) (sdF (turnS l b (k + 1)) ++ sdC (nthD l (k + 1))) w3 Lw3 → WK Try.prog Bs _ h [] _ [] _ _ _ := fun q w3 Lw3 hw3 => ih (k + 1, w3, Lw3) ⟨by simp only; omega, by simp only; rw [q, sdF_snoc, List.length_append]; exact hw3⟩ (by simp only; omega)
  simp only at fin
  clear ih
  cases b with
  | true =>
    (refine St.assign ?_; refine WO.nil ?_; refine WK.seq ?_; refine WK.region ?_; refine St.move ?_; refine St.move ?_; refine St.move ?_; refine St.move ?_; refine St.bin ?_; refine St.pickT ?_; refine St.move ?_)
    refine St.split (fun b1 => ?_) (fun b1 => ?_)
    rotate_left
    · (refine St.skip ?_; refine St.skip ?_; refine St.skip ?_; refine St.pickF ?_; refine St.move ?_; refine St.move ?_; refine St.un ?_; refine St.move ?_; refine St.skip ?_; refine St.skip ?_; refine St.skip ?_; refine St.pickF ?_; refine St.move ?_; refine St.skip ?_; refine St.skip ?_; refine St.skip ?_; refine St.pickF ?_; refine St.pickF ?_; refine WO.nil ?_; refine WK.condF ?_; refine WK.skip ?_; refine WK.blk ?_; refine WK.region ?_; refine St.move ?_; refine St.binI ?_; refine St.assign ?_; refine WO.nil ?_)
      refine WK.le ?_ (by (repeat (first | exact List.Sublist.refl _ | exact List.nil_sublist _ | apply List.Sublist.cons_cons | apply List.Sublist.cons))) (next (turn_no1 b1))
      exact ⟨rfl, rfl, rfl, rfl, congrArg (fun z => some (AV.int .i64 z)) (by omega), trivial⟩
    (refine St.move ?_; refine St.move ?_; refine St.bin ?_; refine St.pickT ?_; refine St.move ?_)
    refine St.split (fun b2 => ?_) (fun b2 => ?_)
    rotate_left
    · (refine St.move ?_; refine St.un ?_; refine St.move ?_; refine St.skip ?_; refine St.skip ?_; refine St.skip ?_; refine St.pickF ?_; refine St.move ?_; refine St.skip ?_; refine St.skip ?_; refine St.skip ?_; refine St.pickF ?_; refine St.pickF ?_; refine WO.nil ?_; refine WK.condF ?_; refine WK.skip ?_; refine WK.blk ?_; refine WK.region ?_; refine St.move ?_; refine St.binI ?_; refine St.assign ?_; refine WO.nil ?_)
      refine WK.le ?_ (by (repeat (first | exact List.Sublist.refl _ | exact List.nil_sublist _ | apply List.Sublist.cons_cons | apply List.Sublist.cons))) (next (turn_no2 b2))
      exact ⟨rfl, rfl, rfl, rfl, congrArg (fun z => some (AV.int .i64 z)) (by omega), trivial⟩
    (refine St.skip ?_; refine St.skip ?_; refine St.skip ?_; refine St.skip ?_; refine St.skip ?_; refine St.skip ?_; refine St.skip ?_; refine St.skip ?_; refine St.skip ?_; refine St.skip ?_; refine St.skip ?_; refine St.skip ?_; refine St.pickT ?_; refine WO.nil ?_; refine WK.condT ?_; refine WK.region ?_; refine St.move ?_; refine St.fieldAddr ?_; refine St.load ?_; refine St.move ?_)
    refine St.at ?_
    refine St.loadX (fun h2 hh => ((has_sth hh (j := js) (o := o) (by simp) ho).at_ (z := ((k + 1 : Nat) : Int)) (n := k + 1) (by omega) (by omega)).agg (by simp) rfl rfl rfl) ?_
    (refine St.mkS fun _ _ => ?_)
    rename_i i2 hi2
    refine St.appL (new := sdC (nthD l (k + 1))) (Lk := [(i2, .cells (sdC (nthD l (k + 1))) 51), (p7, .cells [.slice js 0 l.length c, .int .i64 e] 80), (p6, .cells [.slice0, .int .i64 0] 80), (js, o)]) hw List.perm_append_comm (fun w3 Lw3 hw3 => ?_) ⟨rfl, rfl, rfl, rfl, rfl, rfl, rfl, rfl, rfl, rfl, rfl, rfl⟩ (List.Mem.head _) rfl (by omega) (by omega)
    (refine St.assign ?_; refine WO.nil ?_; refine WK.blk ?_; refine WK.region ?_; refine St.move ?_; refine St.binI ?_; refine St.assign ?_; refine WO.nil ?_)
    refine WK.perm (L' := (p7, .cells [.slice js 0 l.length c, .int .i64 e] 80) :: (p6, .cells [.slice0, .int .i64 0] 80) :: (js, o) :: (Lw3 ++ [(i2, .cells (sdC (nthD l (k + 1))) 51)])) (by (refine perm_cnt fun _ _ => ?_; simp only [List.append_eq, List.cons_append, List.nil_append, List.count_append, List.count_cons, List.count_nil, Nat.add_zero, Nat.zero_add]; try ac_rfl)) ?_
    refine WK.le ?_ ?_ (fin (turn_yes hlt b1 b2) w3 Lw3 hw3)
    · exact ⟨rfl, rfl, rfl, rfl, congrArg (fun z => some (AV.int .i64 z)) (by omega), trivial⟩
    · exact List.Sublist.cons_cons _ (List.Sublist.cons_cons _ (List.Sublist.cons_cons _ (List.sublist_append_left _ _)))
  | false =>
    (refine St.assign ?_; refine WO.nil ?_; refine WK.seq ?_; refine WK.region ?_; refine St.move ?_; refine St.move ?_; refine St.skip ?_; refine St.skip ?_; refine St.skip ?_; refine St.pickF ?_; refine St.move ?_; refine St.skip ?_; refine St.skip ?_; refine St.skip ?_; refine St.pickF ?_; refine St.move ?_; refine St.move ?_; refine St.un ?_; refine St.move ?_; refine St.move ?_; refine St.move ?_; refine St.bin ?_; refine St.pickT ?_; refine St.move ?_)
    refine St.split (fun b1 => ?_) (fun b1 => ?_)
    rotate_left
    · (refine St.skip ?_; refine St.skip ?_; refine St.skip ?_; refine St.pickF ?_; refine St.pickF ?_; refine WO.nil ?_; refine WK.condF ?_; refine WK.skip ?_; refine WK.blk ?_; refine WK.region ?_; refine St.move ?_; refine St.binI ?_; refine St.assign ?_; refine WO.nil ?_)
      refine WK.le ?_ (by (repeat (first | exact List.Sublist.refl _ | exact List.nil_sublist _ | apply List.Sublist.cons_cons | apply List.Sublist.cons))) (next (turn_no1 b1))
      exact ⟨rfl, rfl, rfl, rfl, congrArg (fun z => some (AV.int .i64 z)) (by omega), trivial⟩
    (refine St.move ?_; refine St.move ?_; refine St.bin ?_; refine St.pickT ?_; refine St.pickF ?_; refine WO.nil ?_)
    refine St.splitC (fun b2 => ?_) (fun b2 => ?_)
    rotate_left
    · (refine WK.skip ?_; refine WK.blk ?_; refine WK.region ?_; refine St.move ?_; refine St.binI ?_; refine St.assign ?_; refine WO.nil ?_)
      refine WK.le ?_ (by (repeat (first | exact List.Sublist.refl _ | exact List.nil_sublist _ | apply List.Sublist.cons_cons | apply List.Sublist.cons))) (next (turn_no2 b2))
      exact ⟨rfl, rfl, rfl, rfl, congrArg (fun z => some (AV.int .i64 z)) (by omega), trivial⟩
    (refine WK.region ?_; refine St.move ?_; refine St.fieldAddr ?_; refine St.load ?_; refine St.move ?_)
    refine St.at ?_
    refine St.loadX (fun h2 hh => ((has_sth hh (j := js) (o := o) (by simp) ho).at_ (z := ((k + 1 : Nat) : Int)) (n := k + 1) (by omega) (by omega)).agg (by simp) rfl rfl rfl) ?_
    (refine St.mkS fun _ _ => ?_)
    rename_i i2 hi2
    refine St.appL (new := sdC (nthD l (k + 1))) (Lk := [(i2, .cells (sdC (nthD l (k + 1))) 51), (p7, .cells [.slice js 0 l.length c, .int .i64 e] 80), (p6, .cells [.slice0, .int .i64 0] 80), (js, o)]) hw List.perm_append_comm (fun w3 Lw3 hw3 => ?_) ⟨rfl, rfl, rfl, rfl, rfl, rfl, rfl, rfl, rfl, rfl, rfl, rfl⟩ (List.Mem.head _) rfl (by omega) (by omega)
    (refine St.assign ?_; refine WO.nil ?_; refine WK.blk ?_; refine WK.region ?_; refine St.move ?_; refine St.binI ?_; refine St.assign ?_; refine WO.nil ?_)
    refine WK.perm (L' := (p7, .cells [.slice js 0 l.length c, .int .i64 e] 80) :: (p6, .cells [.slice0, .int .i64 0] 80) :: (js, o) :: (Lw3 ++ [(i2, .cells (sdC (nthD l (k + 1))) 51)])) (by (refine perm_cnt fun _ _ => ?_; simp only [List.append_eq, List.cons_append, List.nil_append, List.count_append, List.count_cons, List.count_nil, Nat.add_zero, Nat.zero_add]; try ac_rfl)) ?_
    refine WK.le ?_ ?_ (fin (turn_yes hlt b1 b2) w3 Lw3 hw3)
    · exact ⟨rfl, rfl, rfl, rfl, congrArg (fun z => some (AV.int .i64 z)) (by omega), trivial⟩
    · exact List.Sublist.cons_cons _ (List.Sublist.cons_cons _ (List.Sublist.cons_cons _ (List.sublist_append_left _ _)))
end Go.Proofs.Ytekpffjcffeanaa
