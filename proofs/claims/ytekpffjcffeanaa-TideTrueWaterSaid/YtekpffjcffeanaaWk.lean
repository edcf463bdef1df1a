/- High and low waters: the program's turns, the reference's Turning; the law TideTurns. -/
import Derived.Test.YtekpffjcffeanaaWj
import Derived.Test.YtekpffjcffeanaaWg
namespace Go.Proofs.Ytekpffjcffeanaa
open Go.Proofs.Ytekpffjcffeanaa.Ev

/-- the stands that go beyond both neighbours -/
def trnR (lv : Int) (cs : List Cy) (ss : List Sh) (lo hi : Int) (b : Bool) : List Sd := turnS (stdR lv cs ss lo hi) b (stdR lv cs ss lo hi).length
theorem trnR_no {lv : Int} {cs : List Cy} {ss : List Sh} {lo hi : Int} {b : Bool} (h : minR lv cs ss lo hi ≠ 0) : trnR lv cs ss lo hi b = [] := by
  unfold trnR
  rw [stdR_no h]
  rfl
theorem trnR_len {lv : Int} {cs : List Cy} {ss : List Sh} {lo hi : Int} {b : Bool} : (trnR lv cs ss lo hi b).length ≤ 10080 := Nat.le_trans (turnS_len _ _ _) stdR_len
theorem all_pos {f : Nat → Int} {lo : Int} {n : Nat} (h : 0 < n) : 0 < (allS f lo n).length := by
  obtain ⟨m, rfl⟩ : ∃ m, n = m + 1 := ⟨n - 1, by omega⟩
  simp [allS]
theorem turn_yes {l : List Sd} {b : Bool} {k : Nat} (h : k + 2 < l.length) (h1 : bey b (nthD l (k + 1)).ht (nthD l k).ht = true) (h2 : bey b (nthD l (k + 1)).ht (nthD l (k + 2)).ht = true) : turnS l b (k + 1 + 1) = turnS l b (k + 1) ++ [nthD l (k + 1)] := by
  rw [turnS_succ, if_pos]
  unfold turnB
  rw [show k + 1 - 1 = k by omega, h1, show k + 1 + 1 = k + 2 by omega, h2, decide_eq_true h, decide_eq_true (show 1 ≤ k + 1 by omega)]
  rfl
theorem turn_no1 {l : List Sd} {b : Bool} {k : Nat} (h1 : bey b (nthD l (k + 1)).ht (nthD l k).ht = false) : turnS l b (k + 1 + 1) = turnS l b (k + 1) := by
  rw [turnS_succ, if_neg]
  unfold turnB
  rw [show k + 1 - 1 = k by omega, h1]
  simp
theorem turn_no2 {l : List Sd} {b : Bool} {k : Nat} (h2 : bey b (nthD l (k + 1)).ht (nthD l (k + 2)).ht = false) : turnS l b (k + 1 + 1) = turnS l b (k + 1) := by
  rw [turnS_succ, if_neg]
  unfold turnB
  rw [show k + 1 + 1 = k + 2 by omega, h2]
  simp
set_option maxRecDepth 100000 in
theorem high1_con (h : Heap) (g : Gd h) (x y : Sd) : Con Try.prog Bs 71 [.agg (sdC x), .agg (sdC y)] h [] (.bool (bey true x.ht y.ht)) [] := by
  refine Con.start rfl Try.func71 rfl rfl Try.ntmps71 rfl rfl g ?_
  (refine WK.seq ?_; refine WK.region ?_; refine St.box fun _ _ => ?_; refine St.box fun _ _ => ?_; refine St.assign ?_; refine WO.nil ?_; refine WK.seq ?_; refine WK.region ?_; refine St.fieldAddr ?_; refine St.load ?_; refine St.fieldAddr ?_; refine St.load ?_; refine St.bin ?_; refine St.assign ?_; refine WO.nil ?_)
  refine St.ret (by first | exact .tmp .nil | exact .cell .nil | exact .cell (.tmp .nil) | exact .tmp (.tmp .nil) | exact .cell (.cell .nil) | exact .tmp (.cell .nil) | exact .nil | exact .tmp (.cell (.tmp .nil)) | exact .cell (.tmp (.tmp .nil)) | exact .cell (.cell (.tmp .nil)) | exact .tmp (.tmp (.tmp .nil)) | exact .cell (.cell (.cell .nil))) ?_
  rfl
set_option maxRecDepth 100000 in
theorem low1_con (h : Heap) (g : Gd h) (x y : Sd) : Con Try.prog Bs 72 [.agg (sdC x), .agg (sdC y)] h [] (.bool (bey false x.ht y.ht)) [] := by
  refine Con.start rfl Try.func72 rfl rfl Try.ntmps72 rfl rfl g ?_
  (refine WK.seq ?_; refine WK.region ?_; refine St.box fun _ _ => ?_; refine St.box fun _ _ => ?_; refine St.assign ?_; refine WO.nil ?_; refine WK.seq ?_; refine WK.region ?_; refine St.fieldAddr ?_; refine St.load ?_; refine St.fieldAddr ?_; refine St.load ?_; refine St.bin ?_; refine St.assign ?_; refine WO.nil ?_)
  refine St.ret (by first | exact .tmp .nil | exact .cell .nil | exact .cell (.tmp .nil) | exact .tmp (.tmp .nil) | exact .cell (.cell .nil) | exact .tmp (.cell .nil) | exact .nil | exact .tmp (.cell (.tmp .nil)) | exact .cell (.tmp (.tmp .nil)) | exact .cell (.cell (.tmp .nil)) | exact .tmp (.tmp (.tmp .nil)) | exact .cell (.cell (.cell .nil))) ?_
  rfl
set_option maxRecDepth 100000 in
set_option maxHeartbeats 32000000 in
theorem turns_con (F : Nat) (b : Bool) (hF : ∀ (h : Heap) (_ : Gd h) (x y : Sd), Con Try.prog Bs F [.agg (sdC x), .agg (sdC y)] h [] (.bool (bey b x.ht y.ht)) []) (h : Heap) (g : Gd h) (lv lo hi : Int) (cv sv : AV) (cl : List Cw) (ss : List Sh) (hc : CyV h cv cl) (hs : ShV h sv ss) :
    ∃ v L, Con Try.prog Bs 70 [.agg [.int .i64 lv, cv, sv], .agg [.int .i64 lo, .int .i64 hi], .fn (.func F) [] []] h [] v L ∧ ∃ u, v = .tup [u, .int .i64 (minR lv (cys cl) ss lo hi)] ∧ IsL 51 3 (trnR lv (cys cl) ss lo hi b).length (sdF (trnR lv (cys cl) ss lo hi b)) u L := by
  have hlen := stdR_len (lv := lv) (cs := cys cl) (ss := ss) (lo := lo) (hi := hi)
  refine Con.pick (Con.startR rfl Try.func70 rfl rfl Try.ntmps70 rfl rfl (SS.init g) ?_)
  (refine WK.seq ?_; refine WK.region ?_; refine St.box fun _ _ => ?_; refine St.box fun _ _ => ?_; refine St.assign ?_; refine St.assign ?_; refine WO.nil ?_; refine WK.seq ?_; refine WK.region ?_; refine St.load ?_; refine St.load ?_)
  rename_i p3 hp3 p4 hp4
  refine St.callR (fun _ => rfl) (fun h2 hh => standsL_con h2 hh.gd lv lo hi cv sv cl ss (hc.vw hh) (hs.vw hh)) ?_
  rintro v L' ⟨u, rfl, hu⟩
  (refine St.move ?_; refine St.extract ?_; refine St.extract ?_; refine St.assign ?_; refine St.assign ?_; refine WO.nil ?_; refine WK.seq ?_; refine WK.seq ?_; refine WK.region ?_; refine St.move ?_; refine St.bin ?_; refine WO.nil ?_)
  refine St.splitC (fun h1 => ?_) (fun h1 => ?_)
  · (refine WK.seq ?_; refine WK.region ?_; refine St.move ?_; refine St.assign ?_; refine St.assign ?_; refine WO.nil ?_)
    refine St.ret (by first | exact .tmp .nil | exact .cell .nil | exact .cell (.tmp .nil) | exact .tmp (.tmp .nil) | exact .cell (.cell .nil) | exact .tmp (.cell .nil) | exact .nil | exact .tmp (.cell (.tmp .nil)) | exact .cell (.tmp (.tmp .nil)) | exact .cell (.cell (.tmp .nil)) | exact .tmp (.tmp (.tmp .nil)) | exact .cell (.cell (.cell .nil))) ?_
    rw [trnR_no (by simpa using h1)]
    exact ⟨[], _, List.Perm.refl _, _, rfl, .nil rfl rfl⟩
  have e1 : minR lv (cys cl) ss lo hi = 0 := by simpa using h1
  have m := minR_ok e1
  have m2 := m.le
  have hpos : 0 < (stdR lv (cys cl) ss lo hi).length := by rw [stdR_ok e1]; exact all_pos (by omega)
  unfold trnR
  rw [e1]
  generalize stdR lv (cys cl) ss lo hi = l at *
  obtain ⟨js, c, o, rfl, rfl, ho, hl⟩ := hu.ne hpos
  (refine WK.skip ?_; refine WK.seq ?_; refine WK.region ?_; refine St.assign ?_; refine WO.nil ?_; refine WK.seq ?_; refine WK.seq ?_; refine WK.region ?_; refine St.assign ?_; refine WO.nil ?_; refine WK.block ?_)
  refine WK.inv (ι := Nat × AV × Ob) (fun z => [(2, .fn (.func F) [] []), (8, .slice js 0 l.length c), (10, z.2.1), (11, .int .i64 ((z.1 + 1 : Nat) : Int))]) (fun z => (js, o) :: (p4, .cells [.int .i64 lo, .int .i64 hi] 37) :: (p3, .cells [.int .i64 lv, cv, sv] 25) :: z.2.2) (fun z => z.1 + 1 ≤ l.length ∧ IsL 51 3 (turnS l b (z.1 + 1)).length (sdF (turnS l b (z.1 + 1))) z.2.1 z.2.2) (fun z => l.length - z.1) (0, .slice0, []) ⟨by omega, by rw [turnS_zero]; exact .nil rfl rfl⟩ ⟨rfl, rfl, rfl, rfl, trivial⟩ (by (repeat (first | exact List.Sublist.refl _ | exact List.nil_sublist _ | apply List.Sublist.cons_cons | apply List.Sublist.cons))) ?_
  rintro ⟨k, w, Lw⟩ ⟨hkl, hw⟩ ih
  simp only at hkl hw ih ⊢
  have htl := turnS_len l b (k + 1)
  (refine WK.seq ?_; refine WK.seq ?_; refine WK.region ?_; refine St.move ?_; refine St.move ?_; refine St.len ?_; refine St.binI ?_; refine St.bin ?_; refine WO.nil ?_)
  refine St.splitC (fun hcc => ?_) (fun hcc => ?_)
  rotate_left
  · have hend : turnS l b l.length = turnS l b (k + 1) := by
      have := turnS_all (l := l) (b := b) (k := k + 1) (by simp at hcc; omega) (l.length - (k + 1))
      rw [show k + 1 + (l.length - (k + 1)) = l.length by omega] at this
      exact this
    rw [hend]
    (refine WK.exit ?_; refine WK.seq ?_; refine WK.region ?_; refine St.move ?_; refine St.assign ?_; refine St.assign ?_; refine WO.nil ?_)
    refine St.ret (by first | exact .tmp .nil | exact .cell .nil | exact .cell (.tmp .nil) | exact .tmp (.tmp .nil) | exact .cell (.cell .nil) | exact .tmp (.cell .nil) | exact .nil | exact .tmp (.cell (.tmp .nil)) | exact .cell (.tmp (.tmp .nil)) | exact .cell (.cell (.tmp .nil)) | exact .tmp (.tmp (.tmp .nil)) | exact .cell (.cell (.cell .nil))) ?_
    refine ⟨Lw, [(js, o), (p4, .cells [.int .i64 lo, .int .i64 hi] 37), (p3, .cells [.int .i64 lv, cv, sv] 25)], List.perm_append_comm, w, rfl, hw⟩
  have hlt : k + 2 < l.length := by simp at hcc; omega
  have next : turnS l b (k + 1 + 1) = turnS l b (k + 1) → WK Try.prog Bs _ h [] _ [] _ _ _ := fun q => ih (k + 1, w, Lw) ⟨by simp only; omega, by simp only; rw [q]; exact hw⟩ (by simp only; omega)
  simp only at next
  (refine WK.skip ?_; refine WK.seq ?_; refine WK.block ?_; refine WK.seq ?_; refine WK.regionD ?_; refine St.move ?_; refine St.move ?_; refine St.move ?_)
  refine St.at ?_
  refine St.loadX (fun h2 hh => ((has_sth hh (j := js) (o := o) (by simp) ho).at_ (z := ((k + 1 : Nat) : Int)) (n := k + 1) (by omega) (by omega)).agg (by simp) rfl rfl rfl) ?_
  (refine St.move ?_; refine St.move ?_; refine St.binI ?_)
  refine St.at ?_
  refine St.loadX (fun h2 hh => ((has_sth hh (j := js) (o := o) (by simp) ho).at_ (z := ((k + 1 : Nat) : Int) - 1) (n := k) (by omega) (by omega)).agg (by simp) rfl rfl rfl) ?_
  refine St.call (fun _ => rfl) (fun h2 hh => hF h2 hh.gd (nthD l (k + 1)) (nthD l k)) ?_
  (refine St.move ?_)
  refine St.split (fun b1 => ?_) (fun b1 => ?_)
  rotate_left
  · (refine St.skip ?_; refine St.skip ?_; refine St.skip ?_; refine St.skip ?_; refine St.skip ?_; refine St.skip ?_; refine St.skip ?_; refine St.skip ?_; refine St.skip ?_; refine St.skip ?_; refine St.skip ?_; refine St.pickF ?_; refine WO.nil ?_; refine WK.condF ?_; refine WK.skip ?_; refine WK.blk ?_; refine WK.region ?_; refine St.move ?_; refine St.binI ?_; refine St.assign ?_; refine WO.nil ?_)
    refine WK.le ?_ (by (repeat (first | exact List.Sublist.refl _ | exact List.nil_sublist _ | apply List.Sublist.cons_cons | apply List.Sublist.cons))) (next (turn_no1 b1))
    exact ⟨rfl, rfl, rfl, congrArg (fun z => some (AV.int .i64 z)) (by omega), trivial⟩
  (refine St.move ?_; refine St.move ?_; refine St.move ?_)
  refine St.at ?_
  refine St.loadX (fun h2 hh => ((has_sth hh (j := js) (o := o) (by simp) ho).at_ (z := ((k + 1 : Nat) : Int)) (n := k + 1) (by omega) (by omega)).agg (by simp) rfl rfl rfl) ?_
  (refine St.move ?_; refine St.move ?_; refine St.binI ?_)
  refine St.at ?_
  refine St.loadX (fun h2 hh => ((has_sth hh (j := js) (o := o) (by simp) ho).at_ (z := ((k + 1 : Nat) : Int) + 1) (n := k + 2) (by omega) (by omega)).agg (by simp) rfl rfl rfl) ?_
  refine St.call (fun _ => rfl) (fun h2 hh => hF h2 hh.gd (nthD l (k + 1)) (nthD l (k + 2))) ?_
  (refine St.pickT ?_; refine WO.nil ?_)
  refine St.splitC (fun b2 => ?_) (fun b2 => ?_)
  rotate_left
  · (refine WK.skip ?_; refine WK.blk ?_; refine WK.region ?_; refine St.move ?_; refine St.binI ?_; refine St.assign ?_; refine WO.nil ?_)
    refine WK.le ?_ (by (repeat (first | exact List.Sublist.refl _ | exact List.nil_sublist _ | apply List.Sublist.cons_cons | apply List.Sublist.cons))) (next (turn_no2 b2))
    exact ⟨rfl, rfl, rfl, congrArg (fun z => some (AV.int .i64 z)) (by omega), trivial⟩
  clear next
  have q := turn_yes hlt b1 b2
  (refine WK.region ?_; refine St.move ?_; refine St.move ?_; refine St.move ?_)
  refine St.at ?_
  refine St.loadX (fun h2 hh => ((has_sth hh (j := js) (o := o) (by simp) ho).at_ (z := ((k + 1 : Nat) : Int)) (n := k + 1) (by omega) (by omega)).agg (by simp) rfl rfl rfl) ?_
  (refine St.mkS fun _ _ => ?_)
  rename_i i2 hi2
  refine St.appL (new := sdC (nthD l (k + 1))) (Lk := [(i2, .cells (sdC (nthD l (k + 1))) 51), (js, o), (p4, .cells [.int .i64 lo, .int .i64 hi] 37), (p3, .cells [.int .i64 lv, cv, sv] 25)]) hw List.perm_append_comm (fun w3 Lw3 hw3 => ?_) ⟨rfl, rfl, rfl, rfl, rfl, rfl, rfl, rfl, rfl, rfl, rfl, rfl⟩ (List.Mem.head _) rfl (by omega) (by omega)
  (refine St.assign ?_; refine WO.nil ?_; refine WK.blk ?_; refine WK.region ?_; refine St.move ?_; refine St.binI ?_; refine St.assign ?_; refine WO.nil ?_)
  refine WK.perm (L' := (js, o) :: (p4, .cells [.int .i64 lo, .int .i64 hi] 37) :: (p3, .cells [.int .i64 lv, cv, sv] 25) :: (Lw3 ++ [(i2, .cells (sdC (nthD l (k + 1))) 51)])) (by (refine perm_cnt fun _ _ => ?_; simp only [List.append_eq, List.cons_append, List.nil_append, List.count_append, List.count_cons, List.count_nil, Nat.add_zero, Nat.zero_add]; try ac_rfl)) ?_
  refine WK.le ?_ ?_ (ih (k + 1, w3, Lw3) ⟨by simp only; omega, ?_⟩ (by simp only; omega))
  · exact ⟨rfl, rfl, rfl, congrArg (fun z => some (AV.int .i64 z)) (by omega), trivial⟩
  · exact List.Sublist.cons_cons _ (List.Sublist.cons_cons _ (List.Sublist.cons_cons _ (List.sublist_append_left _ _)))
  · simp only
    rw [q, sdF_snoc, List.length_append]
    exact hw3
end Go.Proofs.Ytekpffjcffeanaa
