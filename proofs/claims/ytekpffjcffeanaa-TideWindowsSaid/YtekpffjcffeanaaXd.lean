/- The reference's Minutes and Next; the law TideWindows. -/
import Derived.Test.YtekpffjcffeanaaXc
namespace Go.Proofs.Ytekpffjcffeanaa
open Go.Proofs.Ytekpffjcffeanaa.Ev

set_option maxRecDepth 100000 in
set_option maxHeartbeats 16000000 in
theorem rminutes_con (h : Heap) (g : Gd h) (lv lo hi height : Int) (cv sv : AV) (cl : List Cw) (ss : List Sh) (hc : CyV h cv cl) (hs : ShV h sv ss) :
    Con Try.prog Bs 50 [.agg [.int .i64 lv, cv, sv], .agg [.int .i64 lo, .int .i64 hi], .int .i64 height] h [] (.tup [.int .i64 (sumW (winR lv (cys cl) ss lo hi height) (winR lv (cys cl) ss lo hi height).length), .int .i64 (minR lv (cys cl) ss lo hi)]) [] := by
  have hwd := winR_wd (lv := lv) (cs := cys cl) (ss := ss) (lo := lo) (hi := hi) (height := height)
  refine Con.start rfl Try.func50 rfl rfl Try.ntmps50 rfl rfl g ?_
  (refine WK.seq ?_; refine WK.region ?_; refine St.box fun _ _ => ?_; refine St.box fun _ _ => ?_; refine St.assign ?_; refine St.assign ?_; refine WO.nil ?_; refine WK.seq ?_; refine WK.region ?_; refine St.load ?_; refine St.load ?_; refine St.move ?_)
  rename_i p3 hp3 p4 hp4
  refine St.callR (fun _ => rfl) (fun h2 hh => rwindows_con h2 hh.gd lv lo hi height cv sv cl ss (hc.vw hh) (hs.vw hh)) ?_
  rintro v L' ⟨u, rfl, hu⟩
  have hu2 := isl_ok hu
  generalize winR lv (cys cl) ss lo hi height = l at *
  generalize minR lv (cys cl) ss lo hi = e at *
  (refine St.alloc fun _ _ => ?_)
  rename_i p8 hp8
  refine St.store0 (hv := store_res (by kernel_rfl) hu2.1) ?_
  (refine WO.nil ?_; refine WK.seq ?_; refine WK.region ?_; refine St.assign ?_; refine WO.nil ?_; refine WK.seq ?_; refine WK.seq ?_; refine WK.region ?_; refine St.assign ?_; refine WO.nil ?_; refine WK.block ?_)
  refine WK.inv (ι := Nat) (fun k => [(8, .ptr p8 0), (9, .int .i64 (sumW l k)), (10, .int .i64 k)]) (fun _ => (p8, .cells [u, .int .i64 e] 85) :: L') (fun k => k ≤ l.length) (fun k => l.length - k) 0 (Nat.zero_le _) ⟨rfl, rfl, rfl, trivial⟩ (List.Sublist.cons_cons _ (List.sublist_append_left _ _)) ?_
  intro k hkl ih
  obtain ⟨s1, s2⟩ := sumW_bd hwd k hkl
  have hwl := hwd.len
  (refine WK.seq ?_; refine WK.seq ?_; refine WK.region ?_; refine St.move ?_; refine St.fieldAddr ?_; refine St.load ?_)
  refine St.lenV rfl (isl_len hu Try.underlying40) ?_
  (refine St.bin ?_; refine WO.nil ?_)
  refine St.splitC (fun hcc => ?_) (fun hcc => ?_)
  · have hlt : k < l.length := by simp at hcc; omega
    have hst := sumW_succ hlt
    obtain ⟨a1, a2, a3, a4⟩ := hwd.one k hlt
    obtain ⟨js, c, o, rfl, rfl, ho, hl⟩ := hu.ne (by omega)
    (refine WK.skip ?_; refine WK.seq ?_; refine WK.block ?_; refine WK.regionD ?_; refine St.move ?_; refine St.fieldAddr ?_; refine St.load ?_; refine St.move ?_)
    refine St.at ?_
    (refine St.fieldAddr ?_)
    refine St.loadX (fun h2 hh => ((has_wdh hh (j := js) (o := o) (by simp) ho).hi_ (z := (k : Int)) (n := k) (by omega) hlt).one rfl) ?_
    (refine St.binI ?_; refine St.fieldAddr ?_; refine St.load ?_; refine St.move ?_)
    refine St.at ?_
    (refine St.fieldAddr ?_)
    refine St.loadX (fun h2 hh => ((has_wdh hh (j := js) (o := o) (by simp) ho).lo_ (z := (k : Int)) (n := k) (by omega) hlt).one rfl) ?_
    (refine St.binI ?_; refine St.binI ?_; refine St.assign ?_; refine WO.nil ?_; refine WK.blk ?_; refine WK.region ?_; refine St.move ?_; refine St.binI ?_; refine St.assign ?_; refine WO.nil ?_)
    refine WK.le ?_ (by (repeat (first | exact List.Sublist.refl _ | exact List.nil_sublist _ | apply List.Sublist.cons_cons | apply List.Sublist.cons))) (ih (k + 1) hlt (by omega))
    exact ⟨rfl, congrArg (fun z => some (AV.int .i64 z)) (by rw [hst]; omega), rfl, trivial⟩
  · have : k = l.length := by simp at hcc; omega
    subst this
    (refine WK.exit ?_; refine WK.seq ?_; refine WK.regionD ?_; refine St.move ?_; refine St.fieldAddr ?_; refine St.load ?_; refine St.assign ?_; refine St.assign ?_; refine WO.nil ?_)
    refine St.ret (by first | exact .tmp .nil | exact .cell .nil | exact .cell (.tmp .nil) | exact .tmp (.tmp .nil) | exact .cell (.cell .nil) | exact .tmp (.cell .nil) | exact .nil | exact .tmp (.cell (.tmp .nil)) | exact .cell (.tmp (.tmp .nil)) | exact .cell (.cell (.tmp .nil)) | exact .tmp (.tmp (.tmp .nil)) | exact .cell (.cell (.cell .nil))) ?_
    rfl
set_option maxRecDepth 100000 in
set_option maxHeartbeats 16000000 in
theorem rnext_con (h : Heap) (g : Gd h) (lv lo hi height long : Int) (cv sv : AV) (cl : List Cw) (ss : List Sh) (hc : CyV h cv cl) (hs : ShV h sv ss) :
    ∃ r, r = nextR lv (cys cl) ss lo hi height long ∧ Con Try.prog Bs 49 [.agg [.int .i64 lv, cv, sv], .agg [.int .i64 lo, .int .i64 hi], .int .i64 height, .int .i64 long] h [] (.tup [.agg [.int .i64 r.1, .int .i64 r.2.1], .int .i64 r.2.2]) [] := by
  have hwd := winR_wd (lv := lv) (cs := cys cl) (ss := ss) (lo := lo) (hi := hi) (height := height)
  refine ⟨_, rfl, ?_⟩
  unfold nextR
  refine Con.start rfl Try.func49 rfl rfl Try.ntmps49 rfl rfl g ?_
  (refine WK.seq ?_; refine WK.region ?_; refine St.box fun _ _ => ?_; refine St.box fun _ _ => ?_; refine St.alloc fun _ _ => ?_; refine St.assign ?_; refine WO.nil ?_; refine WK.seq ?_; refine WK.region ?_; refine St.load ?_; refine St.load ?_; refine St.move ?_)
  rename_i p4 hp4 p5 hp5 p8 hp8
  refine St.callR (fun _ => rfl) (fun h2 hh => rwindows_con h2 hh.gd lv lo hi height cv sv cl ss (hc.vw hh) (hs.vw hh)) ?_
  rintro v L' ⟨u, rfl, hu⟩
  have hu2 := isl_ok hu
  generalize winR lv (cys cl) ss lo hi height = l at *
  generalize minR lv (cys cl) ss lo hi = e at *
  (refine St.alloc fun _ _ => ?_)
  rename_i p10 hp10
  refine St.store0 (hv := store_res (by kernel_rfl) hu2.1) ?_
  (refine WO.nil ?_; refine WK.seq ?_; refine WK.seq ?_; refine WK.region ?_; refine St.fieldAddr ?_; refine St.load ?_; refine St.bin ?_; refine WO.nil ?_)
  refine WK.perm (L' := (p10, .cells [u, .int .i64 e] 85) :: (p8, .cells [.int .i64 0, .int .i64 0] 37) :: (L' ++ [(p5, .cells [.int .i64 lo, .int .i64 hi] 37), (p4, .cells [.int .i64 lv, cv, sv] 25)])) (by (refine perm_cnt fun _ _ => ?_; simp only [List.append_eq, List.cons_append, List.nil_append, List.count_append, List.count_cons, List.count_nil, Nat.add_zero, Nat.zero_add]; try ac_rfl)) ?_
  skip
  refine St.splitC (fun h1 => ?_) (fun h1 => ?_)
  · (refine WK.seq ?_)
    refine WK.regionE (n := 2) [(p10, .cells [u, .int .i64 e] 85), (p8, .cells [.int .i64 0, .int .i64 0] 37)] (by (repeat (first | exact List.Sublist.refl _ | exact List.nil_sublist _ | apply List.Sublist.cons_cons | apply List.Sublist.cons))) ?_
    (repeat (first | refine WE.move ?_ | refine WE.assign ?_ | refine WE.binI ?_ | refine WE.bin ?_ | refine WE.fieldAddr ?_ | refine WE.load 0 ?_ | refine WE.load 1 ?_ | refine WE.load 2 ?_ | refine WE.load 3 ?_ | refine WE.load 4 ?_ | refine WE.build ?_ | refine WE.alloc 1 fun _ _ => ?_ | refine WE.alloc 2 fun _ _ => ?_ | refine WE.store (A := []) 0 rfl ?_ | refine WE.store (A := [_]) 1 rfl ?_ | refine WE.store (A := [_, _]) 2 rfl ?_ | refine WE.store (A := [_, _, _]) 3 rfl ?_))
    refine WE.nil ?_
    skip
    refine St.ret (by first | exact .tmp .nil | exact .cell .nil | exact .cell (.tmp .nil) | exact .tmp (.tmp .nil) | exact .cell (.cell .nil) | exact .tmp (.cell .nil) | exact .nil | exact .tmp (.cell (.tmp .nil)) | exact .cell (.tmp (.tmp .nil)) | exact .cell (.cell (.tmp .nil)) | exact .tmp (.tmp (.tmp .nil)) | exact .cell (.cell (.cell .nil))) ?_
    rw [if_pos (by simpa using h1)]
    rfl
  rw [if_neg (by simpa using h1)]
  (refine WK.skip ?_; refine WK.seq ?_; refine WK.seq ?_; refine WK.region ?_; refine St.move ?_; refine St.bin ?_; refine WO.nil ?_)
  refine St.splitC (fun h2 => ?_) (fun h2 => ?_)
  · (refine WK.seq ?_; refine WK.region ?_; refine St.build ?_; refine St.store1 ?_; refine St.assign ?_; refine WO.nil ?_)
    refine St.ret (by first | exact .tmp .nil | exact .cell .nil | exact .cell (.tmp .nil) | exact .tmp (.tmp .nil) | exact .cell (.cell .nil) | exact .tmp (.cell .nil) | exact .nil | exact .tmp (.cell (.tmp .nil)) | exact .cell (.tmp (.tmp .nil)) | exact .cell (.cell (.tmp .nil)) | exact .tmp (.tmp (.tmp .nil)) | exact .cell (.cell (.cell .nil))) ?_
    rw [if_pos (by simpa using h2)]
    rfl
  rw [if_neg (by simpa using h2)]
  (refine WK.skip ?_; refine WK.seq ?_; refine WK.seq ?_; refine WK.region ?_; refine St.assign ?_; refine WO.nil ?_; refine WK.block ?_)
  refine WK.inv (ι := Nat) (fun k => [(3, .int .i64 long), (8, .ptr p8 0), (9, .int .i64 0), (10, .ptr p10 0), (11, .int .i64 k)]) (fun _ => (p10, .cells [u, .int .i64 e] 85) :: (p8, .cells [.int .i64 0, .int .i64 0] 37) :: L') (fun k => k ≤ l.length ∧ l.find? (fun s => decide (long ≤ s.hi - s.lo + 1)) = (l.drop k).find? (fun s => decide (long ≤ s.hi - s.lo + 1))) (fun k => l.length - k) 0 ⟨Nat.zero_le _, rfl⟩ ⟨rfl, rfl, rfl, rfl, rfl, trivial⟩ (List.Sublist.cons_cons _ (List.Sublist.cons_cons _ (List.sublist_append_left _ _))) ?_
  rintro k ⟨hkl, hfd⟩ ih
  have hwl := hwd.len
  (refine WK.seq ?_; refine WK.seq ?_; refine WK.region ?_; refine St.move ?_; refine St.fieldAddr ?_; refine St.load ?_)
  refine St.lenV rfl (isl_len hu Try.underlying40) ?_
  (refine St.bin ?_; refine WO.nil ?_)
  refine St.splitC (fun hcc => ?_) (fun hcc => ?_)
  · have hlt : k < l.length := by simp at hcc; omega
    have hdr := find_drop (p := fun s => decide (long ≤ s.hi - s.lo + 1)) hlt
    obtain ⟨a1, a2, a3, a4⟩ := hwd.one k hlt
    obtain ⟨js, c, o, rfl, rfl, ho, hl⟩ := hu.ne (by omega)
    (refine WK.skip ?_; refine WK.seq ?_; refine WK.block ?_; refine WK.seq ?_; refine WK.regionD ?_; refine St.fieldAddr ?_; refine St.load ?_; refine St.move ?_)
    refine St.at ?_
    (refine St.fieldAddr ?_)
    refine St.loadX (fun h2 hh => ((has_wdh hh (j := js) (o := o) (by simp) ho).hi_ (z := (k : Int)) (n := k) (by omega) hlt).one rfl) ?_
    (refine St.fieldAddr ?_; refine St.load ?_; refine St.move ?_)
    refine St.at ?_
    (refine St.fieldAddr ?_)
    refine St.loadX (fun h2 hh => ((has_wdh hh (j := js) (o := o) (by simp) ho).lo_ (z := (k : Int)) (n := k) (by omega) hlt).one rfl) ?_
    (refine St.binI ?_; refine St.binI ?_; refine St.move ?_; refine St.bin ?_; refine WO.nil ?_)
    refine St.splitC (fun h3 => ?_) (fun h3 => ?_)
    · rw [if_pos (by simpa using h3)] at hdr
      (refine WK.seq ?_; refine WK.region ?_; refine St.fieldAddr ?_; refine St.load ?_; refine St.move ?_)
      refine St.at ?_
      refine St.loadX (fun h2 hh => ((has_wdh hh (j := js) (o := o) (by simp) ho).at_ (z := (k : Int)) (n := k) (by omega) hlt).agg (by simp) rfl rfl rfl) ?_
      (refine St.store1 ?_; refine St.assign ?_; refine WO.nil ?_)
      refine St.ret (by first | exact .tmp .nil | exact .cell .nil | exact .cell (.tmp .nil) | exact .tmp (.tmp .nil) | exact .cell (.cell .nil) | exact .tmp (.cell .nil) | exact .nil | exact .tmp (.cell (.tmp .nil)) | exact .cell (.tmp (.tmp .nil)) | exact .cell (.cell (.tmp .nil)) | exact .tmp (.tmp (.tmp .nil)) | exact .cell (.cell (.cell .nil))) ?_
      rw [hfd, hdr]
      rfl
    · rw [if_neg (by simpa using h3)] at hdr
      (refine WK.skip ?_; refine WK.blk ?_; refine WK.region ?_; refine St.move ?_; refine St.binI ?_; refine St.assign ?_; refine WO.nil ?_)
      refine WK.le ?_ (by (repeat (first | exact List.Sublist.refl _ | exact List.nil_sublist _ | apply List.Sublist.cons_cons | apply List.Sublist.cons))) (ih (k + 1) ⟨hlt, by rw [hfd, hdr]⟩ (by omega))
      exact ⟨rfl, rfl, rfl, rfl, rfl, trivial⟩
  · have : k = l.length := by simp at hcc; omega
    subst this
    (refine WK.exit ?_; refine WK.seq ?_; refine WK.region ?_; refine St.build ?_; refine St.store1 ?_; refine St.assign ?_; refine WO.nil ?_)
    refine St.ret (by first | exact .tmp .nil | exact .cell .nil | exact .cell (.tmp .nil) | exact .tmp (.tmp .nil) | exact .cell (.cell .nil) | exact .tmp (.cell .nil) | exact .nil | exact .tmp (.cell (.tmp .nil)) | exact .cell (.tmp (.tmp .nil)) | exact .cell (.cell (.tmp .nil)) | exact .tmp (.tmp (.tmp .nil)) | exact .cell (.cell (.cell .nil))) ?_
    rw [hfd, List.drop_length]
    rfl
set_option maxRecDepth 100000 in
set_option maxHeartbeats 32000000 in
theorem windowsLaw_con (h : Heap) (g : Gd h) (lv lo hi height long : Int) (cv sv : AV) (l : List Cw) (ss : List Sh) (hc : CyV h cv l) (hs : ShV h sv ss) (hl : l.length ≤ 9223372036854775807) :
    Con Try.prog Bs 13 [.agg [.int .i64 lv, cv, sv], .agg [.int .i64 lo, .int .i64 hi], .int .i64 height, .int .i64 long] h [] (.bool true) [] := by
  have hlt := winR_len (lv := lv) (cs := cys l) (ss := ss) (lo := lo) (hi := hi) (height := height)
  obtain ⟨R, hR⟩ : ∃ R, R = nextR lv (cys l) ss lo hi height long := ⟨_, rfl⟩
  have hP : ∀ (h2 : Heap) {V : Ob}, Vw h [] V h2 → Con Try.prog Bs 48 [.agg [.int .i64 lv, cv, sv], .agg [.int .i64 lo, .int .i64 hi], .int .i64 height, .int .i64 long] h2 [] (.tup [.agg [.int .i64 R.1, .int .i64 R.2.1], .int .i64 R.2.2]) [] := fun h2 V hh => by
    obtain ⟨r, hr, k⟩ := next_con h2 hh.gd lv lo hi height long cv sv l ss (hc.vw hh) (hs.vw hh)
    rw [← hR] at hr
    subst hr
    exact k
  have hQ : ∀ (h2 : Heap) {V : Ob}, Vw h [] V h2 → Con Try.prog Bs 49 [.agg [.int .i64 lv, cv, sv], .agg [.int .i64 lo, .int .i64 hi], .int .i64 height, .int .i64 long] h2 [] (.tup [.agg [.int .i64 R.1, .int .i64 R.2.1], .int .i64 R.2.2]) [] := fun h2 V hh => by
    obtain ⟨r, hr, k⟩ := rnext_con h2 hh.gd lv lo hi height long cv sv l ss (hc.vw hh) (hs.vw hh)
    rw [← hR] at hr
    subst hr
    exact k
  clear hR
  obtain ⟨R1, R2, R3⟩ := R
  simp only at hP hQ
  refine Con.start rfl Try.func13 rfl rfl Try.ntmps13 rfl rfl g ?_
  (refine WK.seq ?_; refine WK.region ?_; refine St.box fun _ _ => ?_; refine St.box fun _ _ => ?_; refine St.assign ?_; refine WO.nil ?_; refine WK.seq ?_; refine WK.seq ?_; refine WK.region ?_; refine St.load ?_)
  rename_i p4 hp4 p5 hp5
  refine St.call (fun _ => rfl) (fun h2 hh => few_con h2 hh.gd lv cv sv l ss (hc.vw hh) (hs.vw hh) hl) ?_
  (refine St.un ?_; refine St.move ?_)
  refine St.split (fun h1 => ?_) (fun h1 => ?_)
  · (refine St.skip ?_; refine St.skip ?_; refine St.skip ?_; refine St.pickT ?_; refine WO.nil ?_; refine WK.condT ?_; refine WK.seq ?_; refine WK.region ?_)
    refine St.call (fun _ => rfl) (fun h2 hh => sanity_con h2 hh.gd) ?_
    (refine St.assign ?_; refine WO.nil ?_)
    refine St.ret (by first | exact .tmp .nil | exact .cell .nil | exact .cell (.tmp .nil) | exact .tmp (.tmp .nil) | exact .cell (.cell .nil) | exact .tmp (.cell .nil) | exact .nil | exact .tmp (.cell (.tmp .nil)) | exact .cell (.tmp (.tmp .nil)) | exact .cell (.cell (.tmp .nil)) | exact .tmp (.tmp (.tmp .nil)) | exact .cell (.cell (.cell .nil))) ?_
    rfl
  (refine St.load ?_)
  refine St.call (fun _ => rfl) (fun h2 hh => short_con h2 hh.gd lo hi) ?_
  (refine St.un ?_; refine St.pickF ?_; refine WO.nil ?_)
  refine St.splitC (fun h1 => ?_) (fun h1 => ?_)
  · (refine WK.seq ?_; refine WK.region ?_)
    refine St.call (fun _ => rfl) (fun h2 hh => sanity_con h2 hh.gd) ?_
    (refine St.assign ?_; refine WO.nil ?_)
    refine St.ret (by first | exact .tmp .nil | exact .cell .nil | exact .cell (.tmp .nil) | exact .tmp (.tmp .nil) | exact .cell (.cell .nil) | exact .tmp (.cell .nil) | exact .nil | exact .tmp (.cell (.tmp .nil)) | exact .cell (.tmp (.tmp .nil)) | exact .cell (.cell (.tmp .nil)) | exact .tmp (.tmp (.tmp .nil)) | exact .cell (.cell (.cell .nil))) ?_
    rfl
  (refine WK.skip ?_; refine WK.seq ?_; refine WK.region ?_; refine St.load ?_; refine St.load ?_; refine St.move ?_)
  refine St.callR (fun _ => rfl) (fun h2 hh => windowsP_con h2 hh.gd lv lo hi height cv sv l ss (hc.vw hh) (hs.vw hh)) ?_
  rintro v1 L1 ⟨u1, rfl, hu1⟩
  refine WO.permF (L' := (p5, .cells [.int .i64 lo, .int .i64 hi] 37) :: (p4, .cells [.int .i64 lv, cv, sv] 25) :: L1) (by (refine perm_cnt fun _ _ => ?_; simp only [List.append_eq, List.cons_append, List.nil_append, List.count_append, List.count_cons, List.count_nil, Nat.add_zero, Nat.zero_add]; try ac_rfl)) ?_
  (refine St.move ?_; refine St.extract ?_; refine St.extract ?_; refine St.assign ?_; refine St.assign ?_; refine WO.nil ?_; refine WK.seq ?_; refine WK.region ?_; refine St.load ?_; refine St.load ?_; refine St.move ?_)
  refine St.callR (fun _ => rfl) (fun h2 hh => rwindows_con h2 hh.gd lv lo hi height cv sv l ss (hc.vw hh) (hs.vw hh)) ?_
  rintro v2 L2 ⟨u2, rfl, hu2⟩
  have k2 := isl_ok hu2
  refine WO.permF (L' := (p5, .cells [.int .i64 lo, .int .i64 hi] 37) :: (p4, .cells [.int .i64 lv, cv, sv] 25) :: (L1 ++ L2)) (by (refine perm_cnt fun _ _ => ?_; simp only [List.append_eq, List.cons_append, List.nil_append, List.count_append, List.count_cons, List.count_nil, Nat.add_zero, Nat.zero_add]; try ac_rfl)) ?_
  (refine St.alloc fun _ _ => ?_)
  rename_i p11 hp11
  refine St.store0 (hv := store_res (by kernel_rfl) k2.1) ?_
  (refine WO.nil ?_; refine WK.seq ?_; refine WK.region ?_; refine St.load ?_; refine St.load ?_; refine St.move ?_; refine St.move ?_)
  refine St.call (fun _ => rfl) (fun h2 hh => hP h2 hh) ?_
  (refine St.move ?_; refine St.extract ?_; refine St.extract ?_; refine St.alloc fun _ _ => ?_; refine St.store0 ?_; refine St.assign ?_; refine WO.nil ?_; refine WK.seq ?_; refine WK.region ?_; refine St.load ?_; refine St.load ?_; refine St.move ?_; refine St.move ?_)
  refine St.call (fun _ => rfl) (fun h2 hh => hQ h2 hh) ?_
  (refine St.move ?_; refine St.extract ?_; refine St.extract ?_; refine St.alloc fun _ _ => ?_; refine St.store0 ?_; refine St.assign ?_; refine WO.nil ?_; refine WK.seq ?_; refine WK.region ?_; refine St.load ?_; refine St.load ?_; refine St.move ?_)
  refine St.call (fun _ => rfl) (fun h2 hh => minutes_con h2 hh.gd lv lo hi height cv sv l ss (hc.vw hh) (hs.vw hh)) ?_
  (refine St.move ?_; refine St.extract ?_; refine St.extract ?_; refine St.assign ?_; refine St.assign ?_; refine WO.nil ?_; refine WK.seq ?_; refine WK.region ?_; refine St.load ?_; refine St.load ?_; refine St.move ?_)
  refine St.call (fun _ => rfl) (fun h2 hh => rminutes_con h2 hh.gd lv lo hi height cv sv l ss (hc.vw hh) (hs.vw hh)) ?_
  generalize sumW (winR lv (cys l) ss lo hi height) (winR lv (cys l) ss lo hi height).length = S
  (refine St.move ?_; refine St.extract ?_; refine St.extract ?_; refine St.assign ?_; refine St.assign ?_; refine WO.nil ?_; refine WK.seq ?_; refine WK.region ?_)
  refine St.call (fun _ => rfl) (fun h2 hh => sanity_con h2 hh.gd) ?_
  (refine St.move ?_; refine St.move ?_; refine St.fieldAddr ?_; refine St.load ?_)
  refine St.call (fun _ => rfl) (fun h2 hh => sameSpans_con h2 hh.gd u1 u2 _ (isl_wdv hu1 hh (fun x hx => by simp [hx])) (isl_wdv hu2 hh (fun x hx => by simp [hx])) (by omega)) ?_
  (refine St.pickT ?_; refine St.move ?_; refine St.move ?_; refine St.fieldAddr ?_; refine St.load ?_; refine St.bin ?_; refine St.pickT ?_; refine St.move ?_)
  refine St.split (fun _ => ?_) (fun hb => ?_)
  rotate_left
  · simp at hb
  (refine St.load ?_; refine St.load ?_)
  refine St.split (fun _ => ?_) (fun hb => ?_)
  rotate_left
  · simp at hb
  skip
  refine St.binX (r := .bool true) (by have e := wd_eql ⟨R1, R2⟩ ⟨R1, R2⟩; rw [wdEq_self] at e; exact e) rfl rfl ?_
  (refine St.pickT ?_; refine St.move ?_; refine St.move ?_; refine St.move ?_; refine St.bin ?_; refine St.pickT ?_; refine St.move ?_)
  refine St.split (fun _ => ?_) (fun hb => ?_)
  rotate_left
  · simp at hb
  (refine St.move ?_; refine St.move ?_; refine St.bin ?_; refine St.pickT ?_; refine St.move ?_)
  refine St.split (fun _ => ?_) (fun hb => ?_)
  rotate_left
  · simp at hb
  (refine St.move ?_; refine St.move ?_; refine St.bin ?_; refine St.pickT ?_; refine St.assign ?_; refine WO.nil ?_)
  refine St.ret (by first | exact .tmp .nil | exact .cell .nil | exact .cell (.tmp .nil) | exact .tmp (.tmp .nil) | exact .cell (.cell .nil) | exact .tmp (.cell .nil) | exact .nil | exact .tmp (.cell (.tmp .nil)) | exact .cell (.tmp (.tmp .nil)) | exact .cell (.cell (.tmp .nil)) | exact .tmp (.tmp (.tmp .nil)) | exact .cell (.cell (.cell .nil))) ?_
  simp [oneOf]
end Go.Proofs.Ytekpffjcffeanaa
