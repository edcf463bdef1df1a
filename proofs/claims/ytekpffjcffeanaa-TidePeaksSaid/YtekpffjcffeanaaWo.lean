/- Highest and Lowest; the reference's Extreme; the law TidePeaks. -/
import Derived.Test.YtekpffjcffeanaaWn
namespace Go.Proofs.Ytekpffjcffeanaa
open Go.Proofs.Ytekpffjcffeanaa.Ev

theorem exK_step (b : Bool) (f : Nat → Int) (k : Nat) : exK b f k = if bey b (f k) (f (exK b f (k - 1))) = true then k else exK b f (k - 1) := by
  cases k with
  | zero =>
    rw [show exK b f (0 - 1) = 0 from rfl, bey_self]
    rfl
  | succ k => rfl
set_option maxRecDepth 100000 in
theorem highest_con (h : Heap) (g : Gd h) (lv lo hi : Int) (cv sv : AV) (cl : List Cw) (ss : List Sh) (hc : CyV h cv cl) (hs : ShV h sv ss) :
    Con Try.prog Bs 41 [.agg [.int .i64 lv, cv, sv], .agg [.int .i64 lo, .int .i64 hi]] h [] (.tup [.int .i64 (pkR lv (cys cl) ss lo hi true).1, .int .i64 (pkR lv (cys cl) ss lo hi true).2.1, .int .i64 (pkR lv (cys cl) ss lo hi true).2.2]) [] := by
  refine Con.start rfl Try.func41 rfl rfl Try.ntmps41 rfl rfl g ?_
  (refine WK.seq ?_; refine WK.region ?_; refine St.box fun _ _ => ?_; refine St.box fun _ _ => ?_; refine St.assign ?_; refine St.assign ?_; refine St.assign ?_; refine WO.nil ?_; refine WK.seq ?_; refine WK.region ?_; refine St.load ?_; refine St.load ?_)
  refine St.call (fun _ => rfl) (fun h2 hh => foremost_con 98 true highest1_con h2 hh.gd lv lo hi cv sv cl ss (hc.vw hh) (hs.vw hh)) ?_
  (refine St.extract ?_; refine St.extract ?_; refine St.extract ?_; refine St.assign ?_; refine St.assign ?_; refine St.assign ?_; refine WO.nil ?_)
  refine St.ret (by first | exact .tmp .nil | exact .cell .nil | exact .cell (.tmp .nil) | exact .tmp (.tmp .nil) | exact .cell (.cell .nil) | exact .tmp (.cell .nil) | exact .nil | exact .tmp (.cell (.tmp .nil)) | exact .cell (.tmp (.tmp .nil)) | exact .cell (.cell (.tmp .nil)) | exact .tmp (.tmp (.tmp .nil)) | exact .cell (.cell (.cell .nil))) ?_
  rfl
set_option maxRecDepth 100000 in
theorem lowest_con (h : Heap) (g : Gd h) (lv lo hi : Int) (cv sv : AV) (cl : List Cw) (ss : List Sh) (hc : CyV h cv cl) (hs : ShV h sv ss) :
    Con Try.prog Bs 43 [.agg [.int .i64 lv, cv, sv], .agg [.int .i64 lo, .int .i64 hi]] h [] (.tup [.int .i64 (pkR lv (cys cl) ss lo hi false).1, .int .i64 (pkR lv (cys cl) ss lo hi false).2.1, .int .i64 (pkR lv (cys cl) ss lo hi false).2.2]) [] := by
  refine Con.start rfl Try.func43 rfl rfl Try.ntmps43 rfl rfl g ?_
  (refine WK.seq ?_; refine WK.region ?_; refine St.box fun _ _ => ?_; refine St.box fun _ _ => ?_; refine St.assign ?_; refine St.assign ?_; refine St.assign ?_; refine WO.nil ?_; refine WK.seq ?_; refine WK.region ?_; refine St.load ?_; refine St.load ?_)
  refine St.call (fun _ => rfl) (fun h2 hh => foremost_con 101 false lowest1_con h2 hh.gd lv lo hi cv sv cl ss (hc.vw hh) (hs.vw hh)) ?_
  (refine St.extract ?_; refine St.extract ?_; refine St.extract ?_; refine St.assign ?_; refine St.assign ?_; refine St.assign ?_; refine WO.nil ?_)
  refine St.ret (by first | exact .tmp .nil | exact .cell .nil | exact .cell (.tmp .nil) | exact .tmp (.tmp .nil) | exact .cell (.cell .nil) | exact .tmp (.cell .nil) | exact .nil | exact .tmp (.cell (.tmp .nil)) | exact .cell (.tmp (.tmp .nil)) | exact .cell (.cell (.tmp .nil)) | exact .tmp (.tmp (.tmp .nil)) | exact .cell (.cell (.cell .nil))) ?_
  rfl
set_option maxRecDepth 100000 in
set_option maxHeartbeats 16000000 in
theorem extreme_con (b : Bool) (h : Heap) (g : Gd h) (lv lo hi : Int) (cv sv : AV) (cl : List Cw) (ss : List Sh) (hc : CyV h cv cl) (hs : ShV h sv ss) :
    Con Try.prog Bs 42 [.agg [.int .i64 lv, cv, sv], .agg [.int .i64 lo, .int .i64 hi], .bool b] h [] (.agg [.int .i64 (pkR lv (cys cl) ss lo hi b).1, .int .i64 (pkR lv (cys cl) ss lo hi b).2.1, .int .i64 (pkR lv (cys cl) ss lo hi b).2.2]) [] := by
  refine Con.start rfl Try.func42 rfl rfl Try.ntmps42 rfl rfl g ?_
  (refine WK.seq ?_; refine WK.region ?_; refine St.box fun _ _ => ?_; refine St.box fun _ _ => ?_; refine St.alloc fun _ _ => ?_; refine WO.nil ?_; refine WK.seq ?_; refine WK.region ?_; refine St.load ?_; refine St.load ?_)
  rename_i p3 hp3 p4 hp4 p6 hp6
  refine St.call (fun _ => rfl) (fun h2 hh => watched_con h2 hh.gd lv lo hi cv sv cl ss (hc.vw hh) (hs.vw hh)) ?_
  (refine St.assign ?_; refine WO.nil ?_; refine WK.seq ?_; refine WK.seq ?_; refine WK.region ?_; refine St.move ?_; refine St.bin ?_; refine WO.nil ?_)
  refine St.splitC (fun h1 => ?_) (fun h1 => ?_)
  · (refine WK.seq ?_; refine WK.region ?_; refine St.move ?_; refine St.build ?_; refine St.store0 ?_; refine WO.nil ?_)
    refine St.ret (by first | exact .tmp .nil | exact .cell .nil | exact .cell (.tmp .nil) | exact .tmp (.tmp .nil) | exact .cell (.cell .nil) | exact .tmp (.cell .nil) | exact .nil | exact .tmp (.cell (.tmp .nil)) | exact .cell (.tmp (.tmp .nil)) | exact .cell (.cell (.tmp .nil)) | exact .tmp (.tmp (.tmp .nil)) | exact .cell (.cell (.cell .nil))) ?_
    unfold pkR
    rw [if_pos (by simpa using h1)]
    rfl
  have e1 : minR lv (cys cl) ss lo hi = 0 := by simpa using h1
  have m := minR_ok e1
  have m1 := m.l1
  have m2 := m.le
  have m3 := m.h2
  have m4 := m.n
  have ep : pkR lv (cys cl) ss lo hi b = (hgt lv (cys cl) ss lo (exK b (hgt lv (cys cl) ss lo) (hi - lo).toNat), lo + (exK b (hgt lv (cys cl) ss lo) (hi - lo).toNat : Int), 0) := by
    unfold pkR
    rw [if_neg (by simp [e1])]
  rw [ep]
  clear ep
  have hfe : ∀ k : Nat, lv + bareV (cys cl) ss (lo + (k : Int)) = hgt lv (cys cl) ss lo k := fun _ => rfl
  have hf0 : lv + bareV (cys cl) ss lo = hgt lv (cys cl) ss lo 0 := by rw [← hfe]; simp
  (refine WK.skip ?_; refine WK.seq ?_; refine WK.regionD ?_; refine St.load ?_; refine St.fieldAddr ?_; refine St.load ?_)
  refine St.call (fun _ => rfl) (fun h2 hh => rat_con h2 hh.gd lv lo cv sv cl ss (hc.vw hh) (hs.vw hh) m.w m1 (by omega)) ?_
  rw [hf0]
  (refine St.fieldAddr ?_; refine St.load ?_; refine St.build ?_; refine StD.alloc fun _ _ => ?_; refine StD.storeT ?_; refine WO.nil1 ?_; refine WK.seq ?_; refine WK.seq ?_; refine WK.region ?_; refine St.fieldAddr ?_; refine St.load ?_; refine St.assign ?_; refine WO.nil ?_; refine WK.block ?_)
  rename_i p8 hp8
  refine WK.inv (ι := Nat) (fun k => [(2, .bool b), (3, .ptr p3 0), (4, .ptr p4 0), (6, .ptr p6 0), (8, .ptr p8 0), (9, .int .i64 (lo + (k : Int)))]) (fun k => [(p8, .cells [.int .i64 (hgt lv (cys cl) ss lo (exK b (hgt lv (cys cl) ss lo) (k - 1))), .int .i64 (lo + (exK b (hgt lv (cys cl) ss lo) (k - 1) : Int)), .int .i64 0] 77), (p6, .cells [.int .i64 0, .int .i64 0, .int .i64 0] 77), (p4, .cells [.int .i64 lo, .int .i64 hi] 37), (p3, .cells [.int .i64 lv, cv, sv] 25)]) (fun k => k ≤ (hi - lo + 1).toNat) (fun k => (hi - lo + 1).toNat - k) 0 (Nat.zero_le _) ⟨rfl, rfl, rfl, rfl, rfl, congrArg (fun z => some (AV.int .i64 z)) (by simp), trivial⟩ ?_ ?_
  · rw [show (exK b (hgt lv (cys cl) ss lo) (0 - 1) : Int) = 0 from rfl, Int.add_zero]
    exact List.Sublist.refl _
  intro k hkl ih
  (refine WK.seq ?_; refine WK.seq ?_; refine WK.region ?_; refine St.move ?_; refine St.fieldAddr ?_; refine St.load ?_; refine St.bin ?_; refine WO.nil ?_)
  refine St.splitC (fun hcc => ?_) (fun hcc => ?_)
  rotate_left
  · have : k - 1 = (hi - lo).toNat := by simp at hcc; omega
    rw [this]
    (refine WK.exit ?_; refine WK.seq ?_; refine WK.region ?_; refine St.load ?_; refine St.store1 ?_; refine WO.nil ?_)
    refine St.ret (by first | exact .tmp .nil | exact .cell .nil | exact .cell (.tmp .nil) | exact .tmp (.tmp .nil) | exact .cell (.cell .nil) | exact .tmp (.cell .nil) | exact .nil | exact .tmp (.cell (.tmp .nil)) | exact .cell (.tmp (.tmp .nil)) | exact .cell (.cell (.tmp .nil)) | exact .tmp (.tmp (.tmp .nil)) | exact .cell (.cell (.cell .nil))) ?_
    rfl
  have hlt : k < (hi - lo + 1).toNat := by simp at hcc; omega
  have ht0 : 0 ≤ lo + (k : Int) := by omega
  have ht1 : lo + (k : Int) ≤ 1048576 := by simp at hcc; omega
  have ih2 := ih (k + 1) hlt (by omega)
  clear ih
  rw [show k + 1 - 1 = k by omega] at ih2
  have hst := exK_step b (hgt lv (cys cl) ss lo) k
  (refine WK.skip ?_; refine WK.seq ?_; refine WK.block ?_; refine WK.seq ?_; refine WK.region ?_; refine St.load ?_; refine St.move ?_)
  refine St.call (fun _ => rfl) (fun h2 hh => rat_con h2 hh.gd lv (lo + (k : Int)) cv sv cl ss (hc.vw hh) (hs.vw hh) m.w ht0 ht1) ?_
  rw [hfe]
  generalize hgt lv (cys cl) ss lo = f at *
  generalize hE : exK b f (k - 1) = E at *
  (refine St.assign ?_; refine WO.nil ?_; refine WK.seq ?_; refine WK.region ?_; refine St.move ?_; refine St.move ?_)
  cases b with
  | true =>
    (refine St.move ?_; refine St.fieldAddr ?_; refine St.load ?_; refine St.bin ?_; refine St.pickT ?_; refine St.move ?_)
    refine St.split (fun h2 => ?_) (fun h2 => ?_)
    · rw [if_pos (show bey true (f k) (f E) = true from h2)] at hst
      rw [hst] at ih2
      (refine St.skip ?_; refine St.skip ?_; refine St.skip ?_; refine St.skip ?_; refine St.skip ?_; refine St.skip ?_; refine St.skip ?_; refine St.skip ?_; refine St.pickT ?_; refine WO.nil ?_; refine WK.condT ?_; refine WK.region ?_; refine St.move ?_; refine St.move ?_; refine St.build ?_; refine St.store0 ?_; refine WO.nil ?_; refine WK.blk ?_; refine WK.region ?_; refine St.move ?_; refine St.binI ?_; refine St.assign ?_; refine WO.nil ?_)
      refine WK.le ?_ (by (repeat (first | exact List.Sublist.refl _ | exact List.nil_sublist _ | apply List.Sublist.cons_cons | apply List.Sublist.cons))) ih2
      exact ⟨rfl, rfl, rfl, rfl, rfl, congrArg (fun z => some (AV.int .i64 z)) (by omega), trivial⟩
    · rw [if_neg (show ¬ bey true (f k) (f E) = true from fun q => by rw [show bey true (f k) (f E) = false from h2] at q; cases q)] at hst
      rw [hst] at ih2
      (refine St.move ?_; refine St.un ?_; refine St.move ?_; refine St.skip ?_; refine St.skip ?_; refine St.skip ?_; refine St.skip ?_; refine St.pickF ?_; refine St.pickF ?_; refine WO.nil ?_; refine WK.condF ?_; refine WK.skip ?_; refine WK.blk ?_; refine WK.region ?_; refine St.move ?_; refine St.binI ?_; refine St.assign ?_; refine WO.nil ?_)
      refine WK.le ?_ (by (repeat (first | exact List.Sublist.refl _ | exact List.nil_sublist _ | apply List.Sublist.cons_cons | apply List.Sublist.cons))) ih2
      exact ⟨rfl, rfl, rfl, rfl, rfl, congrArg (fun z => some (AV.int .i64 z)) (by omega), trivial⟩
  | false =>
    (refine St.skip ?_; refine St.skip ?_; refine St.skip ?_; refine St.skip ?_; refine St.pickF ?_; refine St.move ?_; refine St.move ?_; refine St.un ?_; refine St.move ?_; refine St.move ?_; refine St.fieldAddr ?_; refine St.load ?_; refine St.bin ?_; refine St.pickT ?_; refine St.pickF ?_; refine WO.nil ?_)
    refine St.splitC (fun h2 => ?_) (fun h2 => ?_)
    · rw [if_pos (show bey false (f k) (f E) = true from h2)] at hst
      rw [hst] at ih2
      (refine WK.region ?_; refine St.move ?_; refine St.move ?_; refine St.build ?_; refine St.store0 ?_; refine WO.nil ?_; refine WK.blk ?_; refine WK.region ?_; refine St.move ?_; refine St.binI ?_; refine St.assign ?_; refine WO.nil ?_)
      refine WK.le ?_ (by (repeat (first | exact List.Sublist.refl _ | exact List.nil_sublist _ | apply List.Sublist.cons_cons | apply List.Sublist.cons))) ih2
      exact ⟨rfl, rfl, rfl, rfl, rfl, congrArg (fun z => some (AV.int .i64 z)) (by omega), trivial⟩
    · rw [if_neg (show ¬ bey false (f k) (f E) = true from fun q => by rw [show bey false (f k) (f E) = false from h2] at q; cases q)] at hst
      rw [hst] at ih2
      (refine WK.skip ?_; refine WK.blk ?_; refine WK.region ?_; refine St.move ?_; refine St.binI ?_; refine St.assign ?_; refine WO.nil ?_)
      refine WK.le ?_ (by (repeat (first | exact List.Sublist.refl _ | exact List.nil_sublist _ | apply List.Sublist.cons_cons | apply List.Sublist.cons))) ih2
      exact ⟨rfl, rfl, rfl, rfl, rfl, congrArg (fun z => some (AV.int .i64 z)) (by omega), trivial⟩
set_option maxRecDepth 100000 in
set_option maxHeartbeats 32000000 in
theorem peaksLaw_con (h : Heap) (g : Gd h) (lv lo hi : Int) (cv sv : AV) (l : List Cw) (ss : List Sh) (hc : CyV h cv l) (hs : ShV h sv ss) (hl : l.length ≤ 9223372036854775807) :
    Con Try.prog Bs 11 [.agg [.int .i64 lv, cv, sv], .agg [.int .i64 lo, .int .i64 hi]] h [] (.bool true) [] := by
  have hlt := stdR_len (lv := lv) (cs := cys l) (ss := ss) (lo := lo) (hi := hi)
  refine Con.start rfl Try.func11 rfl rfl Try.ntmps11 rfl rfl g ?_
  (refine WK.seq ?_; refine WK.region ?_; refine St.box fun _ _ => ?_; refine St.box fun _ _ => ?_; refine St.assign ?_; refine WO.nil ?_; refine WK.seq ?_; refine WK.seq ?_; refine WK.region ?_; refine St.load ?_)
  rename_i p2 hp2 p3 hp3
  refine St.call (fun _ => rfl) (fun h2 hh => few_con h2 hh.gd lv cv sv l ss (hc.vw hh) (hs.vw hh) hl) ?_
  (refine St.un ?_; refine St.move ?_)
  refine St.split (fun h1 => ?_) (fun h1 => ?_)
  · (refine St.skip ?_; refine St.skip ?_; refine St.skip ?_; refine St.pickT ?_; refine WO.nil ?_; refine WK.condT ?_; refine WK.seq ?_; refine WK.region ?_)
    refine St.call (fun _ => rfl) (fun h2 hh => sanity_con h2 hh.gd) ?_
    (refine St.assign ?_; refine WO.nil ?_)
    refine St.ret (by first | exact .tmp .nil | exact .cell .nil | exact .cell (.tmp .nil) | exact .tmp (.tmp .nil) | exact .cell (.cell .nil) | exact .tmp (.cell .nil) | exact .nil | exact .tmp (.cell (.tmp .nil)) | exact .cell (.tmp (.tmp .nil)) | exact .cell (.cell (.tmp .nil)) | exact .tmp (.tmp (.tmp .nil)) | exact .cell (.cell (.cell .nil))) ?_
    rfl
  (refine St.load ?_)
  refine St.call (fun _ => rfl) (fun h2 hh => short_con h2 hh.gd lo hi) ?_
  (refine St.un ?_; refine St.pickF ?_; refine WO.nil ?_)
  refine St.splitC (fun h1 => ?_) (fun h1 => ?_)
  · (refine WK.seq ?_; refine WK.region ?_)
    refine St.call (fun _ => rfl) (fun h2 hh => sanity_con h2 hh.gd) ?_
    (refine St.assign ?_; refine WO.nil ?_)
    refine St.ret (by first | exact .tmp .nil | exact .cell .nil | exact .cell (.tmp .nil) | exact .tmp (.tmp .nil) | exact .cell (.cell .nil) | exact .tmp (.cell .nil) | exact .nil | exact .tmp (.cell (.tmp .nil)) | exact .cell (.tmp (.tmp .nil)) | exact .cell (.cell (.tmp .nil)) | exact .tmp (.tmp (.tmp .nil)) | exact .cell (.cell (.cell .nil))) ?_
    rfl
  (refine WK.skip ?_; refine WK.seq ?_; refine WK.region ?_; refine St.load ?_; refine St.load ?_)
  refine St.call (fun _ => rfl) (fun h2 hh => highest_con h2 hh.gd lv lo hi cv sv l ss (hc.vw hh) (hs.vw hh)) ?_
  (refine St.move ?_; refine St.extract ?_; refine St.extract ?_; refine St.extract ?_; refine St.assign ?_; refine St.assign ?_; refine St.assign ?_; refine WO.nil ?_; refine WK.seq ?_; refine WK.region ?_; refine St.load ?_; refine St.load ?_)
  refine St.call (fun _ => rfl) (fun h2 hh => extreme_con true h2 hh.gd lv lo hi cv sv l ss (hc.vw hh) (hs.vw hh)) ?_
  (refine St.alloc fun _ _ => ?_; refine St.store0 ?_; refine WO.nil ?_; refine WK.seq ?_; refine WK.region ?_; refine St.load ?_; refine St.load ?_)
  rename_i p8 hp8
  refine St.call (fun _ => rfl) (fun h2 hh => lowest_con h2 hh.gd lv lo hi cv sv l ss (hc.vw hh) (hs.vw hh)) ?_
  (refine St.move ?_; refine St.extract ?_; refine St.extract ?_; refine St.extract ?_; refine St.assign ?_; refine St.assign ?_; refine St.assign ?_; refine WO.nil ?_; refine WK.seq ?_; refine WK.region ?_; refine St.load ?_; refine St.load ?_)
  refine St.call (fun _ => rfl) (fun h2 hh => extreme_con false h2 hh.gd lv lo hi cv sv l ss (hc.vw hh) (hs.vw hh)) ?_
  generalize pkR lv (cys l) ss lo hi true = P1
  generalize pkR lv (cys l) ss lo hi false = P2
  (refine St.alloc fun _ _ => ?_; refine St.store0 ?_; refine WO.nil ?_; refine WK.seq ?_; refine WK.region ?_; refine St.load ?_; refine St.load ?_)
  rename_i p12 hp12
  refine St.callR (fun _ => rfl) (fun h2 hh => standsL_con h2 hh.gd lv lo hi cv sv l ss (hc.vw hh) (hs.vw hh)) ?_
  rintro v1 L1 ⟨u1, rfl, hu1⟩
  refine WO.permF (L' := (p12, .cells [.int .i64 P2.1, .int .i64 P2.2.1, .int .i64 P2.2.2] 77) :: (p8, .cells [.int .i64 P1.1, .int .i64 P1.2.1, .int .i64 P1.2.2] 77) :: (p3, .cells [.int .i64 lo, .int .i64 hi] 37) :: (p2, .cells [.int .i64 lv, cv, sv] 25) :: L1) (by (refine perm_cnt fun _ _ => ?_; simp only [List.append_eq, List.cons_append, List.nil_append, List.count_append, List.count_cons, List.count_nil, Nat.add_zero, Nat.zero_add]; try ac_rfl)) ?_
  (refine St.move ?_; refine St.extract ?_; refine St.extract ?_; refine St.assign ?_; refine St.assign ?_; refine WO.nil ?_; refine WK.seq ?_; refine WK.region ?_; refine St.load ?_; refine St.load ?_)
  refine St.callR (fun _ => rfl) (fun h2 hh => rstanding_con h2 hh.gd lv lo hi cv sv l ss (hc.vw hh) (hs.vw hh)) ?_
  rintro v2 L2 ⟨u2, rfl, hu2⟩
  have k2 := isl_ok hu2
  refine WO.permF (L' := (p12, .cells [.int .i64 P2.1, .int .i64 P2.2.1, .int .i64 P2.2.2] 77) :: (p8, .cells [.int .i64 P1.1, .int .i64 P1.2.1, .int .i64 P1.2.2] 77) :: (p3, .cells [.int .i64 lo, .int .i64 hi] 37) :: (p2, .cells [.int .i64 lv, cv, sv] 25) :: (L1 ++ L2)) (by (refine perm_cnt fun _ _ => ?_; simp only [List.append_eq, List.cons_append, List.nil_append, List.count_append, List.count_cons, List.count_nil, Nat.add_zero, Nat.zero_add]; try ac_rfl)) ?_
  (refine St.alloc fun _ _ => ?_)
  rename_i p15 hp15
  refine St.store0 (hv := store_res (by kernel_rfl) k2.1) ?_
  (refine WO.nil ?_; refine WK.seq ?_; refine WK.region ?_)
  refine St.call (fun _ => rfl) (fun h2 hh => sanity_con h2 hh.gd) ?_
  (refine St.move ?_; refine St.move ?_; refine St.fieldAddr ?_; refine St.load ?_; refine St.bin ?_; refine St.pickT ?_; refine St.move ?_)
  refine St.split (fun _ => ?_) (fun hb => ?_)
  rotate_left
  · simp at hb
  (refine St.move ?_; refine St.fieldAddr ?_; refine St.load ?_; refine St.bin ?_; refine St.pickT ?_; refine St.move ?_)
  refine St.split (fun _ => ?_) (fun hb => ?_)
  rotate_left
  · simp at hb
  (refine St.move ?_; refine St.fieldAddr ?_; refine St.load ?_; refine St.bin ?_; refine St.pickT ?_; refine St.move ?_)
  refine St.split (fun _ => ?_) (fun hb => ?_)
  rotate_left
  · simp at hb
  (refine St.move ?_; refine St.fieldAddr ?_; refine St.load ?_; refine St.bin ?_; refine St.pickT ?_; refine St.move ?_)
  refine St.split (fun _ => ?_) (fun hb => ?_)
  rotate_left
  · simp at hb
  (refine St.move ?_; refine St.fieldAddr ?_; refine St.load ?_; refine St.bin ?_; refine St.pickT ?_; refine St.move ?_)
  refine St.split (fun _ => ?_) (fun hb => ?_)
  rotate_left
  · simp at hb
  (refine St.move ?_; refine St.fieldAddr ?_; refine St.load ?_; refine St.bin ?_; refine St.pickT ?_; refine St.move ?_)
  refine St.split (fun _ => ?_) (fun hb => ?_)
  rotate_left
  · simp at hb
  (refine St.move ?_; refine St.fieldAddr ?_; refine St.load ?_)
  refine St.call (fun _ => rfl) (fun h2 hh => sameStands_con h2 hh.gd u1 u2 _ (isl_stv hu1 hh (fun x hx => by simp [hx])) (isl_stv hu2 hh (fun x hx => by simp [hx])) (by omega)) ?_
  (refine St.pickT ?_; refine St.move ?_; refine St.move ?_; refine St.fieldAddr ?_; refine St.load ?_; refine St.bin ?_; refine St.pickT ?_; refine St.assign ?_; refine WO.nil ?_)
  refine St.ret (by first | exact .tmp .nil | exact .cell .nil | exact .cell (.tmp .nil) | exact .tmp (.tmp .nil) | exact .cell (.cell .nil) | exact .tmp (.cell .nil) | exact .nil | exact .tmp (.cell (.tmp .nil)) | exact .cell (.tmp (.tmp .nil)) | exact .cell (.cell (.tmp .nil)) | exact .tmp (.tmp (.tmp .nil)) | exact .cell (.cell (.cell .nil))) ?_
  simp [oneOf]
end Go.Proofs.Ytekpffjcffeanaa
