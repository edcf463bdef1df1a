/- The reference's Windows, Minutes, Next; the law TideWindows. -/
import Derived.Test.YtekpffjcffeanaaXb
import Derived.Test.YtekpffjcffeanaaWg
namespace Go.Proofs.Ytekpffjcffeanaa
open Go.Proofs.Ytekpffjcffeanaa.Ev

theorem winK_no {p : Nat → Bool} {lo : Int} {k : Nat} (h : p k = false) : winK p lo (k + 1) = winK p lo k := by
  show addW (winK p lo k) (lo + (k : Int)) (p k) = _
  unfold addW
  rw [if_neg (by simp [h])]
theorem winK_nil {p : Nat → Bool} {lo : Int} {k : Nat} (h : p k = true) (h2 : winK p lo k = []) : winK p lo (k + 1) = [⟨lo + (k : Int), lo + (k : Int)⟩] := by
  show addW (winK p lo k) (lo + (k : Int)) (p k) = _
  rw [h2]
  unfold addW
  rw [if_pos h]
  rfl
theorem winK_last {p : Nat → Bool} {lo : Int} {k : Nat} {r : List Wd} {s : Wd} (h : p k = true) (h2 : winK p lo k = r ++ [s]) : winK p lo (k + 1) = if s.hi = lo + (k : Int) - 1 then r ++ [⟨s.lo, lo + (k : Int)⟩] else (r ++ [s]) ++ [⟨lo + (k : Int), lo + (k : Int)⟩] := by
  show addW (winK p lo k) (lo + (k : Int)) (p k) = _
  rw [h2]
  unfold addW
  rw [if_pos h]
  simp only [List.getLast?_append, List.getLast?_singleton, Option.some_or, List.dropLast_concat]
set_option maxRecDepth 100000 in
theorem build_resW {u : AV} (hu : (u = .slice0) ∨ ∃ i n c, u = .slice i 0 n c) : evBuild Try.prog 85 [(0, u)] = some (.agg [u, .int .i64 0]) := by
  rcases hu with rfl | ⟨i, n, c, rfl⟩
  · kernel_rfl
  · kernel_rfl
set_option maxRecDepth 100000 in
set_option maxHeartbeats 32000000 in
theorem rwindows_con (h : Heap) (g : Gd h) (lv lo hi height : Int) (cv sv : AV) (cl : List Cw) (ss : List Sh) (hc : CyV h cv cl) (hs : ShV h sv ss) :
    ∃ v L, Con Try.prog Bs 47 [.agg [.int .i64 lv, cv, sv], .agg [.int .i64 lo, .int .i64 hi], .int .i64 height] h [] v L ∧ ∃ u, v = .agg [u, .int .i64 (minR lv (cys cl) ss lo hi)] ∧ IsL 37 2 (winR lv (cys cl) ss lo hi height).length (wdF (winR lv (cys cl) ss lo hi height)) u L := by
  refine Con.pick (Con.startR rfl Try.func47 rfl rfl Try.ntmps47 rfl rfl (SS.init g) ?_)
  (refine WK.seq ?_; refine WK.region ?_; refine St.box fun _ _ => ?_; refine St.box fun _ _ => ?_; refine St.alloc fun _ _ => ?_; refine WO.nil ?_; refine WK.seq ?_; refine WK.region ?_; refine St.load ?_; refine St.load ?_)
  rename_i p3 hp3 p4 hp4 p6 hp6
  refine St.call (fun _ => rfl) (fun h2 hh => watched_con h2 hh.gd lv lo hi cv sv cl ss (hc.vw hh) (hs.vw hh)) ?_
  (refine St.assign ?_; refine WO.nil ?_; refine WK.seq ?_; refine WK.seq ?_; refine WK.region ?_; refine St.move ?_; refine St.bin ?_; refine WO.nil ?_)
  refine St.splitC (fun h1 => ?_) (fun h1 => ?_)
  · (refine WK.seq ?_; refine WK.region ?_; refine St.move ?_; refine St.build ?_; refine St.store0 ?_; refine WO.nil ?_)
    refine St.ret (by first | exact .tmp .nil | exact .cell .nil | exact .cell (.tmp .nil) | exact .tmp (.tmp .nil) | exact .cell (.cell .nil) | exact .tmp (.cell .nil) | exact .nil | exact .tmp (.cell (.tmp .nil)) | exact .cell (.tmp (.tmp .nil)) | exact .cell (.cell (.tmp .nil)) | exact .tmp (.tmp (.tmp .nil)) | exact .cell (.cell (.cell .nil))) ?_
    rw [winR_no (by simpa using h1)]
    exact ⟨[], _, List.Perm.refl _, _, rfl, .nil rfl rfl⟩
  have e1 : minR lv (cys cl) ss lo hi = 0 := by simpa using h1
  have m := minR_ok e1
  have m1 := m.l1
  have m2 := m.le
  have m3 := m.h2
  have m4 := m.n
  rw [winR_ok e1, e1]
  have hfe : ∀ k : Nat, lv + bareV (cys cl) ss (lo + (k : Int)) = hgt lv (cys cl) ss lo k := fun _ => rfl
  generalize hf : hgt lv (cys cl) ss lo = f at *
  generalize hp : hiP f height = p at *
  (refine WK.skip ?_; refine WK.seq ?_; refine WK.region ?_; refine St.assign ?_; refine WO.nil ?_; refine WK.seq ?_; refine WK.seq ?_; refine WK.region ?_; refine St.fieldAddr ?_; refine St.load ?_; refine St.assign ?_; refine WO.nil ?_; refine WK.block ?_)
  refine WK.inv (ι := Nat × AV × Ob) (fun z => [(2, .int .i64 height), (3, .ptr p3 0), (4, .ptr p4 0), (6, .ptr p6 0), (8, z.2.1), (9, .int .i64 (lo + (z.1 : Int)))]) (fun z => (p6, .cells [.slice0, .int .i64 0] 85) :: (p4, .cells [.int .i64 lo, .int .i64 hi] 37) :: (p3, .cells [.int .i64 lv, cv, sv] 25) :: z.2.2) (fun z => z.1 ≤ (hi - lo + 1).toNat ∧ IsL 37 2 (winK p lo z.1).length (wdF (winK p lo z.1)) z.2.1 z.2.2) (fun z => (hi - lo + 1).toNat - z.1) (0, .slice0, []) ⟨Nat.zero_le _, .nil rfl rfl⟩ ⟨rfl, rfl, rfl, rfl, rfl, congrArg (fun z => some (AV.int .i64 z)) (by simp), trivial⟩ (by (repeat (first | exact List.Sublist.refl _ | exact List.nil_sublist _ | apply List.Sublist.cons_cons | apply List.Sublist.cons))) ?_
  rintro ⟨k, w, Lw⟩ ⟨hkl, hw⟩ ih
  simp only at hkl hw ih ⊢
  have hwl := win_len (p := p) (lo := lo) k
  (refine WK.seq ?_; refine WK.seq ?_; refine WK.region ?_; refine St.move ?_; refine St.fieldAddr ?_; refine St.load ?_; refine St.bin ?_; refine WO.nil ?_)
  refine St.splitC (fun hcc => ?_) (fun hcc => ?_)
  rotate_left
  · have : k = (hi - lo + 1).toNat := by simp at hcc; omega
    subst this
    have hw2 := isl_ok hw
    (refine WK.exit ?_; refine WK.seq ?_; refine WK.region ?_; refine St.move ?_)
    refine St.build ?_ (he := build_resW (isl_form hw))
    refine St.store0 (hv := store_res (by kernel_rfl) hw2.1) ?_
    (refine WO.nil ?_)
    refine St.ret (by first | exact .tmp .nil | exact .cell .nil | exact .cell (.tmp .nil) | exact .tmp (.tmp .nil) | exact .cell (.cell .nil) | exact .tmp (.cell .nil) | exact .nil | exact .tmp (.cell (.tmp .nil)) | exact .cell (.tmp (.tmp .nil)) | exact .cell (.cell (.tmp .nil)) | exact .tmp (.tmp (.tmp .nil)) | exact .cell (.cell (.cell .nil))) ?_
    refine ⟨Lw, [(p6, .cells [w, .int .i64 0] 85), (p4, .cells [.int .i64 lo, .int .i64 hi] 37), (p3, .cells [.int .i64 lv, cv, sv] 25)], ?_, w, rfl, hw⟩
    (refine perm_cnt fun _ _ => ?_; simp only [List.append_eq, List.cons_append, List.nil_append, List.count_append, List.count_cons, List.count_nil, Nat.add_zero, Nat.zero_add]; try ac_rfl)
  have hlt : k < (hi - lo + 1).toNat := by simp at hcc; omega
  have ht0 : 0 ≤ lo + (k : Int) := by omega
  have ht1 : lo + (k : Int) ≤ 1048576 := by simp at hcc; omega
  (refine WK.skip ?_; refine WK.seq ?_; refine WK.block ?_; refine WK.seq ?_; refine WK.seq ?_; refine WK.region ?_; refine St.load ?_; refine St.move ?_)
  refine St.call (fun _ => rfl) (fun h2 hh => rat_con h2 hh.gd lv (lo + (k : Int)) cv sv cl ss (hc.vw hh) (hs.vw hh) m.w ht0 ht1) ?_
  rw [hfe]
  (refine St.move ?_; refine St.bin ?_; refine WO.nil ?_)
  refine St.splitC (fun h2 => ?_) (fun h2 => ?_)
  · have hpk : p k = false := by rw [← hp, hiP]; simpa using h2
    (refine WK.exit ?_; refine WK.region ?_; refine St.move ?_; refine St.binI ?_; refine St.assign ?_; refine WO.nil ?_)
    refine WK.le ?_ (by (repeat (first | exact List.Sublist.refl _ | exact List.nil_sublist _ | apply List.Sublist.cons_cons | apply List.Sublist.cons))) (ih (k + 1, w, Lw) ⟨hlt, by simp only; rw [winK_no hpk]; exact hw⟩ (by simp only; omega))
    exact ⟨rfl, rfl, rfl, rfl, rfl, congrArg (fun z => some (AV.int .i64 z)) (by omega), trivial⟩
  have hpk : p k = true := by rw [← hp, hiP]; simpa using h2
  (refine WK.skip ?_; refine WK.seq ?_; refine WK.region ?_; refine St.move ?_)
  refine St.lenV rfl (isl_len hw Try.underlying40) ?_
  (refine St.assign ?_; refine WO.nil ?_; refine WK.seq ?_; refine WK.region ?_; refine St.move ?_; refine St.bin ?_; refine St.move ?_)
  have app : winK p lo (k + 1) = winK p lo k ++ [⟨lo + (k : Int), lo + (k : Int)⟩] → ∀ w3 Lw3, IsL 37 2 ((winK p lo k).length + 1) (wdF (winK p lo k) ++ wdC ⟨lo + (k : Int), lo + (k : Int)⟩) w3 Lw3 → WK Try.prog Bs _ h [] _ [] _ _ _ := fun q w3 Lw3 hw3 => ih (k + 1, w3, Lw3) ⟨hlt, by simp only; rw [q, wdF_snoc, List.length_append]; exact hw3⟩ (by simp only; omega)
  simp only at app
  by_cases hnil : winK p lo k = []
  · have hn0 : (winK p lo k).length = 0 := by rw [hnil]; rfl
    refine St.split (fun h3 => ?_) (fun _ => ?_)
    · rw [hn0] at h3
      simp at h3
    (refine St.skip ?_; refine St.skip ?_; refine St.skip ?_; refine St.skip ?_; refine St.skip ?_; refine St.skip ?_; refine St.skip ?_; refine St.skip ?_; refine St.skip ?_; refine St.pickF ?_; refine WO.nil ?_; refine WK.condF ?_; refine WK.region ?_; refine St.move ?_; refine St.move ?_; refine St.move ?_; refine St.build ?_; refine St.mkS fun _ _ => ?_)
    rename_i i2 hi2
    refine St.appL (new := wdC ⟨lo + (k : Int), lo + (k : Int)⟩) (Lk := [(i2, .cells (wdC ⟨lo + (k : Int), lo + (k : Int)⟩) 37), (p6, .cells [.slice0, .int .i64 0] 85), (p4, .cells [.int .i64 lo, .int .i64 hi] 37), (p3, .cells [.int .i64 lv, cv, sv] 25)]) hw List.perm_append_comm (fun w3 Lw3 hw3 => ?_) ⟨rfl, rfl, rfl, rfl, rfl, rfl, rfl, rfl, rfl, rfl, rfl, rfl⟩ (List.Mem.head _) rfl (by omega) (by omega)
    (refine St.assign ?_; refine WO.nil ?_; refine WK.blk ?_; refine WK.region ?_; refine St.move ?_; refine St.binI ?_; refine St.assign ?_; refine WO.nil ?_)
    refine WK.perm (L' := (p6, .cells [.slice0, .int .i64 0] 85) :: (p4, .cells [.int .i64 lo, .int .i64 hi] 37) :: (p3, .cells [.int .i64 lv, cv, sv] 25) :: (Lw3 ++ [(i2, .cells (wdC ⟨lo + (k : Int), lo + (k : Int)⟩) 37)])) (by (refine perm_cnt fun _ _ => ?_; simp only [List.append_eq, List.cons_append, List.nil_append, List.count_append, List.count_cons, List.count_nil, Nat.add_zero, Nat.zero_add]; try ac_rfl)) ?_
    refine WK.le ?_ ?_ (app (by rw [winK_nil hpk hnil, hnil]; rfl) w3 Lw3 hw3)
    · exact ⟨rfl, rfl, rfl, rfl, rfl, congrArg (fun z => some (AV.int .i64 z)) (by omega), trivial⟩
    · exact List.Sublist.cons_cons _ (List.Sublist.cons_cons _ (List.Sublist.cons_cons _ (List.sublist_append_left _ _)))
  · obtain ⟨hrs, _⟩ := win_last hnil
    generalize nthE (winK p lo k) ((winK p lo k).length - 1) = s at *
    generalize (winK p lo k).dropLast = r at *
    have hnext := winK_last hpk hrs
    rw [hrs] at hw hwl app
    rw [hrs]
    have hrl : (r ++ [s]).length = r.length + 1 := by simp
    have hns : nthE (r ++ [s]) r.length = s := nthE_snoc rfl
    obtain ⟨js, c, o, rfl, rfl, ho, hl⟩ := hw.ne (by omega)
    refine St.split (fun _ => ?_) (fun h3 => ?_)
    rotate_left
    · have := of_decide_eq_false h3
      omega
    (refine St.move ?_; refine St.move ?_; refine St.binI ?_)
    refine St.at ?_
    (refine St.fieldAddr ?_)
    refine St.loadX (fun h2 hh => ((has_wdh hh (j := js) (o := o) (by simp) ho).hi_ (z := ((r ++ [s]).length : Int) - 1) (n := r.length) (by omega) (by omega)).one rfl) ?_
    rw [hns]
    (refine St.move ?_; refine St.binI ?_; refine St.bin ?_; refine St.pickT ?_; refine WO.nil ?_)
    refine St.splitC (fun h3 => ?_) (fun h3 => ?_)
    · have heq : s.hi = lo + (k : Int) - 1 := by simp at h3; exact h3
      rw [if_pos heq] at hnext
      obtain ⟨o', g1, g2⟩ := isl_put (x := lo + (k : Int)) (off := r.length * 2 + 1) hw (by rw [wdF_len]; omega)
      have hput : o.store Try.prog 3 (0 + (((r ++ [s]).length : Int) - 1).toNat * 2 + 1) (.int .i64 (lo + (k : Int))) = some o' := by
        rw [show 0 + (((r ++ [s]).length : Int) - 1).toNat * 2 + 1 = r.length * 2 + 1 by omega]
        exact g1
      (refine WK.region ?_; refine St.move ?_; refine St.move ?_; refine St.binI ?_; refine St.move ?_)
      refine St.at ?_
      (refine St.fieldAddr ?_)
      refine St.store3 (hv := hput) ?_
      (refine WO.nil ?_; refine WK.blk ?_; refine WK.region ?_; refine St.move ?_; refine St.binI ?_; refine St.assign ?_; refine WO.nil ?_)
      refine WK.le ?_ (by (repeat (first | exact List.Sublist.refl _ | exact List.nil_sublist _ | apply List.Sublist.cons_cons | apply List.Sublist.cons))) (ih (k + 1, .slice js 0 (r ++ [s]).length c, [(js, o')]) ⟨hlt, ?_⟩ (by simp only; omega))
      · exact ⟨rfl, rfl, rfl, rfl, rfl, congrArg (fun z => some (AV.int .i64 z)) (by omega), trivial⟩
      · simp only
        rw [hnext, ← wdF_put, show (r ++ [(⟨s.lo, lo + (k : Int)⟩ : Wd)]).length = (r ++ [s]).length by simp]
        exact g2
    · have hne : ¬ s.hi = lo + (k : Int) - 1 := by simp at h3; exact h3
      rw [if_neg hne] at hnext
      (refine WK.region ?_; refine St.move ?_; refine St.move ?_; refine St.move ?_; refine St.build ?_; refine St.mkS fun _ _ => ?_)
      rename_i i2 hi2
      refine St.appL (new := wdC ⟨lo + (k : Int), lo + (k : Int)⟩) (Lk := [(i2, .cells (wdC ⟨lo + (k : Int), lo + (k : Int)⟩) 37), (p6, .cells [.slice0, .int .i64 0] 85), (p4, .cells [.int .i64 lo, .int .i64 hi] 37), (p3, .cells [.int .i64 lv, cv, sv] 25)]) hw (by (repeat (first | exact List.Perm.refl _ | refine perm_at 0 rfl ?_ | refine perm_at 1 rfl ?_ | refine perm_at 2 rfl ?_ | refine perm_at 3 rfl ?_ | refine perm_at 4 rfl ?_ | refine perm_at 5 rfl ?_ | refine perm_at 6 rfl ?_ | refine perm_at 7 rfl ?_ | refine perm_at 8 rfl ?_ | refine perm_at 9 rfl ?_))) (fun w3 Lw3 hw3 => ?_) ⟨rfl, rfl, rfl, rfl, rfl, rfl, rfl, rfl, rfl, rfl, rfl, rfl⟩ (List.Mem.head _) rfl (by omega) (by omega)
      (refine St.assign ?_; refine WO.nil ?_; refine WK.blk ?_; refine WK.region ?_; refine St.move ?_; refine St.binI ?_; refine St.assign ?_; refine WO.nil ?_)
      refine WK.perm (L' := (p6, .cells [.slice0, .int .i64 0] 85) :: (p4, .cells [.int .i64 lo, .int .i64 hi] 37) :: (p3, .cells [.int .i64 lv, cv, sv] 25) :: (Lw3 ++ [(i2, .cells (wdC ⟨lo + (k : Int), lo + (k : Int)⟩) 37)])) (by (refine perm_cnt fun _ _ => ?_; simp only [List.append_eq, List.cons_append, List.nil_append, List.count_append, List.count_cons, List.count_nil, Nat.add_zero, Nat.zero_add]; try ac_rfl)) ?_
      refine WK.le ?_ ?_ (app hnext w3 Lw3 hw3)
      · exact ⟨rfl, rfl, rfl, rfl, rfl, congrArg (fun z => some (AV.int .i64 z)) (by omega), trivial⟩
      · exact List.Sublist.cons_cons _ (List.Sublist.cons_cons _ (List.Sublist.cons_cons _ (List.sublist_append_left _ _)))
end Go.Proofs.Ytekpffjcffeanaa
