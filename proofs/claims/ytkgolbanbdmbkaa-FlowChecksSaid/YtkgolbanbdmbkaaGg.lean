/- Layer 5: the specification's in, drop, Without, SameTrade; the program's Without. -/
import Derived.Test.YtkgolbanbdmbkaaGf
namespace Go.Proofs.Ytkgolbanbdmbkaa
open Go.Proofs.Ytkgolbanbdmbkaa.Ev

set_option maxRecDepth 100000 in
set_option maxHeartbeats 4000000 in
theorem in_con (h : Heap) (g : Gd h) (v : AV) (l : List Int) (n : Int) (hv : InV h v l) (hl : l.length ≤ 1000000) :
    Con Try.prog Bs 48 [v, .int .i64 n] h [] (.bool (decide (n ∈ l))) [] := by
  refine Con.start rfl Try.func48 rfl rfl Try.ntmps48 rfl rfl g ?_
  (refine WK.seq ?_; refine WK.region ?_; refine St.assign ?_; refine WO.nil ?_; refine WK.seq ?_; refine WK.seq ?_; refine WK.region ?_; refine St.assign ?_; refine WO.nil ?_; refine WK.block ?_)
  refine WK.inv (ι := Nat) (fun z => [(0, v), (1, .int .i64 n), (5, .int .i64 z)]) (fun _ => []) (fun z => z ≤ l.length ∧ n ∉ l.take z) (fun z => l.length - z) 0 ⟨by omega, by simp⟩ ⟨rfl, rfl, rfl, trivial⟩ (by (repeat (first | exact List.Sublist.refl _ | exact List.nil_sublist _ | apply List.Sublist.cons_cons | apply List.Sublist.cons))) ?_
  rintro k ⟨hkl, hno⟩ ih
  (refine WK.seq ?_; refine WK.seq ?_; refine WK.region ?_; refine St.move ?_; refine St.move ?_)
  refine St.lenG rfl hv.ilen ?_
  (refine St.bin ?_; refine WO.nil ?_)
  refine St.splitC (fun hc => ?_) (fun hc => ?_)
  · have hlt : k < l.length := by simp at hc; omega
    obtain ⟨b, off, c, rfl, hk⟩ := hv.ne (by omega)
    (refine WK.skip ?_; refine WK.seq ?_; refine WK.block ?_; refine WK.seq ?_; refine WK.region ?_; refine St.move ?_; refine St.move ?_)
    refine St.at ?_
    refine St.loadX (fun h2 hh2 => (Rds.headG ((hk.vw hh2).at_ (z := (k : Int)) (n := k) (by omega) hlt)).one rfl) ?_
    (refine St.move ?_; refine St.bin ?_; refine WO.nil ?_)
    refine St.splitC (fun hc2 => ?_) (fun hc2 => ?_)
    · have hid : nthE l k = n := by simpa using hc2
      (refine WK.seq ?_; refine WK.region ?_; refine St.assign ?_; refine WO.nil ?_)
      refine St.ret (by first | exact .tmp .nil | exact .cell .nil | exact .cell (.tmp .nil) | exact .tmp (.tmp .nil) | exact .cell (.cell .nil) | exact .tmp (.cell .nil) | exact .nil | exact .tmp (.cell (.tmp .nil)) | exact .cell (.tmp (.tmp .nil)) | exact .cell (.cell (.tmp .nil)) | exact .tmp (.tmp (.tmp .nil)) | exact .cell (.cell (.cell .nil))) ?_
      have : n ∈ l := by rw [← hid]; exact nthE_mem hlt
      simp [oneOf, this]
    · have hid : nthE l k ≠ n := by simpa using hc2
      (refine WK.skip ?_; refine WK.blk ?_; refine WK.region ?_; refine St.move ?_; refine St.binI ?_; refine St.assign ?_; refine WO.nil ?_)
      refine WK.le ?_ (by (repeat (first | exact List.Sublist.refl _ | exact List.nil_sublist _ | apply List.Sublist.cons_cons | apply List.Sublist.cons))) (ih (k + 1) ⟨hlt, ?_⟩ (by omega))
      · exact ⟨rfl, rfl, rfl, trivial⟩
      · rw [take_succE hlt]
        simp only [List.mem_append, List.mem_singleton, not_or]
        exact ⟨hno, fun e => hid e.symm⟩
  · have : k = l.length := by simp at hc; omega
    subst this
    rw [List.take_length] at hno
    (refine WK.exit ?_; refine WK.seq ?_; refine WK.region ?_; refine St.assign ?_; refine WO.nil ?_)
    refine St.ret (by first | exact .tmp .nil | exact .cell .nil | exact .cell (.tmp .nil) | exact .tmp (.tmp .nil) | exact .cell (.cell .nil) | exact .tmp (.cell .nil) | exact .nil | exact .tmp (.cell (.tmp .nil)) | exact .cell (.tmp (.tmp .nil)) | exact .cell (.cell (.tmp .nil)) | exact .tmp (.tmp (.tmp .nil)) | exact .cell (.cell (.cell .nil))) ?_
    simp [oneOf, hno]
theorem HoZ.comes {h : Heap} {v : AV} {l : List Ho} {L : Ob} (k : HoZ h v l) (hl : l.length ≤ 1000000) : ComesA h [] L v 6 l.length (enF hoC l) := by
  rcases k with ⟨rfl, rfl⟩ | ⟨b, off, m, rfl, hm, hk, hb, hz⟩
  · exact .inl ⟨rfl, rfl, rfl, fun _ _ => rfl⟩
  · exact ho_comes hk (fun h2 hh => by rw [loadN_old hh hb]; exact hz) hl
/-- a list of movements of the call's own -/
abbrev OwM (l : List Mv) (v : AV) (L : Ob) : Prop := IsR 67 5 l.length (enF mvC l) v L
set_option maxRecDepth 100000 in
set_option maxHeartbeats 16000000 in
theorem drop_con (h : Heap) (g : Gd h) (hv mv iv : AV) (hs : List Ho) (ms : List Mv) (ids : List Int) (hh : HoZ h hv hs) (hm : MvV h mv ms) (hi : InV h iv ids) (hl1 : hs.length ≤ 1000) (hl2 : ms.length ≤ 1000) (hl3 : ids.length ≤ 1000000) :
    ∃ u L, Con Try.prog Bs 26 [.agg [hv, mv], iv] h [] u L ∧ ∃ wh wm Lh Lm, u = .agg [wh, wm] ∧ L = Lh ++ Lm ∧ IsL 71 6 hs.length (enF hoC hs) wh Lh ∧ IsL 67 5 (wout ms ids).length (enF mvC (wout ms ids)) wm Lm := by
  refine Con.subG (Con.startR rfl Try.func26 rfl rfl Try.ntmps26 rfl rfl (SS.init g) ?_)
  (refine WK.seq ?_; refine WK.region ?_; refine St.box fun _ _ => ?_; refine St.alloc fun _ _ => ?_; refine WO.nil ?_; refine WK.seq ?_; refine WK.region ?_; refine St.mkS fun _ _ => ?_; refine St.fieldAddr ?_; refine St.load ?_)
  rename_i p2 hp2 p4 hp4 x hx
  refine St.appG (e := 71) (sz := 6) (len := 0) (old := []) (Lv := [(x, .cells [] 71)]) (Lk := [(p4, .cells [.slice0, .slice0] 25), (p2, .cells [hv, mv] 25)]) (.cells x 0 [] _ (by simp) (by simp) (Nat.le_refl _)) (List.Perm.refl _) ⟨rfl, rfl, rfl, rfl, rfl, rfl, rfl, rfl⟩ (hh.comes (by omega)) (by omega) (fun wh Lh hwh => ?_)
  rw [Nat.zero_add, List.nil_append] at hwh
  refine WO.permF (L' := (p4, .cells [.slice0, .slice0] 25) :: (p2, .cells [hv, mv] 25) :: Lh) ?_ ?_
  · show List.Perm ((p4, .cells [.slice0, .slice0] 25) :: (p2, .cells [hv, mv] 25) :: Lh : Ob) (Lh ++ [(p4, .cells [.slice0, .slice0] 25), (p2, .cells [hv, mv] 25)])
    (refine perm_cnt fun _ _ => ?_; simp only [List.append_eq, List.cons_append, List.nil_append, List.count_append, List.count_cons, List.count_nil, Nat.add_zero, Nat.zero_add]; try ac_rfl)
  refine St.build ?_ (he := build_trade (isl_form hwh))
  (refine St.alloc fun _ _ => ?_)
  have hst : (AObj.cells [.slice0, .slice0] 25).store Try.prog 25 0 (.agg [wh, .slice0]) = some (.cells [wh, .slice0] 25) := store_all (n := 2) (by kernel_rfl) rfl rfl (by show (okCell wh && (okCell .slice0 && true)) = true; rw [hwh.okG]; rfl)
  refine St.store0 (hv := hst) ?_
  (refine WO.nil ?_; refine WK.seq ?_; refine WK.seq ?_; refine WK.region ?_; refine St.assign ?_; refine WO.nil ?_; refine WK.block ?_)
  rename_i p5 hp5
  refine WK.inv (ι := Nat × AV × Ob) (fun z => [(1, iv), (2, .ptr p2 0), (4, .ptr p4 0), (5, .ptr p5 0), (6, .int .i64 z.1)]) (fun z => (p5, .cells [wh, z.2.1] 25) :: (p4, .cells [.slice0, .slice0] 25) :: (p2, .cells [hv, mv] 25) :: (Lh ++ z.2.2)) (fun z => z.1 ≤ ms.length ∧ OwM (wout (ms.take z.1) ids) z.2.1 z.2.2) (fun z => ms.length - z.1) (0, .slice0, []) ⟨Nat.zero_le _, .nil rfl rfl⟩ ⟨rfl, rfl, rfl, rfl, rfl, trivial⟩ (by rw [List.append_nil]; exact List.Sublist.refl _) ?_
  rintro ⟨k, wm, Lm⟩ ⟨hkl, hwm⟩ ih
  simp only at hkl hwm ih ⊢
  have hst2 : (AObj.cells [.slice0, .slice0] 25).store Try.prog 25 0 (.agg [wh, wm]) = some (.cells [wh, wm] 25) := store_all (n := 2) (by kernel_rfl) rfl rfl (by show (okCell wh && (okCell wm && true)) = true; rw [hwh.okG, hwm.isL.okG]; rfl)
  (refine WK.seq ?_; refine WK.seq ?_; refine WK.region ?_; refine St.move ?_; refine St.fieldAddr ?_; refine St.load ?_)
  refine St.lenG rfl (MvV.mlen hm) ?_
  (refine St.bin ?_; refine WO.nil ?_)
  refine St.splitC (fun hc => ?_) (fun hc => ?_)
  · have hlt : k < ms.length := by simp at hc; omega
    have hm' := hm
    obtain ⟨b, off, c, rfl, hk⟩ := hm'.ne (by omega)
    (refine WK.skip ?_; refine WK.seq ?_; refine WK.block ?_; refine WK.seq ?_; refine WK.region ?_; refine St.move ?_; refine St.fieldAddr ?_; refine St.load ?_; refine St.move ?_)
    refine St.at ?_
    (refine St.fieldAddr ?_)
    refine St.loadX (fun h2 hh2 => (Rds.headG ((hk.vw hh2).at_ (z := (k : Int)) (n := k) (by omega) hlt)).one rfl) ?_
    skip
    refine St.call (fun _ => rfl) (fun h2 hh2 => in_con h2 hh2.gd iv ids (nthE ms k).id (hi.vw hh2) hl3) ?_
    (refine St.assign ?_; refine WO.nil ?_; refine WK.seq ?_; refine WK.region ?_; refine St.move ?_; refine St.un ?_; refine WO.nil ?_)
    refine St.splitC (fun q => ?_) (fun q => ?_)
    · have hno : (nthE ms k).id ∉ ids := by simpa using q
      have hsu : wout (ms.take (k + 1)) ids = wout (ms.take k) ids ++ [nthE ms k] := by rw [wout_succ hlt, if_neg hno]
      have hsl := Nat.le_trans (wout_len (ms.take k) ids) (List.length_take_le k ms)
      (refine WK.regionD ?_; refine St.fieldAddr ?_; refine St.load ?_; refine St.fieldAddr ?_; refine St.load ?_; refine St.move ?_)
      refine St.at ?_
      refine St.loadX (fun h2 hh2 => ((hk.vw hh2).at_ (z := (k : Int)) (n := k) (by omega) hlt).agg (by simp [mvC]) rfl rfl rfl) ?_
      (refine StD.mkS fun _ _ => ?_)
      rename_i i2 hi2
      refine StD.appL (e := 67) (sz := 5) (new := mvC (nthE ms k)) (Lk := (p5, .cells [wh, wm] 25) :: (p4, .cells [.slice0, .slice0] 25) :: (p2, .cells [hv, .slice b off ms.length c] 25) :: Lh) hwm ?_ (fun j' hj' => ?_) ⟨rfl, rfl, rfl, rfl, rfl, rfl, rfl, rfl, rfl, rfl, rfl, rfl⟩ (List.Mem.head _) rfl (by omega) (by omega)
      · show List.Perm (Lm ++ (p5, .cells [wh, wm] 25) :: (p4, .cells [.slice0, .slice0] 25) :: (p2, .cells [hv, .slice b off ms.length c] 25) :: Lh : Ob) ((p5, .cells [wh, wm] 25) :: (p4, .cells [.slice0, .slice0] 25) :: (p2, .cells [hv, .slice b off ms.length c] 25) :: (Lh ++ Lm))
        (refine perm_cnt fun _ _ => ?_; simp only [List.append_eq, List.cons_append, List.nil_append, List.count_append, List.count_cons, List.count_nil, Nat.add_zero, Nat.zero_add]; try ac_rfl)
      (refine St.fieldAddr ?_; refine StD.store0 ?_; refine WO.nil2 ?_; refine WK.blk ?_; refine WK.region ?_; refine St.move ?_; refine St.binI ?_; refine St.assign ?_; refine WO.nil ?_)
      refine WK.perm (L' := (i2, .cells (mvC (nthE ms k)) 67) :: (p5, .cells [wh, .slice j' 0 ((wout (ms.take k) ids).length + 1) (.m 0)] 25) :: (p4, .cells [.slice0, .slice0] 25) :: (p2, .cells [hv, .slice b off ms.length c] 25) :: (Lh ++ [(j', .row (enF mvC (wout (ms.take k) ids) ++ mvC (nthE ms k)) 67 5)])) ?_ ?_
      · show List.Perm ((i2, .cells (mvC (nthE ms k)) 67) :: (p5, .cells [wh, .slice j' 0 ((wout (ms.take k) ids).length + 1) (.m 0)] 25) :: (p4, .cells [.slice0, .slice0] 25) :: (p2, .cells [hv, .slice b off ms.length c] 25) :: (Lh ++ [(j', .row (enF mvC (wout (ms.take k) ids) ++ mvC (nthE ms k)) 67 5)]) : Ob) ((j', .row (enF mvC (wout (ms.take k) ids) ++ mvC (nthE ms k)) 67 5) :: (i2, .cells (mvC (nthE ms k)) 67) :: (p5, .cells [wh, .slice j' 0 ((wout (ms.take k) ids).length + 1) (.m 0)] 25) :: (p4, .cells [.slice0, .slice0] 25) :: (p2, .cells [hv, .slice b off ms.length c] 25) :: Lh)
        (refine perm_cnt fun _ _ => ?_; simp only [List.append_eq, List.cons_append, List.nil_append, List.count_append, List.count_cons, List.count_nil, Nat.add_zero, Nat.zero_add]; try ac_rfl)
      refine WK.le ?_ (by (repeat (first | exact List.Sublist.refl _ | exact List.nil_sublist _ | apply List.Sublist.cons_cons | apply List.Sublist.cons))) (ih (k + 1, .slice j' 0 ((wout (ms.take k) ids).length + 1) (.m 0), [(j', .row (enF mvC (wout (ms.take k) ids) ++ mvC (nthE ms k)) 67 5)]) ⟨hlt, ?_⟩ (by simp only; omega))
      · exact ⟨rfl, rfl, rfl, rfl, rfl, trivial⟩
      · simp only
        unfold OwM
        rw [hsu, enF_app, enF_one, List.length_append]
        exact .row j' (by rw [List.length_append, enF_len mvC_len, mvC_len, List.length_singleton, Nat.add_mul])
    · have hno : (nthE ms k).id ∈ ids := by simpa using q
      have hsu : wout (ms.take (k + 1)) ids = wout (ms.take k) ids := by rw [wout_succ hlt, if_pos hno, List.append_nil]
      (refine WK.skip ?_; refine WK.blk ?_; refine WK.region ?_; refine St.move ?_; refine St.binI ?_; refine St.assign ?_; refine WO.nil ?_)
      refine WK.le ?_ (by (repeat (first | exact List.Sublist.refl _ | exact List.nil_sublist _ | apply List.Sublist.cons_cons | apply List.Sublist.cons))) (ih (k + 1, wm, Lm) ⟨hlt, by rw [hsu]; exact hwm⟩ (by simp only; omega))
      exact ⟨rfl, rfl, rfl, rfl, rfl, trivial⟩
  · have : k = ms.length := by simp at hc; omega
    subst this
    rw [List.take_length] at hwm
    (refine WK.exit ?_; refine WK.seq ?_; refine WK.region ?_; refine St.load ?_)
    refine St.store1 (hv := hst2) ?_
    (refine WO.nil ?_)
    refine St.ret (by first | exact .tmp .nil | exact .cell .nil | exact .cell (.tmp .nil) | exact .tmp (.tmp .nil) | exact .cell (.cell .nil) | exact .tmp (.cell .nil) | exact .nil | exact .tmp (.cell (.tmp .nil)) | exact .cell (.tmp (.tmp .nil)) | exact .cell (.cell (.tmp .nil)) | exact .tmp (.tmp (.tmp .nil)) | exact .cell (.cell (.cell .nil))) ?_
    exact ⟨Lh ++ Lm, by (repeat (first | exact List.Sublist.refl _ | exact List.nil_sublist _ | apply List.Sublist.cons_cons | apply List.Sublist.cons)), wh, wm, Lh, Lm, rfl, rfl, hwh, hwm.isL⟩
/-- what Without returns -/
def woH (hs : List Ho) (ms : List Mv) : List Ho := if chkT hs ms = 0 then hs else []
def woM (hs : List Ho) (ms : List Mv) (ids : List Int) : List Mv := if chkT hs ms = 0 then wout ms ids else []
theorem chkT_len {hs : List Ho} {ms : List Mv} (h : chkT hs ms = 0) : hs.length ≤ 9 ∧ ms.length ≤ 24 := by
  unfold chkT at h
  by_cases q : 9 < hs.length ∨ 24 < ms.length
  · rw [if_pos q] at h; cases h
  · omega
set_option maxRecDepth 100000 in
set_option maxHeartbeats 8000000 in
theorem Without_con (h : Heap) (g : Gd h) (hv mv iv : AV) (hs : List Ho) (ms : List Mv) (ids : List Int) (hh : HoZ h hv hs) (hm : MvA h mv ms) (hi : InV h iv ids) (hl3 : ids.length ≤ 1000000) :
    ∃ u L, Con Try.prog Bs 6 [.agg [hv, mv], iv] h [] u L ∧ ∃ wh wm Lh Lm, u = .tup [.agg [wh, wm], .int .i64 (chkT hs ms)] ∧ L = Lh ++ Lm ∧ IsL 71 6 (woH hs ms).length (enF hoC (woH hs ms)) wh Lh ∧ IsL 67 5 (woM hs ms ids).length (enF mvC (woM hs ms ids)) wm Lm := by
  have e0 : chkT hs ms = 0 → woH hs ms = hs ∧ woM hs ms ids = wout ms ids := fun e => ⟨if_pos e, if_pos e⟩
  have e1 : chkT hs ms ≠ 0 → woH hs ms = [] ∧ woM hs ms ids = [] := fun e => ⟨if_neg e, if_neg e⟩
  have e2 := chkT_len (hs := hs) (ms := ms)
  refine Con.subG (Con.startR rfl Try.func6 rfl rfl Try.ntmps6 rfl rfl (SS.init g) ?_)
  (refine WK.seq ?_; refine WK.region ?_; refine St.box fun _ _ => ?_; refine St.alloc fun _ _ => ?_; refine St.assign ?_; refine WO.nil ?_; refine WK.seq ?_; refine WK.seq ?_; refine WK.region ?_; refine St.load ?_)
  rename_i p2 hp2 p4 hp4
  refine St.call (fun _ => rfl) (fun h2 hh2 => check_con h2 hh2.gd hv mv hs ms (hh.hoA.vw hh2) (hm.vw hh2)) ?_
  generalize woH hs ms = wH at *
  generalize woM hs ms ids = wM at *
  generalize chkT hs ms = er at *
  (refine St.assign ?_; refine WO.nil ?_; refine WK.seq ?_; refine WK.region ?_; refine St.move ?_; refine St.bin ?_; refine WO.nil ?_)
  refine St.splitC (fun q => ?_) (fun q => ?_)
  · have hne : er ≠ 0 := by simpa using q
    obtain ⟨rfl, rfl⟩ := e1 hne
    (refine WK.seq ?_; refine WK.region ?_; refine St.build ?_; refine St.move ?_; refine St.store0 ?_; refine St.assign ?_; refine WO.nil ?_)
    refine St.ret (by first | exact .tmp .nil | exact .cell .nil | exact .cell (.tmp .nil) | exact .tmp (.tmp .nil) | exact .cell (.cell .nil) | exact .tmp (.cell .nil) | exact .nil | exact .tmp (.cell (.tmp .nil)) | exact .cell (.tmp (.tmp .nil)) | exact .cell (.cell (.tmp .nil)) | exact .tmp (.tmp (.tmp .nil)) | exact .cell (.cell (.cell .nil))) ?_
    exact ⟨[], List.nil_sublist _, .slice0, .slice0, [], [], rfl, rfl, .nil rfl rfl, .nil rfl rfl⟩
  have he : er = 0 := by simpa using q
  subst he
  obtain ⟨rfl, rfl⟩ := e0 rfl
  have hl := e2 rfl
  (refine WK.skip ?_; refine WK.seq ?_; refine WK.region ?_; refine St.load ?_; refine St.move ?_)
  refine St.callR (fun _ => rfl) (fun h2 hh2 => without_con h2 hh2.gd hv mv iv wH ms ids (hh.vw hh2) (hm.eV.vw hh2) (hi.vw hh2) (by omega) (by omega) hl3) ?_
  rintro u L ⟨wh, wm, Lh, Lm, rfl, rfl, hwh, hwm⟩
  have hst2 : (AObj.cells [.slice0, .slice0] 25).store Try.prog 25 0 (.agg [wh, wm]) = some (.cells [wh, wm] 25) := store_all (n := 2) (by kernel_rfl) rfl rfl (by show (okCell wh && (okCell wm && true)) = true; rw [hwh.okG, hwm.okG]; rfl)
  refine WO.permF (L' := (p4, .cells [.slice0, .slice0] 25) :: (p2, .cells [hv, mv] 25) :: (Lh ++ Lm)) ?_ ?_
  · show List.Perm ((p4, .cells [.slice0, .slice0] 25) :: (p2, .cells [hv, mv] 25) :: (Lh ++ Lm) : Ob) ((Lh ++ Lm) ++ [(p4, .cells [.slice0, .slice0] 25), (p2, .cells [hv, mv] 25)])
    (refine perm_cnt fun _ _ => ?_; simp only [List.append_eq, List.cons_append, List.nil_append, List.count_append, List.count_cons, List.count_nil, Nat.add_zero, Nat.zero_add]; try ac_rfl)
  refine St.store0 (hv := hst2) ?_
  (refine St.assign ?_; refine WO.nil ?_)
  refine St.ret (by first | exact .tmp .nil | exact .cell .nil | exact .cell (.tmp .nil) | exact .tmp (.tmp .nil) | exact .cell (.cell .nil) | exact .tmp (.cell .nil) | exact .nil | exact .tmp (.cell (.tmp .nil)) | exact .cell (.tmp (.tmp .nil)) | exact .cell (.cell (.tmp .nil)) | exact .tmp (.tmp (.tmp .nil)) | exact .cell (.cell (.cell .nil))) ?_
  exact ⟨Lh ++ Lm, by (repeat (first | exact List.Sublist.refl _ | exact List.nil_sublist _ | apply List.Sublist.cons_cons | apply List.Sublist.cons)), wh, wm, Lh, Lm, rfl, rfl, hwh, hwm⟩
theorem build_made {u w : AV} (hu : (u = .slice0) ∨ ∃ i n c, u = .slice i 0 n c) (hw : (w = .slice0) ∨ ∃ i n c, w = .slice i 0 n c) : evBuild Try.prog 33 [(0, .agg [u, w])] = some (.agg [u, w, .int .i64 0]) := by
  rcases hu with rfl | ⟨i, n, c, rfl⟩ <;> rcases hw with rfl | ⟨i2, n2, c2, rfl⟩ <;> kernel_rfl
set_option maxRecDepth 100000 in
set_option maxHeartbeats 8000000 in
theorem rwithout_con (h : Heap) (g : Gd h) (hv mv iv : AV) (hs : List Ho) (ms : List Mv) (ids : List Int) (hh : HoZ h hv hs) (hm : MvA h mv ms) (hi : InV h iv ids) (hl3 : ids.length ≤ 1000000) :
    ∃ u L, Con Try.prog Bs 7 [.agg [hv, mv], iv] h [] u L ∧ ∃ wh wm Lh Lm, u = .agg [wh, wm, .int .i64 (chkT hs ms)] ∧ L = Lh ++ Lm ∧ IsL 71 6 (woH hs ms).length (enF hoC (woH hs ms)) wh Lh ∧ IsL 67 5 (woM hs ms ids).length (enF mvC (woM hs ms ids)) wm Lm := by
  have e0 : chkT hs ms = 0 → woH hs ms = hs ∧ woM hs ms ids = wout ms ids := fun e => ⟨if_pos e, if_pos e⟩
  have e1 : chkT hs ms ≠ 0 → woH hs ms = [] ∧ woM hs ms ids = [] := fun e => ⟨if_neg e, if_neg e⟩
  have e2 := chkT_len (hs := hs) (ms := ms)
  refine Con.subG (Con.startR rfl Try.func7 rfl rfl Try.ntmps7 rfl rfl (SS.init g) ?_)
  (refine WK.seq ?_; refine WK.region ?_; refine St.box fun _ _ => ?_; refine St.alloc fun _ _ => ?_; refine WO.nil ?_; refine WK.seq ?_; refine WK.region ?_; refine St.load ?_)
  rename_i p2 hp2 p4 hp4
  refine St.call (fun _ => rfl) (fun h2 hh2 => rcheck_con h2 hh2.gd hv mv hs ms (hh.hoA.vw hh2) (hm.vw hh2)) ?_
  generalize woH hs ms = wH at *
  generalize woM hs ms ids = wM at *
  generalize chkT hs ms = er at *
  (refine St.assign ?_; refine WO.nil ?_; refine WK.seq ?_; refine WK.seq ?_; refine WK.region ?_; refine St.move ?_; refine St.bin ?_; refine WO.nil ?_)
  refine St.splitC (fun q => ?_) (fun q => ?_)
  · have hne : er ≠ 0 := by simpa using q
    obtain ⟨rfl, rfl⟩ := e1 hne
    (refine WK.seq ?_; refine WK.region ?_; refine St.move ?_; refine St.build ?_; refine St.store0 ?_; refine WO.nil ?_)
    refine St.ret (by first | exact .tmp .nil | exact .cell .nil | exact .cell (.tmp .nil) | exact .tmp (.tmp .nil) | exact .cell (.cell .nil) | exact .tmp (.cell .nil) | exact .nil | exact .tmp (.cell (.tmp .nil)) | exact .cell (.tmp (.tmp .nil)) | exact .cell (.cell (.tmp .nil)) | exact .tmp (.tmp (.tmp .nil)) | exact .cell (.cell (.cell .nil))) ?_
    exact ⟨[], List.nil_sublist _, .slice0, .slice0, [], [], rfl, rfl, .nil rfl rfl, .nil rfl rfl⟩
  have he : er = 0 := by simpa using q
  subst he
  obtain ⟨rfl, rfl⟩ := e0 rfl
  have hl := e2 rfl
  (refine WK.skip ?_; refine WK.seq ?_; refine WK.region ?_; refine St.load ?_; refine St.move ?_)
  refine St.callR (fun _ => rfl) (fun h2 hh2 => drop_con h2 hh2.gd hv mv iv wH ms ids (hh.vw hh2) (hm.eV.vw hh2) (hi.vw hh2) (by omega) (by omega) hl3) ?_
  rintro u L ⟨wh, wm, Lh, Lm, rfl, rfl, hwh, hwm⟩
  have hst2 : (AObj.cells [.slice0, .slice0, .int .i64 0] 33).store Try.prog 33 0 (.agg [wh, wm, .int .i64 0]) = some (.cells [wh, wm, .int .i64 0] 33) := store_all (n := 3) (by kernel_rfl) rfl rfl (by show (okCell wh && (okCell wm && (okCell (.int .i64 0) && true))) = true; rw [hwh.okG, hwm.okG]; rfl)
  refine WO.permF (L' := (p4, .cells [.slice0, .slice0, .int .i64 0] 33) :: (p2, .cells [hv, mv] 25) :: (Lh ++ Lm)) ?_ ?_
  · show List.Perm ((p4, .cells [.slice0, .slice0, .int .i64 0] 33) :: (p2, .cells [hv, mv] 25) :: (Lh ++ Lm) : Ob) ((Lh ++ Lm) ++ [(p4, .cells [.slice0, .slice0, .int .i64 0] 33), (p2, .cells [hv, mv] 25)])
    (refine perm_cnt fun _ _ => ?_; simp only [List.append_eq, List.cons_append, List.nil_append, List.count_append, List.count_cons, List.count_nil, Nat.add_zero, Nat.zero_add]; try ac_rfl)
  refine St.build ?_ (he := build_made (isl_form hwh) (isl_form hwm))
  skip
  refine St.store0 (hv := hst2) ?_
  (refine WO.nil ?_)
  refine St.ret (by first | exact .tmp .nil | exact .cell .nil | exact .cell (.tmp .nil) | exact .tmp (.tmp .nil) | exact .cell (.cell .nil) | exact .tmp (.cell .nil) | exact .nil | exact .tmp (.cell (.tmp .nil)) | exact .cell (.tmp (.tmp .nil)) | exact .cell (.cell (.tmp .nil)) | exact .tmp (.tmp (.tmp .nil)) | exact .cell (.cell (.cell .nil))) ?_
  exact ⟨Lh ++ Lm, by (repeat (first | exact List.Sublist.refl _ | exact List.nil_sublist _ | apply List.Sublist.cons_cons | apply List.Sublist.cons)), wh, wm, Lh, Lm, rfl, rfl, hwh, hwm⟩
end Go.Proofs.Ytkgolbanbdmbkaa
