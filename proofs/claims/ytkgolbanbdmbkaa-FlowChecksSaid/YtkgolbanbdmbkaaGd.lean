/- Layer 5: the program's Contains of ints, Clone of holders, without, Without. -/
import Derived.Test.YtkgolbanbdmbkaaGc
namespace Go.Proofs.Ytkgolbanbdmbkaa
open Go.Proofs.Ytkgolbanbdmbkaa.Ev

theorem perm_cnt {α : Type} {l1 l2 : List α} (h : ∀ (_ : DecidableEq α) (a : α), l1.count a = l2.count a) : l1.Perm l2 := perm_count h

set_option maxRecDepth 100000 in
set_option maxHeartbeats 4000000 in
theorem index_con (h : Heap) (g : Gd h) (v : AV) (l : List Int) (n : Int) (hv : InV h v l) (hl : l.length ≤ 1000000) :
    Con Try.prog Bs 68 [v, .int .i64 n] h [] (.int .i64 (plI l n)) [] := by
  refine Con.start rfl Try.func68 rfl rfl Try.ntmps68 rfl rfl g ?_
  (refine WK.seq ?_; refine WK.region ?_; refine St.assign ?_; refine WO.nil ?_; refine WK.seq ?_; refine WK.seq ?_; refine WK.region ?_; refine St.move ?_)
  refine St.lenG rfl (InV.ilen hv) ?_
  (refine St.move ?_; refine WO.nil ?_; refine WK.block ?_)
  by_cases hn : l.length = 0
  · have e1 : l = [] := List.length_eq_zero_iff.1 hn
    subst e1
    refine WK.unroll ?_
    (refine WK.seq ?_; refine WK.region ?_; refine St.bin ?_; refine WO.nil ?_; refine WK.seq ?_; refine WK.condF ?_; refine WK.exit ?_; refine WK.seq ?_; refine WK.region ?_; refine St.assign ?_; refine WO.nil ?_)
    refine St.ret (by first | exact .tmp .nil | exact .cell .nil | exact .cell (.tmp .nil) | exact .tmp (.tmp .nil) | exact .cell (.cell .nil) | exact .tmp (.cell .nil) | exact .nil | exact .tmp (.cell (.tmp .nil)) | exact .cell (.tmp (.tmp .nil)) | exact .cell (.cell (.tmp .nil)) | exact .tmp (.tmp (.tmp .nil)) | exact .cell (.cell (.cell .nil))) ?_
    rfl
  obtain ⟨b, off, c, rfl, hk⟩ := hv.ne (by omega)
  refine WK.inv (ι := Nat) (fun z => [(0, .slice b off l.length c), (1, .int .i64 n), (4, .int .i64 0), (7, .int .i64 l.length), (8, .int .i64 z)]) (fun _ => []) (fun z => z ≤ l.length ∧ n ∉ l.take z) (fun z => l.length - z) 0 ⟨by omega, by simp⟩ ⟨rfl, rfl, rfl, rfl, rfl, trivial⟩ (by (repeat (first | exact List.Sublist.refl _ | exact List.nil_sublist _ | apply List.Sublist.cons_cons | apply List.Sublist.cons))) ?_
  rintro k ⟨hkl, hno⟩ ih
  (refine WK.seq ?_; refine WK.region ?_; refine St.bin ?_; refine WO.nil ?_; refine WK.seq ?_)
  refine St.splitC (fun hc => ?_) (fun hc => ?_)
  · have hlt : k < l.length := by simp at hc; omega
    (refine WK.skip ?_; refine WK.seq ?_; refine WK.block ?_; refine WK.seq ?_; refine WK.region ?_; refine St.move ?_; refine St.assign ?_; refine WO.nil ?_; refine WK.seq ?_; refine WK.region ?_; refine St.move ?_; refine St.move ?_; refine St.move ?_)
    refine St.at ?_
    skip
    refine St.loadX (fun h2 hh => (Rds.headG ((hk.vw hh).at_ (z := (k : Int)) (n := k) (by omega) hlt)).one rfl) ?_
    (refine St.bin ?_; refine WO.nil ?_)
    refine St.splitC (fun hc2 => ?_) (fun hc2 => ?_)
    · have hid : n = nthE l k := by simpa using hc2
      (refine WK.seq ?_; refine WK.region ?_; refine St.move ?_; refine St.assign ?_; refine WO.nil ?_)
      refine St.ret (by first | exact .tmp .nil | exact .cell .nil | exact .cell (.tmp .nil) | exact .tmp (.tmp .nil) | exact .cell (.cell .nil) | exact .tmp (.cell .nil) | exact .nil | exact .tmp (.cell (.tmp .nil)) | exact .cell (.tmp (.tmp .nil)) | exact .cell (.cell (.tmp .nil)) | exact .tmp (.tmp (.tmp .nil)) | exact .cell (.cell (.cell .nil))) ?_
      rw [plI_at (i := k) hlt (by rw [← nthE_eq hlt]; exact hid.symm) hno]
      rfl
    · have hid : n ≠ nthE l k := by simpa using hc2
      (refine WK.skip ?_; refine WK.blk ?_; refine WK.region ?_; refine St.binI ?_; refine St.move ?_; refine WO.nil ?_)
      refine WK.le ?_ (by (repeat (first | exact List.Sublist.refl _ | exact List.nil_sublist _ | apply List.Sublist.cons_cons | apply List.Sublist.cons))) (ih (k + 1) ⟨hlt, ?_⟩ (by omega))
      · exact ⟨rfl, rfl, rfl, rfl, rfl, trivial⟩
      · rw [take_succE hlt]
        simp only [List.mem_append, List.mem_singleton, not_or]
        exact ⟨hno, hid⟩
  · have : k = l.length := by simp at hc; omega
    subst this
    (refine WK.exit ?_; refine WK.seq ?_; refine WK.region ?_; refine St.assign ?_; refine WO.nil ?_)
    refine St.ret (by first | exact .tmp .nil | exact .cell .nil | exact .cell (.tmp .nil) | exact .tmp (.tmp .nil) | exact .cell (.cell .nil) | exact .tmp (.cell .nil) | exact .nil | exact .tmp (.cell (.tmp .nil)) | exact .cell (.tmp (.tmp .nil)) | exact .cell (.cell (.tmp .nil)) | exact .tmp (.tmp (.tmp .nil)) | exact .cell (.cell (.cell .nil))) ?_
    rw [plI_no (by rw [List.take_length] at hno; exact hno)]
    rfl
set_option maxRecDepth 100000 in
theorem contains_con (h : Heap) (g : Gd h) (v : AV) (l : List Int) (n : Int) (hv : InV h v l) (hl : l.length ≤ 1000000) :
    Con Try.prog Bs 47 [v, .int .i64 n] h [] (.bool (decide (n ∈ l))) [] := by
  refine Con.start rfl Try.func47 rfl rfl Try.ntmps47 rfl rfl g ?_
  (refine WK.seq ?_; refine WK.region ?_; refine St.assign ?_; refine WO.nil ?_; refine WK.seq ?_; refine WK.region ?_; refine St.move ?_; refine St.move ?_)
  refine St.call (fun _ => rfl) (fun h2 hh => index_con h2 hh.gd v l n (hv.vw hh) hl) ?_
  (refine St.bin ?_; refine St.assign ?_; refine WO.nil ?_)
  refine St.ret (by first | exact .tmp .nil | exact .cell .nil | exact .cell (.tmp .nil) | exact .tmp (.tmp .nil) | exact .cell (.cell .nil) | exact .tmp (.cell .nil) | exact .nil | exact .tmp (.cell (.tmp .nil)) | exact .cell (.tmp (.tmp .nil)) | exact .cell (.cell (.tmp .nil)) | exact .tmp (.tmp (.tmp .nil)) | exact .cell (.cell (.cell .nil))) ?_
  show AV.bool (decide (0 ≤ plI l n)) = _
  rw [decide_eq_decide.2 plI_ge]
theorem hoC_ok (x : Ho) : (hoC x).all okCell = true := rfl
theorem mvC_ok (x : Mv) : (mvC x).all okCell = true := rfl
theorem hoC_ne (x : Ho) : hoC x ≠ [] := by simp [hoC]
theorem mvC_ne (x : Mv) : mvC x ≠ [] := by simp [mvC]
/-- what an append takes of an argument -/
theorem ho_comes {h : Heap} {b off : Nat} {c : ACap} {l : List Ho} {L : Ob} (hk : HoH h b off l) (hz : ∀ h2, Vw h [] L h2 → h2.loadN b off 0 = some []) (hl : l.length ≤ 1000000) : ComesA h [] L (.slice b off l.length c) 6 l.length (enF hoC l) :=
  comesE hoC_len (by omega) hk (fun x _ => hoC_ok x) (fun _ => hz) hl
/-- holders that are an argument; nothing can be read of an empty one -/
def HoZ (h : Heap) (v : AV) (l : List Ho) : Prop := (v = .slice0 ∧ l = []) ∨ ∃ b off m, v = .slice b off l.length (.k m) ∧ l.length ≤ m ∧ HoH h b off l ∧ b < h.next ∧ h.loadN b off 0 = some []
theorem HoZ.hoA {h : Heap} {v : AV} {l : List Ho} (k : HoZ h v l) : HoA h v l := by
  rcases k with k | ⟨b, off, m, rfl, hm, k, _, _⟩
  · exact .inl k
  · exact .inr ⟨b, off, m, rfl, hm, k⟩
theorem loadN_old {h0 h : Heap} {V : Ob} {b off n : Nat} (hh : Vw h0 [] V h) (hb : b < h0.next) : h.loadN b off n = h0.loadN b off n := by
  unfold Heap.loadN
  rw [hh.old b hb (by simp)]
theorem HoZ.vw {h0 h : Heap} {V : Ob} {v : AV} {l : List Ho} (k : HoZ h0 v l) (hh : Vw h0 [] V h) : HoZ h v l := by
  rcases k with k | ⟨b, off, m, rfl, hm, k, hb, hz⟩
  · exact .inl k
  · exact .inr ⟨b, off, m, rfl, hm, k.vw hh, Nat.lt_of_lt_of_le hb hh.nx, by rw [loadN_old hh hb]; exact hz⟩
set_option maxRecDepth 100000 in
set_option maxHeartbeats 4000000 in
theorem clone_con (h : Heap) (g : Gd h) (v : AV) (l : List Ho) (hv : HoZ h v l) (hl : l.length ≤ 1000000) :
    ∃ u L, Con Try.prog Bs 46 [v] h [] u L ∧ IsL 71 6 l.length (enF hoC l) u L := by
  rcases hv with ⟨rfl, rfl⟩ | ⟨b, off, m, rfl, hm, hk, hb, hz⟩
  · refine Con.subG (Con.startR rfl Try.func46 rfl rfl Try.ntmps46 rfl rfl (SS.init g) ?_)
    (refine WK.seq ?_; refine WK.region ?_; refine St.assign ?_; refine WO.nil ?_; refine WK.seq ?_; refine WK.seq ?_; refine WK.region ?_; refine St.move ?_; refine St.bin ?_; refine WO.nil ?_; refine WK.condT ?_; refine WK.seq ?_; refine WK.region ?_; refine St.assign ?_; refine WO.nil ?_)
    refine St.ret (by first | exact .tmp .nil | exact .cell .nil | exact .cell (.tmp .nil) | exact .tmp (.tmp .nil) | exact .cell (.cell .nil) | exact .tmp (.cell .nil) | exact .nil | exact .tmp (.cell (.tmp .nil)) | exact .cell (.tmp (.tmp .nil)) | exact .cell (.cell (.tmp .nil)) | exact .tmp (.tmp (.tmp .nil)) | exact .cell (.cell (.cell .nil))) ?_
    exact ⟨[], List.nil_sublist _, .nil rfl rfl⟩
  · refine Con.subG (Con.startR rfl Try.func46 rfl rfl Try.ntmps46 rfl rfl (SS.init g) ?_)
    (refine WK.seq ?_; refine WK.region ?_; refine St.assign ?_; refine WO.nil ?_; refine WK.seq ?_; refine WK.seq ?_; refine WK.region ?_; refine St.move ?_; refine St.bin ?_; refine WO.nil ?_; refine WK.condF ?_; refine WK.skip ?_; refine WK.seq ?_; refine WK.region ?_; refine St.mkS fun _ _ => ?_; refine St.move ?_)
    rename_i x hx
    refine St.appG (e := 71) (sz := 6) (len := 0) (old := []) (Lv := [(x, .cells [] 71)]) (Lk := []) (.cells x 0 [] _ (by simp) (by simp) (Nat.le_refl _)) (List.Perm.refl _) ⟨rfl, rfl, rfl, rfl, rfl, rfl, rfl, rfl⟩ (ho_comes hk (fun h2 hh => by rw [loadN_old hh hb]; exact hz) hl) (by omega) (fun v' Lv' hv' => ?_)
    (refine St.assign ?_; refine WO.nil ?_)
    refine St.ret (by first | exact .tmp .nil | exact .cell .nil | exact .cell (.tmp .nil) | exact .tmp (.tmp .nil) | exact .cell (.cell .nil) | exact .tmp (.cell .nil) | exact .nil | exact .tmp (.cell (.tmp .nil)) | exact .cell (.tmp (.tmp .nil)) | exact .cell (.cell (.tmp .nil)) | exact .tmp (.tmp (.tmp .nil)) | exact .cell (.cell (.cell .nil))) ?_
    rw [Nat.zero_add, List.nil_append] at hv'
    exact ⟨Lv', by rw [List.append_nil]; exact List.Sublist.refl _, hv'⟩
theorem wout_succ {ms : List Mv} {ids : List Int} {k : Nat} (h : k < ms.length) : wout (ms.take (k + 1)) ids = wout (ms.take k) ids ++ if (nthE ms k).id ∈ ids then [] else [nthE ms k] := by
  unfold wout
  rw [take_succE h, List.filter_append]
  congr 1
  by_cases q : (nthE ms k).id ∈ ids <;> simp [q]
theorem wout_len (ms : List Mv) (ids : List Int) : (wout ms ids).length ≤ ms.length := List.length_filter_le _ _
theorem isl_form {e : TypeId} {sz n : Nat} {l : List AV} {v : AV} {L : Ob} (k : IsL e sz n l v L) : v = .slice0 ∨ ∃ i n c, v = .slice i 0 n c := by
  cases k with
  | nil => exact .inl rfl
  | cells => exact .inr ⟨_, _, _, rfl⟩
  | row => exact .inr ⟨_, _, _, rfl⟩
theorem build_trade {u : AV} (hu : (u = .slice0) ∨ ∃ i n c, u = .slice i 0 n c) : evBuild Try.prog 25 [(0, u)] = some (.agg [u, .slice0]) := by
  rcases hu with rfl | ⟨i, n, c, rfl⟩
  · kernel_rfl
  · kernel_rfl
set_option maxRecDepth 100000 in
set_option maxHeartbeats 16000000 in
theorem without_con (h : Heap) (g : Gd h) (hv mv iv : AV) (hs : List Ho) (ms : List Mv) (ids : List Int) (hh : HoZ h hv hs) (hm : MvV h mv ms) (hi : InV h iv ids) (hl1 : hs.length ≤ 1000) (hl2 : ms.length ≤ 1000) (hl3 : ids.length ≤ 1000000) :
    ∃ u L, Con Try.prog Bs 25 [.agg [hv, mv], iv] h [] u L ∧ ∃ wh wm Lh Lm, u = .agg [wh, wm] ∧ L = Lh ++ Lm ∧ IsL 71 6 hs.length (enF hoC hs) wh Lh ∧ IsL 67 5 (wout ms ids).length (enF mvC (wout ms ids)) wm Lm := by
  refine Con.subG (Con.startR rfl Try.func25 rfl rfl Try.ntmps25 rfl rfl (SS.init g) ?_)
  (refine WK.seq ?_; refine WK.region ?_; refine St.box fun _ _ => ?_; refine St.alloc fun _ _ => ?_; refine WO.nil ?_; refine WK.seq ?_; refine WK.region ?_; refine St.fieldAddr ?_; refine St.load ?_)
  rename_i p2 hp2 p4 hp4
  refine St.callR (fun _ => rfl) (fun h2 hh2 => clone_con h2 hh2.gd hv hs (hh.vw hh2) (by omega)) ?_
  rintro wh Lh hwh
  refine WO.permF (L' := (p4, .cells [.slice0, .slice0] 25) :: (p2, .cells [hv, mv] 25) :: Lh) ?_ ?_
  · show List.Perm ((p4, .cells [.slice0, .slice0] 25) :: (p2, .cells [hv, mv] 25) :: Lh : Ob) (Lh ++ [(p4, .cells [.slice0, .slice0] 25), (p2, .cells [hv, mv] 25)])
    (refine perm_cnt fun _ _ => ?_; simp only [List.append_eq, List.cons_append, List.nil_append, List.count_append, List.count_cons, List.count_nil, Nat.add_zero, Nat.zero_add]; try ac_rfl)
  skip
  refine St.build ?_ (he := build_trade (isl_form hwh))
  (refine St.alloc fun _ _ => ?_)
  have hst : (AObj.cells [.slice0, .slice0] 25).store Try.prog 25 0 (.agg [wh, .slice0]) = some (.cells [wh, .slice0] 25) := store_all (n := 2) (by kernel_rfl) rfl rfl (by show (okCell wh && (okCell .slice0 && true)) = true; rw [hwh.okG]; rfl)
  refine St.store0 (hv := hst) ?_
  (refine WO.nil ?_; refine WK.seq ?_; refine WK.seq ?_; refine WK.region ?_; refine St.fieldAddr ?_; refine St.load ?_)
  rename_i p5 hp5
  refine St.lenG rfl (MvV.mlen hm) ?_
  (refine St.move ?_; refine WO.nil ?_; refine WK.block ?_)
  by_cases hn : ms.length = 0
  · have e1 : ms = [] := List.length_eq_zero_iff.1 hn
    subst e1
    refine WK.unroll ?_
    (refine WK.seq ?_; refine WK.region ?_; refine St.bin ?_; refine WO.nil ?_; refine WK.seq ?_; refine WK.condF ?_; refine WK.exit ?_; refine WK.seq ?_; refine WK.region ?_; refine St.load ?_)
    refine St.store1 (hv := hst) ?_
    (refine WO.nil ?_)
    refine St.ret (by first | exact .tmp .nil | exact .cell .nil | exact .cell (.tmp .nil) | exact .tmp (.tmp .nil) | exact .cell (.cell .nil) | exact .tmp (.cell .nil) | exact .nil | exact .tmp (.cell (.tmp .nil)) | exact .cell (.tmp (.tmp .nil)) | exact .cell (.cell (.tmp .nil)) | exact .tmp (.tmp (.tmp .nil)) | exact .cell (.cell (.cell .nil))) ?_
    exact ⟨Lh, by (repeat (first | exact List.Sublist.refl _ | exact List.nil_sublist _ | apply List.Sublist.cons_cons | apply List.Sublist.cons)), wh, .slice0, Lh, [], rfl, by rw [List.append_nil], hwh, .nil rfl rfl⟩
  obtain ⟨b, off, c, rfl, hk⟩ := hm.ne (by omega)
  refine WK.inv (ι := Nat × AV × Ob) (fun z => [(1, iv), (2, .ptr p2 0), (4, .ptr p4 0), (5, .ptr p5 0), (13, .slice b off ms.length c), (14, .int .i64 ms.length), (15, .int .i64 z.1)]) (fun z => (p5, .cells [wh, z.2.1] 25) :: (p4, .cells [.slice0, .slice0] 25) :: (p2, .cells [hv, .slice b off ms.length c] 25) :: (Lh ++ z.2.2)) (fun z => z.1 ≤ ms.length ∧ IsL 67 5 (wout (ms.take z.1) ids).length (enF mvC (wout (ms.take z.1) ids)) z.2.1 z.2.2) (fun z => ms.length - z.1) (0, .slice0, []) ⟨Nat.zero_le _, .nil rfl rfl⟩ ⟨rfl, rfl, rfl, rfl, rfl, rfl, rfl, trivial⟩ (by rw [List.append_nil]; exact List.Sublist.refl _) ?_
  rintro ⟨k, wm, Lm⟩ ⟨hkl, hwm⟩ ih
  simp only at hkl hwm ih ⊢
  have hst2 : (AObj.cells [.slice0, .slice0] 25).store Try.prog 25 0 (.agg [wh, wm]) = some (.cells [wh, wm] 25) := store_all (n := 2) (by kernel_rfl) rfl rfl (by show (okCell wh && (okCell wm && true)) = true; rw [hwh.okG, hwm.okG]; rfl)
  (refine WK.seq ?_; refine WK.region ?_; refine St.bin ?_; refine WO.nil ?_; refine WK.seq ?_)
  refine St.splitC (fun hc => ?_) (fun hc => ?_)
  · have hlt : k < ms.length := by simp at hc; omega
    (refine WK.skip ?_; refine WK.seq ?_; refine WK.block ?_; refine WK.seq ?_; refine WK.region ?_)
    refine St.at ?_
    refine St.loadX (fun h2 hh2 => ((hk.vw hh2).at_ (z := (k : Int)) (n := k) (by omega) hlt).agg (by simp [mvC]) rfl rfl rfl) ?_
    (refine St.alloc fun _ _ => ?_; refine St.store0 ?_; refine WO.nil ?_; refine WK.seq ?_; refine WK.region ?_; refine St.move ?_; refine St.fieldAddr ?_; refine St.load ?_)
    rename_i p7 hp7
    refine St.call (fun _ => rfl) (fun h2 hh2 => contains_con h2 hh2.gd iv ids (nthE ms k).id (hi.vw hh2) hl3) ?_
    (refine St.un ?_; refine WO.nil ?_)
    refine St.splitC (fun q => ?_) (fun q => ?_)
    · have hno : (nthE ms k).id ∉ ids := by simpa using q
      have hsu : wout (ms.take (k + 1)) ids = wout (ms.take k) ids ++ [nthE ms k] := by rw [wout_succ hlt, if_neg hno]
      (refine WK.region ?_; refine St.fieldAddr ?_; refine St.load ?_; refine St.load ?_; refine St.mkS fun _ _ => ?_)
      rename_i x3 hx3
      have hsl := Nat.le_trans (wout_len (ms.take k) ids) (List.length_take_le k ms)
      refine St.appL (e := 67) (sz := 5) (new := mvC (nthE ms k)) (Lk := (x3, .cells (mvC (nthE ms k)) 67) :: (p7, .cells (mvC (nthE ms k)) 67) :: (p5, .cells [wh, wm] 25) :: (p4, .cells [.slice0, .slice0] 25) :: (p2, .cells [hv, .slice b off ms.length c] 25) :: Lh) hwm ?_ (fun v' Lv' hv' => ?_) ⟨rfl, rfl, rfl, rfl, rfl, rfl, rfl, rfl, rfl, rfl, rfl, rfl⟩ (List.Mem.head _) rfl (by omega) (by omega)
      · show List.Perm (Lm ++ (x3, .cells (mvC (nthE ms k)) 67) :: (p7, .cells (mvC (nthE ms k)) 67) :: (p5, .cells [wh, wm] 25) :: (p4, .cells [.slice0, .slice0] 25) :: (p2, .cells [hv, .slice b off ms.length c] 25) :: Lh : Ob) ((x3, .cells (mvC (nthE ms k)) 67) :: (p7, .cells (mvC (nthE ms k)) 67) :: (p5, .cells [wh, wm] 25) :: (p4, .cells [.slice0, .slice0] 25) :: (p2, .cells [hv, .slice b off ms.length c] 25) :: (Lh ++ Lm))
        (refine perm_cnt fun _ _ => ?_; simp only [List.append_eq, List.cons_append, List.nil_append, List.count_append, List.count_cons, List.count_nil, Nat.add_zero, Nat.zero_add]; try ac_rfl)
      (refine St.fieldAddr ?_)
      refine WO.permF (L' := (p5, .cells [wh, wm] 25) :: (x3, .cells (mvC (nthE ms k)) 67) :: (p7, .cells (mvC (nthE ms k)) 67) :: (p4, .cells [.slice0, .slice0] 25) :: (p2, .cells [hv, .slice b off ms.length c] 25) :: (Lh ++ Lv')) ?_ ?_
      · show List.Perm ((p5, .cells [wh, wm] 25) :: (x3, .cells (mvC (nthE ms k)) 67) :: (p7, .cells (mvC (nthE ms k)) 67) :: (p4, .cells [.slice0, .slice0] 25) :: (p2, .cells [hv, .slice b off ms.length c] 25) :: (Lh ++ Lv') : Ob) (Lv' ++ (x3, .cells (mvC (nthE ms k)) 67) :: (p7, .cells (mvC (nthE ms k)) 67) :: (p5, .cells [wh, wm] 25) :: (p4, .cells [.slice0, .slice0] 25) :: (p2, .cells [hv, .slice b off ms.length c] 25) :: Lh)
        (refine perm_cnt fun _ _ => ?_; simp only [List.append_eq, List.cons_append, List.nil_append, List.count_append, List.count_cons, List.count_nil, Nat.add_zero, Nat.zero_add]; try ac_rfl)
      refine St.store0 (hv := store_cell (off := 1) (l' := [wh, v']) (by kernel_rfl) hv'.okG rfl) ?_
      (refine WO.nil ?_; refine WK.blk ?_; refine WK.region ?_; refine St.binI ?_; refine St.move ?_; refine WO.nil ?_)
      refine WK.le ?_ (by (repeat (first | exact List.Sublist.refl _ | exact List.nil_sublist _ | apply List.Sublist.cons_cons | apply List.Sublist.cons))) (ih (k + 1, v', Lv') ⟨hlt, ?_⟩ (by simp only; omega))
      · exact ⟨rfl, rfl, rfl, rfl, rfl, rfl, rfl, trivial⟩
      · rw [hsu, enF_app, enF_one, List.length_append]
        exact hv'
    · have hno : (nthE ms k).id ∈ ids := by simpa using q
      have hsu : wout (ms.take (k + 1)) ids = wout (ms.take k) ids := by rw [wout_succ hlt, if_pos hno, List.append_nil]
      (refine WK.skip ?_; refine WK.blk ?_; refine WK.region ?_; refine St.binI ?_; refine St.move ?_; refine WO.nil ?_)
      refine WK.le ?_ (by (repeat (first | exact List.Sublist.refl _ | exact List.nil_sublist _ | apply List.Sublist.cons_cons | apply List.Sublist.cons))) (ih (k + 1, wm, Lm) ⟨hlt, by rw [hsu]; exact hwm⟩ (by simp only; omega))
      exact ⟨rfl, rfl, rfl, rfl, rfl, rfl, rfl, trivial⟩
  · have : k = ms.length := by simp at hc; omega
    subst this
    rw [List.take_length] at hwm
    (refine WK.exit ?_; refine WK.seq ?_; refine WK.region ?_; refine St.load ?_)
    refine St.store1 (hv := hst2) ?_
    (refine WO.nil ?_)
    refine St.ret (by first | exact .tmp .nil | exact .cell .nil | exact .cell (.tmp .nil) | exact .tmp (.tmp .nil) | exact .cell (.cell .nil) | exact .tmp (.cell .nil) | exact .nil | exact .tmp (.cell (.tmp .nil)) | exact .cell (.tmp (.tmp .nil)) | exact .cell (.cell (.tmp .nil)) | exact .tmp (.tmp (.tmp .nil)) | exact .cell (.cell (.cell .nil))) ?_
    exact ⟨Lh ++ Lm, by (repeat (first | exact List.Sublist.refl _ | exact List.nil_sublist _ | apply List.Sublist.cons_cons | apply List.Sublist.cons)), wh, wm, Lh, Lm, rfl, rfl, hwh, hwm⟩
end Go.Proofs.Ytkgolbanbdmbkaa
