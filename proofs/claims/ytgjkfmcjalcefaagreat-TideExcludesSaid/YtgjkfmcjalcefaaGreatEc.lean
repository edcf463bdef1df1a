/- The program's decisive, Shown, Excluded. -/
import Derived.Test.YtgjkfmcjalcefaaGreatEb
import Derived.Test.YtgjkfmcjalcefaaGreatUe
namespace Go.Proofs.YtgjkfmcjalcefaaGreat
open Go.Proofs.YtgjkfmcjalcefaaGreat.Ev

theorem cy_at {h : Heap} {b off n : Nat} {z : Int} {l : List Cw} (k : CyH h b off l) (e : z.toNat = n) (hi : n < l.length) : Rds h b (off + z.toNat * 4) (cyC (nthW l n)) := by
  subst e
  exact (k _ hi).1
theorem Ev.IsL.okv {e : TypeId} {sz len : Nat} {l : List AV} {v : AV} {Lv : Ob} (k : IsL e sz len l v Lv) : okCell v = true := by
  rcases k.open_ with ⟨rfl, _⟩ | ⟨i, c, o, rfl, _⟩ <;> rfl
theorem store_1 {P : Program} {t ty : TypeId} {x y z u : AV} (hs : sizeT P t = some 1) (hu : okCell u = true) {off : Nat} (hoff : off = 1) : (AObj.cells [x, y, z] ty).store P t off u = some (.cells [x, u, z] ty) := by
  subst hoff
  have hc : u.cells = [u] := by cases u <;> first | rfl | cases hu
  simp [AObj.store, hs, hc, hu, AObj.put, overN]
set_option maxRecDepth 100000 in
set_option maxHeartbeats 16000000 in
theorem decisive_con (h : Heap) (g : Gd h) (lv : Int) (cv sv v : AV) (wd : Bool) (cl : List Cw) (ss : List Sh) (l : List Ga) (hc : CyA h cv cl) (hs : ShV h sv ss) (hv : GaV h v l) (hl : l.length ≤ 1000) (w : WOk lv (cys cl) ss) (hga : ∀ x ∈ l, GaOk x) :
    ∃ u L, Con Tryz.prog Bs 51 [.agg [.int .i64 lv, cv, sv], v, .bool wd] h [] u L ∧ IsL 3 1 (decTo ss l cl wd cl.length).length ((sortX (decTo ss l cl wd cl.length)).map (AV.int .i64)) u L := by
  have hcl6 : cl.length ≤ 6 := by have := w.n1; rwa [cys_len] at this
  refine Con.subR (Con.startR rfl Tryz.func51 rfl rfl Tryz.ntmps51 rfl rfl (SS.init g) ?_)
  (refine WK.seq ?_; refine WK.region ?_; refine St.box fun _ _ => ?_; refine St.assign ?_; refine WO.nil ?_; refine WK.seq ?_; refine WK.region ?_; refine St.assign ?_; refine WO.nil ?_; refine WK.seq ?_; refine WK.seq ?_; refine WK.region ?_; refine St.fieldAddr ?_; refine St.load ?_)
  rename_i p hp
  refine St.lenV rfl hc.cyV.len ?_
  (refine St.move ?_; refine WO.nil ?_; refine WK.block ?_)
  by_cases hn : cl.length = 0
  · have e1 : cl = [] := List.length_eq_zero_iff.1 hn
    subst e1
    refine WK.unroll ?_
    (refine WK.seq ?_; refine WK.region ?_; refine St.bin ?_; refine WO.nil ?_; refine WK.seq ?_; refine WK.condF ?_; refine WK.exit ?_; refine WK.seq ?_; refine WK.region ?_; refine St.move ?_)
    refine St.call (v := .tup []) (fun _ => rfl) (fun h2 hh => Con.nil hh.gd (Bs_sort0 h2)) ?_
    (refine WO.nil ?_; refine WK.seq ?_; refine WK.region ?_; refine St.move ?_; refine St.assign ?_; refine WO.nil ?_)
    refine St.ret (by first | exact .tmp .nil | exact .cell .nil | exact .cell (.tmp .nil) | exact .tmp (.tmp .nil) | exact .cell (.cell .nil) | exact .tmp (.cell .nil) | exact .nil | exact .tmp (.cell (.tmp .nil)) | exact .cell (.tmp (.tmp .nil)) | exact .cell (.cell (.tmp .nil)) | exact .tmp (.tmp (.tmp .nil)) | exact .cell (.cell (.cell .nil))) ?_
    exact ⟨[], List.nil_sublist _, .nil rfl (by simp [decTo, sortX])⟩
  rcases hc with ⟨_, rfl⟩ | ⟨b, off, m, rfl, hm, hk⟩
  · simp at hn
  refine WK.inv (ι := Nat × AV × Ob) (fun z => [(1, v), (2, .bool wd), (3, .ptr p 0), (7, z.2.1), (12, .slice b off cl.length (.k m)), (13, .int .i64 cl.length), (14, .int .i64 z.1)]) (fun z => (p, .cells [.int .i64 lv, .slice b off cl.length (.k m), sv] 25) :: z.2.2) (fun z => z.1 ≤ cl.length ∧ IsL 3 1 (decTo ss l cl wd z.1).length ((decTo ss l cl wd z.1).map (AV.int .i64)) z.2.1 z.2.2 ∧ ((decTo ss l cl wd z.1).length = 0 → z.2.1 = .slice0 ∧ z.2.2 = [])) (fun z => cl.length - z.1) (0, .slice0, []) ⟨Nat.zero_le _, .nil rfl rfl, fun _ => ⟨rfl, rfl⟩⟩ ⟨rfl, rfl, rfl, rfl, rfl, rfl, rfl, trivial⟩ (by (repeat (first | exact List.Sublist.refl _ | exact List.nil_sublist _ | apply List.Sublist.cons_cons | apply List.Sublist.cons))) ?_
  rintro ⟨k, w1, Lw⟩ ⟨hkl, hw, hwz⟩ ih
  simp only at hkl hw hwz ih ⊢
  (refine WK.seq ?_; refine WK.region ?_; refine St.bin ?_; refine WO.nil ?_; refine WK.seq ?_)
  refine St.splitC (fun hc2 => ?_) (fun hc2 => ?_)
  · have hlt : k < cl.length := by simp at hc2; omega
    (refine WK.skip ?_; refine WK.seq ?_; refine WK.block ?_; refine WK.seq ?_; refine WK.region ?_; refine St.move ?_)
    refine St.at ?_
    refine St.loadX (fun h2 hh => (cy_at (hk.vw hh) (z := (k : Int)) (n := k) (by omega) hlt).agg (by simp [cyC]) rfl rfl rfl) ?_
    (refine St.alloc fun _ _ => ?_; refine St.assign ?_)
    refine St.store0 (hv := store_cy rfl (hk.its _ (by rw [nthW_eq hlt]; exact List.getElem_mem hlt)).ok rfl) ?_
    (refine WO.nil ?_; refine WK.seq ?_; refine WK.region ?_; refine St.load ?_; refine St.alloc fun _ _ => ?_)
    refine St.store0 (hv := store_w rfl rfl hs.ok rfl) ?_
    (refine WO.nil ?_; refine WK.seq ?_; refine WK.region ?_; refine St.fieldAddr ?_; refine St.load ?_; refine St.move ?_)
    rename_i x9 hx9 x10 hx10
    refine St.callR (fun _ => rfl) (fun h2 hh => withoutC_con h2 hh.gd b off m k cl (hk.vw hh) hm hlt (by omega)) ?_
    rintro u2 L2 hu2
    have hel : (cl.eraseIdx k).length = cl.length - 1 := List.length_eraseIdx_of_lt hlt
    refine WO.permF (L' := (x10, .cells [.int .i64 lv, .slice b off cl.length (.k m), sv] 25) :: (x9, .cells [.int .i64 (nthW cl k).c.id, .int .i64 (nthW cl k).c.bg, .int .i64 (nthW cl k).c.ev, (nthW cl k).v] 55) :: (p, .cells [.int .i64 lv, .slice b off cl.length (.k m), sv] 25) :: (Lw ++ L2)) ?_ ?_
    · show List.Perm ((x10, .cells [.int .i64 lv, .slice b off cl.length (.k m), sv] 25) :: (x9, .cells [.int .i64 (nthW cl k).c.id, .int .i64 (nthW cl k).c.bg, .int .i64 (nthW cl k).c.ev, (nthW cl k).v] 55) :: (p, .cells [.int .i64 lv, .slice b off cl.length (.k m), sv] 25) :: (Lw ++ L2) : Ob) (L2 ++ (x10, .cells [.int .i64 lv, .slice b off cl.length (.k m), sv] 25) :: (x9, .cells [.int .i64 (nthW cl k).c.id, .int .i64 (nthW cl k).c.bg, .int .i64 (nthW cl k).c.ev, (nthW cl k).v] 55) :: (p, .cells [.int .i64 lv, .slice b off cl.length (.k m), sv] 25) :: Lw)
      (refine perm_cnt fun _ _ => ?_; simp only [List.append_eq, List.cons_append, List.nil_append, List.count_append, List.count_cons, List.count_nil, Nat.add_zero, Nat.zero_add]; try ac_rfl)
    (refine St.fieldAddr ?_)
    refine St.store0 (hv := store_1 rfl hu2.okv rfl) ?_
    (refine WO.nil ?_; refine WK.seq ?_; refine WK.region ?_; refine St.load ?_; refine St.move ?_)
    have its2 : Its h (cl.eraseIdx k) := fun w hw => hk.its w ((List.eraseIdx_sublist ..).subset hw)
    refine St.callR (fun _ => rfl) (fun h2 hh => see_con h2 hh.gd lv u2 sv v (cl.eraseIdx k) ss l (cy_v hu2 rfl (its2.vw hh) hh (fun x hx => by simp [hx])) (hs.vw hh) (hv.vw hh) hl (w.less k) hga) ?_
    rintro u3 L3 hu3
    skip
    refine St.call (fun _ => rfl) (fun h2 hh => fit_con h2 hh.gd u3 (cys (cl.eraseIdx k)) ss l (see_v hu3 hh (fun x hx => by simp [hx])) (by omega)) ?_
    (refine St.move ?_; refine St.bin ?_; refine WO.nil ?_)
    have est : decTo ss l cl wd (k + 1) = decTo ss l cl wd k ++ if (fitG (cys (cl.eraseIdx k)) ss l == wd) = true then [(nthW cl k).c.id] else [] := rfl
    refine St.splitC (fun q => ?_) (fun q => ?_)
    · rw [if_pos (by simpa using q)] at est
      refine WK.perm (L' := (x10, .cells [.int .i64 lv, u2, sv] 25) :: (x9, .cells [.int .i64 (nthW cl k).c.id, .int .i64 (nthW cl k).c.bg, .int .i64 (nthW cl k).c.ev, (nthW cl k).v] 55) :: (p, .cells [.int .i64 lv, .slice b off cl.length (.k m), sv] 25) :: (Lw ++ (L2 ++ L3))) ?_ ?_
      · show List.Perm ((x10, .cells [.int .i64 lv, u2, sv] 25) :: (x9, .cells [.int .i64 (nthW cl k).c.id, .int .i64 (nthW cl k).c.bg, .int .i64 (nthW cl k).c.ev, (nthW cl k).v] 55) :: (p, .cells [.int .i64 lv, .slice b off cl.length (.k m), sv] 25) :: (Lw ++ (L2 ++ L3)) : Ob) (L3 ++ (x10, .cells [.int .i64 lv, u2, sv] 25) :: (x9, .cells [.int .i64 (nthW cl k).c.id, .int .i64 (nthW cl k).c.bg, .int .i64 (nthW cl k).c.ev, (nthW cl k).v] 55) :: (p, .cells [.int .i64 lv, .slice b off cl.length (.k m), sv] 25) :: (Lw ++ L2))
        (refine perm_cnt fun _ _ => ?_; simp only [List.append_eq, List.cons_append, List.nil_append, List.count_append, List.count_cons, List.count_nil, Nat.add_zero, Nat.zero_add]; try ac_rfl)
      (refine WK.region ?_; refine St.move ?_; refine St.fieldAddr ?_; refine St.load ?_; refine St.mkS fun _ _ => ?_)
      rename_i x3 hx3
      have hsl := decTo_len ss l cl wd k
      refine St.appL (e := 3) (sz := 1) (new := [.int .i64 (nthW cl k).c.id]) (Lk := (x3, .cells [.int .i64 (nthW cl k).c.id] 3) :: (x10, .cells [.int .i64 lv, u2, sv] 25) :: (x9, .cells [.int .i64 (nthW cl k).c.id, .int .i64 (nthW cl k).c.bg, .int .i64 (nthW cl k).c.ev, (nthW cl k).v] 55) :: (p, .cells [.int .i64 lv, .slice b off cl.length (.k m), sv] 25) :: (L2 ++ L3)) hw ?_ (fun v' Lv' hv' => ?_) ⟨rfl, rfl, rfl, rfl, rfl, rfl, rfl, rfl, rfl, rfl, rfl, rfl⟩ (List.Mem.head _) rfl (by omega) (by omega)
      · show List.Perm (Lw ++ (x3, .cells [.int .i64 (nthW cl k).c.id] 3) :: (x10, .cells [.int .i64 lv, u2, sv] 25) :: (x9, .cells [.int .i64 (nthW cl k).c.id, .int .i64 (nthW cl k).c.bg, .int .i64 (nthW cl k).c.ev, (nthW cl k).v] 55) :: (p, .cells [.int .i64 lv, .slice b off cl.length (.k m), sv] 25) :: (L2 ++ L3) : Ob) ((x3, .cells [.int .i64 (nthW cl k).c.id] 3) :: (x10, .cells [.int .i64 lv, u2, sv] 25) :: (x9, .cells [.int .i64 (nthW cl k).c.id, .int .i64 (nthW cl k).c.bg, .int .i64 (nthW cl k).c.ev, (nthW cl k).v] 55) :: (p, .cells [.int .i64 lv, .slice b off cl.length (.k m), sv] 25) :: (Lw ++ (L2 ++ L3)))
        (refine perm_cnt fun _ _ => ?_; simp only [List.append_eq, List.cons_append, List.nil_append, List.count_append, List.count_cons, List.count_nil, Nat.add_zero, Nat.zero_add]; try ac_rfl)
      (refine St.assign ?_; refine WO.nil ?_; refine WK.blk ?_; refine WK.region ?_; refine St.binI ?_; refine St.move ?_; refine WO.nil ?_)
      refine WK.perm (L' := (p, .cells [.int .i64 lv, .slice b off cl.length (.k m), sv] 25) :: (Lv' ++ (x3, .cells [.int .i64 (nthW cl k).c.id] 3) :: (x10, .cells [.int .i64 lv, u2, sv] 25) :: (x9, .cells [.int .i64 (nthW cl k).c.id, .int .i64 (nthW cl k).c.bg, .int .i64 (nthW cl k).c.ev, (nthW cl k).v] 55) :: (L2 ++ L3))) ?_ ?_
      · show List.Perm ((p, .cells [.int .i64 lv, .slice b off cl.length (.k m), sv] 25) :: (Lv' ++ (x3, .cells [.int .i64 (nthW cl k).c.id] 3) :: (x10, .cells [.int .i64 lv, u2, sv] 25) :: (x9, .cells [.int .i64 (nthW cl k).c.id, .int .i64 (nthW cl k).c.bg, .int .i64 (nthW cl k).c.ev, (nthW cl k).v] 55) :: (L2 ++ L3)) : Ob) (Lv' ++ (x3, .cells [.int .i64 (nthW cl k).c.id] 3) :: (x10, .cells [.int .i64 lv, u2, sv] 25) :: (x9, .cells [.int .i64 (nthW cl k).c.id, .int .i64 (nthW cl k).c.bg, .int .i64 (nthW cl k).c.ev, (nthW cl k).v] 55) :: (p, .cells [.int .i64 lv, .slice b off cl.length (.k m), sv] 25) :: (L2 ++ L3))
        (refine perm_cnt fun _ _ => ?_; simp only [List.append_eq, List.cons_append, List.nil_append, List.count_append, List.count_cons, List.count_nil, Nat.add_zero, Nat.zero_add]; try ac_rfl)
      refine WK.le ?_ (List.Sublist.cons_cons _ (List.sublist_append_left _ _)) (ih (k + 1, v', Lv') ⟨hlt, ?_⟩ (by simp only; omega))
      · exact ⟨rfl, rfl, rfl, rfl, rfl, rfl, rfl, trivial⟩
      · simp only
        rw [est]
        refine ⟨by rw [List.length_append, List.map_append]; exact hv', fun e => ?_⟩
        rw [List.length_append] at e
        simp at e
    · rw [if_neg (by simpa using q), List.append_nil] at est
      (refine WK.skip ?_; refine WK.blk ?_; refine WK.region ?_; refine St.binI ?_; refine St.move ?_; refine WO.nil ?_)
      refine WK.perm (L' := (p, .cells [.int .i64 lv, .slice b off cl.length (.k m), sv] 25) :: (Lw ++ ((x10, .cells [.int .i64 lv, u2, sv] 25) :: (x9, .cells [.int .i64 (nthW cl k).c.id, .int .i64 (nthW cl k).c.bg, .int .i64 (nthW cl k).c.ev, (nthW cl k).v] 55) :: (L2 ++ L3)))) ?_ ?_
      · show List.Perm ((p, .cells [.int .i64 lv, .slice b off cl.length (.k m), sv] 25) :: (Lw ++ (x10, .cells [.int .i64 lv, u2, sv] 25) :: (x9, .cells [.int .i64 (nthW cl k).c.id, .int .i64 (nthW cl k).c.bg, .int .i64 (nthW cl k).c.ev, (nthW cl k).v] 55) :: (L2 ++ L3)) : Ob) (L3 ++ (x10, .cells [.int .i64 lv, u2, sv] 25) :: (x9, .cells [.int .i64 (nthW cl k).c.id, .int .i64 (nthW cl k).c.bg, .int .i64 (nthW cl k).c.ev, (nthW cl k).v] 55) :: (p, .cells [.int .i64 lv, .slice b off cl.length (.k m), sv] 25) :: (Lw ++ L2))
        (refine perm_cnt fun _ _ => ?_; simp only [List.append_eq, List.cons_append, List.nil_append, List.count_append, List.count_cons, List.count_nil, Nat.add_zero, Nat.zero_add]; try ac_rfl)
      refine WK.le ?_ (List.Sublist.cons_cons _ (List.sublist_append_left _ _)) (ih (k + 1, w1, Lw) ⟨hlt, ?_⟩ (by simp only; omega))
      · exact ⟨rfl, rfl, rfl, rfl, rfl, rfl, rfl, trivial⟩
      · simp only
        rw [est]
        exact ⟨hw, hwz⟩
  · have e9 : k = cl.length := by simp at hc2; omega
    subst e9
    have hsl := decTo_len ss l cl wd cl.length
    by_cases hz : (decTo ss l cl wd cl.length).length = 0
    · obtain ⟨rfl, rfl⟩ := hwz hz
      have e0 : decTo ss l cl wd cl.length = [] := List.length_eq_zero_iff.1 hz
      (refine WK.exit ?_; refine WK.seq ?_; refine WK.region ?_; refine St.move ?_)
      refine St.call (v := .tup []) (fun _ => rfl) (fun h2 hh => Con.nil hh.gd (Bs_sort0 h2)) ?_
      (refine WO.nil ?_; refine WK.seq ?_; refine WK.region ?_; refine St.move ?_; refine St.assign ?_; refine WO.nil ?_)
      refine St.ret (by first | exact .tmp .nil | exact .cell .nil | exact .cell (.tmp .nil) | exact .tmp (.tmp .nil) | exact .cell (.cell .nil) | exact .tmp (.cell .nil) | exact .nil | exact .tmp (.cell (.tmp .nil)) | exact .cell (.tmp (.tmp .nil)) | exact .cell (.cell (.tmp .nil)) | exact .tmp (.tmp (.tmp .nil)) | exact .cell (.cell (.cell .nil))) ?_
      rw [e0, show sortX [] = [] by simp [sortX]]
      exact ⟨[], List.nil_sublist _, .nil rfl rfl⟩
    · obtain ⟨i, m', o, o1, rfl, rfl, hw1, hs1⟩ := hw.inpl (P := Tryz.prog) (B := Bs) (f := 48) (F := sortX) (R := fun _ _ _ => .tup []) (fun i c h => Bs_sort i _ c h) (by omega) (by omega) (sortX_len _)
      (refine WK.exit ?_; refine WK.seq ?_; refine WK.region ?_; refine St.move ?_)
      refine St.callW (Lw := [(i, o)]) (Lk := [(p, .cells [.int .i64 lv, .slice b off cl.length (.k m), sv] 25)]) (fun _ => rfl) (fun h hh => hs1 h (hh.sub (L' := [(i, o)]) (by (repeat (first | exact List.Sublist.refl _ | exact List.nil_sublist _ | apply List.Sublist.cons_cons | apply List.Sublist.cons)))).lend) (by (repeat (first | exact List.Perm.refl _ | refine perm_at 0 rfl ?_ | refine perm_at 1 rfl ?_ | refine perm_at 2 rfl ?_ | refine perm_at 3 rfl ?_ | refine perm_at 4 rfl ?_ | refine perm_at 5 rfl ?_ | refine perm_at 6 rfl ?_ | refine perm_at 7 rfl ?_ | refine perm_at 8 rfl ?_ | refine perm_at 9 rfl ?_))) rfl ?_
      (refine WO.nil ?_; refine WK.seq ?_; refine WK.region ?_; refine St.move ?_; refine St.assign ?_; refine WO.nil ?_)
      refine St.ret (by first | exact .tmp .nil | exact .cell .nil | exact .cell (.tmp .nil) | exact .tmp (.tmp .nil) | exact .cell (.cell .nil) | exact .tmp (.cell .nil) | exact .nil | exact .tmp (.cell (.tmp .nil)) | exact .cell (.tmp (.tmp .nil)) | exact .cell (.cell (.tmp .nil)) | exact .tmp (.tmp (.tmp .nil)) | exact .cell (.cell (.cell .nil))) ?_
      exact ⟨[(i, o1)], by (repeat (first | exact List.Sublist.refl _ | exact List.nil_sublist _ | apply List.Sublist.cons_cons | apply List.Sublist.cons)), hw1⟩
set_option maxRecDepth 100000 in
set_option maxHeartbeats 8000000 in
theorem shown_con (h : Heap) (g : Gd h) (lv : Int) (cv sv v : AV) (cl : List Cw) (ss : List Sh) (l : List Ga) (hc : CyA h cv cl) (hs : ShV h sv ss) (hv : GaV h v l) (hl : l.length ≤ 1000000) :
    ∃ u L, Con Tryz.prog Bs 17 [.agg [.int .i64 lv, cv, sv], v] h [] u L ∧ ∃ w, u = .tup [w, .int .i64 (shownR lv cl ss l).2] ∧ IsL 3 1 (shownR lv cl ss l).1.length ((shownR lv cl ss l).1.map (AV.int .i64)) w L := by
  have hG : ∀ (h2 : Heap) {V : Ob}, Vw h [] V h2 → Con Tryz.prog Bs 33 [.agg [.int .i64 lv, cv, sv], v] h2 [] (.int .i64 (chkGs lv (cys cl) ss l)) [] := fun h2 V hh => checkGauges_con h2 hh.gd lv cv sv v cl ss l (hc.cyV.vw hh) (hs.vw hh) (hv.vw hh) hl
  by_cases h0 : chkGs lv (cys cl) ss l = 0
  rotate_left
  · have e : shownR lv cl ss l = ([], chkGs lv (cys cl) ss l) := if_pos h0
    rw [e]
    refine Con.subR (Con.startR rfl Tryz.func17 rfl rfl Tryz.ntmps17 rfl rfl (SS.init g) ?_)
    (refine WK.seq ?_; refine WK.region ?_; refine St.box fun _ _ => ?_; refine St.assign ?_; refine St.assign ?_; refine WO.nil ?_; refine WK.seq ?_; refine WK.seq ?_; refine WK.region ?_; refine St.load ?_; refine St.move ?_)
    refine St.call (fun _ => rfl) (fun h2 hh => hG h2 hh) ?_
    (refine St.assign ?_; refine WO.nil ?_; refine WK.seq ?_; refine WK.region ?_; refine St.move ?_; refine St.bin ?_; refine WO.nil ?_)
    refine St.splitC (fun q => ?_) (fun q => ?_)
    · (refine WK.seq ?_; refine WK.region ?_; refine St.move ?_; refine St.assign ?_; refine St.assign ?_; refine WO.nil ?_)
      refine St.ret (by first | exact .tmp .nil | exact .cell .nil | exact .cell (.tmp .nil) | exact .tmp (.tmp .nil) | exact .cell (.cell .nil) | exact .tmp (.cell .nil) | exact .nil | exact .tmp (.cell (.tmp .nil)) | exact .cell (.tmp (.tmp .nil)) | exact .cell (.cell (.tmp .nil)) | exact .tmp (.tmp (.tmp .nil)) | exact .cell (.cell (.cell .nil))) ?_
      exact ⟨[], List.nil_sublist _, .slice0, rfl, .nil rfl rfl⟩
    · simp at q; exact absurd q h0
  obtain ⟨w, h40, hga⟩ := chkGs_w h0
  have e : shownR lv cl ss l = if fitG (cys cl) ss l = false then ([], 9) else (sortX (decTo ss l cl false cl.length), 0) := if_neg (by simp [h0])
  rw [e]
  refine Con.subR (Con.startR rfl Tryz.func17 rfl rfl Tryz.ntmps17 rfl rfl (SS.init g) ?_)
  (refine WK.seq ?_; refine WK.region ?_; refine St.box fun _ _ => ?_; refine St.assign ?_; refine St.assign ?_; refine WO.nil ?_; refine WK.seq ?_; refine WK.seq ?_; refine WK.region ?_; refine St.load ?_; refine St.move ?_)
  rename_i p hp
  refine St.call (v := .int .i64 0) (fun _ => rfl) (fun h2 hh => by
    have := hG h2 hh
    rw [h0] at this
    exact this) ?_
  (refine St.assign ?_; refine WO.nil ?_; refine WK.seq ?_; refine WK.region ?_; refine St.move ?_; refine St.bin ?_; refine WO.nil ?_; refine WK.condF ?_; refine WK.skip ?_; refine WK.seq ?_; refine WK.seq ?_; refine WK.region ?_; refine St.load ?_; refine St.move ?_)
  refine St.callR (fun _ => rfl) (fun h2 hh => see_con h2 hh.gd lv cv sv v cl ss l (hc.cyV.vw hh) (hs.vw hh) (hv.vw hh) (by omega) w hga) ?_
  rintro u L1 hu
  skip
  refine St.call (fun _ => rfl) (fun h2 hh => fit_con h2 hh.gd u (cys cl) ss l (see_v hu hh (fun x hx => List.mem_append_left _ hx)) hl) ?_
  cases hf : fitG (cys cl) ss l
  · rw [if_pos rfl]
    (refine St.un ?_; refine WO.nil ?_; refine WK.condT ?_; refine WK.seq ?_; refine WK.region ?_; refine St.assign ?_; refine St.assign ?_; refine WO.nil ?_)
    refine St.ret (by first | exact .tmp .nil | exact .cell .nil | exact .cell (.tmp .nil) | exact .tmp (.tmp .nil) | exact .cell (.cell .nil) | exact .tmp (.cell .nil) | exact .nil | exact .tmp (.cell (.tmp .nil)) | exact .cell (.tmp (.tmp .nil)) | exact .cell (.cell (.tmp .nil)) | exact .tmp (.tmp (.tmp .nil)) | exact .cell (.cell (.cell .nil))) ?_
    exact ⟨[], List.nil_sublist _, .slice0, rfl, .nil rfl rfl⟩
  rw [if_neg (by simp)]
  refine WO.permF (L' := (p, .cells [.int .i64 lv, cv, sv] 25) :: L1) (by (refine perm_cnt fun _ _ => ?_; simp only [List.append_eq, List.cons_append, List.nil_append, List.count_append, List.count_cons, List.count_nil, Nat.add_zero, Nat.zero_add]; try ac_rfl)) ?_
  (refine St.un ?_; refine WO.nil ?_; refine WK.condF ?_; refine WK.skip ?_; refine WK.seq ?_; refine WK.region ?_; refine St.load ?_; refine St.move ?_)
  refine St.callR (fun _ => rfl) (fun h2 hh => decisive_con h2 hh.gd lv cv sv v false cl ss l (hc.vw hh) (hs.vw hh) (hv.vw hh) (by omega) w hga) ?_
  rintro u2 L2 hu2
  (refine St.assign ?_; refine St.assign ?_; refine WO.nil ?_)
  refine St.ret (by first | exact .tmp .nil | exact .cell .nil | exact .cell (.tmp .nil) | exact .tmp (.tmp .nil) | exact .cell (.cell .nil) | exact .tmp (.cell .nil) | exact .nil | exact .tmp (.cell (.tmp .nil)) | exact .cell (.tmp (.tmp .nil)) | exact .cell (.cell (.tmp .nil)) | exact .tmp (.tmp (.tmp .nil)) | exact .cell (.cell (.cell .nil))) ?_
  refine ⟨L2, List.sublist_append_left _ _, u2, rfl, ?_⟩
  rw [sortX_len]
  exact hu2
set_option maxRecDepth 100000 in
set_option maxHeartbeats 8000000 in
theorem excluded_con (h : Heap) (g : Gd h) (lv : Int) (cv sv v : AV) (cl : List Cw) (ss : List Sh) (l : List Ga) (hc : CyA h cv cl) (hs : ShV h sv ss) (hv : GaV h v l) (hl : l.length ≤ 1000000) :
    ∃ u L, Con Tryz.prog Bs 19 [.agg [.int .i64 lv, cv, sv], v] h [] u L ∧ ∃ w, u = .tup [w, .int .i64 (exclR lv cl ss l).2] ∧ IsL 3 1 (exclR lv cl ss l).1.length ((exclR lv cl ss l).1.map (AV.int .i64)) w L := by
  have hG : ∀ (h2 : Heap) {V : Ob}, Vw h [] V h2 → Con Tryz.prog Bs 33 [.agg [.int .i64 lv, cv, sv], v] h2 [] (.int .i64 (chkGs lv (cys cl) ss l)) [] := fun h2 V hh => checkGauges_con h2 hh.gd lv cv sv v cl ss l (hc.cyV.vw hh) (hs.vw hh) (hv.vw hh) hl
  by_cases h0 : chkGs lv (cys cl) ss l = 0
  rotate_left
  · have e : exclR lv cl ss l = ([], chkGs lv (cys cl) ss l) := if_pos h0
    rw [e]
    refine Con.subR (Con.startR rfl Tryz.func19 rfl rfl Tryz.ntmps19 rfl rfl (SS.init g) ?_)
    (refine WK.seq ?_; refine WK.region ?_; refine St.box fun _ _ => ?_; refine St.assign ?_; refine St.assign ?_; refine WO.nil ?_; refine WK.seq ?_; refine WK.seq ?_; refine WK.region ?_; refine St.load ?_; refine St.move ?_)
    refine St.call (fun _ => rfl) (fun h2 hh => hG h2 hh) ?_
    (refine St.assign ?_; refine WO.nil ?_; refine WK.seq ?_; refine WK.region ?_; refine St.move ?_; refine St.bin ?_; refine WO.nil ?_)
    refine St.splitC (fun q => ?_) (fun q => ?_)
    · (refine WK.seq ?_; refine WK.region ?_; refine St.move ?_; refine St.assign ?_; refine St.assign ?_; refine WO.nil ?_)
      refine St.ret (by first | exact .tmp .nil | exact .cell .nil | exact .cell (.tmp .nil) | exact .tmp (.tmp .nil) | exact .cell (.cell .nil) | exact .tmp (.cell .nil) | exact .nil | exact .tmp (.cell (.tmp .nil)) | exact .cell (.tmp (.tmp .nil)) | exact .cell (.cell (.tmp .nil)) | exact .tmp (.tmp (.tmp .nil)) | exact .cell (.cell (.cell .nil))) ?_
      exact ⟨[], List.nil_sublist _, .slice0, rfl, .nil rfl rfl⟩
    · simp at q; exact absurd q h0
  obtain ⟨w, h40, hga⟩ := chkGs_w h0
  have e : exclR lv cl ss l = if fitG (cys cl) ss l = true then ([], 0) else (sortX (decTo ss l cl true cl.length), 0) := if_neg (by simp [h0])
  rw [e]
  refine Con.subR (Con.startR rfl Tryz.func19 rfl rfl Tryz.ntmps19 rfl rfl (SS.init g) ?_)
  (refine WK.seq ?_; refine WK.region ?_; refine St.box fun _ _ => ?_; refine St.assign ?_; refine St.assign ?_; refine WO.nil ?_; refine WK.seq ?_; refine WK.seq ?_; refine WK.region ?_; refine St.load ?_; refine St.move ?_)
  rename_i p hp
  refine St.call (v := .int .i64 0) (fun _ => rfl) (fun h2 hh => by
    have := hG h2 hh
    rw [h0] at this
    exact this) ?_
  (refine St.assign ?_; refine WO.nil ?_; refine WK.seq ?_; refine WK.region ?_; refine St.move ?_; refine St.bin ?_; refine WO.nil ?_; refine WK.condF ?_; refine WK.skip ?_; refine WK.seq ?_; refine WK.seq ?_; refine WK.region ?_; refine St.load ?_; refine St.move ?_)
  refine St.callR (fun _ => rfl) (fun h2 hh => see_con h2 hh.gd lv cv sv v cl ss l (hc.cyV.vw hh) (hs.vw hh) (hv.vw hh) (by omega) w hga) ?_
  rintro u L1 hu
  skip
  refine St.call (fun _ => rfl) (fun h2 hh => fit_con h2 hh.gd u (cys cl) ss l (see_v hu hh (fun x hx => List.mem_append_left _ hx)) hl) ?_
  cases hf : fitG (cys cl) ss l
  rotate_left
  · rw [if_pos rfl]
    (refine WO.nil ?_; refine WK.condT ?_; refine WK.seq ?_; refine WK.region ?_; refine St.assign ?_; refine St.assign ?_; refine WO.nil ?_)
    refine St.ret (by first | exact .tmp .nil | exact .cell .nil | exact .cell (.tmp .nil) | exact .tmp (.tmp .nil) | exact .cell (.cell .nil) | exact .tmp (.cell .nil) | exact .nil | exact .tmp (.cell (.tmp .nil)) | exact .cell (.tmp (.tmp .nil)) | exact .cell (.cell (.tmp .nil)) | exact .tmp (.tmp (.tmp .nil)) | exact .cell (.cell (.cell .nil))) ?_
    exact ⟨[], List.nil_sublist _, .slice0, rfl, .nil rfl rfl⟩
  rw [if_neg (by simp)]
  refine WO.permF (L' := (p, .cells [.int .i64 lv, cv, sv] 25) :: L1) (by (refine perm_cnt fun _ _ => ?_; simp only [List.append_eq, List.cons_append, List.nil_append, List.count_append, List.count_cons, List.count_nil, Nat.add_zero, Nat.zero_add]; try ac_rfl)) ?_
  (refine WO.nil ?_; refine WK.condF ?_; refine WK.skip ?_; refine WK.seq ?_; refine WK.region ?_; refine St.load ?_; refine St.move ?_)
  refine St.callR (fun _ => rfl) (fun h2 hh => decisive_con h2 hh.gd lv cv sv v true cl ss l (hc.vw hh) (hs.vw hh) (hv.vw hh) (by omega) w hga) ?_
  rintro u2 L2 hu2
  (refine St.assign ?_; refine St.assign ?_; refine WO.nil ?_)
  refine St.ret (by first | exact .tmp .nil | exact .cell .nil | exact .cell (.tmp .nil) | exact .tmp (.tmp .nil) | exact .cell (.cell .nil) | exact .tmp (.cell .nil) | exact .nil | exact .tmp (.cell (.tmp .nil)) | exact .cell (.tmp (.tmp .nil)) | exact .cell (.cell (.tmp .nil)) | exact .tmp (.tmp (.tmp .nil)) | exact .cell (.cell (.cell .nil))) ?_
  refine ⟨L2, List.sublist_append_left _ _, u2, rfl, ?_⟩
  rw [sortX_len]
  exact hu2
end Go.Proofs.YtgjkfmcjalcefaaGreat
