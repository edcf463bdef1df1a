/- The law TideExcludes over the calculator's memory: the walk. -/
import Derived.Test.YtgjkfmcjalcefaaGreatEd
import Derived.Test.YtgjkfmcjalcefaaGreatTd
import Derived.Test.YtgjkfmcjalcefaaGreatUe
namespace Go.Proofs.YtgjkfmcjalcefaaGreat
open Go.Proofs.YtgjkfmcjalcefaaGreat.Ev

theorem isl_it {h0 h : Heap} {W : List Nat} {V : Ob} {C : List Int} {v : AV} {Lv : Ob} (hw : IsL 3 1 C.length (C.map (AV.int .i64)) v Lv) (k : Vw h0 W V h) (hs : ∀ x ∈ Lv, x ∈ V) : ItV h v C := by
  rcases hw.open_ with ⟨rfl, _, h1, _⟩ | ⟨i, c, o, rfl, rfl, ho, _⟩
  · exact .inl ⟨.inl rfl, List.length_eq_zero_iff.1 h1⟩
  · exact .inr ⟨i, 0, c, rfl, k.ins (hs _ (List.mem_cons_self ..)) ho⟩
theorem store_i {P : Program} {t ty : TypeId} {x y v : AV} {a : Int} (hs : sizeT P t = some 2) (hv : okCell v = true) {off : Nat} (hoff : off = 0) : (AObj.cells [x, y] ty).store P t off (.agg [v, .int .i64 a]) = some (.cells [v, .int .i64 a] ty) := by
  subst hoff
  have h1 : okCell (.int .i64 a) = true := rfl
  simp [AObj.store, hs, AV.cells, h1, hv, AObj.put, overN]
theorem shownR_len {lv cl ss l} (h : cl.length ≤ 1000000) : (shownR lv cl ss l).1.length ≤ 1000000 := by
  have := decTo_len ss l cl false cl.length
  unfold shownR
  split
  · simp
  · split
    · simp
    · rw [sortX_len]; omega
theorem exclR_len {lv cl ss l} (h : cl.length ≤ 1000000) : (exclR lv cl ss l).1.length ≤ 1000000 := by
  have := decTo_len ss l cl true cl.length
  unfold exclR
  split
  · simp
  · split
    · simp
    · rw [sortX_len]; omega
theorem shown_cut {lv cl ss l} : chkGs lv (cys cl) ss l ≠ 0 ∨ cl.length ≤ 6 := by
  by_cases h : chkGs lv (cys cl) ss l = 0
  · obtain ⟨w, _⟩ := chkGs_w h
    have := w.n1
    rw [cys_len] at this
    exact .inr this
  · exact .inl h
theorem shownR_few {lv cl ss l} : (shownR lv cl ss l).1.length ≤ 1000000 := by
  rcases shown_cut (lv := lv) (cl := cl) (ss := ss) (l := l) with h | h
  · unfold shownR; rw [if_pos h]; simp
  · exact shownR_len (by omega)
theorem exclR_few {lv cl ss l} : (exclR lv cl ss l).1.length ≤ 1000000 := by
  rcases shown_cut (lv := lv) (cl := cl) (ss := ss) (l := l) with h | h
  · unfold exclR; rw [if_pos h]; simp
  · exact exclR_len (by omega)
set_option maxRecDepth 100000 in
set_option maxHeartbeats 16000000 in
theorem excludes_con (h : Heap) (g : Gd h) (lv : Int) (cv sv v : AV) (cl : List Cw) (ss : List Sh) (l : List Ga) (hc : CyA h cv cl) (hss : ShV h sv ss) (hv : GaV h v l) (hcl : cl.length ≤ 9223372036854775807) :
    Con Tryz.prog Bs 4 [.agg [.int .i64 lv, cv, sv], v] h [] (.bool true) [] := by
  refine Con.start rfl Tryz.func4 rfl rfl Tryz.ntmps4 rfl rfl g ?_
  (refine WK.seq ?_; refine WK.region ?_; refine St.box fun _ _ => ?_; refine St.assign ?_; refine WO.nil ?_; refine WK.seq ?_; refine WK.seq ?_; refine WK.region ?_; refine St.load ?_)
  rename_i p2 hp2
  refine St.call (fun _ => rfl) (fun h2 hh => few_con h2 hh.gd lv cv sv cl ss (hc.cyV.vw hh) (hss.vw hh) hcl) ?_
  (refine St.un ?_; refine St.move ?_)
  refine St.split (fun h1 => ?_) (fun h1 => ?_)
  · (refine St.skip ?_; refine St.skip ?_; refine St.skip ?_; refine St.pickT ?_; refine WO.nil ?_; refine WK.condT ?_; refine WK.seq ?_; refine WK.region ?_)
    refine St.call (fun _ => rfl) (fun h2 hh => sanity_con h2 hh.gd) ?_
    (refine St.assign ?_; refine WO.nil ?_)
    refine St.ret (by first | exact .tmp .nil | exact .cell .nil | exact .cell (.tmp .nil) | exact .tmp (.tmp .nil) | exact .cell (.cell .nil) | exact .tmp (.cell .nil) | exact .nil | exact .tmp (.cell (.tmp .nil)) | exact .cell (.tmp (.tmp .nil)) | exact .cell (.cell (.tmp .nil)) | exact .tmp (.tmp (.tmp .nil)) | exact .cell (.cell (.cell .nil))) ?_
    rfl
  (refine St.move ?_)
  refine St.lenV rfl hv.len ?_
  (refine St.bin ?_; refine St.pickF ?_; refine WO.nil ?_)
  refine St.splitC (fun h2 => ?_) (fun h2 => ?_)
  · (refine WK.seq ?_; refine WK.region ?_)
    refine St.call (fun _ => rfl) (fun h2 hh => sanity_con h2 hh.gd) ?_
    (refine St.assign ?_; refine WO.nil ?_)
    refine St.ret (by first | exact .tmp .nil | exact .cell .nil | exact .cell (.tmp .nil) | exact .tmp (.tmp .nil) | exact .cell (.cell .nil) | exact .tmp (.cell .nil) | exact .nil | exact .tmp (.cell (.tmp .nil)) | exact .cell (.tmp (.tmp .nil)) | exact .cell (.cell (.tmp .nil)) | exact .tmp (.tmp (.tmp .nil)) | exact .cell (.cell (.cell .nil))) ?_
    rfl
  have hl60 : l.length ≤ 60 := by simp at h2; omega
  clear h1 h2
  (refine WK.skip ?_; refine WK.seq ?_; refine WK.region ?_; refine St.load ?_; refine St.move ?_)
  refine St.callR (fun _ => rfl) (fun h2 hh => shown_con h2 hh.gd lv cv sv v cl ss l (hc.vw hh) (hss.vw hh) (hv.vw hh) (by omega)) ?_
  rintro uA LA ⟨wA, rfl, hA⟩
  refine WO.permF (L' := (p2, .cells [.int .i64 lv, cv, sv] 25) :: LA) (by (refine perm_cnt fun _ _ => ?_; simp only [List.append_eq, List.cons_append, List.nil_append, List.count_append, List.count_cons, List.count_nil, Nat.add_zero, Nat.zero_add]; try ac_rfl)) ?_
  (refine St.move ?_; refine St.extract ?_; refine St.extract ?_; refine St.assign ?_; refine St.assign ?_; refine WO.nil ?_; refine WK.seq ?_; refine WK.region ?_; refine St.load ?_; refine St.move ?_)
  refine St.callR (fun _ => rfl) (fun h2 hh => rshown_con h2 hh.gd lv cv sv v cl ss l (hc.vw hh) (hss.vw hh) (hv.vw hh) (by omega)) ?_
  rintro uX LX ⟨wX, rfl, hX⟩
  refine WO.permF (L' := (p2, .cells [.int .i64 lv, cv, sv] 25) :: (LA ++ LX)) ?_ ?_
  · show List.Perm ((p2, .cells [.int .i64 lv, cv, sv] 25) :: (LA ++ LX) : Ob) (LX ++ (p2, .cells [.int .i64 lv, cv, sv] 25) :: LA)
    (refine perm_cnt fun _ _ => ?_; simp only [List.append_eq, List.cons_append, List.nil_append, List.count_append, List.count_cons, List.count_nil, Nat.add_zero, Nat.zero_add]; try ac_rfl)
  (refine St.alloc fun _ _ => ?_)
  refine St.store0 (hv := store_i rfl hX.isL.okv rfl) ?_
  (refine WO.nil ?_; refine WK.seq ?_; refine WK.region ?_; refine St.load ?_; refine St.move ?_)
  rename_i p7 hp7
  refine St.callR (fun _ => rfl) (fun h2 hh => excluded_con h2 hh.gd lv cv sv v cl ss l (hc.vw hh) (hss.vw hh) (hv.vw hh) (by omega)) ?_
  rintro uB LB ⟨wB, rfl, hB⟩
  refine WO.permF (L' := (p2, .cells [.int .i64 lv, cv, sv] 25) :: (p7, .cells [wX, .int .i64 (shownR lv cl ss l).2] 49) :: (LA ++ (LX ++ LB))) ?_ ?_
  · show List.Perm ((p2, .cells [.int .i64 lv, cv, sv] 25) :: (p7, .cells [wX, .int .i64 (shownR lv cl ss l).2] 49) :: (LA ++ (LX ++ LB)) : Ob) (LB ++ (p7, .cells [wX, .int .i64 (shownR lv cl ss l).2] 49) :: (p2, .cells [.int .i64 lv, cv, sv] 25) :: (LA ++ LX))
    (refine perm_cnt fun _ _ => ?_; simp only [List.append_eq, List.cons_append, List.nil_append, List.count_append, List.count_cons, List.count_nil, Nat.add_zero, Nat.zero_add]; try ac_rfl)
  (refine St.move ?_; refine St.extract ?_; refine St.extract ?_; refine St.assign ?_; refine St.assign ?_; refine WO.nil ?_; refine WK.seq ?_; refine WK.region ?_; refine St.load ?_; refine St.move ?_)
  refine St.callR (fun _ => rfl) (fun h2 hh => rexcl_con h2 hh.gd lv cv sv v cl ss l (hc.vw hh) (hss.vw hh) (hv.vw hh) (by omega)) ?_
  rintro uY LY ⟨wY, rfl, hY⟩
  refine WO.permF (L' := (p7, .cells [wX, .int .i64 (shownR lv cl ss l).2] 49) :: (p2, .cells [.int .i64 lv, cv, sv] 25) :: (LA ++ (LX ++ (LB ++ LY)))) ?_ ?_
  · show List.Perm ((p7, .cells [wX, .int .i64 (shownR lv cl ss l).2] 49) :: (p2, .cells [.int .i64 lv, cv, sv] 25) :: (LA ++ (LX ++ (LB ++ LY))) : Ob) (LY ++ (p2, .cells [.int .i64 lv, cv, sv] 25) :: (p7, .cells [wX, .int .i64 (shownR lv cl ss l).2] 49) :: (LA ++ (LX ++ LB)))
    (refine perm_cnt fun _ _ => ?_; simp only [List.append_eq, List.cons_append, List.nil_append, List.count_append, List.count_cons, List.count_nil, Nat.add_zero, Nat.zero_add]; try ac_rfl)
  (refine St.alloc fun _ _ => ?_)
  refine St.store0 (hv := store_i rfl hY.isL.okv rfl) ?_
  (refine WO.nil ?_; refine WK.seq ?_; refine WK.region ?_)
  refine St.call (fun _ => rfl) (fun h2 hh => sanity_con h2 hh.gd) ?_
  have f1 := shownR_few (lv := lv) (cl := cl) (ss := ss) (l := l)
  have f2 := exclR_few (lv := lv) (cl := cl) (ss := ss) (l := l)
  generalize (shownR lv cl ss l).1 = xs at *
  generalize (shownR lv cl ss l).2 = e1 at *
  generalize (exclR lv cl ss l).1 = ys at *
  generalize (exclR lv cl ss l).2 = e2 at *
  (refine St.move ?_; refine St.move ?_; refine St.fieldAddr ?_; refine St.load ?_)
  refine St.call (v := .bool true) (fun _ => rfl) (fun h2 hh => by
    have := sameInts_con h2 hh.gd wA wX xs xs (isl_it hA hh (fun x hx => by simp [hx])) (isl_it hX.isL hh (fun x hx => by simp [hx])) f1
    rwa [decide_eq_true rfl] at this) ?_
  (refine St.pickT ?_; refine St.move ?_; refine St.move ?_; refine St.fieldAddr ?_; refine St.load ?_; refine St.bin ?_; refine St.pickT ?_; refine St.move ?_)
  refine St.split (fun q => ?_) (fun q => ?_)
  rotate_left
  · simp at q
  (refine St.move ?_; refine St.fieldAddr ?_; refine St.load ?_)
  refine St.call (v := .bool true) (fun _ => rfl) (fun h2 hh => by
    have := sameInts_con h2 hh.gd wB wY ys ys (isl_it hB hh (fun x hx => by simp [hx])) (isl_it hY.isL hh (fun x hx => by simp [hx])) f2
    rwa [decide_eq_true rfl] at this) ?_
  (refine St.pickT ?_; refine St.move ?_; refine St.move ?_; refine St.fieldAddr ?_; refine St.load ?_; refine St.bin ?_; refine St.pickT ?_; refine St.assign ?_; refine WO.nil ?_)
  refine St.ret (by first | exact .tmp .nil | exact .cell .nil | exact .cell (.tmp .nil) | exact .tmp (.tmp .nil) | exact .cell (.cell .nil) | exact .tmp (.cell .nil) | exact .nil | exact .tmp (.cell (.tmp .nil)) | exact .cell (.tmp (.tmp .nil)) | exact .cell (.cell (.tmp .nil)) | exact .tmp (.tmp (.tmp .nil)) | exact .cell (.cell (.cell .nil))) ?_
  simp [oneOf]
end Go.Proofs.YtgjkfmcjalcefaaGreat
