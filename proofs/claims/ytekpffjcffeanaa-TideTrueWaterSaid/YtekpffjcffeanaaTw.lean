/- The law TideTrueWater over the calculator's memory. -/
import Derived.Test.YtekpffjcffeanaaXe
import Derived.Test.YtekpffjcffeanaaQc
namespace Go.Proofs.Ytekpffjcffeanaa
open Go.Proofs.Ytekpffjcffeanaa.Ev

theorem chkC_cl : ∀ {cs : List Cy} {seen : List Int}, chkC seen cs ≠ 9
  | [], _ => by unfold chkC; omega
  | c :: r, seen => by
    unfold chkC
    split
    · omega
    · split
      · omega
      · exact chkC_cl
theorem chkS_cl : ∀ {ss : List Sh} {b : Int}, chkS b ss ≠ 9
  | [], _ => by unfold chkS; omega
  | c :: r, seen => by
    unfold chkS
    split
    · omega
    · exact chkS_cl
theorem chkG_cl : ∀ {l : List Ga} {seen : List Int}, chkG seen l ≠ 9
  | [], _ => by unfold chkG; omega
  | c :: r, seen => by
    unfold chkG
    split
    · omega
    · split
      · omega
      · exact chkG_cl
theorem chkGs_cl {lv : Int} {cs : List Cy} {ss : List Sh} {l : List Ga} : chkGs lv cs ss l ≠ 9 := by
  unfold chkGs chkW
  have h1 := chkC_cl (cs := cs) (seen := [])
  have h2 := chkS_cl (ss := ss) (b := -1)
  have h3 := chkG_cl (l := l) (seen := [])
  repeat' split
  all_goals omega
/-- a gauge that the water agrees with -/
def honB (lv : Int) (cs : List Cy) (ss : List Sh) (g : Ga) : Bool := ((heightR lv cs ss g.tk).2 == 0 && decide (g.lo ≤ (heightR lv cs ss g.tk).1)) && decide ((heightR lv cs ss g.tk).1 ≤ g.hi)
def honL (lv : Int) (cs : List Cy) (ss : List Sh) (l : List Ga) (k : Nat) : List Ga := (l.take k).filter (honB lv cs ss)
theorem honL_succ {lv : Int} {cs : List Cy} {ss : List Sh} {l : List Ga} {k : Nat} (h : k < l.length) : honL lv cs ss l (k + 1) = if honB lv cs ss (nthG l k) = true then honL lv cs ss l k ++ [nthG l k] else honL lv cs ss l k := by
  unfold honL
  rw [List.take_succ_eq_append_getElem h, List.filter_append, nthG_eq h]
  by_cases q : honB lv cs ss l[k] = true
  · rw [if_pos q]
    simp [q]
  · rw [if_neg q]
    simp [q]
theorem honL_len {lv : Int} {cs : List Cy} {ss : List Sh} {l : List Ga} {k : Nat} : (honL lv cs ss l k).length ≤ k := by
  unfold honL
  exact Nat.le_trans (List.length_filter_le _ _) (by rw [List.length_take]; omega)
/-- the water's own level is among the levels of gauges that it agrees with -/
theorem honL_in {lv : Int} {cs : List Cy} {ss : List Sh} {l : List Ga} {k : Nat} (w : WOk lv cs ss) : (comG cs ss (honL lv cs ss l k)).1 ≤ lv ∧ lv ≤ (comG cs ss (honL lv cs ss l k)).2 := by
  refine (com_iff cs ss _ lv).2 ⟨⟨w.l1, w.l2⟩, fun g hg => ?_⟩
  have hh := (List.mem_filter.1 hg).2
  have a1 := w.l1
  have a2 := w.l2
  unfold honB heightR at hh
  unfold lvG
  split at hh
  · rename_i q
    simp [q] at hh
  · split at hh
    · simp at hh
    · simp at hh
      simp only
      omega
/-- another level, the same errors -/
theorem chkW_lv {lv lv2 : Int} {cs : List Cy} {ss : List Sh} (h : chkW lv cs ss = 0) (h1 : -4000 ≤ lv2) (h2 : lv2 ≤ 4000) : chkW lv2 cs ss = 0 := by
  unfold chkW at h ⊢
  have : inB lv2 4000 = true := inB_iff.2 ⟨h1, h2⟩
  rw [if_neg (by simp [this])]
  split at h
  · cases h
  · exact h
theorem minR_lv {lv lv2 : Int} {cs : List Cy} {ss : List Sh} {lo hi : Int} (h : chkW lv cs ss = 0) (h2 : chkW lv2 cs ss = 0) : minR lv2 cs ss lo hi = minR lv cs ss lo hi := by
  unfold minR
  rw [h, h2]
theorem chkGs_chk {lv : Int} {cs : List Cy} {ss : List Sh} {l : List Ga} (h : chkGs lv cs ss l = 0) : chkW lv cs ss = 0 := by
  unfold chkGs at h
  split at h
  · rename_i q
    exact absurd h q
  · rename_i q
    simpa using q
/-- a lower level has windows within those of a higher one -/
theorem win_lower {lv lv2 : Int} {cs : List Cy} {ss : List Sh} {lo hi height : Int} (e : minR lv2 cs ss lo hi = minR lv cs ss lo hi) (hle : lv2 ≤ lv) : ∀ i, i < (winR lv2 cs ss lo hi height).length → inB1 (winR lv cs ss lo hi height) (nthE (winR lv2 cs ss lo hi height) i) = true := by
  by_cases q : minR lv cs ss lo hi = 0
  · rw [winR_ok q, winR_ok (e.trans q)]
    exact in_iff (win_ok _) (win_ok _) (fun i _ hp => by
      unfold hiP hgt at hp ⊢
      simp at hp ⊢
      omega)
  · rw [winR_no (by rw [e]; exact q)]
    intro i hi
    cases hi
/-! lists of gauges that are made -/
def gaF (l : List Ga) : List AV := (l.map gaC).flatten
theorem gaF_snoc (l : List Ga) (g : Ga) : gaF (l ++ [g]) = gaF l ++ gaC g := by
  unfold gaF
  simp
theorem gaF_drop : ∀ (l : List Ga) (i : Nat), i < l.length → (gaF l).drop (i * 4) = gaC (nthG l i) ++ gaF (l.drop (i + 1))
  | [], _, h => by simp at h
  | g :: r, 0, _ => rfl
  | g :: r, i + 1, h => by
    have := gaF_drop r i (by simpa using h)
    show (gaC g ++ gaF r).drop ((i + 1) * 4) = _
    rw [show (i + 1) * 4 = (gaC g).length + i * 4 from by show _ = 4 + _; omega, List.drop_append, List.drop_eq_nil_of_le (by omega), Nat.add_sub_cancel_left, List.nil_append, this]
    rfl
theorem isl_gav {h0 h : Heap} {W : List Nat} {V : Ob} {l : List Ga} {v : AV} {Lv : Ob} (hw : IsL 66 4 l.length (gaF l) v Lv) (k : Vw h0 W V h) (hs : ∀ x ∈ Lv, x ∈ V) : GaV h v l := by
  rcases hw.open_ with ⟨rfl, _, h1, _⟩ | ⟨i, c, o, rfl, rfl, ho, _⟩
  · exact .inl ⟨.inl rfl, List.length_eq_zero_iff.1 h1⟩
  · refine .inr ⟨i, 0, c, rfl, fun j hj => ?_⟩
    rw [Nat.zero_add]
    exact k.rdsE (hs _ (List.mem_cons_self ..)) ho _ _ _ (gaF_drop l j hj)
theorem GaH.tk_ {h : Heap} {b off l} (k : GaH h b off l) {z : Int} {n : Nat} (e : z.toNat = n) (hi : n < l.length) : Rd h b (off + z.toNat * 4 + 1) (.int .i64 (nthG l n).tk) := (k.at_ e hi).2.1
theorem GaH.lo_ {h : Heap} {b off l} (k : GaH h b off l) {z : Int} {n : Nat} (e : z.toNat = n) (hi : n < l.length) : Rd h b (off + z.toNat * 4 + 2 + 0) (.int .i64 (nthG l n).lo) := (k.at_ e hi).2.2.1
theorem GaH.hi_ {h : Heap} {b off l} (k : GaH h b off l) {z : Int} {n : Nat} (e : z.toNat = n) (hi : n < l.length) : Rd h b (off + z.toNat * 4 + 2 + 1) (.int .i64 (nthG l n).hi) := (k.at_ e hi).2.2.2.1
theorem store_water {t ty : TypeId} {x y z u v : AV} {e : Int} (hs : sizeT Try.prog t = some 3) (ho : okCell u = true) (ho2 : okCell v = true) : (AObj.cells [x, y, z] ty).store Try.prog t 0 (.agg [.int .i64 e, u, v]) = some (.cells [.int .i64 e, u, v] ty) := by
  have ha : ([AV.int .i64 e, u, v]).all okCell = true := by
    simp only [List.all_cons, ho, ho2, List.all_nil]
    rfl
  unfold AObj.store
  rw [hs]
  simp only []
  rw [if_pos ⟨rfl, ha⟩]
  rfl
theorem cy_okc {h : Heap} {v : AV} {l : List Cw} (k : CyV h v l) : okCell v = true := by
  rcases k with ⟨rfl | rfl, _⟩ | ⟨_, _, _, rfl, _⟩ <;> rfl
theorem sh_okc {h : Heap} {v : AV} {l : List Sh} (k : ShV h v l) : okCell v = true := by
  rcases k with ⟨rfl | rfl, _⟩ | ⟨_, _, _, rfl, _⟩ <;> rfl
set_option maxRecDepth 100000 in
set_option maxHeartbeats 64000000 in
theorem trueWater_con (h : Heap) (g : Gd h) (lv lo hi height : Int) (cv sv v : AV) (cl : List Cw) (ss : List Sh) (l : List Ga) (hc : CyV h cv cl) (hs : ShV h sv ss) (hcl : cl.length ≤ 9223372036854775807) (hv : GaV h v l) :
    Con Try.prog Bs 8 [.agg [.int .i64 lv, cv, sv], v, .agg [.int .i64 lo, .int .i64 hi], .int .i64 height] h [] (.bool true) [] := by
  refine Con.start rfl Try.func8 rfl rfl Try.ntmps8 rfl rfl g ?_
  (refine WK.seq ?_; refine WK.region ?_; refine St.box fun _ _ => ?_; refine St.box fun _ _ => ?_; refine St.assign ?_; refine WO.nil ?_; refine WK.seq ?_; refine WK.seq ?_; refine WK.region ?_; refine St.load ?_)
  rename_i p4 hp4 p6 hp6
  refine St.call (fun _ => rfl) (fun h2 hh => few_con h2 hh.gd lv cv sv cl ss (hc.vw hh) (hs.vw hh) hcl) ?_
  (refine St.un ?_; refine St.move ?_)
  refine St.split (fun h1 => ?_) (fun h1 => ?_)
  · (refine St.skip ?_; refine St.skip ?_; refine St.skip ?_; refine St.pickT ?_; refine St.move ?_; refine St.skip ?_; refine St.skip ?_; refine St.skip ?_; refine St.pickT ?_; refine WO.nil ?_; refine WK.condT ?_; refine WK.seq ?_; refine WK.region ?_)
    refine St.call (fun _ => rfl) (fun h2 hh => sanity_con h2 hh.gd) ?_
    (refine St.assign ?_; refine WO.nil ?_)
    refine St.ret (by first | exact .tmp .nil | exact .cell .nil | exact .cell (.tmp .nil) | exact .tmp (.tmp .nil) | exact .cell (.cell .nil) | exact .tmp (.cell .nil) | exact .nil | exact .tmp (.cell (.tmp .nil)) | exact .cell (.tmp (.tmp .nil)) | exact .cell (.cell (.tmp .nil)) | exact .tmp (.tmp (.tmp .nil)) | exact .cell (.cell (.cell .nil))) ?_
    rfl
  (refine St.move ?_)
  refine St.lenV rfl hv.len ?_
  (refine St.bin ?_; refine St.pickF ?_; refine St.move ?_)
  refine St.split (fun h2 => ?_) (fun h2 => ?_)
  · (refine St.skip ?_; refine St.skip ?_; refine St.skip ?_; refine St.pickT ?_; refine WO.nil ?_; refine WK.condT ?_; refine WK.seq ?_; refine WK.region ?_)
    refine St.call (fun _ => rfl) (fun h2 hh => sanity_con h2 hh.gd) ?_
    (refine St.assign ?_; refine WO.nil ?_)
    refine St.ret (by first | exact .tmp .nil | exact .cell .nil | exact .cell (.tmp .nil) | exact .tmp (.tmp .nil) | exact .cell (.cell .nil) | exact .tmp (.cell .nil) | exact .nil | exact .tmp (.cell (.tmp .nil)) | exact .cell (.tmp (.tmp .nil)) | exact .cell (.cell (.tmp .nil)) | exact .tmp (.tmp (.tmp .nil)) | exact .cell (.cell (.cell .nil))) ?_
    rfl
  have hl60 : l.length ≤ 60 := by simp at h2; omega
  clear h1 h2
  (refine St.load ?_)
  refine St.call (fun _ => rfl) (fun h2 hh => short_con h2 hh.gd lo hi) ?_
  (refine St.un ?_; refine St.pickF ?_; refine WO.nil ?_)
  refine St.splitC (fun h1 => ?_) (fun h1 => ?_)
  · (refine WK.seq ?_; refine WK.region ?_)
    refine St.call (fun _ => rfl) (fun h2 hh => sanity_con h2 hh.gd) ?_
    (refine St.assign ?_; refine WO.nil ?_)
    refine St.ret (by first | exact .tmp .nil | exact .cell .nil | exact .cell (.tmp .nil) | exact .tmp (.tmp .nil) | exact .cell (.cell .nil) | exact .tmp (.cell .nil) | exact .nil | exact .tmp (.cell (.tmp .nil)) | exact .cell (.tmp (.tmp .nil)) | exact .cell (.cell (.tmp .nil)) | exact .tmp (.tmp (.tmp .nil)) | exact .cell (.cell (.cell .nil))) ?_
    rfl
  clear h1
  (refine WK.skip ?_; refine WK.seq ?_; refine WK.region ?_; refine St.assign ?_; refine WO.nil ?_; refine WK.seq ?_; refine WK.seq ?_; refine WK.region ?_; refine St.assign ?_; refine WO.nil ?_; refine WK.block ?_)
  refine WK.inv (ι := Nat × AV × Ob) (fun z => [(1, v), (3, .int .i64 height), (4, .ptr p4 0), (6, .ptr p6 0), (9, z.2.1), (10, .int .i64 z.1)]) (fun z => (p6, .cells [.int .i64 lo, .int .i64 hi] 37) :: (p4, .cells [.int .i64 lv, cv, sv] 25) :: z.2.2) (fun z => z.1 ≤ l.length ∧ IsL 66 4 (honL lv (cys cl) ss l z.1).length (gaF (honL lv (cys cl) ss l z.1)) z.2.1 z.2.2) (fun z => l.length - z.1) (0, .slice0, []) ⟨Nat.zero_le _, .nil rfl rfl⟩ ⟨rfl, rfl, rfl, rfl, rfl, rfl, trivial⟩ (by (repeat (first | exact List.Sublist.refl _ | exact List.nil_sublist _ | apply List.Sublist.cons_cons | apply List.Sublist.cons))) ?_
  rintro ⟨k, w, Lw⟩ ⟨hkl, hw⟩ ih
  simp only at hkl hw ih ⊢
  have hhl := honL_len (lv := lv) (cs := cys cl) (ss := ss) (l := l) (k := k)
  (refine WK.seq ?_; refine WK.seq ?_; refine WK.region ?_; refine St.move ?_; refine St.move ?_)
  refine St.lenV rfl hv.len ?_
  (refine St.bin ?_; refine WO.nil ?_)
  refine St.splitC (fun hcc => ?_) (fun hcc => ?_)
  · have hlt : k < l.length := by simp at hcc; omega
    have hsu := honL_succ (lv := lv) (cs := cys cl) (ss := ss) hlt
    obtain ⟨b, off, c, rfl, hk⟩ := hv.ne (by omega)
    have next : honB lv (cys cl) ss (nthG l k) = false → WK Try.prog Bs _ h [] _ [] _ _ _ := fun q => ih (k + 1, w, Lw) ⟨by simp only; omega, by simp only; rw [hsu, if_neg (by simp [q])]; exact hw⟩ (by simp only; omega)
    simp only at next
    (refine WK.skip ?_; refine WK.seq ?_; refine WK.block ?_; refine WK.seq ?_; refine WK.regionD ?_; refine St.load ?_; refine St.move ?_; refine St.move ?_)
    refine St.at ?_
    (refine St.fieldAddr ?_)
    refine St.loadX (fun h2 hh => ((hk.vw hh).tk_ (z := (k : Int)) (n := k) (by omega) hlt).one rfl) ?_
    skip
    refine St.call (fun _ => rfl) (fun h2 hh => height_con h2 hh.gd lv (nthG l k).tk cv sv cl ss (hc.vw hh) (hs.vw hh)) ?_
    (refine St.move ?_; refine St.extract ?_; refine St.extract ?_; refine St.assign ?_; refine St.assign ?_; refine WO.nil ?_; refine WK.seq ?_; refine WK.region ?_; refine St.move ?_; refine St.bin ?_; refine St.move ?_)
    refine St.split (fun b1 => ?_) (fun b1 => ?_)
    rotate_left
    · (refine St.skip ?_; refine St.skip ?_; refine St.skip ?_; refine St.skip ?_; refine St.skip ?_; refine St.skip ?_; refine St.skip ?_; refine St.skip ?_; refine St.pickF ?_; refine St.move ?_; refine St.skip ?_; refine St.skip ?_; refine St.skip ?_; refine St.skip ?_; refine St.skip ?_; refine St.skip ?_; refine St.skip ?_; refine St.skip ?_; refine St.pickF ?_; refine WO.nil ?_; refine WK.condF ?_; refine WK.skip ?_; refine WK.blk ?_; refine WK.region ?_; refine St.move ?_; refine St.binI ?_; refine St.assign ?_; refine WO.nil ?_)
      refine WK.le ?_ (by (repeat (first | exact List.Sublist.refl _ | exact List.nil_sublist _ | apply List.Sublist.cons_cons | apply List.Sublist.cons))) (next (by unfold honB; rw [b1]; rfl))
      exact ⟨rfl, rfl, rfl, rfl, rfl, rfl, trivial⟩
    (refine St.move ?_; refine St.move ?_)
    refine St.at ?_
    (refine St.fieldAddr ?_; refine St.fieldAddr ?_)
    refine St.loadX (fun h2 hh => ((hk.vw hh).lo_ (z := (k : Int)) (n := k) (by omega) hlt).one rfl) ?_
    (refine St.move ?_; refine St.bin ?_; refine St.pickT ?_; refine St.move ?_)
    refine St.split (fun b2 => ?_) (fun b2 => ?_)
    rotate_left
    · (refine St.skip ?_; refine St.skip ?_; refine St.skip ?_; refine St.skip ?_; refine St.skip ?_; refine St.skip ?_; refine St.skip ?_; refine St.skip ?_; refine St.pickF ?_; refine WO.nil ?_; refine WK.condF ?_; refine WK.skip ?_; refine WK.blk ?_; refine WK.region ?_; refine St.move ?_; refine St.binI ?_; refine St.assign ?_; refine WO.nil ?_)
      refine WK.le ?_ (by (repeat (first | exact List.Sublist.refl _ | exact List.nil_sublist _ | apply List.Sublist.cons_cons | apply List.Sublist.cons))) (next (by unfold honB; rw [b1, b2]; rfl))
      exact ⟨rfl, rfl, rfl, rfl, rfl, rfl, trivial⟩
    (refine St.move ?_; refine St.move ?_; refine St.move ?_)
    refine St.at ?_
    (refine St.fieldAddr ?_; refine St.fieldAddr ?_)
    refine St.loadX (fun h2 hh => ((hk.vw hh).hi_ (z := (k : Int)) (n := k) (by omega) hlt).one rfl) ?_
    (refine St.bin ?_; refine St.pickT ?_; refine WO.nil ?_)
    refine St.splitC (fun b3 => ?_) (fun b3 => ?_)
    rotate_left
    · (refine WK.skip ?_; refine WK.blk ?_; refine WK.region ?_; refine St.move ?_; refine St.binI ?_; refine St.assign ?_; refine WO.nil ?_)
      refine WK.le ?_ (by (repeat (first | exact List.Sublist.refl _ | exact List.nil_sublist _ | apply List.Sublist.cons_cons | apply List.Sublist.cons))) (next (by unfold honB; rw [b1, b2, b3]; rfl))
      exact ⟨rfl, rfl, rfl, rfl, rfl, rfl, trivial⟩
    clear next
    rw [if_pos (by unfold honB; rw [b1, b2, b3]; rfl)] at hsu
    (refine WK.region ?_; refine St.move ?_; refine St.move ?_; refine St.move ?_)
    refine St.at ?_
    skip
    refine St.loadX (fun h2 hh => ((hk.vw hh).at_ (z := (k : Int)) (n := k) (by omega) hlt).agg (by simp) rfl rfl rfl) ?_
    (refine St.mkS fun _ _ => ?_)
    rename_i i2 hi2
    refine St.appL (new := gaC (nthG l k)) (Lk := [(i2, .cells (gaC (nthG l k)) 66), (p6, .cells [.int .i64 lo, .int .i64 hi] 37), (p4, .cells [.int .i64 lv, cv, sv] 25)]) hw List.perm_append_comm (fun w3 Lw3 hw3 => ?_) ⟨rfl, rfl, rfl, rfl, rfl, rfl, rfl, rfl, rfl, rfl, rfl, rfl⟩ (List.Mem.head _) rfl (by omega) (by omega)
    (refine St.assign ?_; refine WO.nil ?_; refine WK.blk ?_; refine WK.region ?_; refine St.move ?_; refine St.binI ?_; refine St.assign ?_; refine WO.nil ?_)
    refine WK.perm (L' := (p6, .cells [.int .i64 lo, .int .i64 hi] 37) :: (p4, .cells [.int .i64 lv, cv, sv] 25) :: (Lw3 ++ [(i2, .cells (gaC (nthG l k)) 66)])) (by (refine perm_cnt fun _ _ => ?_; simp only [List.append_eq, List.cons_append, List.nil_append, List.count_append, List.count_cons, List.count_nil, Nat.add_zero, Nat.zero_add]; try ac_rfl)) ?_
    refine WK.le ?_ ?_ (ih (k + 1, w3, Lw3) ⟨by simp only; omega, ?_⟩ (by simp only; omega))
    · exact ⟨rfl, rfl, rfl, rfl, rfl, rfl, trivial⟩
    · exact List.Sublist.cons_cons _ (List.Sublist.cons_cons _ (List.sublist_append_left _ _))
    · simp only
      rw [hsu, gaF_snoc, List.length_append]
      exact hw3
  have : k = l.length := by simp at hcc; omega
  subst this
  clear ih
  have hin0 := honL_in (lv := lv) (cs := cys cl) (ss := ss) (l := l) (k := l.length)
  generalize hH : honL lv (cys cl) ss l l.length = m at *
  (refine WK.exit ?_; refine WK.seq ?_; refine WK.region ?_; refine St.load ?_; refine St.move ?_)
  refine St.call (fun _ => rfl) (fun h2 hh => levels_con h2 hh.gd lv cv sv w cl ss m (hc.vw hh) (hs.vw hh) (isl_gav hw hh (fun x hx => by simp [hx])) (by omega)) ?_
  by_cases hq : chkGs lv (cys cl) ss m = 0
  rotate_left
  · have eL : levelsR lv (cys cl) ss m = ((0, 0), chkGs lv (cys cl) ss m) := if_pos hq
    have h9 := chkGs_cl (lv := lv) (cs := cys cl) (ss := ss) (l := m)
    rw [eL]
    generalize chkGs lv (cys cl) ss m = x at *
    (refine St.move ?_; refine St.extract ?_; refine St.extract ?_; refine St.alloc fun _ _ => ?_; refine St.store0 ?_; refine St.assign ?_; refine WO.nil ?_; refine WK.seq ?_; refine WK.seq ?_; refine WK.region ?_; refine St.move ?_; refine St.bin ?_; refine WO.nil ?_)
    refine St.splitC (fun _ => ?_) (fun hb => ?_)
    rotate_left
    · exfalso
      simp at hb
      exact hq hb
    (refine WK.seq ?_; refine WK.region ?_)
    refine St.call (fun _ => rfl) (fun h2 hh => sanity_con h2 hh.gd) ?_
    (refine St.move ?_; refine St.move ?_; refine St.bin ?_; refine St.pickT ?_; refine St.assign ?_; refine WO.nil ?_)
    refine St.ret (by first | exact .tmp .nil | exact .cell .nil | exact .cell (.tmp .nil) | exact .tmp (.tmp .nil) | exact .cell (.cell .nil) | exact .tmp (.cell .nil) | exact .nil | exact .tmp (.cell (.tmp .nil)) | exact .cell (.tmp (.tmp .nil)) | exact .cell (.cell (.tmp .nil)) | exact .tmp (.tmp (.tmp .nil)) | exact .cell (.cell (.cell .nil))) ?_
    simp [oneOf, h9]
  have hin := hin0 (chkGs_w hq).1
  have eL : levelsR lv (cys cl) ss m = (comG (cys cl) ss m, 0) := by
    unfold levelsR
    rw [if_neg (by simp [hq]), if_pos (by omega)]
  have hbd := ((com_iff (cys cl) ss m (comG (cys cl) ss m).1).1 ⟨Int.le_refl _, by omega⟩).1
  rw [eL]
  generalize comG (cys cl) ss m = A at *
  have ew := chkGs_chk hq
  have ew2 := chkW_lv ew hbd.1 hbd.2
  have em := minR_lv (lo := lo) (hi := hi) ew ew2
  have hwin := win_lower (height := height) em hin.1
  have hl1 := winR_len (lv := lv) (cs := cys cl) (ss := ss) (lo := lo) (hi := hi) (height := height)
  have hl2 := winR_len (lv := A.1) (cs := cys cl) (ss := ss) (lo := lo) (hi := hi) (height := height)
  (refine St.move ?_; refine St.extract ?_; refine St.extract ?_; refine St.alloc fun _ _ => ?_; refine St.store0 ?_; refine St.assign ?_; refine WO.nil ?_; refine WK.seq ?_; refine WK.seq ?_; refine WK.region ?_; refine St.move ?_; refine St.bin ?_; refine WO.nil ?_; refine WK.condF ?_; refine WK.skip ?_; refine WK.seq ?_; refine WK.seq ?_; refine WK.region ?_; refine St.fieldAddr ?_; refine St.load ?_; refine St.fieldAddr ?_; refine St.load ?_; refine St.bin ?_; refine St.move ?_)
  rename_i p13 hp13
  refine St.split (fun hb => ?_) (fun _ => ?_)
  · exfalso
    simp at hb
    omega
  (refine St.fieldAddr ?_; refine St.load ?_; refine St.fieldAddr ?_; refine St.load ?_; refine St.bin ?_; refine St.pickF ?_; refine WO.nil ?_)
  refine St.splitC (fun hb => ?_) (fun _ => ?_)
  · exfalso
    simp at hb
    omega
  (refine WK.skip ?_; refine WK.seq ?_; refine WK.region ?_; refine St.load ?_; refine St.alloc fun _ _ => ?_)
  rename_i p15 hp15
  refine St.store0 (hv := store_water (by kernel_rfl) (cy_okc hc) (sh_okc hs)) ?_
  (refine WO.nil ?_; refine WK.seq ?_; refine WK.region ?_; refine St.fieldAddr ?_; refine St.load ?_; refine St.fieldAddr ?_; refine St.store0 ?_; refine WO.nil ?_; refine WK.seq ?_; refine WK.region ?_; refine St.load ?_; refine St.load ?_; refine St.move ?_)
  refine St.callR (fun _ => rfl) (fun h2 hh => windowsP_con h2 hh.gd A.1 lo hi height cv sv cl ss (hc.vw hh) (hs.vw hh)) ?_
  rintro v1 L1 ⟨u1, rfl, hu1⟩
  refine WO.permF (L' := (p15, .cells [.int .i64 A.1, cv, sv] 25) :: (p13, .cells [.int .i64 A.1, .int .i64 A.2] 37) :: (p6, .cells [.int .i64 lo, .int .i64 hi] 37) :: (p4, .cells [.int .i64 lv, cv, sv] 25) :: (Lw ++ L1)) (by (refine perm_cnt fun _ _ => ?_; simp only [List.append_eq, List.cons_append, List.nil_append, List.count_append, List.count_cons, List.count_nil, Nat.add_zero, Nat.zero_add]; try ac_rfl)) ?_
  (refine St.move ?_; refine St.extract ?_; refine St.extract ?_; refine St.assign ?_; refine St.assign ?_; refine WO.nil ?_; refine WK.seq ?_; refine WK.region ?_; refine St.load ?_; refine St.load ?_; refine St.move ?_)
  refine St.callR (fun _ => rfl) (fun h2 hh => windowsP_con h2 hh.gd lv lo hi height cv sv cl ss (hc.vw hh) (hs.vw hh)) ?_
  rintro v2 L2 ⟨u2, rfl, hu2⟩
  rw [em]
  (refine St.move ?_; refine St.extract ?_; refine St.extract ?_; refine St.assign ?_; refine St.assign ?_; refine WO.nil ?_; refine WK.seq ?_; refine WK.region ?_)
  refine St.call (fun _ => rfl) (fun h2 hh => sanity_con h2 hh.gd) ?_
  (refine St.move ?_; refine St.move ?_; refine St.move ?_; refine St.bin ?_; refine St.pickT ?_; refine St.move ?_)
  refine St.split (fun _ => ?_) (fun hb => ?_)
  rotate_left
  · simp at hb
  (refine St.move ?_; refine St.move ?_)
  refine St.call (fun _ => rfl) (fun h2 hh => withinW_con h2 hh.gd u1 u2 _ _ (isl_wdv hu1 hh (fun x hx => by simp [hx])) (isl_wdv hu2 hh (fun x hx => by simp [hx])) (by omega) (by omega) hwin) ?_
  (refine St.pickT ?_; refine St.assign ?_; refine WO.nil ?_)
  refine St.ret (by first | exact .tmp .nil | exact .cell .nil | exact .cell (.tmp .nil) | exact .tmp (.tmp .nil) | exact .cell (.cell .nil) | exact .tmp (.cell .nil) | exact .nil | exact .tmp (.cell (.tmp .nil)) | exact .cell (.tmp (.tmp .nil)) | exact .cell (.cell (.tmp .nil)) | exact .tmp (.tmp (.tmp .nil)) | exact .cell (.cell (.cell .nil))) ?_
  rfl
end Go.Proofs.Ytekpffjcffeanaa
