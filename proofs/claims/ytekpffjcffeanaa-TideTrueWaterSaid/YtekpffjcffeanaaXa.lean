/- Windows over the calculator's memory: lists of spans; the program's windows and Windows. -/
import Derived.Test.YtekpffjcffeanaaWl
import Derived.Test.YtekpffjcffeanaaXp
namespace Go.Proofs.Ytekpffjcffeanaa
open Go.Proofs.Ytekpffjcffeanaa.Ev

def wdC (s : Wd) : List AV := [.int .i64 s.lo, .int .i64 s.hi]
def wdF (l : List Wd) : List AV := (l.map wdC).flatten
theorem wdF_snoc (l : List Wd) (s : Wd) : wdF (l ++ [s]) = wdF l ++ wdC s := by
  unfold wdF
  simp
theorem wdF_len : ∀ l : List Wd, (wdF l).length = l.length * 2
  | [] => rfl
  | s :: r => by
    have := wdF_len r
    show (wdC s ++ wdF r).length = _
    rw [List.length_append, this, List.length_cons]
    show 2 + _ = _
    omega
theorem wdF_put (r : List Wd) (s : Wd) (x : Int) : (wdF (r ++ [s])).set (r.length * 2 + 1) (.int .i64 x) = wdF (r ++ [⟨s.lo, x⟩]) := by
  rw [wdF_snoc, wdF_snoc, List.set_append_right _ _ (by rw [wdF_len]; omega), wdF_len, Nat.add_sub_cancel_left]
  rfl
theorem wdF_drop : ∀ (l : List Wd) (i : Nat), i < l.length → (wdF l).drop (i * 2) = wdC (nthE l i) ++ wdF (l.drop (i + 1))
  | [], _, h => by simp at h
  | g :: r, 0, _ => rfl
  | g :: r, i + 1, h => by
    have := wdF_drop r i (by simpa using h)
    show (wdC g ++ wdF r).drop ((i + 1) * 2) = _
    rw [show (i + 1) * 2 = (wdC g).length + i * 2 from by show _ = 2 + _; omega, List.drop_append, List.drop_eq_nil_of_le (by omega), Nat.add_sub_cancel_left, List.nil_append, this]
    rfl
/-- spans in memory -/
def WdH (h : Heap) (b off : Nat) (l : List Wd) : Prop := ∀ i, i < l.length → Rds h b (off + i * 2) (wdC (nthE l i))
theorem WdH.vw {h0 h : Heap} {V : Ob} {b off l} (k : WdH h0 b off l) (hh : Vw h0 [] V h) : WdH h b off l := fun i hi => hh.rds (by simp) (k i hi)
theorem WdH.at_ {h : Heap} {b off l} (k : WdH h b off l) {z : Int} {n : Nat} (e : z.toNat = n) (hi : n < l.length) : Rds h b (off + z.toNat * 2) [.int .i64 (nthE l n).lo, .int .i64 (nthE l n).hi] := by
  subst e; exact k _ hi
theorem WdH.lo_ {h : Heap} {b off l} (k : WdH h b off l) {z : Int} {n : Nat} (e : z.toNat = n) (hi : n < l.length) : Rd h b (off + z.toNat * 2 + 0) (.int .i64 (nthE l n).lo) := (k.at_ e hi).1
theorem WdH.hi_ {h : Heap} {b off l} (k : WdH h b off l) {z : Int} {n : Nat} (e : z.toNat = n) (hi : n < l.length) : Rd h b (off + z.toNat * 2 + 1) (.int .i64 (nthE l n).hi) := (k.at_ e hi).2.1
def WdV (h : Heap) (v : AV) (l : List Wd) : Prop := ((v = .slice0 ∨ v = .sliceZ) ∧ l = []) ∨ ∃ b off c, v = .slice b off l.length c ∧ WdH h b off l
theorem WdV.vw {h0 h : Heap} {V : Ob} {v l} (k : WdV h0 v l) (hh : Vw h0 [] V h) : WdV h v l := by
  rcases k with k | ⟨b, off, c, rfl, k⟩
  · exact .inl k
  · exact .inr ⟨b, off, c, rfl, k.vw hh⟩
theorem WdV.ne {h : Heap} {v : AV} {l : List Wd} (k : WdV h v l) (hn : 0 < l.length) : ∃ b off c, v = .slice b off l.length c ∧ WdH h b off l := by
  rcases k with ⟨_, rfl⟩ | k
  · simp at hn
  · exact k
theorem WdV.len {h : Heap} {v : AV} {l : List Wd} (k : WdV h v l) : ∀ h2, lenA Try.prog 40 h2 v = some (.int .i64 (l.length : Int)) := by
  intro h2
  unfold lenA
  rw [Try.underlying40]
  rcases k with ⟨rfl | rfl, rfl⟩ | ⟨b, off, c, rfl, _⟩ <;> rfl
theorem has_wdh {h0 h : Heap} {W : List Nat} {V : Ob} {j : Nat} {o : AObj} {l : List Wd} (k : Vw h0 W V h) (hm : (j, o) ∈ V) (ho : o.has (wdF l)) : WdH h j 0 l := fun i hi => by
  rw [Nat.zero_add]
  exact k.rdsE hm ho _ _ _ (wdF_drop l i hi)
theorem isl_wdv {h0 h : Heap} {W : List Nat} {V : Ob} {l : List Wd} {v : AV} {Lv : Ob} (hw : IsL 37 2 l.length (wdF l) v Lv) (k : Vw h0 W V h) (hs : ∀ x ∈ Lv, x ∈ V) : WdV h v l := by
  rcases hw.open_ with ⟨rfl, _, h1, _⟩ | ⟨i, c, o, rfl, rfl, ho, _⟩
  · exact .inl ⟨.inl rfl, List.length_eq_zero_iff.1 h1⟩
  · exact .inr ⟨i, 0, c, rfl, has_wdh k (hs _ (List.mem_cons_self ..)) ho⟩
def wdEq (x y : Wd) : Bool := x.lo == y.lo && x.hi == y.hi
theorem wdEq_self (x : Wd) : wdEq x x = true := by simp [wdEq]
set_option maxRecDepth 100000 in
theorem wd_neq (x y : Wd) : evBin Try.prog .neq 37 (.agg (wdC x)) (.agg (wdC y)) = some (.bool (!wdEq x y)) := by
  unfold wdEq wdC
  simp [evBin, evEq, guardOk, eqT, eqFs, partE, isAggT, takeN, dropN, nthN]
  cases x.lo == y.lo <;> cases x.hi == y.hi <;> rfl
set_option maxRecDepth 100000 in
theorem wd_eql (x y : Wd) : evBin Try.prog .eql 37 (.agg (wdC x)) (.agg (wdC y)) = some (.bool (wdEq x y)) := by
  unfold wdEq wdC
  simp [evBin, evEq, guardOk, eqT, eqFs, partE, isAggT, takeN, dropN, nthN]
  cases x.lo == y.lo <;> cases x.hi == y.hi <;> rfl
set_option maxRecDepth 100000 in
set_option maxHeartbeats 8000000 in
theorem sameSpans_con (h : Heap) (g : Gd h) (v v2 : AV) (l : List Wd) (hv : WdV h v l) (hv2 : WdV h v2 l) (hl : l.length ≤ 1000000) :
    Con Try.prog Bs 51 [v, v2] h [] (.bool true) [] := by
  refine Con.start rfl Try.func51 rfl rfl Try.ntmps51 rfl rfl g ?_
  (refine WK.seq ?_; refine WK.region ?_; refine St.assign ?_; refine WO.nil ?_; refine WK.seq ?_; refine WK.seq ?_; refine WK.region ?_; refine St.move ?_)
  refine St.lenV rfl hv.len ?_
  (refine St.move ?_)
  refine St.lenV rfl hv2.len ?_
  (refine St.bin ?_; refine WO.nil ?_)
  refine St.splitC (fun hc => ?_) (fun _ => ?_)
  · simp at hc
  (refine WK.skip ?_; refine WK.seq ?_; refine WK.seq ?_; refine WK.region ?_; refine St.assign ?_; refine WO.nil ?_; refine WK.block ?_)
  by_cases hn : l.length = 0
  · have e1 : l = [] := List.length_eq_zero_iff.1 hn
    subst e1
    refine WK.unroll ?_
    (refine WK.seq ?_; refine WK.seq ?_; refine WK.region ?_; refine St.move ?_; refine St.move ?_)
    refine St.lenV rfl hv.len ?_
    (refine St.bin ?_; refine WO.nil ?_; refine WK.condF ?_; refine WK.exit ?_; refine WK.seq ?_; refine WK.region ?_; refine St.assign ?_; refine WO.nil ?_)
    refine St.ret (by first | exact .tmp .nil | exact .cell .nil | exact .cell (.tmp .nil) | exact .tmp (.tmp .nil) | exact .cell (.cell .nil) | exact .tmp (.cell .nil) | exact .nil | exact .tmp (.cell (.tmp .nil)) | exact .cell (.tmp (.tmp .nil)) | exact .cell (.cell (.tmp .nil)) | exact .tmp (.tmp (.tmp .nil)) | exact .cell (.cell (.cell .nil))) ?_
    rfl
  obtain ⟨b, off, c, rfl, hk⟩ := hv.ne (by omega)
  obtain ⟨b2, off2, c2, rfl, hk2⟩ := hv2.ne (by omega)
  refine WK.inv (ι := Nat) (fun z => [(0, .slice b off l.length c), (1, .slice b2 off2 l.length c2), (5, .int .i64 z)]) (fun _ => []) (fun z => z ≤ l.length) (fun z => l.length - z) 0 (by omega) ⟨rfl, rfl, rfl, trivial⟩ (by (repeat (first | exact List.Sublist.refl _ | exact List.nil_sublist _ | apply List.Sublist.cons_cons | apply List.Sublist.cons))) ?_
  intro k hkl ih
  (refine WK.seq ?_; refine WK.seq ?_; refine WK.region ?_; refine St.move ?_; refine St.move ?_; refine St.len ?_; refine St.bin ?_; refine WO.nil ?_)
  refine St.splitC (fun hc => ?_) (fun hc => ?_)
  · have hlt : k < l.length := by simp at hc; omega
    (refine WK.skip ?_; refine WK.seq ?_; refine WK.block ?_; refine WK.seq ?_; refine WK.regionD ?_; refine St.move ?_; refine St.move ?_)
    refine St.at ?_
    refine St.loadX (fun h hh => ((hk.vw hh).at_ (z := (k : Int)) (n := k) (by omega) hlt).agg (by simp) rfl rfl rfl) ?_
    (refine St.move ?_; refine St.move ?_)
    refine St.at ?_
    refine St.loadX (fun h hh => ((hk2.vw hh).at_ (z := (k : Int)) (n := k) (by omega) hlt).agg (by simp) rfl rfl rfl) ?_
    refine St.binX (wd_neq (nthE l k) (nthE l k)) rfl rfl ?_
    rw [wdEq_self]
    (refine WO.nil ?_; refine WK.condF ?_; refine WK.skip ?_; refine WK.blk ?_; refine WK.region ?_; refine St.move ?_; refine St.binI ?_; refine St.assign ?_; refine WO.nil ?_)
    refine WK.le ?_ (by (repeat (first | exact List.Sublist.refl _ | exact List.nil_sublist _ | apply List.Sublist.cons_cons | apply List.Sublist.cons))) (ih (k + 1) hlt (by omega))
    exact ⟨rfl, rfl, rfl, trivial⟩
  · (refine WK.exit ?_; refine WK.seq ?_; refine WK.region ?_; refine St.assign ?_; refine WO.nil ?_)
    refine St.ret (by first | exact .tmp .nil | exact .cell .nil | exact .cell (.tmp .nil) | exact .tmp (.tmp .nil) | exact .cell (.cell .nil) | exact .tmp (.cell .nil) | exact .nil | exact .tmp (.cell (.tmp .nil)) | exact .cell (.tmp (.tmp .nil)) | exact .cell (.cell (.tmp .nil)) | exact .tmp (.tmp (.tmp .nil)) | exact .cell (.cell (.cell .nil))) ?_
    rfl
/-- when the water is at least so high -/
def hiP (f : Nat → Int) (height : Int) (k : Nat) : Bool := decide (height ≤ f k)
def winR (lv : Int) (cs : List Cy) (ss : List Sh) (lo hi height : Int) : List Wd := if minR lv cs ss lo hi ≠ 0 then [] else winK (hiP (hgt lv cs ss lo) height) lo (hi - lo + 1).toNat
theorem winR_no {lv : Int} {cs : List Cy} {ss : List Sh} {lo hi height : Int} (h : minR lv cs ss lo hi ≠ 0) : winR lv cs ss lo hi height = [] := if_pos h
theorem winR_ok {lv : Int} {cs : List Cy} {ss : List Sh} {lo hi height : Int} (h : minR lv cs ss lo hi = 0) : winR lv cs ss lo hi height = winK (hiP (hgt lv cs ss lo) height) lo (hi - lo + 1).toNat := if_neg (by simp [h])
theorem winR_len {lv : Int} {cs : List Cy} {ss : List Sh} {lo hi height : Int} : (winR lv cs ss lo hi height).length ≤ 10080 := by
  by_cases h : minR lv cs ss lo hi = 0
  · rw [winR_ok h]
    have := win_len (p := hiP (hgt lv cs ss lo) height) (lo := lo) (hi - lo + 1).toNat
    have := (minR_ok h).n
    omega
  · rw [winR_no h]
    simp
set_option maxRecDepth 100000 in
set_option maxHeartbeats 32000000 in
theorem windows_con (h : Heap) (g : Gd h) (lv lo hi height : Int) (cv sv : AV) (cl : List Cw) (ss : List Sh) (hc : CyV h cv cl) (hs : ShV h sv ss) (m : MinOk lv (cys cl) ss lo hi) :
    ∃ v L, Con Try.prog Bs 66 [.agg [.int .i64 lv, cv, sv], .agg [.int .i64 lo, .int .i64 hi], .int .i64 height] h [] v L ∧ IsL 37 2 (winK (hiP (hgt lv (cys cl) ss lo) height) lo (hi - lo + 1).toNat).length (wdF (winK (hiP (hgt lv (cys cl) ss lo) height) lo (hi - lo + 1).toNat)) v L := by
  have m1 := m.l1
  have m2 := m.le
  have m3 := m.h2
  have m4 := m.n
  have hy := stands_y h lv lo hi cv sv cl ss hc hs m
  obtain ⟨n, hn⟩ : ∃ n, (hi - lo + 1).toNat = n + 1 := ⟨(hi - lo + 1).toNat - 1, by omega⟩
  have hstl := all_stl (f := hgt lv (cys cl) ss lo) (lo := lo) n
  rw [hn] at hy ⊢
  have hcnt := cnt_all hstl
  generalize hf : hgt lv (cys cl) ss lo = f at *
  generalize hal : allS f lo (n + 1) = al at *
  generalize hp : hiP f height = p at *
  refine Con.pick (Con.startR rfl Try.func66 rfl rfl Try.ntmps66 rfl rfl (SS.init g) ?_)
  (refine WK.seq ?_; refine WK.region ?_; refine St.box fun _ _ => ?_; refine St.box fun _ _ => ?_; refine St.box fun _ _ => ?_; refine St.assign ?_; refine WO.nil ?_; refine WK.seq ?_; refine WK.region ?_; refine St.alloc fun _ _ => ?_; refine WO.nil ?_; refine WK.seq ?_; refine WK.region ?_; refine St.alloc fun _ _ => ?_; refine St.store0 ?_; refine WO.nil ?_; refine WK.seq ?_; refine WK.seq ?_; refine WK.region ?_; refine St.load ?_; refine St.load ?_)
  rename_i p3 hp3 p4 hp4 p5 hp5 p7 hp7 p8 hp8
  refine St.callR (fun _ => rfl) (fun h2 hh => stands_con h2 hh.gd lv lo hi cv sv) ?_
  rintro u L' ⟨j1, j2, rfl, rfl⟩
  (refine WO.nil ?_; refine WK.block ?_)
  refine rangeY (hb := h) (j1 := j1) (j2 := j2) (L0 := [(p8, .cells [.bool false] 4), (p7, .cells [.slice0] 40), (p5, .cells [.int .i64 height] 3), (p4, .cells [.int .i64 lo, .int .i64 hi] 37), (p3, .cells [.int .i64 lv, cv, sv] 25)])
    (fun j Ln => ∃ w Lv, IsL 37 2 (winK p lo (cntM lo al j)).length (wdF (winK p lo (cntM lo al j))) w Lv ∧ Ln = (p8, .cells [.bool (openK p (cntM lo al j))] 4) :: (p7, .cells [w] 40) :: (p5, .cells [.int .i64 height] 3) :: (p4, .cells [.int .i64 lo, .int .i64 hi] 37) :: (p3, .cells [.int .i64 lv, cv, sv] 25) :: Lv)
    (fun _ _ => False) hy rfl (SS.init g).vw (fun _ h => by cases h) (by (repeat (first | exact List.Perm.refl _ | refine perm_at 0 rfl ?_ | refine perm_at 1 rfl ?_ | refine perm_at 2 rfl ?_ | refine perm_at 3 rfl ?_ | refine perm_at 4 rfl ?_ | refine perm_at 5 rfl ?_ | refine perm_at 6 rfl ?_ | refine perm_at 7 rfl ?_ | refine perm_at 8 rfl ?_ | refine perm_at 9 rfl ?_))) ⟨_, _, .nil rfl rfl, rfl⟩ (fun _ => rfl) rfl ?_ ?_ ?_
  · rintro r2 q2 hq2 j Lk h2 hj ⟨w, Lv, hw, rfl⟩ hl2
    have hW2 := hl2.ss.ltW
    obtain ⟨d, d1, d2, d3, d4⟩ := cnt_step hstl hj
    have hwl := win_len (p := p) (lo := lo) (cntM lo al j)
    have hcl : cntM lo al j ≤ 10080 := by
      have := (hstl.one j hj).2.2.1
      omega
    generalize hC : cntM lo al j = C at *
    generalize hS : nthD al j = s at *
    (refine WK.region ?_; refine St.alloc fun _ _ => ?_; refine St.store0 ?_; refine WO.nil ?_)
    rename_i p9 hp9
    refine WK.busyQ hq2.st (A := [(_, _)]) rfl ?_
    (refine WK.block ?_; refine WK.block ?_; refine WK.seq ?_; refine WK.region ?_; refine St.fieldAddr ?_; refine St.load ?_; refine St.load ?_; refine St.bin ?_; refine St.assign ?_; refine WO.nil ?_)
    refine St.splitC (fun hcc => ?_) (fun hcc => ?_)
    · have hall : ∀ i, i < d + 1 → p (C + i) = false := fun i hi => by
        rw [← hp, hiP, d4 i hi]
        simpa using hcc
      have e1 : winK p lo (cntM lo al (j + 1)) = winK p lo C := by rw [d1]; exact run_false (d + 1) hall
      have e2 : openK p (cntM lo al (j + 1)) = false := by rw [d1]; exact hall d (by omega)
      (refine WK.region ?_; refine St.store2 ?_; refine WO.nil ?_; refine WK.blk ?_; refine WK.blk ?_)
      refine endY (Lk := (p8, .cells [.bool false] 4) :: (p7, .cells [w] 40) :: (p5, .cells [.int .i64 height] 3) :: (p4, .cells [.int .i64 lo, .int .i64 hi] 37) :: (p3, .cells [.int .i64 lv, cv, sv] 25) :: Lv) (X := [(p9, .cells (sdC s) 51)]) (by (refine perm_cnt fun _ _ => ?_; simp only [List.append_eq, List.cons_append, List.nil_append, List.count_append, List.count_cons, List.count_nil, Nat.add_zero, Nat.zero_add]; try ac_rfl)) ⟨w, Lv, ?_, ?_⟩
      · rw [e1]; exact hw
      · rw [e2]
    · have hall : ∀ i, i < d + 1 → p (C + i) = true := fun i hi => by
        rw [← hp, hiP, d4 i hi]
        simpa using hcc
      have e2 : openK p (cntM lo al (j + 1)) = true := by rw [d1]; exact hall d (by omega)
      (refine WK.seq ?_; refine WK.region ?_; refine St.load ?_; refine St.assign ?_; refine WO.nil ?_)
      refine St.splitC (fun ho => ?_) (fun ho => ?_)
      · obtain ⟨r, s2, hrs, _⟩ := (open_last (p := p) (lo := lo) C).1 ho
        have e1 : winK p lo (cntM lo al (j + 1)) = r ++ [⟨s2.lo, s.hi⟩] := by
          rw [d1, run_true (.inl ⟨ho, s2, hrs, rfl⟩) d hall, d3]
        rw [hrs] at hw hwl
        obtain ⟨js, c, o, rfl, rfl, hoh, hl⟩ := hw.ne (by simp)
        have hrl : (r ++ [s2]).length = r.length + 1 := by simp
        obtain ⟨o', g1, g2⟩ := isl_put (x := s.hi) (off := r.length * 2 + 1) hw (by rw [wdF_len]; omega)
        have hput : o.store Try.prog 3 (0 + (((r ++ [s2]).length : Int) - 1).toNat * 2 + 1) (.int .i64 s.hi) = some o' := by
          rw [show 0 + (((r ++ [s2]).length : Int) - 1).toNat * 2 + 1 = r.length * 2 + 1 by omega]
          exact g1
        (refine WK.region ?_; refine St.load ?_; refine St.load ?_; refine St.len ?_; refine St.binI ?_; refine St.fieldAddr ?_; refine St.fieldAddr ?_; refine St.load ?_)
        refine St.at ?_
        (refine St.fieldAddr ?_)
        refine St.store7 (hv := hput) ?_
        (refine WO.nil ?_; refine WK.blk ?_; refine WK.blk ?_)
        refine endY (Lk := (p8, .cells [.bool (openK p C)] 4) :: (p7, .cells [.slice js 0 (r ++ [s2]).length c] 40) :: (p5, .cells [.int .i64 height] 3) :: (p4, .cells [.int .i64 lo, .int .i64 hi] 37) :: (p3, .cells [.int .i64 lv, cv, sv] 25) :: [(js, o')]) (X := [(p9, .cells (sdC s) 51)]) (by (refine perm_cnt fun _ _ => ?_; simp only [List.append_eq, List.cons_append, List.nil_append, List.count_append, List.count_cons, List.count_nil, Nat.add_zero, Nat.zero_add]; try ac_rfl)) ⟨_, _, ?_, by rw [e2, ho]⟩
        rw [e1, ← wdF_put, show (r ++ [(⟨s2.lo, s.hi⟩ : Wd)]).length = (r ++ [s2]).length by simp]
        exact g2
      · have e1 : winK p lo (cntM lo al (j + 1)) = winK p lo C ++ [⟨s.lo, s.hi⟩] := by
          rw [d1, run_true (.inr ⟨ho, rfl, rfl⟩) d hall, d3, d2]
        (refine WK.region ?_; refine St.load ?_; refine St.fieldAddr ?_; refine St.load ?_; refine St.mkS fun _ _ => ?_)
        rename_i i2 hi2
        refine St.appL (new := wdC ⟨s.lo, s.hi⟩) (Lk := [(i2, .cells (wdC ⟨s.lo, s.hi⟩) 37), (p9, .cells (sdC s) 51), (r2, .loop q2.busy), (p8, .cells [.bool (openK p C)] 4), (p7, .cells [w] 40), (p5, .cells [.int .i64 height] 3), (p4, .cells [.int .i64 lo, .int .i64 hi] 37), (p3, .cells [.int .i64 lv, cv, sv] 25)]) hw List.perm_append_comm (fun w3 Lw3 hw3 => ?_) ⟨rfl, rfl, rfl, rfl, rfl, rfl, rfl, rfl, rfl, rfl, rfl, rfl⟩ (List.Mem.head _) rfl (by omega) (by omega)
        have hst := isl_ok hw3
        refine WO.permF (L' := (p7, .cells [w] 40) :: (p8, .cells [.bool (openK p C)] 4) :: (r2, .loop q2.busy) :: (i2, .cells (wdC ⟨s.lo, s.hi⟩) 37) :: (p9, .cells (sdC s) 51) :: (p5, .cells [.int .i64 height] 3) :: (p4, .cells [.int .i64 lo, .int .i64 hi] 37) :: (p3, .cells [.int .i64 lv, cv, sv] 25) :: Lw3) (by (refine perm_cnt fun _ _ => ?_; simp only [List.append_eq, List.cons_append, List.nil_append, List.count_append, List.count_cons, List.count_nil, Nat.add_zero, Nat.zero_add]; try ac_rfl)) ?_
        refine St.store0 (hv := store_one rfl hst.2 hst.1) ?_
        (refine St.store1 ?_; refine WO.nil ?_; refine WK.blk ?_; refine WK.blk ?_)
        refine endY (Lk := (p8, .cells [.bool true] 4) :: (p7, .cells [w3] 40) :: (p5, .cells [.int .i64 height] 3) :: (p4, .cells [.int .i64 lo, .int .i64 hi] 37) :: (p3, .cells [.int .i64 lv, cv, sv] 25) :: Lw3) (X := [(i2, .cells (wdC ⟨s.lo, s.hi⟩) 37), (p9, .cells (sdC s) 51)]) (by (refine perm_cnt fun _ _ => ?_; simp only [List.append_eq, List.cons_append, List.nil_append, List.count_append, List.count_cons, List.count_nil, Nat.add_zero, Nat.zero_add]; try ac_rfl)) ⟨w3, Lw3, ?_, by rw [e2]⟩
        rw [e1, wdF_snoc, List.length_append]
        exact hw3
  · rintro dq L' ⟨w, Lv, hw, rfl⟩
    rw [hcnt] at hw
    (refine WK.blk ?_; refine WK.seq ?_; refine WK.region ?_; refine St.load ?_; refine St.assign ?_; refine WO.nil ?_)
    refine WK.perm (L' := ((p8, .cells [.bool (openK p (cntM lo al al.length))] 4) :: (p7, .cells [w] 40) :: (p5, .cells [.int .i64 height] 3) :: (p4, .cells [.int .i64 lo, .int .i64 hi] 37) :: (p3, .cells [.int .i64 lv, cv, sv] 25) :: Lv) ++ [(dq, .deferred true)]) (by (refine perm_cnt fun _ _ => ?_; simp only [List.append_eq, List.cons_append, List.nil_append, List.count_append, List.count_cons, List.count_nil, Nat.add_zero, Nat.zero_add]; try ac_rfl)) ?_
    refine St.ret1 (C := []) rfl (.tmp .nil) ?_
    refine ⟨Lv, [(p8, .cells [.bool (openK p (cntM lo al al.length))] 4), (p7, .cells [w] 40), (p5, .cells [.int .i64 height] 3), (p4, .cells [.int .i64 lo, .int .i64 hi] 37), (p3, .cells [.int .i64 lv, cv, sv] 25)], ?_, hw⟩
    (refine perm_cnt fun _ _ => ?_; simp only [List.append_eq, List.cons_append, List.nil_append, List.count_append, List.count_cons, List.count_nil, Nat.add_zero, Nat.zero_add]; try ac_rfl)
  · rintro dq c L' hF
    exact hF.elim
end Go.Proofs.Ytekpffjcffeanaa
