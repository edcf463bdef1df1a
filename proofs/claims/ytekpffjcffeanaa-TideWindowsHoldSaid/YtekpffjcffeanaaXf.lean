/- The law TideWindowsHold over the calculator's memory. -/
import Derived.Test.YtekpffjcffeanaaXe
namespace Go.Proofs.Ytekpffjcffeanaa
open Go.Proofs.Ytekpffjcffeanaa.Ev

set_option maxRecDepth 100000 in
set_option maxHeartbeats 64000000 in
theorem windowsHold_con (h : Heap) (g : Gd h) (lv lo hi height : Int) (at_ less : Nat) (hat : at_ ≤ 65535) (hless : less ≤ 65535) (hht : height ≤ 9223372036854775807) (cv sv : AV) (l : List Cw) (ss : List Sh) (hc : CyV h cv l) (hs : ShV h sv ss) (hl : l.length ≤ 9223372036854775807) :
    Con Try.prog Bs 4 [.agg [.int .i64 lv, cv, sv], .agg [.int .i64 lo, .int .i64 hi], .int .u16 at_, .int .i64 height, .int .u16 less] h [] (.bool true) [] := by
  refine Con.start rfl Try.func4 rfl rfl Try.ntmps4 rfl rfl g ?_
  (refine WK.seq ?_; refine WK.region ?_; refine St.box fun _ _ => ?_; refine St.box fun _ _ => ?_; refine St.assign ?_; refine WO.nil ?_; refine WK.seq ?_; refine WK.seq ?_; refine WK.region ?_; refine St.load ?_)
  rename_i p5 hp5 p6 hp6
  refine St.call (fun _ => rfl) (fun h2 hh => few_con h2 hh.gd lv cv sv l ss (hc.vw hh) (hs.vw hh) hl) ?_
  (refine St.un ?_; refine St.move ?_)
  refine St.split (fun h1 => ?_) (fun h1 => ?_)
  · (refine St.skip ?_; refine St.skip ?_; refine St.skip ?_; refine St.pickT ?_; refine St.move ?_; refine St.skip ?_; refine St.skip ?_; refine St.skip ?_; refine St.skip ?_; refine St.skip ?_; refine St.pickT ?_; refine St.move ?_; refine St.skip ?_; refine St.skip ?_; refine St.skip ?_; refine St.pickT ?_; refine St.move ?_; refine St.skip ?_; refine St.skip ?_; refine St.skip ?_; refine St.pickT ?_; refine WO.nil ?_; refine WK.condT ?_; refine WK.seq ?_; refine WK.region ?_)
    refine St.call (fun _ => rfl) (fun h2 hh => sanity_con h2 hh.gd) ?_
    (refine St.assign ?_; refine WO.nil ?_)
    refine St.ret (by first | exact .tmp .nil | exact .cell .nil | exact .cell (.tmp .nil) | exact .tmp (.tmp .nil) | exact .cell (.cell .nil) | exact .tmp (.cell .nil) | exact .nil | exact .tmp (.cell (.tmp .nil)) | exact .cell (.tmp (.tmp .nil)) | exact .cell (.cell (.tmp .nil)) | exact .tmp (.tmp (.tmp .nil)) | exact .cell (.cell (.cell .nil))) ?_
    rfl
  (refine St.load ?_)
  refine St.call (fun _ => rfl) (fun h2 hh => short_con h2 hh.gd lo hi) ?_
  (refine St.un ?_; refine St.pickF ?_; refine St.move ?_)
  refine St.split (fun h1 => ?_) (fun h1 => ?_)
  · (refine St.skip ?_; refine St.skip ?_; refine St.skip ?_; refine St.skip ?_; refine St.skip ?_; refine St.pickT ?_; refine St.move ?_; refine St.skip ?_; refine St.skip ?_; refine St.skip ?_; refine St.pickT ?_; refine St.move ?_; refine St.skip ?_; refine St.skip ?_; refine St.skip ?_; refine St.pickT ?_; refine WO.nil ?_; refine WK.condT ?_; refine WK.seq ?_; refine WK.region ?_)
    refine St.call (fun _ => rfl) (fun h2 hh => sanity_con h2 hh.gd) ?_
    (refine St.assign ?_; refine WO.nil ?_)
    refine St.ret (by first | exact .tmp .nil | exact .cell .nil | exact .cell (.tmp .nil) | exact .tmp (.tmp .nil) | exact .cell (.cell .nil) | exact .tmp (.cell .nil) | exact .nil | exact .tmp (.cell (.tmp .nil)) | exact .cell (.tmp (.tmp .nil)) | exact .cell (.cell (.tmp .nil)) | exact .tmp (.tmp (.tmp .nil)) | exact .cell (.cell (.cell .nil))) ?_
    rfl
  (refine St.fieldAddr ?_; refine St.load ?_; refine St.fieldAddr ?_; refine St.load ?_; refine St.bin ?_; refine St.pickF ?_; refine St.move ?_)
  refine St.split (fun b1 => ?_) (fun b1 => ?_)
  · (refine St.skip ?_; refine St.skip ?_; refine St.skip ?_; refine St.pickT ?_; refine St.move ?_; refine St.skip ?_; refine St.skip ?_; refine St.skip ?_; refine St.pickT ?_; refine WO.nil ?_; refine WK.condT ?_; refine WK.seq ?_; refine WK.region ?_)
    refine St.call (fun _ => rfl) (fun h2 hh => sanity_con h2 hh.gd) ?_
    (refine St.assign ?_; refine WO.nil ?_)
    refine St.ret (by first | exact .tmp .nil | exact .cell .nil | exact .cell (.tmp .nil) | exact .tmp (.tmp .nil) | exact .cell (.cell .nil) | exact .tmp (.cell .nil) | exact .nil | exact .tmp (.cell (.tmp .nil)) | exact .cell (.tmp (.tmp .nil)) | exact .cell (.cell (.tmp .nil)) | exact .tmp (.tmp (.tmp .nil)) | exact .cell (.cell (.cell .nil))) ?_
    rfl
  (refine St.fieldAddr ?_; refine St.load ?_; refine St.bin ?_; refine St.pickF ?_; refine St.move ?_)
  refine St.split (fun b2 => ?_) (fun b2 => ?_)
  · (refine St.skip ?_; refine St.skip ?_; refine St.skip ?_; refine St.pickT ?_; refine WO.nil ?_; refine WK.condT ?_; refine WK.seq ?_; refine WK.region ?_)
    refine St.call (fun _ => rfl) (fun h2 hh => sanity_con h2 hh.gd) ?_
    (refine St.assign ?_; refine WO.nil ?_)
    refine St.ret (by first | exact .tmp .nil | exact .cell .nil | exact .cell (.tmp .nil) | exact .tmp (.tmp .nil) | exact .cell (.cell .nil) | exact .tmp (.cell .nil) | exact .nil | exact .tmp (.cell (.tmp .nil)) | exact .cell (.tmp (.tmp .nil)) | exact .cell (.cell (.tmp .nil)) | exact .tmp (.tmp (.tmp .nil)) | exact .cell (.cell (.cell .nil))) ?_
    rfl
  (refine St.fieldAddr ?_; refine St.load ?_; refine St.bin ?_; refine St.pickF ?_; refine WO.nil ?_)
  refine St.splitC (fun b3 => ?_) (fun b3 => ?_)
  · (refine WK.seq ?_; refine WK.region ?_)
    refine St.call (fun _ => rfl) (fun h2 hh => sanity_con h2 hh.gd) ?_
    (refine St.assign ?_; refine WO.nil ?_)
    refine St.ret (by first | exact .tmp .nil | exact .cell .nil | exact .cell (.tmp .nil) | exact .tmp (.tmp .nil) | exact .cell (.cell .nil) | exact .tmp (.cell .nil) | exact .nil | exact .tmp (.cell (.tmp .nil)) | exact .cell (.tmp (.tmp .nil)) | exact .cell (.cell (.tmp .nil)) | exact .tmp (.tmp (.tmp .nil)) | exact .cell (.cell (.cell .nil))) ?_
    rfl
  have c1 : 0 ≤ lo ∧ lo ≤ hi ∧ hi ≤ 1048576 := by simp at b1 b2 b3; omega
  clear h1 b1 b2 b3
  (refine WK.skip ?_; refine WK.seq ?_; refine WK.region ?_; refine St.load ?_; refine St.load ?_; refine St.move ?_)
  refine St.callR (fun _ => rfl) (fun h2 hh => windowsP_con h2 hh.gd lv lo hi height cv sv l ss (hc.vw hh) (hs.vw hh)) ?_
  rintro v1 L1 ⟨u1, rfl, hu1⟩
  refine WO.permF (L' := (p6, .cells [.int .i64 lo, .int .i64 hi] 37) :: (p5, .cells [.int .i64 lv, cv, sv] 25) :: L1) (by (refine perm_cnt fun _ _ => ?_; simp only [List.append_eq, List.cons_append, List.nil_append, List.count_append, List.count_cons, List.count_nil, Nat.add_zero, Nat.zero_add]; try ac_rfl)) ?_
  (refine St.move ?_; refine St.extract ?_; refine St.extract ?_; refine St.assign ?_; refine St.assign ?_; refine WO.nil ?_; refine WK.seq ?_; refine WK.seq ?_; refine WK.region ?_; refine St.move ?_; refine St.bin ?_; refine WO.nil ?_)
  refine St.splitC (fun h1 => ?_) (fun h1 => ?_)
  · rw [winR_no (by simpa using h1)] at hu1
    (refine WK.seq ?_; refine WK.region ?_)
    refine St.call (fun _ => rfl) (fun h2 hh => sanity_con h2 hh.gd) ?_
    (refine St.move ?_; refine St.move ?_)
    refine St.lenV rfl (isl_len hu1 Try.underlying40) ?_
    (refine St.bin ?_; refine St.pickT ?_; refine St.assign ?_; refine WO.nil ?_)
    refine St.ret (by first | exact .tmp .nil | exact .cell .nil | exact .cell (.tmp .nil) | exact .tmp (.tmp .nil) | exact .cell (.cell .nil) | exact .tmp (.cell .nil) | exact .nil | exact .tmp (.cell (.tmp .nil)) | exact .cell (.tmp (.tmp .nil)) | exact .cell (.cell (.tmp .nil)) | exact .tmp (.tmp (.tmp .nil)) | exact .cell (.cell (.cell .nil))) ?_
    rfl
  have e1 : minR lv (cys l) ss lo hi = 0 := by simpa using h1
  have m := minR_ok e1
  have m4 := m.n
  have w := m.w
  have hwd := winR_wd (lv := lv) (cs := cys l) (ss := ss) (lo := lo) (hi := hi) (height := height)
  have hWn := win_ok (p := hiP (hgt lv (cys l) ss lo) height) (lo := lo) (hi - lo + 1).toNat
  have hwr := winR_ok (height := height) e1
  rw [← hwr] at hWn
  have hkp : (at_ : Int) % (hi - lo + 1) = ((at_ % (hi - lo + 1).toNat : Nat) : Int) := by
    rw [Int.natCast_emod]
    congr 1
    omega
  have hkl : at_ % (hi - lo + 1).toNat < (hi - lo + 1).toNat := Nat.mod_lt _ (by omega)
  generalize hK : at_ % (hi - lo + 1).toNat = k at *
  have hins := ins_iff hWn hkl
  have hhR : heightR lv (cys l) ss (lo + (k : Int)) = (hgt lv (cys l) ss lo k, 0) := by
    unfold heightR
    rw [if_neg (by simp [show chkW lv (cys l) ss = 0 from by by_cases q : chkW lv (cys l) ss = 0; exact q; exact absurd e1 (by unfold minR; rw [if_pos q]; exact q)]), if_neg (by simp; omega)]
    rfl
  (refine WK.skip ?_; refine WK.seq ?_; refine WK.regionD ?_; refine St.fieldAddr ?_; refine St.load ?_; refine St.move ?_; refine St.conv ?_; refine St.fieldAddr ?_; refine St.load ?_; refine St.fieldAddr ?_; refine St.load ?_; refine St.binI ?_; refine St.binI ?_)
  refine St.binX (r := .int .i64 (k : Int)) ?_ rfl rfl ?_
  · have hnz : ¬ hi - lo + 1 = 0 := by omega
    have hwa : IntKind.wrap .i64 (at_ : Int) = at_ := wrap_ok (by omega)
    show (if hi - lo + 1 = 0 then none else some (AV.int .i64 ((IntKind.wrap .i64 (at_ : Int)).tmod (hi - lo + 1)))) = _
    rw [if_neg hnz, hwa, Int.tmod_eq_emod_of_nonneg (by omega), hkp]
  (refine St.binI ?_; refine St.assign ?_; refine WO.nil ?_; refine WK.seq ?_; refine WK.region ?_; refine St.load ?_; refine St.move ?_)
  refine St.call (fun _ => rfl) (fun h2 hh => height_con h2 hh.gd lv (lo + (k : Int)) cv sv l ss (hc.vw hh) (hs.vw hh)) ?_
  rw [hhR]
  (refine St.move ?_; refine St.extract ?_; refine St.extract ?_; refine St.assign ?_; refine St.assign ?_; refine WO.nil ?_; refine WK.seq ?_; refine WK.seq ?_; refine WK.region ?_; refine St.move ?_; refine St.bin ?_; refine St.move ?_; refine St.move ?_; refine St.move ?_)
  refine St.call (fun _ => rfl) (fun h2 hh => by
    have := inside_con h2 hh.gd (lo + (k : Int)) u1 _ (isl_wdv hu1 hh (fun x hx => by simp [hx])) (Nat.le_trans hwd.len (by omega))
    rw [hins] at this
    exact this) ?_
  (refine St.move ?_; refine St.move ?_; refine St.bin ?_; refine St.bin ?_; refine St.pickF ?_; refine WO.nil ?_)
  refine St.splitC (fun hb => ?_) (fun _ => ?_)
  · simp [hiP] at hb
  have hwl := hwd.len
  generalize hL : winR lv (cys l) ss lo hi height = wl at *
  (refine WK.skip ?_; refine WK.seq ?_; refine WK.region ?_; refine St.assign ?_; refine WO.nil ?_; refine WK.seq ?_; refine WK.seq ?_; refine WK.region ?_; refine St.assign ?_; refine WO.nil ?_; refine WK.block ?_)
  refine WK.perm (L' := (p6, .cells [.int .i64 lo, .int .i64 hi] 37) :: (p5, .cells [.int .i64 lv, cv, sv] 25) :: L1) (List.Perm.refl _) ?_
  refine WK.inv (ι := Nat) (fun i => [(3, .int .i64 height), (4, .int .u16 less), (5, .ptr p5 0), (6, .ptr p6 0), (11, u1), (16, .int .i64 (sumW wl i)), (17, .int .i64 i)]) (fun _ => (p6, .cells [.int .i64 lo, .int .i64 hi] 37) :: (p5, .cells [.int .i64 lv, cv, sv] 25) :: L1) (fun i => i ≤ wl.length) (fun i => wl.length - i) 0 (Nat.zero_le _) ⟨rfl, rfl, rfl, rfl, rfl, rfl, rfl, trivial⟩ (by (repeat (first | exact List.Sublist.refl _ | exact List.nil_sublist _ | apply List.Sublist.cons_cons | apply List.Sublist.cons))) ?_
  intro i hil ih
  obtain ⟨s1, s2⟩ := sumW_bd hwd i hil
  (refine WK.seq ?_; refine WK.seq ?_; refine WK.region ?_; refine St.move ?_; refine St.move ?_)
  refine St.lenV rfl (isl_len hu1 Try.underlying40) ?_
  (refine St.bin ?_; refine WO.nil ?_)
  refine St.splitC (fun hcc => ?_) (fun hcc => ?_)
  · have hlt : i < wl.length := by simp at hcc; omega
    have hst := sumW_succ hlt
    obtain ⟨a1, a2, a3, a4⟩ := hwd.one i hlt
    obtain ⟨q1, q2, q3, _⟩ := hWn.one i hlt
    obtain ⟨js, c, o, rfl, rfl, ho, hol⟩ := hu1.ne (by omega)
    (refine WK.skip ?_; refine WK.seq ?_; refine WK.block ?_; refine WK.seq ?_; refine WK.seq ?_; refine WK.regionD ?_; refine St.move ?_; refine St.move ?_)
    refine St.at ?_
    (refine St.fieldAddr ?_)
    refine St.loadX (fun h2 hh => ((has_wdh hh (j := js) (o := o) (by simp) ho).lo_ (z := (i : Int)) (n := i) (by omega) hlt).one rfl) ?_
    (refine St.move ?_; refine St.move ?_)
    refine St.at ?_
    (refine St.fieldAddr ?_)
    refine St.loadX (fun h2 hh => ((has_wdh hh (j := js) (o := o) (by simp) ho).hi_ (z := (i : Int)) (n := i) (by omega) hlt).one rfl) ?_
    (refine St.bin ?_; refine St.move ?_)
    refine St.split (fun hb => ?_) (fun _ => ?_)
    · simp at hb
      omega
    (refine St.move ?_; refine St.move ?_)
    refine St.at ?_
    (refine St.fieldAddr ?_)
    refine St.loadX (fun h2 hh => ((has_wdh hh (j := js) (o := o) (by simp) ho).lo_ (z := (i : Int)) (n := i) (by omega) hlt).one rfl) ?_
    (refine St.fieldAddr ?_; refine St.load ?_; refine St.bin ?_; refine St.pickF ?_; refine St.move ?_)
    refine St.split (fun hb => ?_) (fun _ => ?_)
    · simp at hb
      omega
    (refine St.move ?_; refine St.move ?_)
    refine St.at ?_
    (refine St.fieldAddr ?_)
    refine St.loadX (fun h2 hh => ((has_wdh hh (j := js) (o := o) (by simp) ho).hi_ (z := (i : Int)) (n := i) (by omega) hlt).one rfl) ?_
    (refine St.fieldAddr ?_; refine St.load ?_; refine St.bin ?_; refine St.pickF ?_; refine St.move ?_)
    refine St.split (fun hb => ?_) (fun _ => ?_)
    · simp at hb
      omega
    have body : WK Try.prog Bs _ h [] _ [] _ _ _ := ih (i + 1) hlt (by omega)
    clear ih
    cases i with
    | zero =>
      (refine St.move ?_; refine St.bin ?_; refine St.move ?_; refine St.skip ?_; refine St.skip ?_; refine St.skip ?_; refine St.skip ?_; refine St.skip ?_; refine St.skip ?_; refine St.skip ?_; refine St.skip ?_; refine St.skip ?_; refine St.skip ?_; refine St.skip ?_; refine St.skip ?_; refine St.skip ?_; refine St.pickF ?_; refine St.pickF ?_; refine WO.nil ?_; refine WK.condF ?_; refine WK.skip ?_; refine WK.regionD ?_; refine St.move ?_; refine St.move ?_; refine St.move ?_)
      refine St.at ?_
      (refine St.fieldAddr ?_)
      refine St.loadX (fun h2 hh => ((has_wdh hh (j := js) (o := o) (by simp) ho).hi_ (z := ((0 : Nat) : Int)) (n := 0) (by omega) hlt).one rfl) ?_
      (refine St.binI ?_; refine St.move ?_; refine St.move ?_)
      refine St.at ?_
      (refine St.fieldAddr ?_)
      refine St.loadX (fun h2 hh => ((has_wdh hh (j := js) (o := o) (by simp) ho).lo_ (z := ((0 : Nat) : Int)) (n := 0) (by omega) hlt).one rfl) ?_
      (refine St.binI ?_; refine St.binI ?_; refine St.assign ?_; refine WO.nil ?_; refine WK.blk ?_; refine WK.region ?_; refine St.move ?_; refine St.binI ?_; refine St.assign ?_; refine WO.nil ?_)
      refine WK.le ?_ (by (repeat (first | exact List.Sublist.refl _ | exact List.nil_sublist _ | apply List.Sublist.cons_cons | apply List.Sublist.cons))) body
      exact ⟨rfl, rfl, rfl, rfl, rfl, congrArg (fun z => some (AV.int .i64 z)) (by rw [hst]; omega), rfl, trivial⟩
    | succ i =>
      have htw := hWn.two i hlt
      (refine St.move ?_; refine St.bin ?_; refine St.move ?_)
      refine St.split (fun _ => ?_) (fun hb => ?_)
      rotate_left
      · simp at hb
      (refine St.move ?_; refine St.move ?_)
      refine St.at ?_
      (refine St.fieldAddr ?_)
      refine St.loadX (fun h2 hh => ((has_wdh hh (j := js) (o := o) (by simp) ho).lo_ (z := ((i + 1 : Nat) : Int)) (n := i + 1) (by omega) hlt).one rfl) ?_
      (refine St.move ?_; refine St.move ?_; refine St.binI ?_)
      refine St.at ?_
      (refine St.fieldAddr ?_)
      refine St.loadX (fun h2 hh => ((has_wdh hh (j := js) (o := o) (by simp) ho).hi_ (z := ((i + 1 : Nat) : Int) - 1) (n := i) (by omega) (by omega)).one rfl) ?_
      obtain ⟨y1, y2, y3, y4⟩ := hwd.one i (by omega)
      (refine St.binI ?_; refine St.bin ?_; refine St.pickT ?_; refine St.pickF ?_; refine WO.nil ?_)
      refine St.splitC (fun hb => ?_) (fun _ => ?_)
      · simp at hb
        omega
      (refine WK.skip ?_; refine WK.regionD ?_; refine St.move ?_; refine St.move ?_; refine St.move ?_)
      refine St.at ?_
      (refine St.fieldAddr ?_)
      refine St.loadX (fun h2 hh => ((has_wdh hh (j := js) (o := o) (by simp) ho).hi_ (z := ((i + 1 : Nat) : Int)) (n := i + 1) (by omega) hlt).one rfl) ?_
      (refine St.binI ?_; refine St.move ?_; refine St.move ?_)
      refine St.at ?_
      (refine St.fieldAddr ?_)
      refine St.loadX (fun h2 hh => ((has_wdh hh (j := js) (o := o) (by simp) ho).lo_ (z := ((i + 1 : Nat) : Int)) (n := i + 1) (by omega) hlt).one rfl) ?_
      (refine St.binI ?_; refine St.binI ?_; refine St.assign ?_; refine WO.nil ?_; refine WK.blk ?_; refine WK.region ?_; refine St.move ?_; refine St.binI ?_; refine St.assign ?_; refine WO.nil ?_)
      refine WK.le ?_ (by (repeat (first | exact List.Sublist.refl _ | exact List.nil_sublist _ | apply List.Sublist.cons_cons | apply List.Sublist.cons))) body
      exact ⟨rfl, rfl, rfl, rfl, rfl, congrArg (fun z => some (AV.int .i64 z)) (by rw [hst]; omega), rfl, trivial⟩
  have : i = wl.length := by simp at hcc; omega
  subst this
  clear ih
  (refine WK.exit ?_; refine WK.seq ?_; refine WK.region ?_; refine St.load ?_; refine St.load ?_; refine St.move ?_)
  refine St.call (fun _ => rfl) (fun h2 hh => minutes_con h2 hh.gd lv lo hi height cv sv l ss (hc.vw hh) (hs.vw hh)) ?_
  rw [hL, e1]
  (refine St.move ?_; refine St.extract ?_; refine St.extract ?_; refine St.assign ?_; refine St.assign ?_; refine WO.nil ?_; refine WK.seq ?_; refine WK.seq ?_; refine WK.region ?_; refine St.move ?_; refine St.bin ?_; refine WO.nil ?_)
  refine St.splitC (fun h3 => ?_) (fun h3 => ?_)
  · (refine WK.seq ?_; refine WK.region ?_)
    refine St.call (fun _ => rfl) (fun h2 hh => sanity_con h2 hh.gd) ?_
    (refine St.assign ?_; refine WO.nil ?_)
    refine St.ret (by first | exact .tmp .nil | exact .cell .nil | exact .cell (.tmp .nil) | exact .tmp (.tmp .nil) | exact .cell (.cell .nil) | exact .tmp (.cell .nil) | exact .nil | exact .tmp (.cell (.tmp .nil)) | exact .cell (.tmp (.tmp .nil)) | exact .cell (.cell (.tmp .nil)) | exact .tmp (.tmp (.tmp .nil)) | exact .cell (.cell (.cell .nil))) ?_
    rfl
  have hlow : -1099511627776 ≤ height := by simpa using h3
  have hwless : IntKind.wrap .i64 (less : Int) = less := wrap_ok (by omega)
  have hWn2 := win_ok (p := hiP (hgt lv (cys l) ss lo) (height - (less : Int))) (lo := lo) (hi - lo + 1).toNat
  rw [← winR_ok e1] at hWn2
  have hwd2 := winR_wd (lv := lv) (cs := cys l) (ss := ss) (lo := lo) (hi := hi) (height := height - (less : Int))
  have hin := in_iff hWn hWn2 (fun i _ hp => by
    unfold hiP at hp ⊢
    simp at hp ⊢
    omega)
  (refine WK.skip ?_; refine WK.seq ?_; refine WK.region ?_; refine St.load ?_; refine St.load ?_; refine St.move ?_; refine St.move ?_; refine St.conv ?_; refine St.binI ?_)
  refine St.callR (fun _ => rfl) (fun h2 hh => windowsP_con h2 hh.gd lv lo hi _ cv sv l ss (hc.vw hh) (hs.vw hh)) ?_
  rintro v2 L2 ⟨u2, rfl, hu2⟩
  rw [hwless] at hu2
  rw [e1]
  (refine St.move ?_; refine St.extract ?_; refine St.extract ?_; refine St.assign ?_; refine St.assign ?_; refine WO.nil ?_; refine WK.seq ?_; refine WK.region ?_)
  refine St.call (fun _ => rfl) (fun h2 hh => sanity_con h2 hh.gd) ?_
  (refine St.move ?_; refine St.move ?_; refine St.bin ?_; refine St.pickT ?_; refine St.move ?_; refine St.move ?_; refine St.move ?_; refine St.bin ?_; refine St.pickT ?_; refine St.move ?_)
  refine St.split (fun _ => ?_) (fun hb => ?_)
  rotate_left
  · simp at hb
  (refine St.move ?_; refine St.bin ?_; refine St.pickT ?_; refine St.move ?_; refine St.move ?_; refine St.move ?_)
  refine St.call (fun _ => rfl) (fun h2 hh => withinW_con h2 hh.gd u1 u2 _ _ (isl_wdv hu1 hh (fun x hx => by simp [hx])) (isl_wdv hu2 hh (fun x hx => by simp [hx])) (Nat.le_trans hwd.len (by omega)) (Nat.le_trans hwd2.len (by omega)) hin) ?_
  (refine St.pickT ?_; refine St.assign ?_; refine WO.nil ?_)
  refine St.ret (by first | exact .tmp .nil | exact .cell .nil | exact .cell (.tmp .nil) | exact .tmp (.tmp .nil) | exact .cell (.cell .nil) | exact .tmp (.cell .nil) | exact .nil | exact .tmp (.cell (.tmp .nil)) | exact .cell (.tmp (.tmp .nil)) | exact .cell (.cell (.tmp .nil)) | exact .tmp (.tmp (.tmp .nil)) | exact .cell (.cell (.cell .nil))) ?_
  rfl
end Go.Proofs.Ytekpffjcffeanaa
