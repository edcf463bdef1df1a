/- The law TideHighAndLow over the calculator's memory. -/
import Derived.Test.YtekpffjcffeanaaWl
import Derived.Test.YtekpffjcffeanaaWg
import Derived.Test.YtekpffjcffeanaaWt
namespace Go.Proofs.Ytekpffjcffeanaa
open Go.Proofs.Ytekpffjcffeanaa.Ev

theorem heightR_ok {lv : Int} {cs : List Cy} {ss : List Sh} {lo hi : Int} (m : MinOk lv cs ss lo hi) (e : chkW lv cs ss = 0) {k : Nat} (hk : k < (hi - lo + 1).toNat) : heightR lv cs ss (lo + (k : Int)) = (hgt lv cs ss lo k, 0) := by
  have m1 := m.l1
  have m3 := m.h2
  unfold heightR
  rw [if_neg (by simp [e]), if_neg (by simp; omega)]
  rfl
theorem minR_chk {lv : Int} {cs : List Cy} {ss : List Sh} {lo hi : Int} (h : minR lv cs ss lo hi = 0) : chkW lv cs ss = 0 := by
  by_cases q : chkW lv cs ss = 0
  · exact q
  · exact absurd h (by unfold minR; rw [if_pos q]; exact q)
theorem sdEq_lo {x y : Sd} (h : x.lo ≠ y.lo) : sdEq x y = false := by
  unfold sdEq
  simp [h]
set_option maxRecDepth 100000 in
set_option maxHeartbeats 64000000 in
theorem highLow_con (h : Heap) (g : Gd h) (lv lo hi : Int) (cv sv : AV) (cl : List Cw) (ss : List Sh) (hc : CyV h cv cl) (hs : ShV h sv ss) (hcl : cl.length ≤ 9223372036854775807) :
    Con Try.prog Bs 5 [.agg [.int .i64 lv, cv, sv], .agg [.int .i64 lo, .int .i64 hi]] h [] (.bool true) [] := by
  refine Con.start rfl Try.func5 rfl rfl Try.ntmps5 rfl rfl g ?_
  (refine WK.seq ?_; refine WK.region ?_; refine St.box fun _ _ => ?_; refine St.box fun _ _ => ?_; refine St.assign ?_; refine WO.nil ?_; refine WK.seq ?_; refine WK.seq ?_; refine WK.region ?_; refine St.load ?_)
  rename_i p2 hp2 p3 hp3
  refine St.call (fun _ => rfl) (fun h2 hh => few_con h2 hh.gd lv cv sv cl ss (hc.vw hh) (hs.vw hh) hcl) ?_
  (refine St.un ?_; refine St.move ?_)
  refine St.split (fun h1 => ?_) (fun h1 => ?_)
  · (refine St.skip ?_; refine St.skip ?_; refine St.skip ?_; refine St.pickT ?_; refine WO.nil ?_; refine WK.condT ?_; refine WK.seq ?_; refine WK.region ?_)
    refine St.call (fun _ => rfl) (fun h2 hh => sanity_con h2 hh.gd) ?_
    (refine St.assign ?_; refine WO.nil ?_)
    refine St.ret (by first | exact .tmp .nil | exact .cell .nil | exact .cell (.tmp .nil) | exact .tmp (.tmp .nil) | exact .cell (.cell .nil) | exact .tmp (.cell .nil) | exact .nil | exact .tmp (.cell (.tmp .nil)) | exact .cell (.tmp (.tmp .nil)) | exact .cell (.cell (.tmp .nil)) | exact .tmp (.tmp (.tmp .nil)) | exact .cell (.cell (.cell .nil))) ?_
    rfl
  (refine St.load ?_)
  refine St.call (fun _ => rfl) (fun h2 hh => short_con h2 hh.gd lo hi) ?_
  (refine St.un ?_; refine St.pickF ?_; refine WO.nil ?_)
  refine St.splitC (fun h1 => ?_) (fun h1 => ?_)
  · (refine WK.seq ?_; refine WK.region ?_)
    refine St.call (fun _ => rfl) (fun h2 hh => sanity_con h2 hh.gd) ?_
    (refine St.assign ?_; refine WO.nil ?_)
    refine St.ret (by first | exact .tmp .nil | exact .cell .nil | exact .cell (.tmp .nil) | exact .tmp (.tmp .nil) | exact .cell (.cell .nil) | exact .tmp (.cell .nil) | exact .nil | exact .tmp (.cell (.tmp .nil)) | exact .cell (.tmp (.tmp .nil)) | exact .cell (.cell (.tmp .nil)) | exact .tmp (.tmp (.tmp .nil)) | exact .cell (.cell (.cell .nil))) ?_
    rfl
  clear h1
  (refine WK.skip ?_; refine WK.seq ?_; refine WK.region ?_; refine St.load ?_; refine St.load ?_)
  refine St.callR (fun _ => rfl) (fun h2 hh => standsL_con h2 hh.gd lv lo hi cv sv cl ss (hc.vw hh) (hs.vw hh)) ?_
  rintro v1 L1 ⟨u1, rfl, hu1⟩
  refine WO.permF (L' := (p3, .cells [.int .i64 lo, .int .i64 hi] 37) :: (p2, .cells [.int .i64 lv, cv, sv] 25) :: L1) (by (refine perm_cnt fun _ _ => ?_; simp only [List.append_eq, List.cons_append, List.nil_append, List.count_append, List.count_cons, List.count_nil, Nat.add_zero, Nat.zero_add]; try ac_rfl)) ?_
  (refine St.move ?_; refine St.extract ?_; refine St.extract ?_; refine St.assign ?_; refine St.assign ?_; refine WO.nil ?_; refine WK.seq ?_; refine WK.region ?_; refine St.load ?_; refine St.load ?_)
  refine St.callR (fun _ => rfl) (fun h2 hh => high_con h2 hh.gd lv lo hi cv sv cl ss (hc.vw hh) (hs.vw hh)) ?_
  rintro v2 L2 ⟨u2, rfl, hu2⟩
  refine WO.permF (L' := (p3, .cells [.int .i64 lo, .int .i64 hi] 37) :: (p2, .cells [.int .i64 lv, cv, sv] 25) :: (L1 ++ L2)) (by (refine perm_cnt fun _ _ => ?_; simp only [List.append_eq, List.cons_append, List.nil_append, List.count_append, List.count_cons, List.count_nil, Nat.add_zero, Nat.zero_add]; try ac_rfl)) ?_
  (refine St.move ?_; refine St.extract ?_; refine St.extract ?_; refine St.assign ?_; refine St.assign ?_; refine WO.nil ?_; refine WK.seq ?_; refine WK.region ?_; refine St.load ?_; refine St.load ?_)
  refine St.callR (fun _ => rfl) (fun h2 hh => low_con h2 hh.gd lv lo hi cv sv cl ss (hc.vw hh) (hs.vw hh)) ?_
  rintro v3 L3 ⟨u3, rfl, hu3⟩
  refine WO.permF (L' := (p3, .cells [.int .i64 lo, .int .i64 hi] 37) :: (p2, .cells [.int .i64 lv, cv, sv] 25) :: (L1 ++ (L2 ++ L3))) (by (refine perm_cnt fun _ _ => ?_; simp only [List.append_eq, List.cons_append, List.nil_append, List.count_append, List.count_cons, List.count_nil, Nat.add_zero, Nat.zero_add]; try ac_rfl)) ?_
  (refine St.move ?_; refine St.extract ?_; refine St.extract ?_; refine St.assign ?_; refine St.assign ?_; refine WO.nil ?_; refine WK.seq ?_; refine WK.seq ?_; refine WK.region ?_; refine St.move ?_; refine St.move ?_; refine St.bin ?_; refine St.move ?_)
  refine St.split (fun hb => ?_) (fun _ => ?_)
  · simp at hb
  (refine St.move ?_; refine St.move ?_; refine St.bin ?_; refine St.pickF ?_; refine WO.nil ?_)
  refine St.splitC (fun hb => ?_) (fun _ => ?_)
  · simp at hb
  (refine WK.skip ?_; refine WK.seq ?_; refine WK.seq ?_; refine WK.region ?_; refine St.move ?_; refine St.bin ?_; refine WO.nil ?_)
  refine St.splitC (fun h1 => ?_) (fun h1 => ?_)
  · (refine WK.seq ?_; refine WK.region ?_)
    refine St.call (fun _ => rfl) (fun h2 hh => sanity_con h2 hh.gd) ?_
    (refine St.assign ?_; refine WO.nil ?_)
    refine St.ret (by first | exact .tmp .nil | exact .cell .nil | exact .cell (.tmp .nil) | exact .tmp (.tmp .nil) | exact .cell (.cell .nil) | exact .tmp (.cell .nil) | exact .nil | exact .tmp (.cell (.tmp .nil)) | exact .cell (.tmp (.tmp .nil)) | exact .cell (.cell (.tmp .nil)) | exact .tmp (.tmp (.tmp .nil)) | exact .cell (.cell (.cell .nil))) ?_
    rfl
  have e1 : minR lv (cys cl) ss lo hi = 0 := by simpa using h1
  have m := minR_ok e1
  have m1 := m.l1
  have m2 := m.le
  have m3 := m.h2
  have m4 := m.n
  have ec := minR_chk e1
  have hhR := fun k hk => heightR_ok m ec (k := k) hk
  obtain ⟨n, hn⟩ : ∃ n, (hi - lo + 1).toNat = n + 1 := ⟨(hi - lo + 1).toNat - 1, by omega⟩
  have hstl := all_stl (f := hgt lv (cys cl) ss lo) (lo := lo) n
  rw [← hn, ← stdR_ok e1] at hstl
  have hlen := stdR_len (lv := lv) (cs := cys cl) (ss := ss) (lo := lo) (hi := hi)
  unfold trnR at hu2 hu3
  generalize stdR lv (cys cl) ss lo hi = l at *
  have hlp : 0 < l.length := List.length_pos_iff.2 hstl.ne
  obtain ⟨js, c, o, rfl, rfl, ho, hol⟩ := hu1.ne hlp
  have t2 := turnS_len l true l.length
  have t3 := turnS_len l false l.length
  (refine WK.skip ?_; refine WK.seq ?_; refine WK.seq ?_; refine WK.regionD ?_; refine St.move ?_; refine St.len ?_; refine St.bin ?_; refine St.move ?_)
  refine St.split (fun hb => ?_) (fun _ => ?_)
  · rw [beq_iff_eq] at hb
    omega
  (refine St.move ?_)
  refine St.at ?_
  (refine St.fieldAddr ?_; refine St.fieldAddr ?_)
  refine St.loadX (fun h2 hh => ((has_sth hh (j := js) (o := o) (by simp) ho).lo_ (z := 0) (n := 0) (by omega) hlp).one rfl) ?_
  rw [hstl.first]
  (refine St.fieldAddr ?_; refine St.load ?_; refine St.bin ?_; refine St.pickF ?_; refine St.move ?_)
  refine St.split (fun hb => ?_) (fun _ => ?_)
  · simp at hb
  (refine St.move ?_; refine St.move ?_; refine St.len ?_; refine St.binI ?_)
  refine St.at ?_
  (refine St.fieldAddr ?_; refine St.fieldAddr ?_)
  refine St.loadX (fun h2 hh => ((has_sth hh (j := js) (o := o) (by simp) ho).hi_ (z := (l.length : Int) - 1) (n := l.length - 1) (by omega) (by omega)).one rfl) ?_
  rw [hstl.last]
  (refine St.fieldAddr ?_; refine St.load ?_; refine St.bin ?_; refine St.pickF ?_; refine WO.nil ?_)
  refine St.splitC (fun hb => ?_) (fun _ => ?_)
  · simp at hb
    omega
  (refine WK.skip ?_; refine WK.seq ?_; refine WK.region ?_; refine St.assign ?_; refine WO.nil ?_; refine WK.seq ?_; refine WK.region ?_; refine St.assign ?_; refine WO.nil ?_; refine WK.seq ?_; refine WK.region ?_; refine St.assign ?_; refine WO.nil ?_; refine WK.seq ?_; refine WK.seq ?_; refine WK.region ?_; refine St.assign ?_; refine WO.nil ?_; refine WK.block ?_)
  refine WK.inv (ι := Nat × Int) (fun z => [(2, .ptr p2 0), (3, .ptr p3 0), (5, .slice js 0 l.length c), (7, u2), (9, u3), (11, .int .i64 ((turnS l true z.1).length : Int)), (12, .int .i64 ((turnS l false z.1).length : Int)), (13, .int .i64 z.2), (14, .int .i64 z.1)]) (fun _ => (p3, .cells [.int .i64 lo, .int .i64 hi] 37) :: (p2, .cells [.int .i64 lv, cv, sv] 25) :: ([(js, o)] ++ (L2 ++ L3))) (fun z => z.1 ≤ l.length ∧ Dir l z.1 z.2) (fun z => l.length - z.1) (0, 0) ⟨Nat.zero_le _, dir_zero l⟩ ⟨rfl, rfl, rfl, rfl, rfl, rfl, rfl, rfl, rfl, trivial⟩ (List.Sublist.refl _) ?_
  rintro ⟨i, x⟩ ⟨hil, hdir⟩ ih
  simp only at hil hdir ih ⊢
  have ti2 := turnS_len l true i
  have ti3 := turnS_len l false i
  (refine WK.seq ?_; refine WK.seq ?_; refine WK.region ?_; refine St.move ?_; refine St.move ?_; refine St.len ?_; refine St.bin ?_; refine WO.nil ?_)
  refine St.splitC (fun hcc => ?_) (fun hcc => ?_)
  rotate_left
  · have : i = l.length := by simp at hcc; omega
    subst this
    (refine WK.exit ?_; refine WK.seq ?_; refine WK.region ?_)
    refine St.call (fun _ => rfl) (fun h2 hh => sanity_con h2 hh.gd) ?_
    (refine St.move ?_; refine St.move ?_; refine St.move ?_)
    refine St.lenV rfl (isl_len hu2 Try.underlying47) ?_
    (refine St.bin ?_; refine St.pickT ?_; refine St.move ?_)
    refine St.split (fun _ => ?_) (fun hb => ?_)
    rotate_left
    · simp at hb
    (refine St.move ?_; refine St.move ?_)
    refine St.lenV rfl (isl_len hu3 Try.underlying47) ?_
    (refine St.bin ?_; refine St.pickT ?_; refine St.assign ?_; refine WO.nil ?_)
    refine St.ret (by first | exact .tmp .nil | exact .cell .nil | exact .cell (.tmp .nil) | exact .tmp (.tmp .nil) | exact .cell (.cell .nil) | exact .tmp (.cell .nil) | exact .nil | exact .tmp (.cell (.tmp .nil)) | exact .cell (.tmp (.tmp .nil)) | exact .cell (.cell (.tmp .nil)) | exact .tmp (.tmp (.tmp .nil)) | exact .cell (.cell (.cell .nil))) ?_
    simp [oneOf]
  have hlt : i < l.length := by simp at hcc; omega
  obtain ⟨a1, a2, a3, a4⟩ := hstl.one i hlt
  obtain ⟨k, hk⟩ : ∃ k : Nat, (nthD l i).lo = lo + (k : Int) := ⟨((nthD l i).lo - lo).toNat, by omega⟩
  have hkn : k < (hi - lo + 1).toNat := by omega
  have hfk := a4 k (by omega) (by omega)
  have hR := hhR k hkn
  rw [hfk, ← hk] at hR
  (refine WK.skip ?_; refine WK.seq ?_; refine WK.block ?_; refine WK.seq ?_; refine WK.regionD ?_; refine St.load ?_; refine St.move ?_; refine St.move ?_)
  refine St.at ?_
  (refine St.fieldAddr ?_; refine St.fieldAddr ?_)
  refine St.loadX (fun h2 hh => ((has_sth hh (j := js) (o := o) (by simp) ho).lo_ (z := (i : Int)) (n := i) (by omega) hlt).one rfl) ?_
  skip
  refine St.call (fun _ => rfl) (fun h2 hh => height_con h2 hh.gd lv (nthD l i).lo cv sv cl ss (hc.vw hh) (hs.vw hh)) ?_
  rw [hR]
  (refine St.move ?_; refine St.extract ?_; refine St.extract ?_; refine St.assign ?_; refine St.assign ?_; refine WO.nil ?_; refine WK.seq ?_; refine WK.seq ?_; refine WK.regionD ?_; refine St.move ?_; refine St.bin ?_; refine St.move ?_; refine St.move ?_; refine St.move ?_; refine St.move ?_)
  refine St.at ?_
  (refine St.fieldAddr ?_)
  refine St.loadX (fun h2 hh => ((has_sth hh (j := js) (o := o) (by simp) ho).ht_ (z := (i : Int)) (n := i) (by omega) hlt).one rfl) ?_
  (refine St.bin ?_; refine St.pickF ?_; refine St.move ?_)
  refine St.split (fun hb => ?_) (fun _ => ?_)
  · simp at hb
  (refine St.move ?_; refine St.move ?_)
  refine St.at ?_
  (refine St.fieldAddr ?_; refine St.fieldAddr ?_)
  refine St.loadX (fun h2 hh => ((has_sth hh (j := js) (o := o) (by simp) ho).lo_ (z := (i : Int)) (n := i) (by omega) hlt).one rfl) ?_
  (refine St.move ?_; refine St.move ?_)
  refine St.at ?_
  (refine St.fieldAddr ?_; refine St.fieldAddr ?_)
  refine St.loadX (fun h2 hh => ((has_sth hh (j := js) (o := o) (by simp) ho).hi_ (z := (i : Int)) (n := i) (by omega) hlt).one rfl) ?_
  (refine St.bin ?_; refine St.pickF ?_; refine St.move ?_)
  refine St.split (fun hb => ?_) (fun _ => ?_)
  · simp at hb
    omega
  (refine St.move ?_; refine St.bin ?_; refine St.move ?_)
  refine St.split (fun hb => ?_) (fun hb => ?_)
  focus
    have hpi : 1 ≤ i := by simp at hb; omega
    have two := hstl.two (i - 1) (by omega)
    rw [show i - 1 + 1 = i by omega] at two
    clear hb
    (refine St.move ?_; refine St.move ?_)
    refine St.at ?_
    (refine St.fieldAddr ?_; refine St.fieldAddr ?_)
    refine St.loadX (fun h2 hh => ((has_sth hh (j := js) (o := o) (by simp) ho).lo_ (z := (i : Int)) (n := i) (by omega) hlt).one rfl) ?_
    (refine St.move ?_; refine St.move ?_; refine St.binI ?_)
    refine St.at ?_
    (refine St.fieldAddr ?_; refine St.fieldAddr ?_)
    refine St.loadX (fun h2 hh => ((has_sth hh (j := js) (o := o) (by simp) ho).hi_ (z := (i : Int) - 1) (n := i - 1) (by omega) (by omega)).one rfl) ?_
    (refine St.binI ?_; refine St.bin ?_; refine St.move ?_)
    refine St.split (fun hb => ?_) (fun _ => ?_)
    · exfalso
      simp at hb
      omega
    (refine St.move ?_; refine St.move ?_)
    refine St.at ?_
    (refine St.fieldAddr ?_)
    refine St.loadX (fun h2 hh => ((has_sth hh (j := js) (o := o) (by simp) ho).ht_ (z := (i : Int)) (n := i) (by omega) hlt).one rfl) ?_
    (refine St.move ?_; refine St.move ?_; refine St.binI ?_)
    refine St.at ?_
    (refine St.fieldAddr ?_)
    refine St.loadX (fun h2 hh => ((has_sth hh (j := js) (o := o) (by simp) ho).ht_ (z := (i : Int) - 1) (n := i - 1) (by omega) (by omega)).one rfl) ?_
    (refine St.bin ?_; refine St.pickF ?_; refine St.pickT ?_; refine St.pickF ?_; refine WO.nil ?_)
    refine St.splitC (fun hb => ?_) (fun _ => ?_)
    · exfalso
      simp at hb
      omega
    clear two hpi
  all_goals
    cases ht : turnB l true i with
    | true =>
      obtain ⟨q1, q2⟩ := (turnS_next hlt).1 ht
      obtain ⟨y1, y2, y3⟩ := dir_high hdir ht
      have s2 := turnS_succ l true i
      have s3 := turnS_succ l false i
      rw [if_pos ht] at s2
      rw [if_neg (by simp [y2])] at s3
      (refine St.skip ?_; refine St.skip ?_; refine St.skip ?_; refine St.skip ?_; refine St.skip ?_; refine St.skip ?_; refine St.skip ?_; refine St.skip ?_; refine St.skip ?_; refine St.skip ?_; refine St.skip ?_; refine St.skip ?_; refine St.skip ?_; refine St.skip ?_; refine St.skip ?_; refine St.skip ?_; refine St.skip ?_; refine St.skip ?_; refine St.skip ?_; refine St.skip ?_; refine St.skip ?_; refine St.skip ?_; refine St.skip ?_; refine St.skip ?_; refine St.skip ?_; refine St.skip ?_; refine St.skip ?_; refine St.skip ?_; refine St.skip ?_; refine St.pickF ?_; refine St.pickF ?_; refine WO.nil ?_; refine WK.condF ?_; refine WK.skip ?_; refine WK.seq ?_; refine WK.region ?_; refine St.assign ?_; refine WO.nil ?_; refine WK.seq ?_; refine WK.seq ?_; refine WK.regionD ?_; refine St.move ?_; refine St.move ?_)
      refine St.lenV rfl (isl_len hu2 Try.underlying47) ?_
      (refine St.bin ?_; refine St.move ?_)
      refine St.split (fun _ => ?_) (fun hb => ?_)
      rotate_left
      · exfalso
        simp at hb
        omega
      obtain ⟨ja, cja, oa, e5, e6, hoa, _⟩ := hu2.ne (by omega)
      subst e5
      subst e6
      (refine St.move ?_; refine St.move ?_)
      refine St.at ?_
      skip
      refine St.loadX (fun h2 hh => ((has_sth hh (j := ja) (o := oa) (by simp) hoa).at_ (z := (((turnS l true i).length : Int) : Int)) (n := (turnS l true i).length) (by omega) q1).agg (by simp) rfl rfl rfl) ?_
      (refine St.move ?_; refine St.move ?_)
      refine St.at ?_
      skip
      refine St.loadX (fun h2 hh => ((has_sth hh (j := js) (o := o) (by simp) ho).at_ (z := ((i : Int) : Int)) (n := i) (by omega) hlt).agg (by simp) rfl rfl rfl) ?_
      refine St.binX (sd_eql _ _) rfl rfl ?_
      rw [q2, sdEq_self]
      (refine St.pickT ?_; refine WO.nil ?_; refine WK.condT ?_; refine WK.seq ?_; refine WK.region ?_; refine St.move ?_; refine St.binI ?_; refine St.assign ?_; refine WO.nil ?_; refine WK.region ?_; refine St.assign ?_; refine WO.nil ?_; refine WK.seq ?_; refine WK.seq ?_; refine WK.regionD ?_; refine St.move ?_; refine St.move ?_)
      skip
      refine St.lenV rfl (isl_len hu3 Try.underlying47) ?_
      (refine St.bin ?_; refine St.move ?_)
      refine St.split (fun hb => ?_) (fun hb => ?_)
      focus
        have g1 : (turnS l false i).length < (turnS l false l.length).length := by simpa using hb
        obtain ⟨i2, g2, g3, g4⟩ := (turnS_next hlt).2 y2 g1
        have g5 := hstl.ne_of g2 g3
        obtain ⟨jb, cjb, ob, e5, e6, hob, _⟩ := hu3.ne (by omega)
        subst e5
        subst e6
        (refine St.move ?_; refine St.move ?_)
        refine St.at ?_
        skip
        refine St.loadX (fun h2 hh => ((has_sth hh (j := jb) (o := ob) (by simp) hob).at_ (z := (((turnS l false i).length : Int) : Int)) (n := (turnS l false i).length) (by omega) g1).agg (by simp) rfl rfl rfl) ?_
        (refine St.move ?_; refine St.move ?_)
        refine St.at ?_
        skip
        refine St.loadX (fun h2 hh => ((has_sth hh (j := js) (o := o) (by simp) ho).at_ (z := ((i : Int) : Int)) (n := i) (by omega) hlt).agg (by simp) rfl rfl rfl) ?_
        refine St.binX (sd_eql _ _) rfl rfl ?_
        rw [g4, sdEq_lo (by omega)]
      all_goals
        clear hb
        (refine St.skip ?_; refine St.skip ?_; refine St.skip ?_; refine St.skip ?_; refine St.skip ?_; refine St.skip ?_; refine St.skip ?_; refine St.skip ?_; refine St.skip ?_; refine St.pickF ?_; refine WO.nil ?_; refine WK.condF ?_; refine WK.skip ?_; refine WK.seq ?_; refine WK.seq ?_; refine WK.region ?_; refine St.move ?_; refine St.bin ?_; refine St.move ?_; refine St.move ?_; refine St.move ?_; refine St.bin ?_; refine St.pickT ?_; refine WO.nil ?_)
        refine St.splitC (fun hb => ?_) (fun _ => ?_)
        · exfalso
          simp at hb
          omega
        (refine WK.skip ?_; refine WK.seq ?_; refine WK.region ?_; refine St.move ?_; refine St.bin ?_; refine WO.nil ?_; refine WK.condT ?_; refine WK.region ?_; refine St.move ?_; refine St.assign ?_; refine WO.nil ?_; refine WK.blk ?_; refine WK.region ?_; refine St.move ?_; refine St.binI ?_; refine St.assign ?_; refine WO.nil ?_)
        refine WK.le ?_ (by (repeat (first | exact List.Sublist.refl _ | exact List.nil_sublist _ | apply List.Sublist.cons_cons | apply List.Sublist.cons))) (ih (i + 1, 1) ⟨by simp only; omega, by simp only; exact y3⟩ (by simp only; omega))
        simp only [s2, s3, List.length_append, List.length_cons, List.length_nil]
        exact ⟨rfl, rfl, rfl, rfl, rfl, rfl, rfl, rfl, rfl, trivial⟩
    | false =>
      cases hf : turnB l false i with
      | true =>
        obtain ⟨q1, q2⟩ := (turnS_next hlt).1 hf
        obtain ⟨y1, y2, y3⟩ := dir_low hdir hf
        have s2 := turnS_succ l true i
        have s3 := turnS_succ l false i
        rw [if_neg (by simp [y2])] at s2
        rw [if_pos hf] at s3
        (refine St.skip ?_; refine St.skip ?_; refine St.skip ?_; refine St.skip ?_; refine St.skip ?_; refine St.skip ?_; refine St.skip ?_; refine St.skip ?_; refine St.skip ?_; refine St.skip ?_; refine St.skip ?_; refine St.skip ?_; refine St.skip ?_; refine St.skip ?_; refine St.skip ?_; refine St.skip ?_; refine St.skip ?_; refine St.skip ?_; refine St.skip ?_; refine St.skip ?_; refine St.skip ?_; refine St.skip ?_; refine St.skip ?_; refine St.skip ?_; refine St.skip ?_; refine St.skip ?_; refine St.skip ?_; refine St.skip ?_; refine St.skip ?_; refine St.pickF ?_; refine St.pickF ?_; refine WO.nil ?_; refine WK.condF ?_; refine WK.skip ?_; refine WK.seq ?_; refine WK.region ?_; refine St.assign ?_; refine WO.nil ?_; refine WK.seq ?_; refine WK.seq ?_; refine WK.regionD ?_; refine St.move ?_; refine St.move ?_)
        refine St.lenV rfl (isl_len hu2 Try.underlying47) ?_
        (refine St.bin ?_; refine St.move ?_)
        refine St.split (fun hb => ?_) (fun hb => ?_)
        focus
          have g1 : (turnS l true i).length < (turnS l true l.length).length := by simpa using hb
          obtain ⟨i2, g2, g3, g4⟩ := (turnS_next hlt).2 ht g1
          have g5 := hstl.ne_of g2 g3
          obtain ⟨ja, cja, oa, e5, e6, hoa, _⟩ := hu2.ne (by omega)
          subst e5
          subst e6
          (refine St.move ?_; refine St.move ?_)
          refine St.at ?_
          skip
          refine St.loadX (fun h2 hh => ((has_sth hh (j := ja) (o := oa) (by simp) hoa).at_ (z := (((turnS l true i).length : Int) : Int)) (n := (turnS l true i).length) (by omega) g1).agg (by simp) rfl rfl rfl) ?_
          (refine St.move ?_; refine St.move ?_)
          refine St.at ?_
          skip
          refine St.loadX (fun h2 hh => ((has_sth hh (j := js) (o := o) (by simp) ho).at_ (z := ((i : Int) : Int)) (n := i) (by omega) hlt).agg (by simp) rfl rfl rfl) ?_
          refine St.binX (sd_eql _ _) rfl rfl ?_
          rw [g4, sdEq_lo (by omega)]
        all_goals
          clear hb
          (refine St.skip ?_; refine St.skip ?_; refine St.skip ?_; refine St.skip ?_; refine St.skip ?_; refine St.skip ?_; refine St.skip ?_; refine St.skip ?_; refine St.skip ?_; refine St.pickF ?_; refine WO.nil ?_; refine WK.condF ?_; refine WK.skip ?_; refine WK.seq ?_; refine WK.seq ?_; refine WK.regionD ?_; refine St.move ?_; refine St.move ?_)
          skip
          refine St.lenV rfl (isl_len hu3 Try.underlying47) ?_
          (refine St.bin ?_; refine St.move ?_)
          refine St.split (fun _ => ?_) (fun hb => ?_)
          rotate_left
          · exfalso
            simp at hb
            omega
          obtain ⟨jb, cjb, ob, e5, e6, hob, _⟩ := hu3.ne (by omega)
          subst e5
          subst e6
          (refine St.move ?_; refine St.move ?_)
          refine St.at ?_
          skip
          refine St.loadX (fun h2 hh => ((has_sth hh (j := jb) (o := ob) (by simp) hob).at_ (z := (((turnS l false i).length : Int) : Int)) (n := (turnS l false i).length) (by omega) q1).agg (by simp) rfl rfl rfl) ?_
          (refine St.move ?_; refine St.move ?_)
          refine St.at ?_
          skip
          refine St.loadX (fun h2 hh => ((has_sth hh (j := js) (o := o) (by simp) ho).at_ (z := ((i : Int) : Int)) (n := i) (by omega) hlt).agg (by simp) rfl rfl rfl) ?_
          refine St.binX (sd_eql _ _) rfl rfl ?_
          rw [q2, sdEq_self]
          (refine St.pickT ?_; refine WO.nil ?_; refine WK.condT ?_; refine WK.seq ?_; refine WK.region ?_; refine St.move ?_; refine St.binI ?_; refine St.assign ?_; refine WO.nil ?_; refine WK.region ?_; refine St.move ?_; refine St.binI ?_; refine St.assign ?_; refine WO.nil ?_; refine WK.seq ?_; refine WK.seq ?_; refine WK.region ?_; refine St.move ?_; refine St.bin ?_; refine St.move ?_; refine St.move ?_; refine St.move ?_; refine St.bin ?_; refine St.pickT ?_; refine WO.nil ?_)
          refine St.splitC (fun hb => ?_) (fun _ => ?_)
          · exfalso
            simp at hb
            omega
          (refine WK.skip ?_; refine WK.seq ?_; refine WK.region ?_; refine St.move ?_; refine St.bin ?_; refine WO.nil ?_; refine WK.condT ?_; refine WK.region ?_; refine St.move ?_; refine St.assign ?_; refine WO.nil ?_; refine WK.blk ?_; refine WK.region ?_; refine St.move ?_; refine St.binI ?_; refine St.assign ?_; refine WO.nil ?_)
          refine WK.le ?_ (by (repeat (first | exact List.Sublist.refl _ | exact List.nil_sublist _ | apply List.Sublist.cons_cons | apply List.Sublist.cons))) (ih (i + 1, -1) ⟨by simp only; omega, by simp only; exact y3⟩ (by simp only; omega))
          simp only [s2, s3, List.length_append, List.length_cons, List.length_nil]
          exact ⟨rfl, rfl, rfl, rfl, rfl, rfl, rfl, rfl, rfl, trivial⟩
      | false =>
        have y3 := dir_none hstl hdir hlt ht hf
        have s2 := turnS_succ l true i
        have s3 := turnS_succ l false i
        rw [if_neg (by simp [ht])] at s2
        rw [if_neg (by simp [hf])] at s3
        (refine St.skip ?_; refine St.skip ?_; refine St.skip ?_; refine St.skip ?_; refine St.skip ?_; refine St.skip ?_; refine St.skip ?_; refine St.skip ?_; refine St.skip ?_; refine St.skip ?_; refine St.skip ?_; refine St.skip ?_; refine St.skip ?_; refine St.skip ?_; refine St.skip ?_; refine St.skip ?_; refine St.skip ?_; refine St.skip ?_; refine St.skip ?_; refine St.skip ?_; refine St.skip ?_; refine St.skip ?_; refine St.skip ?_; refine St.skip ?_; refine St.skip ?_; refine St.skip ?_; refine St.skip ?_; refine St.skip ?_; refine St.skip ?_; refine St.pickF ?_; refine St.pickF ?_; refine WO.nil ?_; refine WK.condF ?_; refine WK.skip ?_; refine WK.seq ?_; refine WK.region ?_; refine St.assign ?_; refine WO.nil ?_; refine WK.seq ?_; refine WK.seq ?_; refine WK.regionD ?_; refine St.move ?_; refine St.move ?_)
        refine St.lenV rfl (isl_len hu2 Try.underlying47) ?_
        (refine St.bin ?_; refine St.move ?_)
        refine St.split (fun hb => ?_) (fun hb => ?_)
        focus
          have g1 : (turnS l true i).length < (turnS l true l.length).length := by simpa using hb
          obtain ⟨i2, g2, g3, g4⟩ := (turnS_next hlt).2 ht g1
          have g5 := hstl.ne_of g2 g3
          obtain ⟨ja, cja, oa, e5, e6, hoa, _⟩ := hu2.ne (by omega)
          subst e5
          subst e6
          (refine St.move ?_; refine St.move ?_)
          refine St.at ?_
          skip
          refine St.loadX (fun h2 hh => ((has_sth hh (j := ja) (o := oa) (by simp) hoa).at_ (z := (((turnS l true i).length : Int) : Int)) (n := (turnS l true i).length) (by omega) g1).agg (by simp) rfl rfl rfl) ?_
          (refine St.move ?_; refine St.move ?_)
          refine St.at ?_
          skip
          refine St.loadX (fun h2 hh => ((has_sth hh (j := js) (o := o) (by simp) ho).at_ (z := ((i : Int) : Int)) (n := i) (by omega) hlt).agg (by simp) rfl rfl rfl) ?_
          refine St.binX (sd_eql _ _) rfl rfl ?_
          rw [g4, sdEq_lo (by omega)]
        all_goals
          clear hb
          (refine St.skip ?_; refine St.skip ?_; refine St.skip ?_; refine St.skip ?_; refine St.skip ?_; refine St.skip ?_; refine St.skip ?_; refine St.skip ?_; refine St.skip ?_; refine St.pickF ?_; refine WO.nil ?_; refine WK.condF ?_; refine WK.skip ?_; refine WK.seq ?_; refine WK.seq ?_; refine WK.regionD ?_; refine St.move ?_; refine St.move ?_)
          skip
          refine St.lenV rfl (isl_len hu3 Try.underlying47) ?_
          (refine St.bin ?_; refine St.move ?_)
          refine St.split (fun hb => ?_) (fun hb => ?_)
          focus
            have g1 : (turnS l false i).length < (turnS l false l.length).length := by simpa using hb
            obtain ⟨i2, g2, g3, g4⟩ := (turnS_next hlt).2 hf g1
            have g5 := hstl.ne_of g2 g3
            obtain ⟨jb, cjb, ob, e5, e6, hob, _⟩ := hu3.ne (by omega)
            subst e5
            subst e6
            (refine St.move ?_; refine St.move ?_)
            refine St.at ?_
            skip
            refine St.loadX (fun h2 hh => ((has_sth hh (j := jb) (o := ob) (by simp) hob).at_ (z := (((turnS l false i).length : Int) : Int)) (n := (turnS l false i).length) (by omega) g1).agg (by simp) rfl rfl rfl) ?_
            (refine St.move ?_; refine St.move ?_)
            refine St.at ?_
            skip
            refine St.loadX (fun h2 hh => ((has_sth hh (j := js) (o := o) (by simp) ho).at_ (z := ((i : Int) : Int)) (n := i) (by omega) hlt).agg (by simp) rfl rfl rfl) ?_
            refine St.binX (sd_eql _ _) rfl rfl ?_
            rw [g4, sdEq_lo (by omega)]
          all_goals
            clear hb
            (refine St.skip ?_; refine St.skip ?_; refine St.skip ?_; refine St.skip ?_; refine St.skip ?_; refine St.skip ?_; refine St.skip ?_; refine St.skip ?_; refine St.skip ?_; refine St.pickF ?_; refine WO.nil ?_; refine WK.condF ?_; refine WK.skip ?_; refine WK.seq ?_; refine WK.seq ?_; refine WK.region ?_; refine St.move ?_; refine St.bin ?_; refine St.move ?_; refine St.skip ?_; refine St.skip ?_; refine St.skip ?_; refine St.pickF ?_; refine WO.nil ?_; refine WK.condF ?_; refine WK.skip ?_; refine WK.seq ?_; refine WK.region ?_; refine St.move ?_; refine St.bin ?_; refine WO.nil ?_; refine WK.condF ?_; refine WK.skip ?_; refine WK.blk ?_; refine WK.region ?_; refine St.move ?_; refine St.binI ?_; refine St.assign ?_; refine WO.nil ?_)
            refine WK.le ?_ (by (repeat (first | exact List.Sublist.refl _ | exact List.nil_sublist _ | apply List.Sublist.cons_cons | apply List.Sublist.cons))) (ih (i + 1, x) ⟨by simp only; omega, by simp only; exact y3⟩ (by simp only; omega))
            simp only [s2, s3, List.length_append, List.length_cons, List.length_nil]
            exact ⟨rfl, rfl, rfl, rfl, rfl, rfl, rfl, rfl, rfl, trivial⟩
end Go.Proofs.Ytekpffjcffeanaa
