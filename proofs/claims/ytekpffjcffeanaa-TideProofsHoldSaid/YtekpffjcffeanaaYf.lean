/- The law TideProofsHold over the calculator's memory. -/
import Derived.Test.YtekpffjcffeanaaYe
namespace Go.Proofs.Ytekpffjcffeanaa
open Go.Proofs.Ytekpffjcffeanaa.Ev

theorem isl_itv {h0 h : Heap} {W : List Nat} {V : Ob} {C : List Int} {v : AV} {Lv : Ob} (hw : IsL 3 1 C.length (C.map (AV.int .i64)) v Lv) (k : Vw h0 W V h) (hs : ∀ x ∈ Lv, x ∈ V) : ItV h v C := by
  rcases hw.open_ with ⟨rfl, _, h1, _⟩ | ⟨i, c, o, rfl, rfl, ho, _⟩
  · exact .inl ⟨.inl rfl, List.length_eq_zero_iff.1 h1⟩
  · exact .inr ⟨i, 0, c, rfl, k.ins (hs _ (List.mem_cons_self ..)) ho⟩
theorem heightR_of {lv : Int} {cs : List Cy} {ss : List Sh} {lo hi : Int} (e : minR lv cs ss lo hi = 0) {k : Nat} (hk : k < (hi - lo + 1).toNat) : heightR lv cs ss (lo + (k : Int)) = (lv + bareV cs ss (lo + (k : Int)), 0) := by
  have m := minR_ok e
  have m1 := m.l1
  have m2 := m.le
  have m3 := m.h2
  have ec : chkW lv cs ss = 0 := by
    by_cases q : chkW lv cs ss = 0
    · exact q
    · exact absurd e (by unfold minR; rw [if_pos q]; exact q)
  unfold heightR
  rw [if_neg (by simp [ec]), if_neg (by simp; omega)]
set_option maxRecDepth 100000 in
set_option maxHeartbeats 32000000 in
theorem proofsHold_con (h : Heap) (g : Gd h) (lv lo hi height : Int) (at_ : Nat) (hat : at_ ≤ 65535) (cv sv v : AV) (cl : List Cw) (ss : List Sh) (C : List Int) (hc : CyV h cv cl) (hs : ShV h sv ss) (hcl : cl.length ≤ 9223372036854775807) (hv : ItV h v C) :
    Con Try.prog Bs 6 [.agg [.int .i64 lv, cv, sv], .agg [.int .i64 lo, .int .i64 hi], .int .u16 at_, .int .i64 height, v] h [] (.bool true) [] := by
  refine Con.start rfl Try.func6 rfl rfl Try.ntmps6 rfl rfl g ?_
  (refine WK.seq ?_; refine WK.region ?_; refine St.box fun _ _ => ?_; refine St.box fun _ _ => ?_; refine St.assign ?_; refine WO.nil ?_; refine WK.seq ?_; refine WK.seq ?_; refine WK.region ?_; refine St.load ?_)
  rename_i p5 hp5 p6 hp6
  refine St.call (fun _ => rfl) (fun h2 hh => few_con h2 hh.gd lv cv sv cl ss (hc.vw hh) (hs.vw hh) hcl) ?_
  (refine St.un ?_; refine St.move ?_)
  refine St.split (fun h1 => ?_) (fun h1 => ?_)
  · (refine St.skip ?_; refine St.skip ?_; refine St.skip ?_; refine St.pickT ?_; refine St.move ?_; refine St.skip ?_; refine St.skip ?_; refine St.skip ?_; refine St.pickT ?_; refine St.move ?_; refine St.skip ?_; refine St.skip ?_; refine St.skip ?_; refine St.skip ?_; refine St.skip ?_; refine St.pickT ?_; refine St.move ?_; refine St.skip ?_; refine St.skip ?_; refine St.skip ?_; refine St.pickT ?_; refine St.move ?_; refine St.skip ?_; refine St.skip ?_; refine St.skip ?_; refine St.pickT ?_; refine WO.nil ?_; refine WK.condT ?_; refine WK.seq ?_; refine WK.region ?_)
    refine St.call (fun _ => rfl) (fun h2 hh => sanity_con h2 hh.gd) ?_
    (refine St.assign ?_; refine WO.nil ?_)
    refine St.ret (by first | exact .tmp .nil | exact .cell .nil | exact .cell (.tmp .nil) | exact .tmp (.tmp .nil) | exact .cell (.cell .nil) | exact .tmp (.cell .nil) | exact .nil | exact .tmp (.cell (.tmp .nil)) | exact .cell (.tmp (.tmp .nil)) | exact .cell (.cell (.tmp .nil)) | exact .tmp (.tmp (.tmp .nil)) | exact .cell (.cell (.cell .nil))) ?_
    rfl
  (refine St.load ?_)
  refine St.call (fun _ => rfl) (fun h2 hh => short_con h2 hh.gd lo hi) ?_
  (refine St.un ?_; refine St.pickF ?_; refine St.move ?_)
  refine St.split (fun h1 => ?_) (fun h1 => ?_)
  · (refine St.skip ?_; refine St.skip ?_; refine St.skip ?_; refine St.pickT ?_; refine St.move ?_; refine St.skip ?_; refine St.skip ?_; refine St.skip ?_; refine St.skip ?_; refine St.skip ?_; refine St.pickT ?_; refine St.move ?_; refine St.skip ?_; refine St.skip ?_; refine St.skip ?_; refine St.pickT ?_; refine St.move ?_; refine St.skip ?_; refine St.skip ?_; refine St.skip ?_; refine St.pickT ?_; refine WO.nil ?_; refine WK.condT ?_; refine WK.seq ?_; refine WK.region ?_)
    refine St.call (fun _ => rfl) (fun h2 hh => sanity_con h2 hh.gd) ?_
    (refine St.assign ?_; refine WO.nil ?_)
    refine St.ret (by first | exact .tmp .nil | exact .cell .nil | exact .cell (.tmp .nil) | exact .tmp (.tmp .nil) | exact .cell (.cell .nil) | exact .tmp (.cell .nil) | exact .nil | exact .tmp (.cell (.tmp .nil)) | exact .cell (.tmp (.tmp .nil)) | exact .cell (.cell (.tmp .nil)) | exact .tmp (.tmp (.tmp .nil)) | exact .cell (.cell (.cell .nil))) ?_
    rfl
  (refine St.move ?_)
  refine St.lenV rfl hv.len ?_
  (refine St.bin ?_; refine St.pickF ?_; refine St.move ?_)
  refine St.split (fun h2 => ?_) (fun h2 => ?_)
  · (refine St.skip ?_; refine St.skip ?_; refine St.skip ?_; refine St.skip ?_; refine St.skip ?_; refine St.pickT ?_; refine St.move ?_; refine St.skip ?_; refine St.skip ?_; refine St.skip ?_; refine St.pickT ?_; refine St.move ?_; refine St.skip ?_; refine St.skip ?_; refine St.skip ?_; refine St.pickT ?_; refine WO.nil ?_; refine WK.condT ?_; refine WK.seq ?_; refine WK.region ?_)
    refine St.call (fun _ => rfl) (fun h2 hh => sanity_con h2 hh.gd) ?_
    (refine St.assign ?_; refine WO.nil ?_)
    refine St.ret (by first | exact .tmp .nil | exact .cell .nil | exact .cell (.tmp .nil) | exact .tmp (.tmp .nil) | exact .cell (.cell .nil) | exact .tmp (.cell .nil) | exact .nil | exact .tmp (.cell (.tmp .nil)) | exact .cell (.tmp (.tmp .nil)) | exact .cell (.cell (.tmp .nil)) | exact .tmp (.tmp (.tmp .nil)) | exact .cell (.cell (.cell .nil))) ?_
    rfl
  have hl60 : C.length ≤ 60 := by simp at h2; omega
  (refine St.fieldAddr ?_; refine St.load ?_; refine St.fieldAddr ?_; refine St.load ?_; refine St.bin ?_; refine St.pickF ?_; refine St.move ?_)
  refine St.split (fun b1 => ?_) (fun b1 => ?_)
  · (refine St.skip ?_; refine St.skip ?_; refine St.skip ?_; refine St.pickT ?_; refine St.move ?_; refine St.skip ?_; refine St.skip ?_; refine St.skip ?_; refine St.pickT ?_; refine WO.nil ?_; refine WK.condT ?_; refine WK.seq ?_; refine WK.region ?_)
    refine St.call (fun _ => rfl) (fun h2 hh => sanity_con h2 hh.gd) ?_
    (refine St.assign ?_; refine WO.nil ?_)
    refine St.ret (by first | exact .tmp .nil | exact .cell .nil | exact .cell (.tmp .nil) | exact .tmp (.tmp .nil) | exact .cell (.cell .nil) | exact .tmp (.cell .nil) | exact .nil | exact .tmp (.cell (.tmp .nil)) | exact .cell (.tmp (.tmp .nil)) | exact .cell (.cell (.tmp .nil)) | exact .tmp (.tmp (.tmp .nil)) | exact .cell (.cell (.cell .nil))) ?_
    rfl
  (refine St.fieldAddr ?_; refine St.load ?_; refine St.bin ?_; refine St.pickF ?_; refine St.move ?_)
  refine St.split (fun b2 => ?_) (fun b2 => ?_)
  · (refine St.skip ?_; refine St.skip ?_; refine St.skip ?_; refine St.pickT ?_; refine WO.nil ?_; refine WK.condT ?_; refine WK.seq ?_; refine WK.region ?_)
    refine St.call (fun _ => rfl) (fun h2 hh => sanity_con h2 hh.gd) ?_
    (refine St.assign ?_; refine WO.nil ?_)
    refine St.ret (by first | exact .tmp .nil | exact .cell .nil | exact .cell (.tmp .nil) | exact .tmp (.tmp .nil) | exact .cell (.cell .nil) | exact .tmp (.cell .nil) | exact .nil | exact .tmp (.cell (.tmp .nil)) | exact .cell (.tmp (.tmp .nil)) | exact .cell (.cell (.tmp .nil)) | exact .tmp (.tmp (.tmp .nil)) | exact .cell (.cell (.cell .nil))) ?_
    rfl
  (refine St.fieldAddr ?_; refine St.load ?_; refine St.bin ?_; refine St.pickF ?_; refine WO.nil ?_)
  refine St.splitC (fun b3 => ?_) (fun b3 => ?_)
  · (refine WK.seq ?_; refine WK.region ?_)
    refine St.call (fun _ => rfl) (fun h2 hh => sanity_con h2 hh.gd) ?_
    (refine St.assign ?_; refine WO.nil ?_)
    refine St.ret (by first | exact .tmp .nil | exact .cell .nil | exact .cell (.tmp .nil) | exact .tmp (.tmp .nil) | exact .cell (.cell .nil) | exact .tmp (.cell .nil) | exact .nil | exact .tmp (.cell (.tmp .nil)) | exact .cell (.tmp (.tmp .nil)) | exact .cell (.cell (.tmp .nil)) | exact .tmp (.tmp (.tmp .nil)) | exact .cell (.cell (.cell .nil))) ?_
    rfl
  have c1 : 0 ≤ lo ∧ lo ≤ hi ∧ hi ≤ 1048576 := by simp at b1 b2 b3; omega
  clear h1 h2 b1 b2 b3
  (refine WK.skip ?_; refine WK.seq ?_; refine WK.region ?_; refine St.load ?_; refine St.load ?_; refine St.move ?_)
  refine St.callR (fun _ => rfl) (fun h2 hh => proveP_con h2 hh.gd lv lo hi height cv sv cl ss (hc.vw hh) (hs.vw hh)) ?_
  rintro v1 L1 ⟨u1, rfl, hu1⟩
  have hpc := pv_cp (lv := lv) (cs := cys cl) (ss := ss) (lo := lo) (hi := hi) (height := height)
  have hcp := cp_pv (lv := lv) (cs := cys cl) (ss := ss) (lo := lo) (hi := hi) (height := height) (C := C)
  have hown : (pvR lv (cys cl) ss lo hi height).1.length ≤ 2000 := by
    unfold pvR
    split
    · exact Nat.zero_le _
    · unfold pvS
      split
      · exact Nat.zero_le _
      · split
        · exact Nat.zero_le _
        · simp only; omega
  generalize hPV : pvR lv (cys cl) ss lo hi height = pv at *
  obtain ⟨own, e⟩ := pv
  simp only at hu1 hpc hcp hown ⊢
  refine WO.permF (L' := (p6, .cells [.int .i64 lo, .int .i64 hi] 37) :: (p5, .cells [.int .i64 lv, cv, sv] 25) :: L1) (by (refine perm_cnt fun _ _ => ?_; simp only [List.append_eq, List.cons_append, List.nil_append, List.count_append, List.count_cons, List.count_nil, Nat.add_zero, Nat.zero_add]; try ac_rfl)) ?_
  (refine St.move ?_; refine St.extract ?_; refine St.extract ?_; refine St.assign ?_; refine St.assign ?_; refine WO.nil ?_; refine WK.seq ?_; refine WK.seq ?_; refine WK.region ?_; refine St.move ?_; refine St.bin ?_; refine St.move ?_)
  refine St.split (fun he => ?_) (fun he => ?_)
  rotate_left
  · (refine St.skip ?_; refine St.skip ?_; refine St.skip ?_; refine St.skip ?_; refine St.skip ?_; refine St.skip ?_; refine St.pickF ?_; refine WO.nil ?_; refine WK.condF ?_; refine WK.skip ?_; refine WK.seq ?_; refine WK.seq ?_; refine WK.region ?_; refine St.load ?_; refine St.load ?_; refine St.move ?_; refine St.move ?_)
    refine St.call (fun _ => rfl) (fun h2 hh => checkProof_con h2 hh.gd lv lo hi height cv sv v cl ss C (hc.vw hh) (hs.vw hh) (hv.vw hh) (by omega)) ?_
    (refine St.bin ?_; refine WO.nil ?_)
    refine St.splitC (fun h3 => ?_) (fun h3 => ?_)
    · (refine WK.seq ?_; refine WK.region ?_)
      refine St.call (fun _ => rfl) (fun h2 hh => sanity_con h2 hh.gd) ?_
      (refine St.assign ?_; refine WO.nil ?_)
      refine St.ret (by first | exact .tmp .nil | exact .cell .nil | exact .cell (.tmp .nil) | exact .tmp (.tmp .nil) | exact .cell (.cell .nil) | exact .tmp (.cell .nil) | exact .nil | exact .tmp (.cell (.tmp .nil)) | exact .cell (.tmp (.tmp .nil)) | exact .cell (.cell (.tmp .nil)) | exact .tmp (.tmp (.tmp .nil)) | exact .cell (.cell (.cell .nil))) ?_
      rfl
    · exfalso
      have := (hcp (by simpa using h3)).2.2.1
      simp at he
      exact he this
  have e0 : e = 0 := by simpa using he
  subst e0
  have hpc0 := hpc rfl
  (refine St.load ?_; refine St.load ?_; refine St.move ?_; refine St.move ?_)
  refine St.call (fun _ => rfl) (fun h2 hh => by
    have := checkProof_con h2 hh.gd lv lo hi height cv sv u1 cl ss own (hc.vw hh) (hs.vw hh) (isl_itv hu1 hh (fun x hx => by simp [hx])) (by omega)
    rw [hpc0] at this
    exact this) ?_
  (refine St.bin ?_; refine St.pickT ?_; refine WO.nil ?_; refine WK.condF ?_; refine WK.skip ?_; refine WK.seq ?_; refine WK.seq ?_; refine WK.region ?_; refine St.load ?_; refine St.load ?_; refine St.move ?_; refine St.move ?_)
  refine St.call (fun _ => rfl) (fun h2 hh => checkProof_con h2 hh.gd lv lo hi height cv sv v cl ss C (hc.vw hh) (hs.vw hh) (hv.vw hh) (by omega)) ?_
  (refine St.bin ?_; refine WO.nil ?_)
  refine St.splitC (fun h3 => ?_) (fun h3 => ?_)
  · (refine WK.seq ?_; refine WK.region ?_)
    refine St.call (fun _ => rfl) (fun h2 hh => sanity_con h2 hh.gd) ?_
    (refine St.assign ?_; refine WO.nil ?_)
    refine St.ret (by first | exact .tmp .nil | exact .cell .nil | exact .cell (.tmp .nil) | exact .tmp (.tmp .nil) | exact .cell (.cell .nil) | exact .tmp (.cell .nil) | exact .nil | exact .tmp (.cell (.tmp .nil)) | exact .cell (.tmp (.tmp .nil)) | exact .cell (.cell (.tmp .nil)) | exact .tmp (.tmp (.tmp .nil)) | exact .cell (.cell (.cell .nil))) ?_
    rfl
  obtain ⟨e1, hgt0, _, hle⟩ := hcp (by simpa using h3)
  have m := minR_ok e1
  have m4 := m.n
  have hkp : (at_ : Int) % (hi - lo + 1) = ((at_ % (hi - lo + 1).toNat : Nat) : Int) := by
    rw [Int.natCast_emod]
    congr 1
    omega
  have hkl : at_ % (hi - lo + 1).toNat < (hi - lo + 1).toNat := Nat.mod_lt _ (by omega)
  generalize hK : at_ % (hi - lo + 1).toNat = k at *
  have hR := heightR_of e1 hkl
  have hhi := hgt0 k hkl
  (refine WK.skip ?_; refine WK.seq ?_; refine WK.regionD ?_; refine St.load ?_; refine St.fieldAddr ?_; refine St.load ?_; refine St.move ?_; refine St.conv ?_; refine St.fieldAddr ?_; refine St.load ?_; refine St.fieldAddr ?_; refine St.load ?_; refine St.binI ?_; refine St.binI ?_)
  refine St.binX (r := .int .i64 (k : Int)) ?_ rfl rfl ?_
  · have hnz : ¬ hi - lo + 1 = 0 := by omega
    have hwa : IntKind.wrap .i64 (at_ : Int) = at_ := wrap_ok (by omega)
    show (if hi - lo + 1 = 0 then none else some (AV.int .i64 ((IntKind.wrap .i64 (at_ : Int)).tmod (hi - lo + 1)))) = _
    rw [if_neg hnz, hwa, Int.tmod_eq_emod_of_nonneg (by omega), hkp]
  (refine St.binI ?_)
  refine St.call (fun _ => rfl) (fun h2 hh => height_con h2 hh.gd lv (lo + (k : Int)) cv sv cl ss (hc.vw hh) (hs.vw hh)) ?_
  rw [hR]
  (refine St.move ?_; refine St.extract ?_; refine St.extract ?_; refine St.assign ?_; refine St.assign ?_; refine WO.nil ?_; refine WK.seq ?_; refine WK.region ?_)
  refine St.call (fun _ => rfl) (fun h2 hh => sanity_con h2 hh.gd) ?_
  (refine St.move ?_; refine St.move ?_; refine St.bin ?_; refine St.pickT ?_; refine St.move ?_; refine St.move ?_; refine St.move ?_; refine St.bin ?_; refine St.pickT ?_; refine St.move ?_)
  refine St.split (fun _ => ?_) (fun hb => ?_)
  rotate_left
  · exfalso
    simp at hb
    omega
  (refine St.move ?_; refine St.bin ?_; refine St.pickT ?_; refine St.move ?_; refine St.move ?_)
  refine St.lenV rfl (isl_len hu1 Try.underlying26) ?_
  (refine St.move ?_)
  refine St.lenV rfl hv.len ?_
  (refine St.bin ?_; refine St.pickT ?_; refine St.assign ?_; refine WO.nil ?_)
  refine St.ret (by first | exact .tmp .nil | exact .cell .nil | exact .cell (.tmp .nil) | exact .tmp (.tmp .nil) | exact .cell (.cell .nil) | exact .tmp (.cell .nil) | exact .nil | exact .tmp (.cell (.tmp .nil)) | exact .cell (.tmp (.tmp .nil)) | exact .cell (.cell (.tmp .nil)) | exact .tmp (.tmp (.tmp .nil)) | exact .cell (.cell (.cell .nil))) ?_
  simp [oneOf, hle]
end Go.Proofs.Ytekpffjcffeanaa
