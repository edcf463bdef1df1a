/- Layer 8: the law of LedgerAsKnown. -/
import Derived.Test.YtkebbdpfjhhdhaaGreatFw
import Derived.Test.YtkebbdpfjhhdhaaGreatFn
/- Layer 8: the law of LedgerBalanced. -/
namespace Go.Proofs.YtkebbdpfjhhdhaaGreat
open Go.Proofs.YtkebbdpfjhhdhaaGreat.Ev

set_option maxRecDepth 100000 in
theorem few_con (h : Heap) (g : Gd h) (v : AV) (l : List Im) (hv : ImV h v l) : Con Tryz.prog Bs 17 [v] h [] (.bool (decide (l.length ≤ 30) || (decide (60 < l.length) && decide (l.length ≤ 80)))) [] := by
  refine Con.start rfl Tryz.func17 rfl rfl Tryz.ntmps17 rfl rfl g ?_
  (refine WK.seq ?_; refine WK.region ?_; refine St.assign ?_; refine WO.nil ?_; refine WK.seq ?_; refine WK.region ?_; refine St.move ?_)
  refine St.lenG rfl hv.llen ?_
  (refine St.bin ?_; refine St.move ?_)
  refine St.split (fun q => ?_) (fun q => ?_)
  · have h1 : l.length ≤ 30 := by simp at q; omega
    (refine St.skip ?_; refine St.skip ?_; refine St.skip ?_; refine St.skip ?_; refine St.skip ?_; refine St.skip ?_; refine St.skip ?_; refine St.skip ?_; refine St.pickT ?_; refine St.assign ?_; refine WO.nil ?_)
    refine St.ret (by first | exact .tmp .nil | exact .cell .nil | exact .cell (.tmp .nil) | exact .tmp (.tmp .nil) | exact .cell (.cell .nil) | exact .tmp (.cell .nil) | exact .nil | exact .tmp (.cell (.tmp .nil)) | exact .cell (.tmp (.tmp .nil)) | exact .cell (.cell (.tmp .nil)) | exact .tmp (.tmp (.tmp .nil)) | exact .tmp (.tmp (.tmp (.tmp .nil))) | exact .cell (.cell (.cell .nil))) ?_
    simp [oneOf, h1]
  have h1 : ¬ l.length ≤ 30 := by simp at q; omega
  (refine St.move ?_)
  refine St.lenG rfl hv.llen ?_
  (refine St.bin ?_; refine St.move ?_)
  refine St.split (fun q => ?_) (fun q => ?_)
  · have h2 : 60 < l.length := by simp at q; omega
    (refine St.move ?_)
    refine St.lenG rfl hv.llen ?_
    (refine St.bin ?_; refine St.pickT ?_; refine St.pickF ?_; refine St.assign ?_; refine WO.nil ?_)
    refine St.ret (by first | exact .tmp .nil | exact .cell .nil | exact .cell (.tmp .nil) | exact .tmp (.tmp .nil) | exact .cell (.cell .nil) | exact .tmp (.cell .nil) | exact .nil | exact .tmp (.cell (.tmp .nil)) | exact .cell (.tmp (.tmp .nil)) | exact .cell (.cell (.tmp .nil)) | exact .tmp (.tmp (.tmp .nil)) | exact .tmp (.tmp (.tmp (.tmp .nil))) | exact .cell (.cell (.cell .nil))) ?_
    simp [oneOf, h1, h2]
    try omega
  · have h2 : ¬ 60 < l.length := by simp at q; omega
    (refine St.skip ?_; refine St.skip ?_; refine St.skip ?_; refine St.pickF ?_; refine St.pickF ?_; refine St.assign ?_; refine WO.nil ?_)
    refine St.ret (by first | exact .tmp .nil | exact .cell .nil | exact .cell (.tmp .nil) | exact .tmp (.tmp .nil) | exact .cell (.cell .nil) | exact .tmp (.cell .nil) | exact .nil | exact .tmp (.cell (.tmp .nil)) | exact .cell (.tmp (.tmp .nil)) | exact .cell (.cell (.tmp .nil)) | exact .tmp (.tmp (.tmp .nil)) | exact .tmp (.tmp (.tmp (.tmp .nil))) | exact .cell (.cell (.cell .nil))) ?_
    simp [oneOf, h1, h2]
end Go.Proofs.YtkebbdpfjhhdhaaGreat

/- Layer 8: the law of LedgerAsKnown. -/
namespace Go.Proofs.YtkebbdpfjhhdhaaGreat
open Go.Proofs.YtkebbdpfjhhdhaaGreat.Ev

theorem askE_one {l : List Im} {b : Bool} : askE l [b] = 0 ↔ chkI l = 0 ∧ b = true := by
  unfold askE
  by_cases h : chkI l = 0
  · rw [if_pos h]
    cases b <;> simp [h]
  · rw [if_neg h]
    simp [h]
theorem dyB_of {n : Int} (h : 0 ≤ n ∧ n ≤ 728) : dyB n = true := by simp [dyB, inB, h]
set_option maxRecDepth 100000 in
set_option maxHeartbeats 16000000 in
theorem asKnownLaw_con (h : Heap) (g : Gd h) (v : AV) (l : List Im) (from_ to ac : Int) (hv : ImG h v l) : Con Tryz.prog Bs 12 [v, .int .i64 from_, .int .i64 to, .int .i64 ac] h [] (.bool true) [] := by
  refine Con.start rfl Tryz.func12 rfl rfl Tryz.ntmps12 rfl rfl g ?_
  (refine WK.seq ?_; refine WK.region ?_; refine St.assign ?_; refine WO.nil ?_; refine WK.seq ?_; refine WK.seq ?_; refine WK.region ?_; refine St.move ?_)
  refine St.call (fun _ => rfl) (fun h2 hh => few_con h2 hh.gd v l (hv.z.eV.vw hh)) ?_
  (refine St.un ?_; refine St.move ?_)
  refine St.split (fun q => ?_) (fun q => ?_)
  · (refine St.skip ?_; refine St.skip ?_; refine St.skip ?_; refine St.pickT ?_; refine WO.nil ?_; refine WK.condT ?_; refine WK.seq ?_; refine WK.region ?_)
    refine St.call (fun _ => rfl) (fun h2 hh => sanity_con h2 hh.gd) ?_
    (refine St.assign ?_; refine WO.nil ?_)
    refine St.ret (by first | exact .tmp .nil | exact .cell .nil | exact .cell (.tmp .nil) | exact .tmp (.tmp .nil) | exact .cell (.cell .nil) | exact .tmp (.cell .nil) | exact .nil | exact .tmp (.cell (.tmp .nil)) | exact .cell (.tmp (.tmp .nil)) | exact .cell (.cell (.tmp .nil)) | exact .tmp (.tmp (.tmp .nil)) | exact .tmp (.tmp (.tmp (.tmp .nil))) | exact .cell (.cell (.cell .nil))) ?_
    rfl
  clear q
  (refine St.move ?_; refine St.move ?_; refine St.bin ?_; refine St.pickF ?_; refine WO.nil ?_)
  refine St.splitC (fun q => ?_) (fun q => ?_)
  · (refine WK.seq ?_; refine WK.region ?_)
    refine St.call (fun _ => rfl) (fun h2 hh => sanity_con h2 hh.gd) ?_
    (refine St.assign ?_; refine WO.nil ?_)
    refine St.ret (by first | exact .tmp .nil | exact .cell .nil | exact .cell (.tmp .nil) | exact .tmp (.tmp .nil) | exact .cell (.cell .nil) | exact .tmp (.cell .nil) | exact .nil | exact .tmp (.cell (.tmp .nil)) | exact .cell (.tmp (.tmp .nil)) | exact .cell (.cell (.tmp .nil)) | exact .tmp (.tmp (.tmp .nil)) | exact .tmp (.tmp (.tmp (.tmp .nil))) | exact .cell (.cell (.cell .nil))) ?_
    rfl
  have hft : from_ ≤ to := by simpa using q
  clear q
  (refine WK.skip ?_; refine WK.seq ?_; refine WK.region ?_; refine St.move ?_; refine St.move ?_)
  refine St.callR (fun _ => rfl) (fun h2 hh => Postings_con h2 hh.gd v l from_ (hv.vw hh)) ?_
  rintro _ La ⟨wa, rfl, ha⟩
  (refine St.move ?_; refine St.extract ?_; refine St.extract ?_; refine St.assign ?_; refine St.assign ?_; refine WO.nil ?_; refine WK.seq ?_; refine WK.region ?_; refine St.move ?_; refine St.move ?_)
  refine St.callR (fun _ => rfl) (fun h2 hh => Postings_con h2 hh.gd v l to (hv.vw hh)) ?_
  rintro _ Lb ⟨wb, rfl, hb⟩
  (refine St.move ?_; refine St.extract ?_; refine St.extract ?_; refine St.assign ?_; refine St.assign ?_; refine WO.nil ?_; refine WK.seq ?_; refine WK.region ?_; refine St.move ?_; refine St.move ?_)
  refine St.call (fun _ => rfl) (fun h2 hh => Closed_con h2 hh.gd v l from_ (hv.vw hh)) ?_
  (refine St.move ?_; refine St.extract ?_; refine St.extract ?_; refine St.assign ?_; refine St.assign ?_; refine WO.nil ?_; refine WK.seq ?_; refine WK.seq ?_; refine WK.region ?_; refine St.move ?_; refine St.bin ?_; refine St.move ?_)
  have hsame : (askE l [dyB from_] == askE l [dyB from_]) = true := by simp
  refine St.split (fun q => ?_) (fun q => ?_)
  · (refine St.skip ?_; refine St.skip ?_; refine St.pickT ?_; refine St.move ?_; refine St.skip ?_; refine St.skip ?_; refine St.pickT ?_; refine WO.nil ?_; refine WK.condT ?_; refine WK.seq ?_; refine WK.region ?_)
    refine St.call (fun _ => rfl) (fun h2 hh => sanity_con h2 hh.gd) ?_
    (refine St.move ?_; refine St.move ?_; refine St.move ?_; refine St.bin ?_; refine St.pickT ?_; refine St.assign ?_; refine WO.nil ?_)
    refine St.ret (by first | exact .tmp .nil | exact .cell .nil | exact .cell (.tmp .nil) | exact .tmp (.tmp .nil) | exact .cell (.cell .nil) | exact .tmp (.cell .nil) | exact .nil | exact .tmp (.cell (.tmp .nil)) | exact .cell (.tmp (.tmp .nil)) | exact .cell (.cell (.tmp .nil)) | exact .tmp (.tmp (.tmp .nil)) | exact .tmp (.tmp (.tmp (.tmp .nil))) | exact .cell (.cell (.cell .nil))) ?_
    rw [hsame]
    rfl
  have e1 : askE l [dyB from_] = 0 := by simpa using q
  clear q
  rcases ha with ⟨ha, _⟩ | ⟨_, ha⟩
  · exact absurd e1 ha
  (refine St.move ?_; refine St.bin ?_; refine St.pickF ?_; refine St.move ?_)
  refine St.split (fun q => ?_) (fun q => ?_)
  · (refine St.skip ?_; refine St.skip ?_; refine St.pickT ?_; refine WO.nil ?_; refine WK.condT ?_; refine WK.seq ?_; refine WK.region ?_)
    refine St.call (fun _ => rfl) (fun h2 hh => sanity_con h2 hh.gd) ?_
    (refine St.move ?_; refine St.move ?_; refine St.move ?_; refine St.bin ?_; refine St.pickT ?_; refine St.assign ?_; refine WO.nil ?_)
    refine St.ret (by first | exact .tmp .nil | exact .cell .nil | exact .cell (.tmp .nil) | exact .tmp (.tmp .nil) | exact .cell (.cell .nil) | exact .tmp (.cell .nil) | exact .nil | exact .tmp (.cell (.tmp .nil)) | exact .cell (.tmp (.tmp .nil)) | exact .cell (.cell (.tmp .nil)) | exact .tmp (.tmp (.tmp .nil)) | exact .tmp (.tmp (.tmp (.tmp .nil))) | exact .cell (.cell (.cell .nil))) ?_
    rw [hsame]
    rfl
  have e2 : askE l [dyB to] = 0 := by simpa using q
  clear q
  rcases hb with ⟨hb, _⟩ | ⟨_, hb⟩
  · exact absurd e2 hb
  (refine St.move ?_; refine St.bin ?_; refine St.pickF ?_; refine WO.nil ?_)
  refine St.splitC (fun q => ?_) (fun q => ?_)
  · exact absurd e1 (by simpa using q)
  clear q hsame
  obtain ⟨hc, hd1⟩ := askE_one.1 e1
  obtain ⟨_, hd2⟩ := askE_one.1 e2
  have hl60 := (chk_ok hc).1
  obtain ⟨r, hr1, hr2, hr3⟩ := book_two hc hft
  have hpl := book_pl hc to
  have hcl := (book_p hc from_).cl
  have hea := book_early hc hft
  have hec : chkI (l.filter fun x => decide (x.kn ≤ from_)) = 0 := chk_iff.2 ((chk_iff.1 hc).filter _)
  rw [if_pos e1]
  (refine WK.skip ?_; refine WK.seq ?_; refine WK.region ?_; refine St.assign ?_; refine WO.nil ?_; refine WK.seq ?_; refine WK.seq ?_; refine WK.region ?_; refine St.assign ?_; refine WO.nil ?_; refine WK.block ?_)
  refine WK.perm (L' := Lb ++ La) (by rw [List.append_nil]) ?_
  refine WK.inv (ι := Nat × AV × Ob) (fun z => [(0, v), (1, .int .i64 from_), (2, .int .i64 to), (3, .int .i64 ac), (9, wa), (11, wb), (13, .int .i64 (bookB l from_).cl), (15, z.2.1), (16, .int .i64 z.1)]) (fun z => z.2.2 ++ (Lb ++ La)) (fun z => z.1 ≤ l.length ∧ IsR 114 7 ((l.take z.1).filter fun x => decide (x.kn ≤ from_)).length (enF imC ((l.take z.1).filter fun x => decide (x.kn ≤ from_))) z.2.1 z.2.2) (fun z => l.length - z.1) (0, .slice0, []) ⟨Nat.zero_le _, .nil rfl rfl⟩ ⟨rfl, rfl, rfl, rfl, rfl, rfl, rfl, rfl, rfl, trivial⟩ (List.Sublist.refl _) ?_
  rintro ⟨k, w, Lw⟩ ⟨hkl, hw⟩ ih
  simp only at hkl hw ih ⊢
  (refine WK.seq ?_; refine WK.seq ?_; refine WK.region ?_; refine St.move ?_; refine St.move ?_)
  refine St.lenG rfl hv.z.eV.llen ?_
  (refine St.bin ?_; refine WO.nil ?_)
  refine St.splitC (fun hc => ?_) (fun hc => ?_)
  · have hlt : k < l.length := by simp at hc; omega
    have htk := take_succE hlt
    have hv' := hv.z.eV
    obtain ⟨b, off, cc, rfl, hk⟩ := hv'.ne (by omega)
    (refine WK.skip ?_; refine WK.seq ?_; refine WK.block ?_; refine WK.seq ?_; refine WK.region ?_; refine St.move ?_; refine St.move ?_)
    refine St.at ?_
    (refine St.fieldAddr ?_)
    refine St.loadX (v := .int .i64 (nthE l k).kn) (fun h2 hh => ((hk.vw hh).at_ (z := (k : Int)) (n := k) (by omega) hlt).2.1.one rfl) ?_
    (refine St.move ?_; refine St.bin ?_; refine WO.nil ?_)
    refine St.splitC (fun q => ?_) (fun q => ?_)
    · have h1 : (nthE l k).kn ≤ from_ := by simpa using q
      have hfl : (l.take (k + 1)).filter (fun x => decide (x.kn ≤ from_)) = (l.take k).filter (fun x => decide (x.kn ≤ from_)) ++ [nthE l k] := by rw [htk, List.filter_append]; simp [h1]
      have hle : ((l.take k).filter fun x => decide (x.kn ≤ from_)).length ≤ 1000 := Nat.le_trans (List.length_filter_le _ _) (by rw [List.length_take]; omega)
      (refine WK.region ?_; refine St.move ?_; refine St.move ?_; refine St.move ?_)
      refine St.at ?_
      skip
      refine St.loadX (v := .agg (imC (nthE l k))) (fun h2 hh => ((hk.vw hh).at_ (z := (k : Int)) (n := k) (by omega) hlt).agg (by simp [imC]) rfl rfl rfl) ?_
      (refine St.mkS fun _ _ => ?_)
      rename_i p84 hp84
      refine St.appI (e := 114) (sz := 7) (n := 1) (new := imC (nthE l k)) (Lk := (p84, .cells (imC (nthE l k)) 114) :: (Lb ++ La)) hw (perm_mid Lw _ _) (fun j hj => ?_) ⟨rfl, rfl, rfl, rfl, rfl, rfl, rfl, rfl, rfl, rfl, rfl, rfl⟩ (List.Mem.head _) rfl (by decide) (by omega)
      (refine St.assign ?_; refine WO.nil ?_; refine WK.blk ?_; refine WK.region ?_; refine St.move ?_; refine St.binI ?_; refine St.assign ?_; refine WO.nil ?_)
      refine WK.le ?_ ?_ (ih (k + 1, .slice j 0 (((l.take k).filter fun x => decide (x.kn ≤ from_)).length + 1) (.m 0), [(j, .row (enF imC ((l.take k).filter fun x => decide (x.kn ≤ from_)) ++ imC (nthE l k)) 114 7)]) ⟨hlt, ?_⟩ (by simp only; omega))
      · exact ⟨rfl, rfl, rfl, rfl, rfl, rfl, rfl, rfl, rfl, trivial⟩
      · exact (List.Sublist.cons _ (List.Sublist.refl _)).cons_cons _
      · rw [hfl]
        have := IsR.row (e := 114) (sz := 7) (len := ((l.take k).filter (fun x => decide (x.kn ≤ from_)) ++ [nthE l k]).length) (l := enF imC ((l.take k).filter (fun x => decide (x.kn ≤ from_)) ++ [nthE l k])) j (enF_len imC_len _)
        rw [enF_app, enF_one] at this
        rw [enF_app, enF_one]
        simpa using this
    · have h1 : ¬ (nthE l k).kn ≤ from_ := by simpa using q
      have hfl : (l.take (k + 1)).filter (fun x => decide (x.kn ≤ from_)) = (l.take k).filter (fun x => decide (x.kn ≤ from_)) := by rw [htk, List.filter_append]; simp [h1]
      (refine WK.skip ?_; refine WK.blk ?_; refine WK.region ?_; refine St.move ?_; refine St.binI ?_; refine St.assign ?_; refine WO.nil ?_)
      refine WK.le ?_ (List.Sublist.refl _) (ih (k + 1, w, Lw) ⟨hlt, by rw [hfl]; exact hw⟩ (by simp only; omega))
      exact ⟨rfl, rfl, rfl, rfl, rfl, rfl, rfl, rfl, rfl, trivial⟩
  have hke : k = l.length := by simp at hc; omega
  subst hke
  rw [List.take_length] at hw
  clear ih hc
  (refine WK.exit ?_; refine WK.seq ?_; refine WK.region ?_; refine St.move ?_; refine St.move ?_)
  refine St.callR (fun _ => rfl) (fun h2 hh => Postings_con h2 hh.gd w (l.filter fun x => decide (x.kn ≤ from_)) to (IsR.g hw rfl hh (fun x hx => List.mem_append_left _ hx))) ?_
  rintro _ Ld ⟨wd, rfl, hd⟩
  have e3 : askE (l.filter fun x => decide (x.kn ≤ from_)) [dyB to] = 0 := askE_one.2 ⟨hec, hd2⟩
  rcases hd with ⟨hd, _⟩ | ⟨_, hd⟩
  · exact absurd e3 hd
  rw [hea] at hd
  rw [e3]
  have hla : ∀ h2, lenA Tryz.prog 35 h2 wa = some (.int .i64 ((bookB l from_).ps.length : Int)) := ha.isL.lenG Tryz.underlying35
  have hlb : ∀ h2, lenA Tryz.prog 35 h2 wb = some (.int .i64 ((bookB l to).ps.length : Int)) := hb.isL.lenG Tryz.underlying35
  have hab : (bookB l from_).ps.length ≤ (bookB l to).ps.length := by rw [hr1, List.length_append]; omega
  (refine St.move ?_; refine St.extract ?_; refine St.extract ?_; refine St.assign ?_; refine St.assign ?_; refine WO.nil ?_; refine WK.seq ?_; refine WK.seq ?_; refine WK.region ?_; refine St.move ?_)
  refine St.lenG rfl hla ?_
  (refine St.move ?_)
  refine St.lenG rfl hlb ?_
  (refine St.bin ?_; refine St.move ?_)
  refine St.split (fun q => ?_) (fun q => ?_)
  · exact absurd q (by simp; omega)
  clear q
  (refine St.move ?_; refine St.bin ?_; refine St.pickF ?_; refine St.move ?_; refine St.move ?_; refine St.move ?_)
  refine St.call (fun _ => rfl) (fun h2 hh => sameP_con h2 hh.gd wa wd (bookB l from_).ps (IsR.eVP ha rfl hh (fun x hx => by simp [hx])) (IsR.eVP hd rfl hh (fun x hx => by simp [hx])) (by omega)) ?_
  (refine St.un ?_; refine St.pickF ?_; refine St.move ?_; refine St.move ?_; refine St.move ?_; refine St.move ?_)
  refine St.lenG rfl hla ?_
  skip
  obtain ⟨ub, hub1, hub2⟩ : ∃ ub, (∀ (h2 : Heap), Vw h [] (Ld ++ (Lw ++ (Lb ++ La))) h2 → evSlice Tryz.prog h2 35 wb none (some (.int .i64 ((bookB l from_).ps.length : Int))) none = some ub) ∧ ∀ (h2 : Heap), Vw h [] (Ld ++ (Lw ++ (Lb ++ La))) h2 → PoV h2 ub (bookB l from_).ps := by
    rcases hb.rowN with ⟨rfl, rfl, h0, _⟩ | ⟨j, rfl, rfl, h1⟩
    · have : (bookB l from_).ps = [] := List.length_eq_zero_iff.1 (by omega)
      rw [this]
      refine ⟨.slice0, fun h2 hh => ?_, fun h2 hh => .inl ⟨.inl rfl, rfl⟩⟩
      have e1 : sizeT Tryz.prog 72 = some 4 := by kernel_rfl
      unfold evSlice
      rw [if_neg (by simp), Tryz.underlying35]
      simp [e1, optB, boundIn]
    · refine ⟨.slice j 0 (bookB l from_).ps.length (.m 0), fun h2 hh => sliceP_to (hh.own (j, .row (enF poC (bookB l to).ps) 72 4) (by simp)).1 hab, fun h2 hh => ?_⟩
      have hv := IsR.eVP (l := (bookB l to).ps) hb rfl hh (fun x hx => by simp [List.mem_singleton.1 hx])
      rcases hv with ⟨hv, _⟩ | ⟨b, off, cc, e, hk⟩
      · rcases hv with hv | hv <;> cases hv
      · cases e
        have := hk.takV (c := .m 0) hab
        rwa [hr1, List.take_left' rfl] at this
  refine St.sliceG (v := ub) (fun h2 hh => ?_) ?_
  · show plainV (evSlice Tryz.prog h2 35 wb none (some (.int .i64 ((bookB l from_).ps.length : Int))) none) h2 = _
    rw [hub1 h2 hh]
    rfl
  skip
  refine St.call (fun _ => rfl) (fun h2 hh => sameP_con h2 hh.gd wa ub (bookB l from_).ps (IsR.eVP ha rfl hh (fun x hx => by simp [hx])) (hub2 h2 hh) (by omega)) ?_
  (refine St.un ?_; refine St.pickF ?_; refine WO.nil ?_; refine WK.condF ?_; refine WK.skip ?_; refine WK.seq ?_; refine WK.seq ?_; refine WK.region ?_; refine St.move ?_; refine St.bin ?_; refine WO.nil ?_)
  refine St.splitC (fun q => ?_) (fun q => ?_)
  · (refine WK.seq ?_; refine WK.region ?_)
    refine St.call (fun _ => rfl) (fun h2 hh => sanity_con h2 hh.gd) ?_
    (refine St.assign ?_; refine WO.nil ?_)
    refine St.ret (by first | exact .tmp .nil | exact .cell .nil | exact .cell (.tmp .nil) | exact .tmp (.tmp .nil) | exact .cell (.cell .nil) | exact .tmp (.cell .nil) | exact .nil | exact .tmp (.cell (.tmp .nil)) | exact .cell (.tmp (.tmp .nil)) | exact .cell (.cell (.tmp .nil)) | exact .tmp (.tmp (.tmp .nil)) | exact .tmp (.tmp (.tmp (.tmp .nil))) | exact .cell (.cell (.cell .nil))) ?_
    rfl
  have hc0 : 0 ≤ (bookB l from_).cl := by simpa using q
  have hdc : dyB (bookB l from_).cl = true := dyB_of ⟨hc0, hcl.2⟩
  have eh : askE l [dyB (bookB l from_).cl, dyB to, acB ac] = askE l [dyB (bookB l from_).cl, dyB from_, acB ac] := by rw [hd1, hd2]
  have en : getQ (sumQ (hldP (bookB l to).ps (bookB l from_).cl)) ac = getQ (sumQ (hldP (bookB l from_).ps (bookB l from_).cl)) ac := by rw [hr1, hldP_more hr2]
  clear q
  (refine WK.skip ?_; refine WK.seq ?_; refine WK.region ?_; refine St.move ?_; refine St.move ?_; refine St.move ?_; refine St.move ?_)
  refine St.call (fun _ => rfl) (fun h2 hh => Hold_con h2 hh.gd v l ac (bookB l from_).cl from_ (hv.vw hh)) ?_
  (refine St.move ?_; refine St.extract ?_; refine St.extract ?_; refine St.assign ?_; refine St.assign ?_; refine WO.nil ?_; refine WK.seq ?_; refine WK.region ?_; refine St.move ?_; refine St.move ?_; refine St.move ?_; refine St.move ?_)
  refine St.call (fun _ => rfl) (fun h2 hh => Hold_con h2 hh.gd v l ac (bookB l from_).cl to (hv.vw hh)) ?_
  rw [eh, en]
  (refine St.move ?_; refine St.extract ?_; refine St.extract ?_; refine St.assign ?_; refine St.assign ?_; refine WO.nil ?_; refine WK.seq ?_; refine WK.region ?_)
  refine St.call (fun _ => rfl) (fun h2 hh => sanity_con h2 hh.gd) ?_
  (refine St.move ?_; refine St.move ?_; refine St.move ?_; refine St.bin ?_; refine St.pickT ?_; refine St.move ?_)
  refine St.split (fun q => ?_) (fun q => ?_)
  · (refine St.move ?_; refine St.move ?_; refine St.bin ?_; refine St.pickT ?_; refine St.assign ?_; refine WO.nil ?_)
    refine St.ret (by first | exact .tmp .nil | exact .cell .nil | exact .cell (.tmp .nil) | exact .tmp (.tmp .nil) | exact .cell (.cell .nil) | exact .tmp (.cell .nil) | exact .nil | exact .tmp (.cell (.tmp .nil)) | exact .cell (.tmp (.tmp .nil)) | exact .cell (.cell (.tmp .nil)) | exact .tmp (.tmp (.tmp .nil)) | exact .tmp (.tmp (.tmp (.tmp .nil))) | exact .cell (.cell (.cell .nil))) ?_
    simp [oneOf]
  · exact absurd q (by simp)
end Go.Proofs.YtkebbdpfjhhdhaaGreat
