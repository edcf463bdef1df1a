/- Layer 8: the law of LedgerBalanced. -/
import Derived.Test.YtkebbdpfjhhdhaaGreatFs
namespace Go.Proofs.YtkebbdpfjhhdhaaGreat
open Go.Proofs.YtkebbdpfjhhdhaaGreat.Ev

set_option maxRecDepth 100000 in
theorem few_con (h : Heap) (g : Gd h) (v : AV) (l : List Im) (hv : ImV h v l) : Con Tryz.prog Bs 17 [v] h [] (.bool (decide (l.length ≤ 30) || (decide (60 < l.length) && decide (l.length ≤ 80)))) [] := by
  refine Con.start rfl Tryz.func17 rfl rfl Tryz.ntmps17 rfl rfl g ?_
  (refine WK.seq ?_; refine WK.region ?_; refine St.assign ?_; refine WO.nil ?_; refine WK.seq ?_; refine WK.region ?_; refine St.move ?_)
  refine St.lenG rfl hv.llen ?_
  (refine St.bin ?_; refine St.move ?_)
  refine St.split (fun q => ?_) (fun q => ?_)
  · have h1 : l.length ≤ 30 := by simp at q; omega
    (refine St.skip ?_; refine St.skip ?_; refine St.skip ?_; refine St.skip ?_; refine St.skip ?_; refine St.skip ?_; refine St.skip ?_; refine St.skip ?_; refine St.pickT ?_; refine St.assign ?_; refine WO.nil ?_)
    refine St.ret (by first | exact .tmp .nil | exact .cell .nil | exact .cell (.tmp .nil) | exact .tmp (.tmp .nil) | exact .cell (.cell .nil) | exact .tmp (.cell .nil) | exact .nil | exact .tmp (.cell (.tmp .nil)) | exact .cell (.tmp (.tmp .nil)) | exact .cell (.cell (.tmp .nil)) | exact .tmp (.tmp (.tmp .nil)) | exact .tmp (.tmp (.tmp (.tmp .nil))) | exact .cell (.cell (.cell .nil))) ?_
    simp [oneOf, h1]
  have h1 : ¬ l.length ≤ 30 := by simp at q; omega
  (refine St.move ?_)
  refine St.lenG rfl hv.llen ?_
  (refine St.bin ?_; refine St.move ?_)
  refine St.split (fun q => ?_) (fun q => ?_)
  · have h2 : 60 < l.length := by simp at q; omega
    (refine St.move ?_)
    refine St.lenG rfl hv.llen ?_
    (refine St.bin ?_; refine St.pickT ?_; refine St.pickF ?_; refine St.assign ?_; refine WO.nil ?_)
    refine St.ret (by first | exact .tmp .nil | exact .cell .nil | exact .cell (.tmp .nil) | exact .tmp (.tmp .nil) | exact .cell (.cell .nil) | exact .tmp (.cell .nil) | exact .nil | exact .tmp (.cell (.tmp .nil)) | exact .cell (.tmp (.tmp .nil)) | exact .cell (.cell (.tmp .nil)) | exact .tmp (.tmp (.tmp .nil)) | exact .tmp (.tmp (.tmp (.tmp .nil))) | exact .cell (.cell (.cell .nil))) ?_
    simp [oneOf, h1, h2]
    try omega
  · have h2 : ¬ 60 < l.length := by simp at q; omega
    (refine St.skip ?_; refine St.skip ?_; refine St.skip ?_; refine St.pickF ?_; refine St.pickF ?_; refine St.assign ?_; refine WO.nil ?_)
    refine St.ret (by first | exact .tmp .nil | exact .cell .nil | exact .cell (.tmp .nil) | exact .tmp (.tmp .nil) | exact .cell (.cell .nil) | exact .tmp (.cell .nil) | exact .nil | exact .tmp (.cell (.tmp .nil)) | exact .cell (.tmp (.tmp .nil)) | exact .cell (.cell (.tmp .nil)) | exact .tmp (.tmp (.tmp .nil)) | exact .tmp (.tmp (.tmp (.tmp .nil))) | exact .cell (.cell (.cell .nil))) ?_
    simp [oneOf, h1, h2]
set_option maxRecDepth 100000 in
set_option maxHeartbeats 16000000 in
theorem balancedLaw_con (h : Heap) (g : Gd h) (v : AV) (l : List Im) (day known : Int) (hv : ImG h v l) : Con Tryz.prog Bs 10 [v, .int .i64 day, .int .i64 known] h [] (.bool true) [] := by
  refine Con.start rfl Tryz.func10 rfl rfl Tryz.ntmps10 rfl rfl g ?_
  (refine WK.seq ?_; refine WK.region ?_; refine St.assign ?_; refine WO.nil ?_; refine WK.seq ?_; refine WK.seq ?_; refine WK.region ?_; refine St.move ?_)
  refine St.call (fun _ => rfl) (fun h2 hh => few_con h2 hh.gd v l (hv.z.eV.vw hh)) ?_
  (refine St.un ?_; refine WO.nil ?_)
  refine St.splitC (fun q => ?_) (fun q => ?_)
  · (refine WK.seq ?_; refine WK.region ?_)
    refine St.call (fun _ => rfl) (fun h2 hh => sanity_con h2 hh.gd) ?_
    (refine St.assign ?_; refine WO.nil ?_)
    refine St.ret (by first | exact .tmp .nil | exact .cell .nil | exact .cell (.tmp .nil) | exact .tmp (.tmp .nil) | exact .cell (.cell .nil) | exact .tmp (.cell .nil) | exact .nil | exact .tmp (.cell (.tmp .nil)) | exact .cell (.tmp (.tmp .nil)) | exact .cell (.cell (.tmp .nil)) | exact .tmp (.tmp (.tmp .nil)) | exact .tmp (.tmp (.tmp (.tmp .nil))) | exact .cell (.cell (.cell .nil))) ?_
    rfl
  clear q
  (refine WK.skip ?_; refine WK.seq ?_; refine WK.region ?_; refine St.move ?_; refine St.move ?_)
  refine St.callR (fun _ => rfl) (fun h2 hh => Postings_con h2 hh.gd v l known (hv.vw hh)) ?_
  rintro _ Lp ⟨w, rfl, hw⟩
  (refine St.move ?_; refine St.extract ?_; refine St.extract ?_; refine St.assign ?_; refine St.assign ?_; refine WO.nil ?_; refine WK.seq ?_; refine WK.region ?_; refine St.move ?_; refine St.move ?_; refine St.move ?_)
  refine St.callR (fun _ => rfl) (fun h2 hh => Balances_con h2 hh.gd v l day known (hv.vw hh)) ?_
  rintro _ Lb ⟨u, rfl, hu⟩
  (refine St.move ?_; refine St.extract ?_; refine St.extract ?_; refine St.assign ?_; refine St.assign ?_; refine WO.nil ?_; refine WK.seq ?_; refine WK.seq ?_; refine WK.region ?_; refine St.move ?_; refine St.bin ?_; refine St.move ?_)
  refine St.split (fun q => ?_) (fun q => ?_)
  · (refine St.skip ?_; refine St.skip ?_; refine St.pickT ?_; refine WO.nil ?_; refine WK.condT ?_; refine WK.seq ?_; refine WK.region ?_)
    refine St.call (fun _ => rfl) (fun h2 hh => sanity_con h2 hh.gd) ?_
    (refine St.assign ?_; refine WO.nil ?_)
    refine St.ret (by first | exact .tmp .nil | exact .cell .nil | exact .cell (.tmp .nil) | exact .tmp (.tmp .nil) | exact .cell (.cell .nil) | exact .tmp (.cell .nil) | exact .nil | exact .tmp (.cell (.tmp .nil)) | exact .cell (.tmp (.tmp .nil)) | exact .cell (.cell (.tmp .nil)) | exact .tmp (.tmp (.tmp .nil)) | exact .tmp (.tmp (.tmp (.tmp .nil))) | exact .cell (.cell (.cell .nil))) ?_
    rfl
  have e1 : askE l [dyB known] = 0 := by simpa using q
  rcases hw with ⟨hw, _⟩ | ⟨_, hw⟩
  · exact absurd e1 hw
  (refine St.move ?_; refine St.bin ?_; refine St.pickF ?_; refine WO.nil ?_)
  refine St.splitC (fun q => ?_) (fun q => ?_)
  · (refine WK.seq ?_; refine WK.region ?_)
    refine St.call (fun _ => rfl) (fun h2 hh => sanity_con h2 hh.gd) ?_
    (refine St.assign ?_; refine WO.nil ?_)
    refine St.ret (by first | exact .tmp .nil | exact .cell .nil | exact .cell (.tmp .nil) | exact .tmp (.tmp .nil) | exact .cell (.cell .nil) | exact .tmp (.cell .nil) | exact .nil | exact .tmp (.cell (.tmp .nil)) | exact .cell (.tmp (.tmp .nil)) | exact .cell (.cell (.tmp .nil)) | exact .tmp (.tmp (.tmp .nil)) | exact .tmp (.tmp (.tmp (.tmp .nil))) | exact .cell (.cell (.cell .nil))) ?_
    rfl
  have e2 : askE l [dyB day, dyB known] = 0 := by simpa using q
  rcases hu with ⟨hu, _⟩ | ⟨_, hu⟩
  · exact absurd e2 hu
  clear q
  have hc := (askE_ok e1).1
  have hpl := book_pl hc known
  have hpo := (book_p hc known).po
  obtain ⟨hev, hat⟩ := (book_prs l known).at_
  have hbs := bals_sum l day known
  have hbl := balL_lt (sumQ_nd (hldP (bookB l known).ps day))
  have hbd := hld_bd hpo hpl day
  have hbn : (balL (sumQ (hldP (bookB l known).ps day))).length ≤ 120 := by
    rw [balL_len]
    exact Nat.le_trans (hldP_len _ _) hpl
  generalize balL (sumQ (hldP (bookB l known).ps day)) = bl at *
  generalize (bookB l known).ps = ps at *
  (refine WK.skip ?_; refine WK.seq ?_; refine WK.region ?_; refine St.assign ?_; refine WO.nil ?_; refine WK.seq ?_; refine WK.seq ?_; refine WK.region ?_; refine St.assign ?_; refine WO.nil ?_; refine WK.block ?_)
  refine WK.perm (L' := Lb ++ Lp) (by rw [List.append_nil]) ?_
  refine WK.inv (ι := Nat) (fun z => [(7, w), (9, u), (11, .int .i64 (if z % 2 = 0 then 0 else (nthE ps (z - 1)).am)), (12, .int .i64 z)]) (fun _ => Lb ++ Lp) (fun z => z ≤ ps.length) (fun z => ps.length - z) 0 (Nat.zero_le _) ⟨rfl, rfl, rfl, rfl, trivial⟩ (List.Sublist.refl _) ?_
  intro k hkl ih
  (refine WK.seq ?_; refine WK.seq ?_; refine WK.region ?_; refine St.move ?_; refine St.move ?_)
  refine St.lenG rfl (hw.isL.lenG Tryz.underlying35) ?_
  (refine St.bin ?_; refine WO.nil ?_)
  refine St.splitC (fun hc => ?_) (fun hc => ?_)
  · have hlt : k < ps.length := by simp at hc; omega
    have hpk := (hpo _ (nthE_mem hlt)).am
    rcases hw.rowN with ⟨_, _, h0, _⟩ | ⟨jw, rfl, rfl, hlw⟩
    · omega
    have hrd : ∀ {h2 : Heap} {V : Ob} {W : List Nat}, Vw h W V h2 → (∀ x ∈ [(jw, AObj.row (enF poC ps) 72 4)], x ∈ V) → ∀ i : Nat, i < ps.length → Rds h2 jw (0 + i * 4) (poC (nthE ps i)) := fun {h2 V W} hh hm i hi => by
      have hv := IsR.eVP (l := ps) hw rfl hh hm
      obtain ⟨b, off, cc, e, hk⟩ := hv.ne (by omega)
      cases e
      exact hk i hi
    (refine WK.skip ?_; refine WK.seq ?_; refine WK.block ?_; refine WK.seq ?_; refine WK.region ?_; refine St.move ?_; refine St.move ?_; refine St.move ?_)
    refine St.at ?_
    (refine St.fieldAddr ?_)
    refine St.loadX (v := .int .i64 (nthE ps k).am) (fun h2 hh => (((hrd hh (fun x hx => List.mem_append_right _ hx) k hlt).2.2.2.1).one rfl)) ?_
    by_cases hk2 : k % 2 = 0
    · obtain ⟨h3, h4⟩ := hat k hlt hk2
      have hlt2 : k + 1 < ps.length := by omega
      rw [if_pos hk2]
      (refine St.binI ?_; refine St.assign ?_; refine WO.nil ?_; refine WK.seq ?_; refine WK.regionD ?_; refine St.move ?_; refine St.bin ?_; refine St.move ?_)
      refine St.split (fun q => ?_) (fun q => ?_)
      · (refine St.move ?_; refine St.binI ?_; refine St.move ?_; refine St.len ?_; refine St.bin ?_; refine St.move ?_)
        refine St.split (fun q2 => ?_) (fun q2 => ?_)
        · exact absurd q2 (by simp; omega)
        (refine St.move ?_; refine St.move ?_; refine St.binI ?_)
        refine St.at ?_
        (refine St.fieldAddr ?_)
        refine St.loadX (v := .int .i64 (nthE ps (k + 1)).it) (fun h2 hh => by
          have := (hrd hh (fun x hx => List.mem_append_right _ hx) (k + 1) hlt2).1
          rw [show 0 + (k + 1) * 4 = 0 + ((k : Int) + 1).toNat * 4 + 0 by omega] at this
          exact this.one rfl) ?_
        (refine St.move ?_; refine St.move ?_)
        refine St.at ?_
        (refine St.fieldAddr ?_)
        refine St.loadX (v := .int .i64 (nthE ps k).it) (fun h2 hh => by
          have := (hrd hh (fun x hx => List.mem_append_right _ hx) k hlt).1
          exact this.one rfl) ?_
        rw [h3]
        (refine St.bin ?_; refine St.pickF ?_; refine St.pickT ?_; refine WO.nil ?_)
        refine St.splitC (fun q3 => ?_) (fun q3 => ?_)
        · exact absurd q3 (by simp)
        (refine WK.skip ?_; refine WK.blk ?_; refine WK.region ?_; refine St.move ?_; refine St.binI ?_; refine St.assign ?_; refine WO.nil ?_)
        refine WK.le ?_ (List.Sublist.refl _) (ih (k + 1) (by omega) (by omega))
        exact ⟨rfl, rfl, by rw [if_neg (by omega)]; simp only [Nat.add_sub_cancel]; exact congrArg (fun z => some (AV.int .i64 z)) (by omega), rfl, trivial⟩
      · have h5 : (nthE ps k).am = 0 := by simpa using q
        (refine St.skip ?_; refine St.skip ?_; refine St.skip ?_; refine St.skip ?_; refine St.skip ?_; refine St.skip ?_; refine St.skip ?_; refine St.skip ?_; refine St.skip ?_; refine St.skip ?_; refine St.skip ?_; refine St.skip ?_; refine St.skip ?_; refine St.skip ?_; refine St.skip ?_; refine St.skip ?_; refine St.skip ?_; refine St.skip ?_; refine St.skip ?_; refine St.pickF ?_; refine WO.nil ?_; refine WK.condF ?_; refine WK.skip ?_; refine WK.blk ?_; refine WK.region ?_; refine St.move ?_; refine St.binI ?_; refine St.assign ?_; refine WO.nil ?_)
        refine WK.le ?_ (List.Sublist.refl _) (ih (k + 1) (by omega) (by omega))
        exact ⟨rfl, rfl, by rw [if_neg (by omega)]; simp only [Nat.add_sub_cancel]; exact congrArg (fun z => some (AV.int .i64 z)) (by omega), rfl, trivial⟩
    · have hk3 := hat (k - 1) (by omega) (by omega)
      rw [show k - 1 + 1 = k by omega] at hk3
      have hpk1 := (hpo _ (nthE_mem (show k - 1 < ps.length by omega))).am
      rw [if_neg hk2]
      (refine St.binI ?_; refine St.assign ?_; refine WO.nil ?_; refine WK.seq ?_; refine WK.regionD ?_; refine St.move ?_; refine St.bin ?_; refine St.move ?_)
      refine St.split (fun q => ?_) (fun q => ?_)
      · exact absurd q (by simp; omega)
      (refine St.skip ?_; refine St.skip ?_; refine St.skip ?_; refine St.skip ?_; refine St.skip ?_; refine St.skip ?_; refine St.skip ?_; refine St.skip ?_; refine St.skip ?_; refine St.skip ?_; refine St.skip ?_; refine St.skip ?_; refine St.skip ?_; refine St.skip ?_; refine St.skip ?_; refine St.skip ?_; refine St.skip ?_; refine St.skip ?_; refine St.skip ?_; refine St.pickF ?_; refine WO.nil ?_; refine WK.condF ?_; refine WK.skip ?_; refine WK.blk ?_; refine WK.region ?_; refine St.move ?_; refine St.binI ?_; refine St.assign ?_; refine WO.nil ?_)
      refine WK.le ?_ (List.Sublist.refl _) (ih (k + 1) (by omega) (by omega))
      exact ⟨rfl, rfl, by rw [if_pos (by omega)]; exact congrArg (fun z => some (AV.int .i64 z)) (by omega), rfl, trivial⟩
  · have hkl2 : k = ps.length := by simp at hc; omega
    subst hkl2
    rw [if_pos hev]
    clear ih
    (refine WK.exit ?_; refine WK.seq ?_; refine WK.region ?_; refine St.assign ?_; refine WO.nil ?_; refine WK.seq ?_; refine WK.seq ?_; refine WK.region ?_; refine St.assign ?_; refine WO.nil ?_; refine WK.block ?_)
    refine WK.inv (ι := Nat) (fun z => [(9, u), (11, .int .i64 0), (13, .int .i64 ((bl.take z).map (·.am)).sum), (14, .int .i64 z)]) (fun _ => Lb ++ Lp) (fun z => z ≤ bl.length) (fun z => bl.length - z) 0 (Nat.zero_le _) ⟨rfl, rfl, rfl, rfl, trivial⟩ (List.Sublist.refl _) ?_
    intro k hkl ih
    (refine WK.seq ?_; refine WK.seq ?_; refine WK.region ?_; refine St.move ?_; refine St.move ?_)
    refine St.lenG rfl (hu.isL.lenG Tryz.underlying38) ?_
    (refine St.bin ?_; refine WO.nil ?_)
    refine St.splitC (fun hc => ?_) (fun hc => ?_)
    · have hlt : k < bl.length := by simp at hc; omega
      have hbk := hbd _ (nthE_mem hlt)
      have hsb := sum_bd (b := 4026531840) (by omega) (l := bl.take k) (fun x hx => hbd x (List.mem_of_mem_take hx))
      rw [List.length_take, Nat.min_eq_left (by omega)] at hsb
      have htk := take_succE hlt
      have hsum : ((bl.take (k + 1)).map (·.am)).sum = ((bl.take k).map (·.am)).sum + (nthE bl k).am := by rw [htk, List.map_append, List.sum_append]; simp
      rcases hu.rowN with ⟨_, _, h0, _⟩ | ⟨jw, rfl, rfl, hlw⟩
      · omega
      have hrd : ∀ {h2 : Heap} {V : Ob} {W : List Nat}, Vw h W V h2 → (∀ x ∈ [(jw, AObj.row (enF baC bl) 110 2)], x ∈ V) → ∀ i : Nat, i < bl.length → Rds h2 jw (0 + i * 2) (baC (nthE bl i)) := fun {h2 V W} hh hm i hi => by
        have hv : BaV h2 _ bl := en_v baC_len hu.isL rfl hh hm
        obtain ⟨b, off, cc, e, hk⟩ := hv.ne (by omega)
        cases e
        exact hk i hi
      (refine WK.skip ?_; refine WK.seq ?_; refine WK.block ?_; refine WK.seq ?_; refine WK.region ?_; refine St.move ?_; refine St.move ?_; refine St.move ?_)
      refine St.at ?_
      (refine St.fieldAddr ?_)
      refine St.loadX (v := .int .i64 (nthE bl k).am) (fun h2 hh => (((hrd hh (fun x hx => List.mem_append_left _ hx) k hlt).2.1).one rfl)) ?_
      (refine St.binI ?_; refine St.assign ?_; refine WO.nil ?_; refine WK.seq ?_; refine WK.regionD ?_; refine St.move ?_; refine St.bin ?_; refine St.move ?_)
      refine St.split (fun q => ?_) (fun q => ?_)
      · have hk0 : 0 < k := by simp at q; omega
        have hlt1 : k - 1 < bl.length := by omega
        have hh3 : (nthE bl (k - 1)).ac < (nthE bl k).ac := by
          rw [nthE_eq hlt1, nthE_eq hlt]
          exact List.pairwise_iff_getElem.1 hbl _ _ hlt1 hlt (by omega)
        (refine St.move ?_; refine St.move ?_)
        refine St.at ?_
        (refine St.fieldAddr ?_)
        refine St.loadX (v := .int .i64 (nthE bl k).ac) (fun h2 hh => (((hrd hh (fun x hx => List.mem_append_left _ hx) k hlt).1).one rfl)) ?_
        (refine St.move ?_; refine St.move ?_; refine St.binI ?_)
        refine St.at ?_
        (refine St.fieldAddr ?_)
        refine St.loadX (v := .int .i64 (nthE bl (k - 1)).ac) (fun h2 hh => by
          have := (hrd hh (fun x hx => List.mem_append_left _ hx) (k - 1) hlt1).1
          rw [show 0 + (k - 1) * 2 = 0 + ((k : Int) - 1).toNat * 2 + 0 by omega] at this
          exact this.one rfl) ?_
        (refine St.bin ?_; refine St.pickT ?_; refine WO.nil ?_)
        refine St.splitC (fun q3 => ?_) (fun q3 => ?_)
        · exact absurd q3 (by simp; omega)
        (refine WK.skip ?_; refine WK.blk ?_; refine WK.region ?_; refine St.move ?_; refine St.binI ?_; refine St.assign ?_; refine WO.nil ?_)
        refine WK.le ?_ (List.Sublist.refl _) (ih (k + 1) (by omega) (by omega))
        exact ⟨rfl, rfl, by rw [hsum]; rfl, rfl, trivial⟩
      · (refine St.skip ?_; refine St.skip ?_; refine St.skip ?_; refine St.skip ?_; refine St.skip ?_; refine St.skip ?_; refine St.skip ?_; refine St.skip ?_; refine St.skip ?_; refine St.skip ?_; refine St.skip ?_; refine St.skip ?_; refine St.pickF ?_; refine WO.nil ?_; refine WK.condF ?_; refine WK.skip ?_; refine WK.blk ?_; refine WK.region ?_; refine St.move ?_; refine St.binI ?_; refine St.assign ?_; refine WO.nil ?_)
        refine WK.le ?_ (List.Sublist.refl _) (ih (k + 1) (by omega) (by omega))
        exact ⟨rfl, rfl, by rw [hsum]; rfl, rfl, trivial⟩
    · have hkl2 : k = bl.length := by simp at hc; omega
      subst hkl2
      rw [List.take_length, hbs]
      (refine WK.exit ?_; refine WK.seq ?_; refine WK.region ?_)
      refine St.call (fun _ => rfl) (fun h2 hh => sanity_con h2 hh.gd) ?_
      (refine St.move ?_; refine St.move ?_; refine St.bin ?_; refine St.pickT ?_; refine St.move ?_; refine St.move ?_; refine St.bin ?_; refine St.pickT ?_; refine St.assign ?_; refine WO.nil ?_)
      refine St.ret (by first | exact .tmp .nil | exact .cell .nil | exact .cell (.tmp .nil) | exact .tmp (.tmp .nil) | exact .cell (.cell .nil) | exact .tmp (.cell .nil) | exact .nil | exact .tmp (.cell (.tmp .nil)) | exact .cell (.tmp (.tmp .nil)) | exact .cell (.cell (.tmp .nil)) | exact .tmp (.tmp (.tmp .nil)) | exact .tmp (.tmp (.tmp (.tmp .nil))) | exact .cell (.cell (.cell .nil))) ?_
      rfl
end Go.Proofs.YtkebbdpfjhhdhaaGreat
