/- Layer 5: the program's isFormed, through. -/
import Derived.Test.YtjlpoomjgidgaaaNa
import Derived.Test.YtjlpoomjgidgaaaNq
namespace Go.Proofs.Ytjlpoomjgidgaaa
open Go.Proofs.Ytjlpoomjgidgaaa.Ev

set_option maxRecDepth 100000 in
set_option maxHeartbeats 16000000 in
theorem isFormed_con (h : Heap) (g : Gd h) (p : Nat) (vi cv : AV) (way : Int) (ids l : List Int) (hp : Rd h p 0 vi) (hi : InV h vi ids) (hc : InV h cv l) (hl1 : ids.length ≤ 1000000) (hl2 : l.length ≤ 1000000) :
    Con Try.prog Bs 27 [.ptr p 0, .agg [.int .i64 way, cv]] h [] (.bool (frm ids way l)) [] := by
  refine Con.start rfl Try.func27 rfl rfl Try.ntmps27 rfl rfl g ?_
  (refine WK.seq ?_; refine WK.region ?_; refine St.box fun _ _ => ?_; refine St.assign ?_; refine WO.nil ?_; refine WK.seq ?_; refine WK.seq ?_; refine WK.region ?_; refine St.fieldAddr ?_; refine St.load ?_; refine St.bin ?_; refine St.move ?_)
  rename_i p3 hp3
  refine St.split (fun q1 => ?_) (fun q1 => ?_)
  · (refine St.fieldAddr ?_; refine St.load ?_; refine St.bin ?_; refine St.pickT ?_; refine St.move ?_)
    refine St.split (fun q2 => ?_) (fun q2 => ?_)
    · have hw : ¬ (way = 1 ∨ way = 2) := by simp at q1 q2; omega
      (refine St.skip ?_; refine St.skip ?_; refine St.skip ?_; refine St.skip ?_; refine St.pickT ?_; refine WO.nil ?_; refine WK.condT ?_; refine WK.seq ?_; refine WK.region ?_; refine St.assign ?_; refine WO.nil ?_)
      refine St.ret (by first | exact .tmp .nil | exact .cell .nil | exact .cell (.tmp .nil) | exact .tmp (.tmp .nil) | exact .cell (.cell .nil) | exact .tmp (.cell .nil) | exact .nil | exact .tmp (.cell (.tmp .nil)) | exact .cell (.tmp (.tmp .nil)) | exact .cell (.cell (.tmp .nil)) | exact .tmp (.tmp (.tmp .nil)) | exact .cell (.cell (.cell .nil))) ?_
      rw [frm_way hw]
      rfl
    · have hw : way = 2 := by simpa using q2
      subst hw
      (refine St.fieldAddr ?_; refine St.load ?_)
      refine St.lenG rfl hc.ilen ?_
      (refine St.bin ?_; refine St.pickF ?_; refine WO.nil ?_)
      refine St.splitC (fun q3 => ?_) (fun q3 => ?_)
      · have h0 : l.length = 0 := by simpa using q3
        (refine WK.seq ?_; refine WK.region ?_; refine St.assign ?_; refine WO.nil ?_)
        refine St.ret (by first | exact .tmp .nil | exact .cell .nil | exact .cell (.tmp .nil) | exact .tmp (.tmp .nil) | exact .cell (.cell .nil) | exact .tmp (.cell .nil) | exact .nil | exact .tmp (.cell (.tmp .nil)) | exact .cell (.tmp (.tmp .nil)) | exact .cell (.cell (.tmp .nil)) | exact .tmp (.tmp (.tmp .nil)) | exact .cell (.cell (.cell .nil))) ?_
        rw [frm_nil h0]
        rfl
      have h0 : l.length ≠ 0 := by simpa using q3
      (refine WK.skip ?_; refine WK.seq ?_; refine WK.seq ?_; refine WK.region ?_; refine St.fieldAddr ?_; refine St.load ?_)
      refine St.lenG rfl hc.ilen ?_
      (refine St.move ?_; refine WO.nil ?_; refine WK.block ?_)
      obtain ⟨b, off, c, rfl, hk⟩ := hc.ne (by omega)
      refine WK.inv (ι := Nat) (fun z => [(0, .ptr p 0), (3, .ptr p3 0), (22, .slice b off l.length c), (23, .int .i64 l.length), (24, .int .i64 z)]) (fun _ => [(p3, .cells [.int .i64 2, .slice b off l.length c] 30)]) (fun z => z ≤ l.length ∧ ∀ i, i < z → cutBad ids l i = false) (fun z => l.length - z) 0 ⟨Nat.zero_le _, fun i hi => absurd hi (by omega)⟩ ⟨rfl, rfl, rfl, rfl, rfl, trivial⟩ (by (repeat (first | exact List.Sublist.refl _ | exact List.nil_sublist _ | apply List.Sublist.cons_cons | apply List.Sublist.cons))) ?_
      rintro k ⟨hkl, hgood⟩ ih
      (refine WK.seq ?_; refine WK.region ?_; refine St.bin ?_; refine WO.nil ?_; refine WK.seq ?_)
      refine St.splitC (fun hc1 => ?_) (fun hc1 => ?_)
      · have hlt : k < l.length := by simp at hc1; omega
        have next : cutBad ids l k = false → ∀ i, i < k + 1 → cutBad ids l i = false := fun e i hi => by
          by_cases q : i = k
          · subst q; exact e
          · exact hgood i (by omega)
        have hbad : cutBad ids l k = Bool.or (!decide (nthE l k ∈ ids)) (decide (0 < k) && decide (nthE l k ≤ nthE l (k - 1))) := rfl
        (refine WK.skip ?_; refine WK.seq ?_; refine WK.block ?_; refine WK.seq ?_; refine WK.region ?_; refine St.move ?_)
        refine St.at ?_
        refine St.loadX (fun h2 hh2 => (Rds.headG ((hk.vw hh2).at_ (z := (k : Int)) (n := k) (by omega) hlt)).one rfl) ?_
        (refine St.assign ?_; refine St.assign ?_; refine WO.nil ?_; refine WK.seq ?_; refine WK.region ?_; refine St.move ?_; refine St.nilP ?_; refine St.fieldAddr ?_)
        refine St.loadX (fun h2 hh2 => (hh2.rd (by simp) hp).one rfl) ?_
        (refine St.move ?_)
        refine St.call (fun _ => rfl) (fun h2 hh2 => contains_con h2 hh2.gd vi ids (nthE l k) (hi.vw hh2) hl1) ?_
        by_cases hm : nthE l k ∈ ids
        rotate_left
        · rw [decide_eq_false hm]
          (refine St.un ?_; refine St.move ?_; refine St.skip ?_; refine St.skip ?_; refine St.skip ?_; refine St.skip ?_; refine St.skip ?_; refine St.skip ?_; refine St.skip ?_; refine St.skip ?_; refine St.skip ?_; refine St.skip ?_; refine St.skip ?_; refine St.skip ?_; refine St.pickT ?_; refine WO.nil ?_; refine WK.condT ?_; refine WK.seq ?_; refine WK.region ?_; refine St.assign ?_; refine WO.nil ?_)
          refine St.ret (by first | exact .tmp .nil | exact .cell .nil | exact .cell (.tmp .nil) | exact .tmp (.tmp .nil) | exact .cell (.cell .nil) | exact .tmp (.cell .nil) | exact .nil | exact .tmp (.cell (.tmp .nil)) | exact .cell (.tmp (.tmp .nil)) | exact .cell (.cell (.tmp .nil)) | exact .tmp (.tmp (.tmp .nil)) | exact .cell (.cell (.cell .nil))) ?_
          rw [frm_bad hlt (by rw [hbad, decide_eq_false hm]; rfl)]
          rfl
        rw [decide_eq_true hm] at hbad ⊢
        (refine St.un ?_; refine St.move ?_; refine St.move ?_; refine St.bin ?_; refine St.move ?_)
        refine St.split (fun q => ?_) (fun q => ?_)
        · have hk0 : 0 < k := by simp at q; omega
          rw [decide_eq_true hk0] at hbad
          (refine St.move ?_; refine St.fieldAddr ?_; refine St.load ?_; refine St.move ?_; refine St.binI ?_)
          refine St.at ?_
          refine St.loadX (fun h2 hh2 => (Rds.headG ((hk.vw hh2).at_ (z := (k : Int) - 1) (n := k - 1) (by omega) (by omega))).one rfl) ?_
          (refine St.bin ?_; refine St.pickT ?_; refine St.pickF ?_; refine WO.nil ?_)
          refine St.splitC (fun q4 => ?_) (fun q4 => ?_)
          · have hle : nthE l k ≤ nthE l (k - 1) := by simpa using q4
            (refine WK.seq ?_; refine WK.region ?_; refine St.assign ?_; refine WO.nil ?_)
            refine St.ret (by first | exact .tmp .nil | exact .cell .nil | exact .cell (.tmp .nil) | exact .tmp (.tmp .nil) | exact .cell (.cell .nil) | exact .tmp (.cell .nil) | exact .nil | exact .tmp (.cell (.tmp .nil)) | exact .cell (.tmp (.tmp .nil)) | exact .cell (.cell (.tmp .nil)) | exact .tmp (.tmp (.tmp .nil)) | exact .cell (.cell (.cell .nil))) ?_
            rw [frm_bad hlt (by rw [hbad, decide_eq_true hle]; rfl)]
            rfl
          · have hle : ¬ nthE l k ≤ nthE l (k - 1) := by simpa using q4
            (refine WK.skip ?_; refine WK.blk ?_; refine WK.region ?_; refine St.binI ?_; refine St.move ?_; refine WO.nil ?_)
            refine WK.le ?_ (by (repeat (first | exact List.Sublist.refl _ | exact List.nil_sublist _ | apply List.Sublist.cons_cons | apply List.Sublist.cons))) (ih (k + 1) ⟨hlt, next (by rw [hbad, decide_eq_false hle]; rfl)⟩ (by omega))
            exact ⟨rfl, rfl, rfl, rfl, rfl, trivial⟩
        · have hk0 : ¬ 0 < k := by simp at q; omega
          rw [decide_eq_false hk0] at hbad
          (refine St.skip ?_; refine St.skip ?_; refine St.skip ?_; refine St.skip ?_; refine St.skip ?_; refine St.skip ?_; refine St.skip ?_; refine St.skip ?_; refine St.pickF ?_; refine St.pickF ?_; refine WO.nil ?_; refine WK.condF ?_; refine WK.skip ?_; refine WK.blk ?_; refine WK.region ?_; refine St.binI ?_; refine St.move ?_; refine WO.nil ?_)
          refine WK.le ?_ (by (repeat (first | exact List.Sublist.refl _ | exact List.nil_sublist _ | apply List.Sublist.cons_cons | apply List.Sublist.cons))) (ih (k + 1) ⟨hlt, next (by rw [hbad]; rfl)⟩ (by omega))
          exact ⟨rfl, rfl, rfl, rfl, rfl, trivial⟩
      · have : k = l.length := by simp at hc1; omega
        subst this
        (refine WK.exit ?_; refine WK.seq ?_; refine WK.region ?_; refine St.assign ?_; refine WO.nil ?_)
        refine St.ret (by first | exact .tmp .nil | exact .cell .nil | exact .cell (.tmp .nil) | exact .tmp (.tmp .nil) | exact .cell (.cell .nil) | exact .tmp (.cell .nil) | exact .nil | exact .tmp (.cell (.tmp .nil)) | exact .cell (.tmp (.tmp .nil)) | exact .cell (.cell (.tmp .nil)) | exact .tmp (.tmp (.tmp .nil)) | exact .cell (.cell (.cell .nil))) ?_
        rw [frm_yes (.inr rfl) h0 hgood]
        rfl
  · have hw : way = 1 := by simpa using q1
    subst hw
    (refine St.skip ?_; refine St.skip ?_; refine St.skip ?_; refine St.pickF ?_; refine St.move ?_; refine St.fieldAddr ?_; refine St.load ?_)
    refine St.lenG rfl hc.ilen ?_
    (refine St.bin ?_; refine St.pickF ?_; refine WO.nil ?_)
    refine St.splitC (fun q3 => ?_) (fun q3 => ?_)
    · have h0 : l.length = 0 := by simpa using q3
      (refine WK.seq ?_; refine WK.region ?_; refine St.assign ?_; refine WO.nil ?_)
      refine St.ret (by first | exact .tmp .nil | exact .cell .nil | exact .cell (.tmp .nil) | exact .tmp (.tmp .nil) | exact .cell (.cell .nil) | exact .tmp (.cell .nil) | exact .nil | exact .tmp (.cell (.tmp .nil)) | exact .cell (.tmp (.tmp .nil)) | exact .cell (.cell (.tmp .nil)) | exact .tmp (.tmp (.tmp .nil)) | exact .cell (.cell (.cell .nil))) ?_
      rw [frm_nil h0]
      rfl
    have h0 : l.length ≠ 0 := by simpa using q3
    (refine WK.skip ?_; refine WK.seq ?_; refine WK.seq ?_; refine WK.region ?_; refine St.fieldAddr ?_; refine St.load ?_)
    refine St.lenG rfl hc.ilen ?_
    (refine St.move ?_; refine WO.nil ?_; refine WK.block ?_)
    obtain ⟨b, off, c, rfl, hk⟩ := hc.ne (by omega)
    refine WK.inv (ι := Nat) (fun z => [(0, .ptr p 0), (3, .ptr p3 0), (22, .slice b off l.length c), (23, .int .i64 l.length), (24, .int .i64 z)]) (fun _ => [(p3, .cells [.int .i64 1, .slice b off l.length c] 30)]) (fun z => z ≤ l.length ∧ ∀ i, i < z → cutBad ids l i = false) (fun z => l.length - z) 0 ⟨Nat.zero_le _, fun i hi => absurd hi (by omega)⟩ ⟨rfl, rfl, rfl, rfl, rfl, trivial⟩ (by (repeat (first | exact List.Sublist.refl _ | exact List.nil_sublist _ | apply List.Sublist.cons_cons | apply List.Sublist.cons))) ?_
    rintro k ⟨hkl, hgood⟩ ih
    (refine WK.seq ?_; refine WK.region ?_; refine St.bin ?_; refine WO.nil ?_; refine WK.seq ?_)
    refine St.splitC (fun hc1 => ?_) (fun hc1 => ?_)
    · have hlt : k < l.length := by simp at hc1; omega
      have next : cutBad ids l k = false → ∀ i, i < k + 1 → cutBad ids l i = false := fun e i hi => by
        by_cases q : i = k
        · subst q; exact e
        · exact hgood i (by omega)
      have hbad : cutBad ids l k = Bool.or (!decide (nthE l k ∈ ids)) (decide (0 < k) && decide (nthE l k ≤ nthE l (k - 1))) := rfl
      (refine WK.skip ?_; refine WK.seq ?_; refine WK.block ?_; refine WK.seq ?_; refine WK.region ?_; refine St.move ?_)
      refine St.at ?_
      refine St.loadX (fun h2 hh2 => (Rds.headG ((hk.vw hh2).at_ (z := (k : Int)) (n := k) (by omega) hlt)).one rfl) ?_
      (refine St.assign ?_; refine St.assign ?_; refine WO.nil ?_; refine WK.seq ?_; refine WK.region ?_; refine St.move ?_; refine St.nilP ?_; refine St.fieldAddr ?_)
      refine St.loadX (fun h2 hh2 => (hh2.rd (by simp) hp).one rfl) ?_
      (refine St.move ?_)
      refine St.call (fun _ => rfl) (fun h2 hh2 => contains_con h2 hh2.gd vi ids (nthE l k) (hi.vw hh2) hl1) ?_
      by_cases hm : nthE l k ∈ ids
      rotate_left
      · rw [decide_eq_false hm]
        (refine St.un ?_; refine St.move ?_; refine St.skip ?_; refine St.skip ?_; refine St.skip ?_; refine St.skip ?_; refine St.skip ?_; refine St.skip ?_; refine St.skip ?_; refine St.skip ?_; refine St.skip ?_; refine St.skip ?_; refine St.skip ?_; refine St.skip ?_; refine St.pickT ?_; refine WO.nil ?_; refine WK.condT ?_; refine WK.seq ?_; refine WK.region ?_; refine St.assign ?_; refine WO.nil ?_)
        refine St.ret (by first | exact .tmp .nil | exact .cell .nil | exact .cell (.tmp .nil) | exact .tmp (.tmp .nil) | exact .cell (.cell .nil) | exact .tmp (.cell .nil) | exact .nil | exact .tmp (.cell (.tmp .nil)) | exact .cell (.tmp (.tmp .nil)) | exact .cell (.cell (.tmp .nil)) | exact .tmp (.tmp (.tmp .nil)) | exact .cell (.cell (.cell .nil))) ?_
        rw [frm_bad hlt (by rw [hbad, decide_eq_false hm]; rfl)]
        rfl
      rw [decide_eq_true hm] at hbad ⊢
      (refine St.un ?_; refine St.move ?_; refine St.move ?_; refine St.bin ?_; refine St.move ?_)
      refine St.split (fun q => ?_) (fun q => ?_)
      · have hk0 : 0 < k := by simp at q; omega
        rw [decide_eq_true hk0] at hbad
        (refine St.move ?_; refine St.fieldAddr ?_; refine St.load ?_; refine St.move ?_; refine St.binI ?_)
        refine St.at ?_
        refine St.loadX (fun h2 hh2 => (Rds.headG ((hk.vw hh2).at_ (z := (k : Int) - 1) (n := k - 1) (by omega) (by omega))).one rfl) ?_
        (refine St.bin ?_; refine St.pickT ?_; refine St.pickF ?_; refine WO.nil ?_)
        refine St.splitC (fun q4 => ?_) (fun q4 => ?_)
        · have hle : nthE l k ≤ nthE l (k - 1) := by simpa using q4
          (refine WK.seq ?_; refine WK.region ?_; refine St.assign ?_; refine WO.nil ?_)
          refine St.ret (by first | exact .tmp .nil | exact .cell .nil | exact .cell (.tmp .nil) | exact .tmp (.tmp .nil) | exact .cell (.cell .nil) | exact .tmp (.cell .nil) | exact .nil | exact .tmp (.cell (.tmp .nil)) | exact .cell (.tmp (.tmp .nil)) | exact .cell (.cell (.tmp .nil)) | exact .tmp (.tmp (.tmp .nil)) | exact .cell (.cell (.cell .nil))) ?_
          rw [frm_bad hlt (by rw [hbad, decide_eq_true hle]; rfl)]
          rfl
        · have hle : ¬ nthE l k ≤ nthE l (k - 1) := by simpa using q4
          (refine WK.skip ?_; refine WK.blk ?_; refine WK.region ?_; refine St.binI ?_; refine St.move ?_; refine WO.nil ?_)
          refine WK.le ?_ (by (repeat (first | exact List.Sublist.refl _ | exact List.nil_sublist _ | apply List.Sublist.cons_cons | apply List.Sublist.cons))) (ih (k + 1) ⟨hlt, next (by rw [hbad, decide_eq_false hle]; rfl)⟩ (by omega))
          exact ⟨rfl, rfl, rfl, rfl, rfl, trivial⟩
      · have hk0 : ¬ 0 < k := by simp at q; omega
        rw [decide_eq_false hk0] at hbad
        (refine St.skip ?_; refine St.skip ?_; refine St.skip ?_; refine St.skip ?_; refine St.skip ?_; refine St.skip ?_; refine St.skip ?_; refine St.skip ?_; refine St.pickF ?_; refine St.pickF ?_; refine WO.nil ?_; refine WK.condF ?_; refine WK.skip ?_; refine WK.blk ?_; refine WK.region ?_; refine St.binI ?_; refine St.move ?_; refine WO.nil ?_)
        refine WK.le ?_ (by (repeat (first | exact List.Sublist.refl _ | exact List.nil_sublist _ | apply List.Sublist.cons_cons | apply List.Sublist.cons))) (ih (k + 1) ⟨hlt, next (by rw [hbad]; rfl)⟩ (by omega))
        exact ⟨rfl, rfl, rfl, rfl, rfl, trivial⟩
    · have : k = l.length := by simp at hc1; omega
      subst this
      (refine WK.exit ?_; refine WK.seq ?_; refine WK.region ?_; refine St.assign ?_; refine WO.nil ?_)
      refine St.ret (by first | exact .tmp .nil | exact .cell .nil | exact .cell (.tmp .nil) | exact .tmp (.tmp .nil) | exact .cell (.cell .nil) | exact .tmp (.cell .nil) | exact .nil | exact .tmp (.cell (.tmp .nil)) | exact .cell (.tmp (.tmp .nil)) | exact .cell (.cell (.tmp .nil)) | exact .tmp (.tmp (.tmp .nil)) | exact .cell (.cell (.cell .nil))) ?_
      rw [frm_yes (.inl rfl) h0 hgood]
      rfl
theorem ctr_bd {way : Int} {l : List Int} {e : Ed} (h : (0 ≤ e.lo ∧ e.lo ≤ 65536) ∧ (0 ≤ e.hi ∧ e.hi ≤ 65536)) : -65536 ≤ ctr way l e ∧ ctr way l e ≤ 65536 := by
  unfold ctr
  split
  · omega
  · split <;> omega
set_option maxRecDepth 100000 in
set_option maxHeartbeats 16000000 in
theorem through_con (h : Heap) (g : Gd h) (p : Nat) (ve cv : AV) (way : Int) (es : List Ed) (l : List Int) (hp : Rd h p 1 ve) (he : EV edC 8 h ve es) (hc : InV h cv l) (hl1 : es.length ≤ 1000) (hl2 : l.length ≤ 1000000) (hb : ∀ e ∈ es, (0 ≤ e.lo ∧ e.lo ≤ 65536) ∧ (0 ≤ e.hi ∧ e.hi ≤ 65536)) :
    Con Try.prog Bs 28 [.ptr p 0, .agg [.int .i64 way, cv]] h [] (.int .i64 (sumF (ctr way l) es)) [] := by
  refine Con.start rfl Try.func28 rfl rfl Try.ntmps28 rfl rfl g ?_
  (refine WK.seq ?_; refine WK.region ?_; refine St.box fun _ _ => ?_; refine St.assign ?_; refine WO.nil ?_; refine WK.seq ?_; refine WK.region ?_; refine St.assign ?_; refine WO.nil ?_; refine WK.seq ?_; refine WK.seq ?_; refine WK.region ?_; refine St.move ?_; refine St.nilP ?_; refine St.fieldAddr ?_)
  rename_i p3 hp3
  refine St.loadX (fun h2 hh2 => (hh2.rd (by simp) hp).one rfl) ?_
  refine St.lenG rfl (he.len Try.underlying89) ?_
  (refine St.move ?_; refine WO.nil ?_; refine WK.block ?_)
  refine WK.inv (ι := Nat) (fun z => [(0, .ptr p 0), (3, .ptr p3 0), (5, .int .i64 (sumF (ctr way l) (es.take z))), (13, .int .i64 es.length), (14, .int .i64 z)]) (fun _ => [(p3, .cells [.int .i64 way, cv] 30)]) (fun z => z ≤ es.length) (fun z => es.length - z) 0 (Nat.zero_le _) ⟨rfl, rfl, rfl, rfl, rfl, trivial⟩ (by (repeat (first | exact List.Sublist.refl _ | exact List.nil_sublist _ | apply List.Sublist.cons_cons | apply List.Sublist.cons))) ?_
  rintro k hkl ih
  (refine WK.seq ?_; refine WK.region ?_; refine St.bin ?_; refine WO.nil ?_; refine WK.seq ?_)
  refine St.splitC (fun hc1 => ?_) (fun hc1 => ?_)
  · have hlt : k < es.length := by simp at hc1; omega
    have he' := he
    obtain ⟨b, off, c, rfl, hk⟩ := he'.ne (by omega)
    have hs : sumF (ctr way l) (es.take (k + 1)) = sumF (ctr way l) (es.take k) + ctr way l (nthE es k) := by rw [take_succE hlt, sumF_snoc]
    have hbd := sumF_bd (f := ctr way l) (xs := es.take k) fun e he2 => ctr_bd (hb e (List.mem_of_mem_take he2))
    rw [List.length_take, Nat.min_eq_left hkl] at hbd
    have hbe := hb _ (nthE_mem hlt)
    have hct : ctr way l (nthE es k) = if decide ((nthE es k).fr ∈ l) = decide ((nthE es k).to ∈ l) then 0 else if decide ((nthE es k).fr ∈ l) = decide (way = 1) then (nthE es k).lo else -(nthE es k).hi := rfl
    generalize sumF (ctr way l) (es.take k) = S at hs hbd ⊢
    (refine WK.skip ?_; refine WK.seq ?_; refine WK.block ?_; refine WK.seq ?_; refine WK.region ?_; refine St.move ?_; refine St.assign ?_; refine WO.nil ?_; refine WK.seq ?_; refine WK.region ?_; refine St.move ?_; refine St.nilP ?_; refine St.fieldAddr ?_)
    refine St.loadX (fun h2 hh2 => (hh2.rd (by simp) hp).one rfl) ?_
    (refine St.move ?_)
    refine St.at ?_
    refine St.loadX (fun h2 hh2 => ((hk.vw hh2).at_ (z := (k : Int)) (n := k) (by omega) hlt).agg (by simp [edC]) rfl rfl rfl) ?_
    (refine St.alloc fun _ _ => ?_; refine St.store0 ?_; refine WO.nil ?_; refine WK.seq ?_; refine WK.region ?_; refine St.fieldAddr ?_; refine St.load ?_; refine St.fieldAddr ?_; refine St.fieldAddr ?_; refine St.load ?_)
    rename_i p7 hp7
    refine St.call (fun _ => rfl) (fun h2 hh2 => contains_con h2 hh2.gd cv l (nthE es k).fr (hc.vw hh2) hl2) ?_
    (refine St.assign ?_; refine WO.nil ?_; refine WK.seq ?_; refine WK.seq ?_; refine WK.region ?_; refine St.move ?_; refine St.fieldAddr ?_; refine St.load ?_; refine St.fieldAddr ?_; refine St.fieldAddr ?_; refine St.load ?_)
    refine St.call (fun _ => rfl) (fun h2 hh2 => contains_con h2 hh2.gd cv l (nthE es k).to (hc.vw hh2) hl2) ?_
    generalize decide ((nthE es k).fr ∈ l) = A at hct ⊢
    generalize decide ((nthE es k).to ∈ l) = B at hct ⊢
    cases A <;> cases B
    · (refine St.bin ?_; refine WO.nil ?_; refine WK.condT ?_; refine WK.exit ?_; refine WK.region ?_; refine St.binI ?_; refine St.move ?_; refine WO.nil ?_)
      rw [if_pos rfl] at hct
      refine WK.le ?_ (by (repeat (first | exact List.Sublist.refl _ | exact List.nil_sublist _ | apply List.Sublist.cons_cons | apply List.Sublist.cons))) (ih (k + 1) hlt (by omega))
      simp only [hs, hct, Int.add_zero]
      exact ⟨rfl, rfl, rfl, rfl, rfl, trivial⟩
    · (refine St.bin ?_; refine WO.nil ?_; refine WK.condF ?_; refine WK.skip ?_; refine WK.seq ?_; refine WK.region ?_; refine St.move ?_; refine St.fieldAddr ?_; refine St.load ?_; refine St.bin ?_; refine St.bin ?_; refine WO.nil ?_)
      rw [if_neg (by simp)] at hct
      refine St.splitC (fun q => ?_) (fun q => ?_)
      · have hw : ¬ way = 1 := by simpa using q
        rw [decide_eq_false hw, if_pos rfl] at hct
        (refine WK.region ?_; refine St.move ?_; refine St.fieldAddr ?_; refine St.fieldAddr ?_; refine St.fieldAddr ?_; refine St.load ?_; refine St.binI ?_; refine St.assign ?_; refine WO.nil ?_; refine WK.blk ?_; refine WK.region ?_; refine St.binI ?_; refine St.move ?_; refine WO.nil ?_)
        refine WK.le ?_ (by (repeat (first | exact List.Sublist.refl _ | exact List.nil_sublist _ | apply List.Sublist.cons_cons | apply List.Sublist.cons))) (ih (k + 1) hlt (by omega))
        simp only [hs, hct]
        exact ⟨rfl, rfl, rfl, rfl, rfl, trivial⟩
      · have hw : way = 1 := by simpa using q
        rw [decide_eq_true hw, if_neg (by simp)] at hct
        (refine WK.region ?_; refine St.move ?_; refine St.fieldAddr ?_; refine St.fieldAddr ?_; refine St.fieldAddr ?_; refine St.load ?_; refine St.binI ?_; refine St.assign ?_; refine WO.nil ?_; refine WK.blk ?_; refine WK.region ?_; refine St.binI ?_; refine St.move ?_; refine WO.nil ?_)
        refine WK.le ?_ (by (repeat (first | exact List.Sublist.refl _ | exact List.nil_sublist _ | apply List.Sublist.cons_cons | apply List.Sublist.cons))) (ih (k + 1) hlt (by omega))
        simp only [hs, hct, ← Int.sub_eq_add_neg]
        exact ⟨rfl, rfl, rfl, rfl, rfl, trivial⟩
    · (refine St.bin ?_; refine WO.nil ?_; refine WK.condF ?_; refine WK.skip ?_; refine WK.seq ?_; refine WK.region ?_; refine St.move ?_; refine St.fieldAddr ?_; refine St.load ?_; refine St.bin ?_; refine St.bin ?_; refine WO.nil ?_)
      rw [if_neg (by simp)] at hct
      refine St.splitC (fun q => ?_) (fun q => ?_)
      · have hw : way = 1 := by simpa using q
        rw [decide_eq_true hw, if_pos rfl] at hct
        (refine WK.region ?_; refine St.move ?_; refine St.fieldAddr ?_; refine St.fieldAddr ?_; refine St.fieldAddr ?_; refine St.load ?_; refine St.binI ?_; refine St.assign ?_; refine WO.nil ?_; refine WK.blk ?_; refine WK.region ?_; refine St.binI ?_; refine St.move ?_; refine WO.nil ?_)
        refine WK.le ?_ (by (repeat (first | exact List.Sublist.refl _ | exact List.nil_sublist _ | apply List.Sublist.cons_cons | apply List.Sublist.cons))) (ih (k + 1) hlt (by omega))
        simp only [hs, hct]
        exact ⟨rfl, rfl, rfl, rfl, rfl, trivial⟩
      · have hw : ¬ way = 1 := by simpa using q
        rw [decide_eq_false hw, if_neg (by simp)] at hct
        (refine WK.region ?_; refine St.move ?_; refine St.fieldAddr ?_; refine St.fieldAddr ?_; refine St.fieldAddr ?_; refine St.load ?_; refine St.binI ?_; refine St.assign ?_; refine WO.nil ?_; refine WK.blk ?_; refine WK.region ?_; refine St.binI ?_; refine St.move ?_; refine WO.nil ?_)
        refine WK.le ?_ (by (repeat (first | exact List.Sublist.refl _ | exact List.nil_sublist _ | apply List.Sublist.cons_cons | apply List.Sublist.cons))) (ih (k + 1) hlt (by omega))
        simp only [hs, hct, ← Int.sub_eq_add_neg]
        exact ⟨rfl, rfl, rfl, rfl, rfl, trivial⟩
    · (refine St.bin ?_; refine WO.nil ?_; refine WK.condT ?_; refine WK.exit ?_; refine WK.region ?_; refine St.binI ?_; refine St.move ?_; refine WO.nil ?_)
      rw [if_pos rfl] at hct
      refine WK.le ?_ (by (repeat (first | exact List.Sublist.refl _ | exact List.nil_sublist _ | apply List.Sublist.cons_cons | apply List.Sublist.cons))) (ih (k + 1) hlt (by omega))
      simp only [hs, hct, Int.add_zero]
      exact ⟨rfl, rfl, rfl, rfl, rfl, trivial⟩
  · have : k = es.length := by simp at hc1; omega
    subst this
    rw [List.take_length]
    (refine WK.exit ?_; refine WK.seq ?_; refine WK.region ?_; refine St.move ?_; refine St.assign ?_; refine WO.nil ?_)
    refine St.ret (by first | exact .tmp .nil | exact .cell .nil | exact .cell (.tmp .nil) | exact .tmp (.tmp .nil) | exact .cell (.cell .nil) | exact .tmp (.cell .nil) | exact .nil | exact .tmp (.cell (.tmp .nil)) | exact .cell (.tmp (.tmp .nil)) | exact .cell (.cell (.tmp .nil)) | exact .tmp (.tmp (.tmp .nil)) | exact .cell (.cell (.cell .nil))) ?_
    rfl
end Go.Proofs.Ytjlpoomjgidgaaa
