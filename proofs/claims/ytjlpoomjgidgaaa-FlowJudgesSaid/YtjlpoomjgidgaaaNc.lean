/- Layer 5: the specification's Formed. -/
import Derived.Test.YtjlpoomjgidgaaaGe
import Derived.Test.YtjlpoomjgidgaaaNq
namespace Go.Proofs.Ytjlpoomjgidgaaa
open Go.Proofs.Ytjlpoomjgidgaaa.Ev

set_option maxRecDepth 100000 in
set_option maxHeartbeats 16000000 in
theorem formed_con (h : Heap) (g : Gd h) (hv mv cv : AV) (way : Int) (hs : List Ho) (l : List Int) (hh : HoV h hv hs) (hc : InV h cv l) (hl1 : hs.length ≤ 1000000) (hl2 : l.length ≤ 1000000) :
    Con Try.prog Bs 30 [.agg [hv, mv], .agg [.int .i64 way, cv]] h [] (.bool (frm (hids hs) way l)) [] := by
  refine Con.start rfl Try.func30 rfl rfl Try.ntmps30 rfl rfl g ?_
  (refine WK.seq ?_; refine WK.region ?_; refine St.box fun _ _ => ?_; refine St.box fun _ _ => ?_; refine St.assign ?_; refine WO.nil ?_; refine WK.seq ?_; refine WK.region ?_; refine St.fieldAddr ?_; refine St.load ?_; refine St.bin ?_; refine St.move ?_)
  rename_i p2 hp2 p3 hp3
  refine St.split (fun q1 => ?_) (fun q1 => ?_)
  · have hw : way = 1 := by simpa using q1
    subst hw
    (refine St.skip ?_; refine St.skip ?_; refine St.skip ?_; refine St.pickT ?_; refine St.assign ?_; refine WO.nil ?_; refine WK.seq ?_; refine WK.seq ?_; refine WK.region ?_; refine St.move ?_; refine St.un ?_; refine St.move ?_; refine St.fieldAddr ?_; refine St.load ?_)
    refine St.lenG rfl hc.ilen ?_
    (refine St.bin ?_; refine St.pickF ?_; refine WO.nil ?_)
    refine St.splitC (fun q3 => ?_) (fun q3 => ?_)
    · have h0 : l.length = 0 := by simpa using q3
      (refine WK.seq ?_; refine WK.region ?_; refine St.assign ?_; refine WO.nil ?_)
      refine St.ret (by first | exact .tmp .nil | exact .cell .nil | exact .cell (.tmp .nil) | exact .tmp (.tmp .nil) | exact .cell (.cell .nil) | exact .tmp (.cell .nil) | exact .nil | exact .tmp (.cell (.tmp .nil)) | exact .cell (.tmp (.tmp .nil)) | exact .cell (.cell (.tmp .nil)) | exact .tmp (.tmp (.tmp .nil)) | exact .cell (.cell (.cell .nil))) ?_
      rw [frm_nil h0]
      rfl
    have h0 : l.length ≠ 0 := by simpa using q3
    (refine WK.skip ?_; refine WK.seq ?_; refine WK.seq ?_; refine WK.region ?_; refine St.assign ?_; refine WO.nil ?_; refine WK.block ?_)
    obtain ⟨b, off, c, rfl, hk⟩ := hc.ne (by omega)
    refine WK.inv (ι := Nat) (fun z => [(2, .ptr p2 0), (3, .ptr p3 0), (6, .int .i64 z)]) (fun _ => [(p3, .cells [.int .i64 1, .slice b off l.length c] 30), (p2, .cells [hv, mv] 25)]) (fun z => z ≤ l.length ∧ ∀ i, i < z → cutBad (hids hs) l i = false) (fun z => l.length - z) 0 ⟨Nat.zero_le _, fun i hi => absurd hi (by omega)⟩ ⟨rfl, rfl, rfl, trivial⟩ (by (repeat (first | exact List.Sublist.refl _ | exact List.nil_sublist _ | apply List.Sublist.cons_cons | apply List.Sublist.cons))) ?_
    rintro k ⟨hkl, hgood⟩ ih
    (refine WK.seq ?_; refine WK.seq ?_; refine WK.region ?_; refine St.move ?_; refine St.fieldAddr ?_; refine St.load ?_; refine St.len ?_; refine St.bin ?_; refine WO.nil ?_)
    refine St.splitC (fun hc1 => ?_) (fun hc1 => ?_)
    · have hlt : k < l.length := by simp at hc1; omega
      have next : cutBad (hids hs) l k = false → ∀ i, i < k + 1 → cutBad (hids hs) l i = false := fun e i hi => by
        by_cases q : i = k
        · subst q; exact e
        · exact hgood i (by omega)
      have hbad : cutBad (hids hs) l k = Bool.or (!decide (nthE l k ∈ hids hs)) (decide (0 < k) && decide (nthE l k ≤ nthE l (k - 1))) := rfl
      (refine WK.skip ?_; refine WK.seq ?_; refine WK.block ?_; refine WK.seq ?_; refine WK.regionD ?_; refine St.load ?_; refine St.fieldAddr ?_; refine St.load ?_; refine St.move ?_)
      refine St.at ?_
      refine St.loadX (fun h2 hh2 => (Rds.headG ((hk.vw hh2).at_ (z := (k : Int)) (n := k) (by omega) hlt)).one rfl) ?_
      refine St.call (fun _ => rfl) (fun h2 hh2 => place_con h2 hh2.gd hv mv hs (nthE l k) (hh.vw hh2) hl1) ?_
      (refine St.bin ?_; refine St.move ?_)
      refine St.split (fun q => ?_) (fun q => ?_)
      · have hm : nthE l k ∉ hids hs := fun e => by have := plI_ge.2 e; simp at q; omega
        (refine St.skip ?_; refine St.skip ?_; refine St.skip ?_; refine St.skip ?_; refine St.skip ?_; refine St.skip ?_; refine St.skip ?_; refine St.skip ?_; refine St.skip ?_; refine St.skip ?_; refine St.skip ?_; refine St.skip ?_; refine St.skip ?_; refine St.skip ?_; refine St.skip ?_; refine St.skip ?_; refine St.skip ?_; refine St.pickT ?_; refine WO.nil ?_; refine WK.condT ?_; refine WK.seq ?_; refine WK.region ?_; refine St.assign ?_; refine WO.nil ?_)
        refine St.ret (by first | exact .tmp .nil | exact .cell .nil | exact .cell (.tmp .nil) | exact .tmp (.tmp .nil) | exact .cell (.cell .nil) | exact .tmp (.cell .nil) | exact .nil | exact .tmp (.cell (.tmp .nil)) | exact .cell (.tmp (.tmp .nil)) | exact .cell (.cell (.tmp .nil)) | exact .tmp (.tmp (.tmp .nil)) | exact .cell (.cell (.cell .nil))) ?_
        rw [frm_bad hlt (by rw [hbad, decide_eq_false hm]; rfl)]
        rfl
      have hm : nthE l k ∈ hids hs := plI_ge.1 (by simp at q; omega)
      rw [decide_eq_true hm] at hbad
      (refine St.move ?_; refine St.bin ?_; refine St.move ?_)
      refine St.split (fun q5 => ?_) (fun q5 => ?_)
      · have hk0 : 0 < k := by simp at q5; omega
        have hmx : max (0 : Int) ((k : Int) - 1) = (k : Int) - 1 := by omega
        rw [decide_eq_true hk0] at hbad
        (refine St.fieldAddr ?_; refine St.load ?_; refine St.move ?_)
        refine St.at ?_
        refine St.loadX (fun h2 hh2 => (Rds.headG ((hk.vw hh2).at_ (z := (k : Int)) (n := k) (by omega) hlt)).one rfl) ?_
        (refine St.fieldAddr ?_; refine St.load ?_; refine St.move ?_; refine St.binI ?_; refine St.maxI ?_)
        refine St.at ?_
        refine St.loadX (fun h2 hh2 => (Rds.headG ((hk.vw hh2).at_ (z := max (0 : Int) ((k : Int) - 1)) (n := k - 1) (by omega) (by omega))).one rfl) ?_
        (refine St.bin ?_; refine St.pickT ?_; refine St.pickF ?_; refine WO.nil ?_)
        refine St.splitC (fun q4 => ?_) (fun q4 => ?_)
        · have hle : nthE l k ≤ nthE l (k - 1) := by simpa using q4
          (refine WK.seq ?_; refine WK.region ?_; refine St.assign ?_; refine WO.nil ?_)
          refine St.ret (by first | exact .tmp .nil | exact .cell .nil | exact .cell (.tmp .nil) | exact .tmp (.tmp .nil) | exact .cell (.cell .nil) | exact .tmp (.cell .nil) | exact .nil | exact .tmp (.cell (.tmp .nil)) | exact .cell (.tmp (.tmp .nil)) | exact .cell (.cell (.tmp .nil)) | exact .tmp (.tmp (.tmp .nil)) | exact .cell (.cell (.cell .nil))) ?_
          rw [frm_bad hlt (by rw [hbad, decide_eq_true hle]; rfl)]
          rfl
        · have hle : ¬ nthE l k ≤ nthE l (k - 1) := by simpa using q4
          (refine WK.skip ?_; refine WK.blk ?_; refine WK.region ?_; refine St.move ?_; refine St.binI ?_; refine St.assign ?_; refine WO.nil ?_)
          refine WK.le ?_ (by (repeat (first | exact List.Sublist.refl _ | exact List.nil_sublist _ | apply List.Sublist.cons_cons | apply List.Sublist.cons))) (ih (k + 1) ⟨hlt, next (by rw [hbad, decide_eq_false hle]; rfl)⟩ (by omega))
          exact ⟨rfl, rfl, rfl, trivial⟩
      · have hk0 : ¬ 0 < k := by simp at q5; omega
        rw [decide_eq_false hk0] at hbad
        (refine St.skip ?_; refine St.skip ?_; refine St.skip ?_; refine St.skip ?_; refine St.skip ?_; refine St.skip ?_; refine St.skip ?_; refine St.skip ?_; refine St.skip ?_; refine St.skip ?_; refine St.skip ?_; refine St.skip ?_; refine St.skip ?_; refine St.pickF ?_; refine St.pickF ?_; refine WO.nil ?_; refine WK.condF ?_; refine WK.skip ?_; refine WK.blk ?_; refine WK.region ?_; refine St.move ?_; refine St.binI ?_; refine St.assign ?_; refine WO.nil ?_)
        refine WK.le ?_ (by (repeat (first | exact List.Sublist.refl _ | exact List.nil_sublist _ | apply List.Sublist.cons_cons | apply List.Sublist.cons))) (ih (k + 1) ⟨hlt, next (by rw [hbad]; rfl)⟩ (by omega))
        exact ⟨rfl, rfl, rfl, trivial⟩
    · have : k = l.length := by simp at hc1; omega
      subst this
      (refine WK.exit ?_; refine WK.seq ?_; refine WK.region ?_; refine St.assign ?_; refine WO.nil ?_)
      refine St.ret (by first | exact .tmp .nil | exact .cell .nil | exact .cell (.tmp .nil) | exact .tmp (.tmp .nil) | exact .cell (.cell .nil) | exact .tmp (.cell .nil) | exact .nil | exact .tmp (.cell (.tmp .nil)) | exact .cell (.tmp (.tmp .nil)) | exact .cell (.cell (.tmp .nil)) | exact .tmp (.tmp (.tmp .nil)) | exact .cell (.cell (.cell .nil))) ?_
      rw [frm_yes (.inl rfl) h0 hgood]
      rfl
  · have w1 : ¬ way = 1 := by simpa using q1
    by_cases hw : way = 2
    · subst hw
      (refine St.fieldAddr ?_; refine St.load ?_; refine St.bin ?_; refine St.pickF ?_; refine St.assign ?_; refine WO.nil ?_; refine WK.seq ?_; refine WK.seq ?_; refine WK.region ?_; refine St.move ?_; refine St.un ?_; refine St.move ?_; refine St.fieldAddr ?_; refine St.load ?_)
      refine St.lenG rfl hc.ilen ?_
      (refine St.bin ?_; refine St.pickF ?_; refine WO.nil ?_)
      refine St.splitC (fun q3 => ?_) (fun q3 => ?_)
      · have h0 : l.length = 0 := by simpa using q3
        (refine WK.seq ?_; refine WK.region ?_; refine St.assign ?_; refine WO.nil ?_)
        refine St.ret (by first | exact .tmp .nil | exact .cell .nil | exact .cell (.tmp .nil) | exact .tmp (.tmp .nil) | exact .cell (.cell .nil) | exact .tmp (.cell .nil) | exact .nil | exact .tmp (.cell (.tmp .nil)) | exact .cell (.tmp (.tmp .nil)) | exact .cell (.cell (.tmp .nil)) | exact .tmp (.tmp (.tmp .nil)) | exact .cell (.cell (.cell .nil))) ?_
        rw [frm_nil h0]
        rfl
      have h0 : l.length ≠ 0 := by simpa using q3
      (refine WK.skip ?_; refine WK.seq ?_; refine WK.seq ?_; refine WK.region ?_; refine St.assign ?_; refine WO.nil ?_; refine WK.block ?_)
      obtain ⟨b, off, c, rfl, hk⟩ := hc.ne (by omega)
      refine WK.inv (ι := Nat) (fun z => [(2, .ptr p2 0), (3, .ptr p3 0), (6, .int .i64 z)]) (fun _ => [(p3, .cells [.int .i64 2, .slice b off l.length c] 30), (p2, .cells [hv, mv] 25)]) (fun z => z ≤ l.length ∧ ∀ i, i < z → cutBad (hids hs) l i = false) (fun z => l.length - z) 0 ⟨Nat.zero_le _, fun i hi => absurd hi (by omega)⟩ ⟨rfl, rfl, rfl, trivial⟩ (by (repeat (first | exact List.Sublist.refl _ | exact List.nil_sublist _ | apply List.Sublist.cons_cons | apply List.Sublist.cons))) ?_
      rintro k ⟨hkl, hgood⟩ ih
      (refine WK.seq ?_; refine WK.seq ?_; refine WK.region ?_; refine St.move ?_; refine St.fieldAddr ?_; refine St.load ?_; refine St.len ?_; refine St.bin ?_; refine WO.nil ?_)
      refine St.splitC (fun hc1 => ?_) (fun hc1 => ?_)
      · have hlt : k < l.length := by simp at hc1; omega
        have next : cutBad (hids hs) l k = false → ∀ i, i < k + 1 → cutBad (hids hs) l i = false := fun e i hi => by
          by_cases q : i = k
          · subst q; exact e
          · exact hgood i (by omega)
        have hbad : cutBad (hids hs) l k = Bool.or (!decide (nthE l k ∈ hids hs)) (decide (0 < k) && decide (nthE l k ≤ nthE l (k - 1))) := rfl
        (refine WK.skip ?_; refine WK.seq ?_; refine WK.block ?_; refine WK.seq ?_; refine WK.regionD ?_; refine St.load ?_; refine St.fieldAddr ?_; refine St.load ?_; refine St.move ?_)
        refine St.at ?_
        refine St.loadX (fun h2 hh2 => (Rds.headG ((hk.vw hh2).at_ (z := (k : Int)) (n := k) (by omega) hlt)).one rfl) ?_
        refine St.call (fun _ => rfl) (fun h2 hh2 => place_con h2 hh2.gd hv mv hs (nthE l k) (hh.vw hh2) hl1) ?_
        (refine St.bin ?_; refine St.move ?_)
        refine St.split (fun q => ?_) (fun q => ?_)
        · have hm : nthE l k ∉ hids hs := fun e => by have := plI_ge.2 e; simp at q; omega
          (refine St.skip ?_; refine St.skip ?_; refine St.skip ?_; refine St.skip ?_; refine St.skip ?_; refine St.skip ?_; refine St.skip ?_; refine St.skip ?_; refine St.skip ?_; refine St.skip ?_; refine St.skip ?_; refine St.skip ?_; refine St.skip ?_; refine St.skip ?_; refine St.skip ?_; refine St.skip ?_; refine St.skip ?_; refine St.pickT ?_; refine WO.nil ?_; refine WK.condT ?_; refine WK.seq ?_; refine WK.region ?_; refine St.assign ?_; refine WO.nil ?_)
          refine St.ret (by first | exact .tmp .nil | exact .cell .nil | exact .cell (.tmp .nil) | exact .tmp (.tmp .nil) | exact .cell (.cell .nil) | exact .tmp (.cell .nil) | exact .nil | exact .tmp (.cell (.tmp .nil)) | exact .cell (.tmp (.tmp .nil)) | exact .cell (.cell (.tmp .nil)) | exact .tmp (.tmp (.tmp .nil)) | exact .cell (.cell (.cell .nil))) ?_
          rw [frm_bad hlt (by rw [hbad, decide_eq_false hm]; rfl)]
          rfl
        have hm : nthE l k ∈ hids hs := plI_ge.1 (by simp at q; omega)
        rw [decide_eq_true hm] at hbad
        (refine St.move ?_; refine St.bin ?_; refine St.move ?_)
        refine St.split (fun q5 => ?_) (fun q5 => ?_)
        · have hk0 : 0 < k := by simp at q5; omega
          have hmx : max (0 : Int) ((k : Int) - 1) = (k : Int) - 1 := by omega
          rw [decide_eq_true hk0] at hbad
          (refine St.fieldAddr ?_; refine St.load ?_; refine St.move ?_)
          refine St.at ?_
          refine St.loadX (fun h2 hh2 => (Rds.headG ((hk.vw hh2).at_ (z := (k : Int)) (n := k) (by omega) hlt)).one rfl) ?_
          (refine St.fieldAddr ?_; refine St.load ?_; refine St.move ?_; refine St.binI ?_; refine St.maxI ?_)
          refine St.at ?_
          refine St.loadX (fun h2 hh2 => (Rds.headG ((hk.vw hh2).at_ (z := max (0 : Int) ((k : Int) - 1)) (n := k - 1) (by omega) (by omega))).one rfl) ?_
          (refine St.bin ?_; refine St.pickT ?_; refine St.pickF ?_; refine WO.nil ?_)
          refine St.splitC (fun q4 => ?_) (fun q4 => ?_)
          · have hle : nthE l k ≤ nthE l (k - 1) := by simpa using q4
            (refine WK.seq ?_; refine WK.region ?_; refine St.assign ?_; refine WO.nil ?_)
            refine St.ret (by first | exact .tmp .nil | exact .cell .nil | exact .cell (.tmp .nil) | exact .tmp (.tmp .nil) | exact .cell (.cell .nil) | exact .tmp (.cell .nil) | exact .nil | exact .tmp (.cell (.tmp .nil)) | exact .cell (.tmp (.tmp .nil)) | exact .cell (.cell (.tmp .nil)) | exact .tmp (.tmp (.tmp .nil)) | exact .cell (.cell (.cell .nil))) ?_
            rw [frm_bad hlt (by rw [hbad, decide_eq_true hle]; rfl)]
            rfl
          · have hle : ¬ nthE l k ≤ nthE l (k - 1) := by simpa using q4
            (refine WK.skip ?_; refine WK.blk ?_; refine WK.region ?_; refine St.move ?_; refine St.binI ?_; refine St.assign ?_; refine WO.nil ?_)
            refine WK.le ?_ (by (repeat (first | exact List.Sublist.refl _ | exact List.nil_sublist _ | apply List.Sublist.cons_cons | apply List.Sublist.cons))) (ih (k + 1) ⟨hlt, next (by rw [hbad, decide_eq_false hle]; rfl)⟩ (by omega))
            exact ⟨rfl, rfl, rfl, trivial⟩
        · have hk0 : ¬ 0 < k := by simp at q5; omega
          rw [decide_eq_false hk0] at hbad
          (refine St.skip ?_; refine St.skip ?_; refine St.skip ?_; refine St.skip ?_; refine St.skip ?_; refine St.skip ?_; refine St.skip ?_; refine St.skip ?_; refine St.skip ?_; refine St.skip ?_; refine St.skip ?_; refine St.skip ?_; refine St.skip ?_; refine St.pickF ?_; refine St.pickF ?_; refine WO.nil ?_; refine WK.condF ?_; refine WK.skip ?_; refine WK.blk ?_; refine WK.region ?_; refine St.move ?_; refine St.binI ?_; refine St.assign ?_; refine WO.nil ?_)
          refine WK.le ?_ (by (repeat (first | exact List.Sublist.refl _ | exact List.nil_sublist _ | apply List.Sublist.cons_cons | apply List.Sublist.cons))) (ih (k + 1) ⟨hlt, next (by rw [hbad]; rfl)⟩ (by omega))
          exact ⟨rfl, rfl, rfl, trivial⟩
      · have : k = l.length := by simp at hc1; omega
        subst this
        (refine WK.exit ?_; refine WK.seq ?_; refine WK.region ?_; refine St.assign ?_; refine WO.nil ?_)
        refine St.ret (by first | exact .tmp .nil | exact .cell .nil | exact .cell (.tmp .nil) | exact .tmp (.tmp .nil) | exact .cell (.cell .nil) | exact .tmp (.cell .nil) | exact .nil | exact .tmp (.cell (.tmp .nil)) | exact .cell (.tmp (.tmp .nil)) | exact .cell (.cell (.tmp .nil)) | exact .tmp (.tmp (.tmp .nil)) | exact .cell (.cell (.cell .nil))) ?_
        rw [frm_yes (.inr rfl) h0 hgood]
        rfl
    · have hn : ¬ (way = 1 ∨ way = 2) := by omega
      (refine St.fieldAddr ?_; refine St.load ?_; refine St.bin ?_; refine St.pickF ?_; refine St.assign ?_; refine WO.nil ?_; refine WK.seq ?_; refine WK.seq ?_; refine WK.region ?_; refine St.move ?_; refine St.un ?_; refine St.move ?_)
      refine St.split (fun q2 => ?_) (fun q2 => ?_)
      · (refine St.skip ?_; refine St.skip ?_; refine St.skip ?_; refine St.skip ?_; refine St.pickT ?_; refine WO.nil ?_; refine WK.condT ?_; refine WK.seq ?_; refine WK.region ?_; refine St.assign ?_; refine WO.nil ?_)
        refine St.ret (by first | exact .tmp .nil | exact .cell .nil | exact .cell (.tmp .nil) | exact .tmp (.tmp .nil) | exact .cell (.cell .nil) | exact .tmp (.cell .nil) | exact .nil | exact .tmp (.cell (.tmp .nil)) | exact .cell (.tmp (.tmp .nil)) | exact .cell (.cell (.tmp .nil)) | exact .tmp (.tmp (.tmp .nil)) | exact .cell (.cell (.cell .nil))) ?_
        rw [frm_way hn]
        rfl
      · have : way = 2 := by simpa using q2
        exact absurd this hw
end Go.Proofs.Ytjlpoomjgidgaaa
