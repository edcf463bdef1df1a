/- Layer 9: the specification's lawful, Lawful. -/
import Derived.Test.YtilpinmbngikgaaGreatMa
import Derived.Test.YtilpinmbngikgaaGreatKt
import Derived.Test.YtilpinmbngikgaaGreatIt
/- Layer 9: the specification's word, last, spoken, there, proposal, upTo, proposable. -/
namespace Go.Proofs.YtilpinmbngikgaaGreat
open Go.Proofs.YtilpinmbngikgaaGreat.Ev

set_option maxRecDepth 100000 in
set_option maxHeartbeats 4000000 in
theorem word_con (h : Heap) (g : Gd h) (y : Le) (a cs : Int) : Con Tryz.prog Bs 69 [.agg (leC y), .int .i64 a, .int .i64 cs] h [] (.bool (wordB y a cs)) [] := by
  refine Con.start rfl Tryz.func69 rfl rfl Tryz.ntmps69 rfl rfl g ?_
  (refine WK.seq ?_; refine WK.region ?_; refine St.box fun _ _ => ?_; refine St.assign ?_; refine WO.nil ?_; refine WK.seq ?_; refine WK.region ?_; refine St.fieldAddr ?_; refine St.load ?_; refine St.move ?_; refine St.bin ?_; refine St.move ?_)
  refine St.split (fun q => ?_) (fun q => ?_)
  rotate_left
  · have e1 : ¬ y.cs = cs := by simpa using q
    (refine St.skip ?_; refine St.skip ?_; refine St.skip ?_; refine St.skip ?_; refine St.pickF ?_; refine St.move ?_; refine St.skip ?_; refine St.skip ?_; refine St.skip ?_; refine St.skip ?_; refine St.skip ?_; refine St.skip ?_; refine St.skip ?_; refine St.skip ?_; refine St.pickF ?_; refine St.assign ?_; refine WO.nil ?_)
    refine St.ret (by first | exact .tmp .nil | exact .cell .nil | exact .cell (.tmp .nil) | exact .tmp (.tmp .nil) | exact .cell (.cell .nil) | exact .tmp (.cell .nil) | exact .nil | exact .tmp (.cell (.tmp .nil)) | exact .cell (.tmp (.tmp .nil)) | exact .cell (.cell (.tmp .nil)) | exact .tmp (.tmp (.tmp .nil)) | exact .tmp (.tmp (.tmp (.tmp .nil))) | exact .cell (.cell (.cell .nil))) ?_
    simp [oneOf, wordB, caseB, e1]
  have e1 : y.cs = cs := by simpa using q
  (refine St.fieldAddr ?_; refine St.load ?_; refine St.move ?_; refine St.bin ?_; refine St.pickT ?_; refine St.move ?_)
  refine St.split (fun q => ?_) (fun q => ?_)
  rotate_left
  · have e2 : ¬ y.fr = a := by simpa using q
    (refine St.skip ?_; refine St.skip ?_; refine St.skip ?_; refine St.skip ?_; refine St.skip ?_; refine St.skip ?_; refine St.skip ?_; refine St.skip ?_; refine St.pickF ?_; refine St.assign ?_; refine WO.nil ?_)
    refine St.ret (by first | exact .tmp .nil | exact .cell .nil | exact .cell (.tmp .nil) | exact .tmp (.tmp .nil) | exact .cell (.cell .nil) | exact .tmp (.cell .nil) | exact .nil | exact .tmp (.cell (.tmp .nil)) | exact .cell (.tmp (.tmp .nil)) | exact .cell (.cell (.tmp .nil)) | exact .tmp (.tmp (.tmp .nil)) | exact .tmp (.tmp (.tmp (.tmp .nil))) | exact .cell (.cell (.cell .nil))) ?_
    simp [oneOf, wordB, caseB, e2]
  have e2 : y.fr = a := by simpa using q
  (refine St.fieldAddr ?_; refine St.load ?_; refine St.bin ?_; refine St.move ?_)
  refine St.split (fun q => ?_) (fun q => ?_)
  · have e3 : y.kd = 2 := by simpa using q
    (refine St.skip ?_; refine St.skip ?_; refine St.skip ?_; refine St.pickT ?_; refine St.pickT ?_; refine St.assign ?_; refine WO.nil ?_)
    refine St.ret (by first | exact .tmp .nil | exact .cell .nil | exact .cell (.tmp .nil) | exact .tmp (.tmp .nil) | exact .cell (.cell .nil) | exact .tmp (.cell .nil) | exact .nil | exact .tmp (.cell (.tmp .nil)) | exact .cell (.tmp (.tmp .nil)) | exact .cell (.cell (.tmp .nil)) | exact .tmp (.tmp (.tmp .nil)) | exact .tmp (.tmp (.tmp (.tmp .nil))) | exact .cell (.cell (.cell .nil))) ?_
    simp [oneOf, wordB, caseB, e1, e2, e3]
  have e3 : ¬ y.kd = 2 := by simpa using q
  (refine St.fieldAddr ?_; refine St.load ?_; refine St.bin ?_; refine St.pickF ?_; refine St.pickT ?_; refine St.assign ?_; refine WO.nil ?_)
  refine St.ret (by first | exact .tmp .nil | exact .cell .nil | exact .cell (.tmp .nil) | exact .tmp (.tmp .nil) | exact .cell (.cell .nil) | exact .tmp (.cell .nil) | exact .nil | exact .tmp (.cell (.tmp .nil)) | exact .cell (.tmp (.tmp .nil)) | exact .cell (.cell (.tmp .nil)) | exact .tmp (.tmp (.tmp .nil)) | exact .tmp (.tmp (.tmp (.tmp .nil))) | exact .cell (.cell (.cell .nil))) ?_
  simp [oneOf, wordB, caseB, e1, e2, e3]
  rw [Bool.eq_iff_iff]
  simp
set_option maxRecDepth 100000 in
set_option maxHeartbeats 32000000 in
theorem last_con (h : Heap) (g : Gd h) (v : AV) (l : List Le) (a cs : Int) (hv : LeV h v l) (hl : l.length ≤ 1000000) : Con Tryz.prog Bs 32 [v, .int .i64 a, .int .i64 cs] h [] (.tup [.int .i64 (vR l a cs), .int .i64 (vF l a cs)]) [] := by
  refine Con.start rfl Tryz.func32 rfl rfl Tryz.ntmps32 rfl rfl g ?_
  (refine WK.seq ?_; refine WK.region ?_; refine St.assign ?_; refine St.assign ?_; refine WO.nil ?_; refine WK.seq ?_; refine WK.region ?_; refine St.assign ?_; refine WO.nil ?_; refine WK.seq ?_; refine WK.region ?_; refine St.assign ?_; refine WO.nil ?_; refine WK.seq ?_; refine WK.seq ?_; refine WK.region ?_; refine St.assign ?_; refine WO.nil ?_; refine WK.block ?_)
  refine WK.inv (ι := Nat) (fun z => [(0, v), (1, .int .i64 a), (2, .int .i64 cs), (8, .int .i64 (lvR l a cs z)), (9, .int .i64 (lvF l a cs z)), (10, .int .i64 z)]) (fun _ => []) (fun z => z ≤ l.length) (fun z => l.length - z) 0 (Nat.zero_le _) ⟨rfl, rfl, rfl, rfl, rfl, rfl, trivial⟩ (by (repeat (first | exact List.Sublist.refl _ | exact List.nil_sublist _ | apply List.Sublist.cons_cons | apply List.Sublist.cons))) ?_
  rintro k hkl ih
  (refine WK.seq ?_; refine WK.seq ?_; refine WK.region ?_; refine St.move ?_; refine St.move ?_)
  refine St.lenG rfl hv.llen ?_
  (refine St.bin ?_; refine WO.nil ?_)
  refine St.splitC (fun hc => ?_) (fun hc => ?_)
  · have hlt : k < l.length := by simp at hc; omega
    have hv' := hv
    obtain ⟨b, off, m, rfl, hk⟩ := hv'.ne (by omega)
    have ih' := ih (k + 1) hlt (by omega)
    have r1 : lvR l a cs (k + 1) = if voteB (nthE l k) a cs = true ∧ (nthE l k).rd > lvR l a cs k then (nthE l k).rd else lvR l a cs k := rfl
    have r2 : lvF l a cs (k + 1) = if voteB (nthE l k) a cs = true ∧ (nthE l k).rd > lvR l a cs k then (nthE l k).fi else lvF l a cs k := rfl
    rw [r1, r2] at ih'
    generalize lvR l a cs k = R at ih' ⊢
    generalize lvF l a cs k = F at ih' ⊢
    (refine WK.skip ?_; refine WK.seq ?_; refine WK.block ?_; refine WK.seq ?_; refine WK.region ?_; refine St.move ?_; refine St.move ?_)
    refine St.at ?_
    (refine St.fieldAddr ?_)
    refine St.loadX (fun h2 hh => (Rds.headG ((hk.vw hh).at_ (z := (k : Int)) (n := k) (by omega) hlt).2.2).one rfl) ?_
    (refine St.bin ?_; refine St.move ?_)
    refine St.split (fun q => ?_) (fun q => ?_)
    rotate_left
    · have e1 : ¬ (nthE l k).kd = 4 := by simpa using q
      have hno : ¬ (voteB (nthE l k) a cs = true ∧ (nthE l k).rd > R) := fun h => by unfold voteB caseB at h; simp [e1] at h
      rw [if_neg hno, if_neg hno] at ih'
      (refine St.skip ?_; refine St.skip ?_; refine St.skip ?_; refine St.skip ?_; refine St.skip ?_; refine St.skip ?_; refine St.skip ?_; refine St.pickF ?_; refine St.move ?_; refine St.skip ?_; refine St.skip ?_; refine St.skip ?_; refine St.skip ?_; refine St.skip ?_; refine St.skip ?_; refine St.skip ?_; refine St.pickF ?_; refine St.move ?_; refine St.skip ?_; refine St.skip ?_; refine St.skip ?_; refine St.skip ?_; refine St.skip ?_; refine St.skip ?_; refine St.skip ?_; refine St.pickF ?_; refine WO.nil ?_; refine WK.condF ?_; refine WK.skip ?_; refine WK.blk ?_; refine WK.region ?_; refine St.move ?_; refine St.binI ?_; refine St.assign ?_; refine WO.nil ?_)
      refine WK.le ?_ (by (repeat (first | exact List.Sublist.refl _ | exact List.nil_sublist _ | apply List.Sublist.cons_cons | apply List.Sublist.cons))) ih'
      exact ⟨rfl, rfl, rfl, rfl, rfl, rfl, trivial⟩
    have e1 : (nthE l k).kd = 4 := by simpa using q
    (refine St.move ?_; refine St.move ?_)
    refine St.at ?_
    (refine St.fieldAddr ?_)
    refine St.loadX (fun h2 hh => (Rds.headG ((hk.vw hh).at_ (z := (k : Int)) (n := k) (by omega) hlt).2).one rfl) ?_
    (refine St.move ?_; refine St.bin ?_; refine St.pickT ?_; refine St.move ?_)
    refine St.split (fun q => ?_) (fun q => ?_)
    rotate_left
    · have e2 : ¬ (nthE l k).cs = cs := by simpa using q
      have hno : ¬ (voteB (nthE l k) a cs = true ∧ (nthE l k).rd > R) := fun h => by unfold voteB caseB at h; simp [e2] at h
      rw [if_neg hno, if_neg hno] at ih'
      (refine St.skip ?_; refine St.skip ?_; refine St.skip ?_; refine St.skip ?_; refine St.skip ?_; refine St.skip ?_; refine St.skip ?_; refine St.pickF ?_; refine St.move ?_; refine St.skip ?_; refine St.skip ?_; refine St.skip ?_; refine St.skip ?_; refine St.skip ?_; refine St.skip ?_; refine St.skip ?_; refine St.pickF ?_; refine WO.nil ?_; refine WK.condF ?_; refine WK.skip ?_; refine WK.blk ?_; refine WK.region ?_; refine St.move ?_; refine St.binI ?_; refine St.assign ?_; refine WO.nil ?_)
      refine WK.le ?_ (by (repeat (first | exact List.Sublist.refl _ | exact List.nil_sublist _ | apply List.Sublist.cons_cons | apply List.Sublist.cons))) ih'
      exact ⟨rfl, rfl, rfl, rfl, rfl, rfl, trivial⟩
    have e2 : (nthE l k).cs = cs := by simpa using q
    (refine St.move ?_; refine St.move ?_)
    refine St.at ?_
    (refine St.fieldAddr ?_)
    refine St.loadX (fun h2 hh => (Rds.headG ((hk.vw hh).at_ (z := (k : Int)) (n := k) (by omega) hlt).2.2.2.2).one rfl) ?_
    (refine St.move ?_; refine St.bin ?_; refine St.pickT ?_; refine St.move ?_)
    refine St.split (fun q => ?_) (fun q => ?_)
    rotate_left
    · have e3 : ¬ (nthE l k).fr = a := by simpa using q
      have hno : ¬ (voteB (nthE l k) a cs = true ∧ (nthE l k).rd > R) := fun h => by unfold voteB caseB at h; simp [e3] at h
      rw [if_neg hno, if_neg hno] at ih'
      (refine St.skip ?_; refine St.skip ?_; refine St.skip ?_; refine St.skip ?_; refine St.skip ?_; refine St.skip ?_; refine St.skip ?_; refine St.pickF ?_; refine WO.nil ?_; refine WK.condF ?_; refine WK.skip ?_; refine WK.blk ?_; refine WK.region ?_; refine St.move ?_; refine St.binI ?_; refine St.assign ?_; refine WO.nil ?_)
      refine WK.le ?_ (by (repeat (first | exact List.Sublist.refl _ | exact List.nil_sublist _ | apply List.Sublist.cons_cons | apply List.Sublist.cons))) ih'
      exact ⟨rfl, rfl, rfl, rfl, rfl, rfl, trivial⟩
    have e3 : (nthE l k).fr = a := by simpa using q
    (refine St.move ?_; refine St.move ?_)
    refine St.at ?_
    (refine St.fieldAddr ?_)
    refine St.loadX (fun h2 hh => (Rds.headG ((hk.vw hh).at_ (z := (k : Int)) (n := k) (by omega) hlt).2.2.2).one rfl) ?_
    (refine St.move ?_; refine St.bin ?_; refine St.pickT ?_; refine WO.nil ?_)
    have hvb : voteB (nthE l k) a cs = true := by unfold voteB caseB; simp [e1, e2, e3]
    refine St.splitC (fun q2 => ?_) (fun q2 => ?_)
    · have e4 : (nthE l k).rd > R := by simpa using q2
      rw [if_pos ⟨hvb, e4⟩, if_pos ⟨hvb, e4⟩] at ih'
      (refine WK.seq ?_; refine WK.region ?_; refine St.move ?_; refine St.move ?_)
      refine St.at ?_
      (refine St.fieldAddr ?_)
      refine St.loadX (fun h2 hh => (Rds.headG ((hk.vw hh).at_ (z := (k : Int)) (n := k) (by omega) hlt).2.2.2).one rfl) ?_
      (refine St.assign ?_; refine WO.nil ?_; refine WK.region ?_; refine St.move ?_; refine St.move ?_)
      refine St.at ?_
      (refine St.fieldAddr ?_)
      refine St.loadX (fun h2 hh => (Rds.headG ((hk.vw hh).at_ (z := (k : Int)) (n := k) (by omega) hlt).2.2.2.2.2.2.2).one rfl) ?_
      (refine St.assign ?_; refine WO.nil ?_; refine WK.blk ?_; refine WK.region ?_; refine St.move ?_; refine St.binI ?_; refine St.assign ?_; refine WO.nil ?_)
      refine WK.le ?_ (by (repeat (first | exact List.Sublist.refl _ | exact List.nil_sublist _ | apply List.Sublist.cons_cons | apply List.Sublist.cons))) ih'
      exact ⟨rfl, rfl, rfl, rfl, rfl, rfl, trivial⟩
    · have e4 : ¬ (nthE l k).rd > R := by simp at q2; omega
      rw [if_neg (fun h => e4 h.2), if_neg (fun h => e4 h.2)] at ih'
      (refine WK.skip ?_; refine WK.blk ?_; refine WK.region ?_; refine St.move ?_; refine St.binI ?_; refine St.assign ?_; refine WO.nil ?_)
      refine WK.le ?_ (by (repeat (first | exact List.Sublist.refl _ | exact List.nil_sublist _ | apply List.Sublist.cons_cons | apply List.Sublist.cons))) ih'
      exact ⟨rfl, rfl, rfl, rfl, rfl, rfl, trivial⟩
  · have : k = l.length := by simp at hc; omega
    subst this
    (refine WK.exit ?_; refine WK.seq ?_; refine WK.region ?_; refine St.move ?_; refine St.move ?_; refine St.assign ?_; refine St.assign ?_; refine WO.nil ?_)
    refine St.ret (by first | exact .tmp .nil | exact .cell .nil | exact .cell (.tmp .nil) | exact .tmp (.tmp .nil) | exact .cell (.cell .nil) | exact .tmp (.cell .nil) | exact .nil | exact .tmp (.cell (.tmp .nil)) | exact .cell (.tmp (.tmp .nil)) | exact .cell (.cell (.tmp .nil)) | exact .tmp (.tmp (.tmp .nil)) | exact .tmp (.tmp (.tmp (.tmp .nil))) | exact .cell (.cell (.cell .nil))) ?_
    rfl
set_option maxRecDepth 100000 in
set_option maxHeartbeats 32000000 in
theorem proposal_con (h : Heap) (g : Gd h) (v : AV) (l : List Le) (cs rd : Int) (hv : LeV h v l) (hl : l.length ≤ 1000000) : Con Tryz.prog Bs 43 [v, .int .i64 cs, .int .i64 rd] h [] (.tup [.int .i64 (prF l cs rd), .bool (prB l cs rd)]) [] := by
  refine Con.start rfl Tryz.func43 rfl rfl Tryz.ntmps43 rfl rfl g ?_
  (refine WK.seq ?_; refine WK.region ?_; refine St.assign ?_; refine St.assign ?_; refine WO.nil ?_; refine WK.seq ?_; refine WK.seq ?_; refine WK.region ?_; refine St.assign ?_; refine WO.nil ?_; refine WK.block ?_)
  refine WK.inv (ι := Nat) (fun z => [(0, v), (1, .int .i64 cs), (2, .int .i64 rd), (8, .int .i64 z)]) (fun _ => []) (fun z => z ≤ l.length ∧ ∀ i, i < z → ofB 3 cs rd (nthE l i) = false) (fun z => l.length - z) 0 ⟨Nat.zero_le _, fun i hi => absurd hi (by omega)⟩ ⟨rfl, rfl, rfl, rfl, trivial⟩ (by (repeat (first | exact List.Sublist.refl _ | exact List.nil_sublist _ | apply List.Sublist.cons_cons | apply List.Sublist.cons))) ?_
  rintro k ⟨hkl, hno⟩ ih
  (refine WK.seq ?_; refine WK.seq ?_; refine WK.region ?_; refine St.move ?_; refine St.move ?_)
  refine St.lenG rfl hv.llen ?_
  (refine St.bin ?_; refine WO.nil ?_)
  refine St.splitC (fun hc => ?_) (fun hc => ?_)
  · have hlt : k < l.length := by simp at hc; omega
    have hv' := hv
    obtain ⟨b, off, m, rfl, hk⟩ := hv'.ne (by omega)
    have nx := fun e => ih (k + 1) ⟨hlt, less_succ' hno e⟩ (by omega)
    (refine WK.skip ?_; refine WK.seq ?_; refine WK.block ?_; refine WK.seq ?_; refine WK.region ?_; refine St.move ?_; refine St.move ?_)
    refine St.at ?_
    (refine St.fieldAddr ?_)
    refine St.loadX (fun h2 hh => (Rds.headG ((hk.vw hh).at_ (z := (k : Int)) (n := k) (by omega) hlt).2.2).one rfl) ?_
    (refine St.bin ?_; refine St.move ?_)
    refine St.split (fun q => ?_) (fun q => ?_)
    rotate_left
    · have e1 : ¬ (nthE l k).kd = 3 := by simpa using q
      (refine St.skip ?_; refine St.skip ?_; refine St.skip ?_; refine St.skip ?_; refine St.skip ?_; refine St.skip ?_; refine St.skip ?_; refine St.pickF ?_; refine St.move ?_; refine St.skip ?_; refine St.skip ?_; refine St.skip ?_; refine St.skip ?_; refine St.skip ?_; refine St.skip ?_; refine St.skip ?_; refine St.pickF ?_; refine WO.nil ?_; refine WK.condF ?_; refine WK.skip ?_; refine WK.blk ?_; refine WK.region ?_; refine St.move ?_; refine St.binI ?_; refine St.assign ?_; refine WO.nil ?_)
      refine WK.le ?_ (by (repeat (first | exact List.Sublist.refl _ | exact List.nil_sublist _ | apply List.Sublist.cons_cons | apply List.Sublist.cons))) (nx (by unfold ofB; simp [e1]))
      exact ⟨rfl, rfl, rfl, rfl, trivial⟩
    have e1 : (nthE l k).kd = 3 := by simpa using q
    (refine St.move ?_; refine St.move ?_)
    refine St.at ?_
    (refine St.fieldAddr ?_)
    refine St.loadX (fun h2 hh => (Rds.headG ((hk.vw hh).at_ (z := (k : Int)) (n := k) (by omega) hlt).2).one rfl) ?_
    (refine St.move ?_; refine St.bin ?_; refine St.pickT ?_; refine St.move ?_)
    refine St.split (fun q => ?_) (fun q => ?_)
    rotate_left
    · have e2 : ¬ (nthE l k).cs = cs := by simpa using q
      (refine St.skip ?_; refine St.skip ?_; refine St.skip ?_; refine St.skip ?_; refine St.skip ?_; refine St.skip ?_; refine St.skip ?_; refine St.pickF ?_; refine WO.nil ?_; refine WK.condF ?_; refine WK.skip ?_; refine WK.blk ?_; refine WK.region ?_; refine St.move ?_; refine St.binI ?_; refine St.assign ?_; refine WO.nil ?_)
      refine WK.le ?_ (by (repeat (first | exact List.Sublist.refl _ | exact List.nil_sublist _ | apply List.Sublist.cons_cons | apply List.Sublist.cons))) (nx (by unfold ofB; simp [e2]))
      exact ⟨rfl, rfl, rfl, rfl, trivial⟩
    have e2 : (nthE l k).cs = cs := by simpa using q
    (refine St.move ?_; refine St.move ?_)
    refine St.at ?_
    (refine St.fieldAddr ?_)
    refine St.loadX (fun h2 hh => (Rds.headG ((hk.vw hh).at_ (z := (k : Int)) (n := k) (by omega) hlt).2.2.2).one rfl) ?_
    (refine St.move ?_; refine St.bin ?_; refine St.pickT ?_; refine WO.nil ?_)
    refine St.splitC (fun q => ?_) (fun q => ?_)
    rotate_left
    · have e3 : ¬ (nthE l k).rd = rd := by simpa using q
      (refine WK.skip ?_; refine WK.blk ?_; refine WK.region ?_; refine St.move ?_; refine St.binI ?_; refine St.assign ?_; refine WO.nil ?_)
      refine WK.le ?_ (by (repeat (first | exact List.Sublist.refl _ | exact List.nil_sublist _ | apply List.Sublist.cons_cons | apply List.Sublist.cons))) (nx (by unfold ofB; simp [e3]))
      exact ⟨rfl, rfl, rfl, rfl, trivial⟩
    have e3 : (nthE l k).rd = rd := by simpa using q
    (refine WK.seq ?_; refine WK.region ?_; refine St.move ?_; refine St.move ?_)
    refine St.at ?_
    (refine St.fieldAddr ?_)
    refine St.loadX (fun h2 hh => (Rds.headG ((hk.vw hh).at_ (z := (k : Int)) (n := k) (by omega) hlt).2.2.2.2.2.2.2).one rfl) ?_
    (refine St.assign ?_; refine St.assign ?_; refine WO.nil ?_)
    refine St.ret (by first | exact .tmp .nil | exact .cell .nil | exact .cell (.tmp .nil) | exact .tmp (.tmp .nil) | exact .cell (.cell .nil) | exact .tmp (.cell .nil) | exact .nil | exact .tmp (.cell (.tmp .nil)) | exact .cell (.tmp (.tmp .nil)) | exact .cell (.cell (.tmp .nil)) | exact .tmp (.tmp (.tmp .nil)) | exact .tmp (.tmp (.tmp (.tmp .nil))) | exact .cell (.cell (.cell .nil))) ?_
    have hpi : prI l cs rd = (k : Int) := idxF_first hlt hno (show ofB 3 cs rd (nthE l k) = true by unfold ofB; simp [e1, e2, e3])
    have hpb : prB l cs rd = true := by unfold prB; rw [hpi]; simp
    have hpf : prF l cs rd = (nthE l k).fi := by unfold prF; rw [hpi, if_neg (by omega)]; rfl
    rw [hpb, hpf]
    rfl
  · have : k = l.length := by simp at hc; omega
    subst this
    (refine WK.exit ?_; refine WK.seq ?_; refine WK.region ?_; refine St.assign ?_; refine St.assign ?_; refine WO.nil ?_)
    refine St.ret (by first | exact .tmp .nil | exact .cell .nil | exact .cell (.tmp .nil) | exact .tmp (.tmp .nil) | exact .cell (.cell .nil) | exact .tmp (.cell .nil) | exact .nil | exact .tmp (.cell (.tmp .nil)) | exact .cell (.tmp (.tmp .nil)) | exact .cell (.cell (.tmp .nil)) | exact .tmp (.tmp (.tmp .nil)) | exact .tmp (.tmp (.tmp (.tmp .nil))) | exact .cell (.cell (.cell .nil))) ?_
    have hpi : prI l cs rd = -1 := idxF_none hno
    have hpb : prB l cs rd = false := by unfold prB; rw [hpi]; simp
    have hpf : prF l cs rd = 0 := by unfold prF; rw [hpi, if_pos (by omega)]
    rw [hpb, hpf]
    rfl
end Go.Proofs.YtilpinmbngikgaaGreat

/- Layer 9: the specification's promises, lawful, Lawful. -/
namespace Go.Proofs.YtilpinmbngikgaaGreat
open Go.Proofs.YtilpinmbngikgaaGreat.Ev

/-- letters that a call has made -/
abbrev OwP (l : List Le) (v : AV) (L : Ob) : Prop := IsL 50 8 l.length (enF leC l) v L
end Go.Proofs.YtilpinmbngikgaaGreat

/- Layer 9: the specification's lawful, Lawful. -/
namespace Go.Proofs.YtilpinmbngikgaaGreat
open Go.Proofs.YtilpinmbngikgaaGreat.Ev

/-- letter i is not lawful behind those before it -/
def badS (c : Int) (l : List Le) (i : Nat) : Bool := !lawR c (l.take i) (atL l i)
end Go.Proofs.YtilpinmbngikgaaGreat
