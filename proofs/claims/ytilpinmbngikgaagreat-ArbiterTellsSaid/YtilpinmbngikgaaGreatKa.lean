/- Layer 9: the program's isWord, lastVote, lastWord, isOpen, proposed, canPromise, canVote. -/
import Derived.Test.YtilpinmbngikgaaGreatMa
import Derived.Test.YtilpinmbngikgaaGreatKt
namespace Go.Proofs.YtilpinmbngikgaaGreat
open Go.Proofs.YtilpinmbngikgaaGreat.Ev

set_option maxRecDepth 100000 in
set_option maxHeartbeats 4000000 in
theorem isWord_con (h : Heap) (g : Gd h) (y : Le) (a cs : Int) : Con Tryz.prog Bs 64 [.agg (leC y), .int .i64 a, .int .i64 cs] h [] (.bool (wordB y a cs)) [] := by
  refine Con.start rfl Tryz.func64 rfl rfl Tryz.ntmps64 rfl rfl g ?_
  (refine WK.seq ?_; refine WK.region ?_; refine St.box fun _ _ => ?_; refine St.assign ?_; refine WO.nil ?_; refine WK.seq ?_; refine WK.region ?_; refine St.fieldAddr ?_; refine St.load ?_; refine St.move ?_; refine St.bin ?_; refine St.move ?_)
  refine St.split (fun q => ?_) (fun q => ?_)
  rotate_left
  · have e1 : ¬ y.cs = cs := by simpa using q
    (refine St.skip ?_; refine St.skip ?_; refine St.skip ?_; refine St.skip ?_; refine St.pickF ?_; refine St.move ?_; refine St.skip ?_; refine St.skip ?_; refine St.skip ?_; refine St.skip ?_; refine St.skip ?_; refine St.skip ?_; refine St.skip ?_; refine St.skip ?_; refine St.pickF ?_; refine St.assign ?_; refine WO.nil ?_)
    refine St.ret (by first | exact .tmp .nil | exact .cell .nil | exact .cell (.tmp .nil) | exact .tmp (.tmp .nil) | exact .cell (.cell .nil) | exact .tmp (.cell .nil) | exact .nil | exact .tmp (.cell (.tmp .nil)) | exact .cell (.tmp (.tmp .nil)) | exact .cell (.cell (.tmp .nil)) | exact .tmp (.tmp (.tmp .nil)) | exact .tmp (.tmp (.tmp (.tmp .nil))) | exact .cell (.cell (.cell .nil))) ?_
    simp [oneOf, wordB, caseB, e1]
  have e1 : y.cs = cs := by simpa using q
  (refine St.fieldAddr ?_; refine St.load ?_; refine St.move ?_; refine St.bin ?_; refine St.pickT ?_; refine St.move ?_)
  refine St.split (fun q => ?_) (fun q => ?_)
  rotate_left
  · have e2 : ¬ y.fr = a := by simpa using q
    (refine St.skip ?_; refine St.skip ?_; refine St.skip ?_; refine St.skip ?_; refine St.skip ?_; refine St.skip ?_; refine St.skip ?_; refine St.skip ?_; refine St.pickF ?_; refine St.assign ?_; refine WO.nil ?_)
    refine St.ret (by first | exact .tmp .nil | exact .cell .nil | exact .cell (.tmp .nil) | exact .tmp (.tmp .nil) | exact .cell (.cell .nil) | exact .tmp (.cell .nil) | exact .nil | exact .tmp (.cell (.tmp .nil)) | exact .cell (.tmp (.tmp .nil)) | exact .cell (.cell (.tmp .nil)) | exact .tmp (.tmp (.tmp .nil)) | exact .tmp (.tmp (.tmp (.tmp .nil))) | exact .cell (.cell (.cell .nil))) ?_
    simp [oneOf, wordB, caseB, e2]
  have e2 : y.fr = a := by simpa using q
  (refine St.fieldAddr ?_; refine St.load ?_; refine St.bin ?_; refine St.move ?_)
  refine St.split (fun q => ?_) (fun q => ?_)
  · have e3 : y.kd = 2 := by simpa using q
    (refine St.skip ?_; refine St.skip ?_; refine St.skip ?_; refine St.pickT ?_; refine St.pickT ?_; refine St.assign ?_; refine WO.nil ?_)
    refine St.ret (by first | exact .tmp .nil | exact .cell .nil | exact .cell (.tmp .nil) | exact .tmp (.tmp .nil) | exact .cell (.cell .nil) | exact .tmp (.cell .nil) | exact .nil | exact .tmp (.cell (.tmp .nil)) | exact .cell (.tmp (.tmp .nil)) | exact .cell (.cell (.tmp .nil)) | exact .tmp (.tmp (.tmp .nil)) | exact .tmp (.tmp (.tmp (.tmp .nil))) | exact .cell (.cell (.cell .nil))) ?_
    simp [oneOf, wordB, caseB, e1, e2, e3]
  have e3 : ¬ y.kd = 2 := by simpa using q
  (refine St.fieldAddr ?_; refine St.load ?_; refine St.bin ?_; refine St.pickF ?_; refine St.pickT ?_; refine St.assign ?_; refine WO.nil ?_)
  refine St.ret (by first | exact .tmp .nil | exact .cell .nil | exact .cell (.tmp .nil) | exact .tmp (.tmp .nil) | exact .cell (.cell .nil) | exact .tmp (.cell .nil) | exact .nil | exact .tmp (.cell (.tmp .nil)) | exact .cell (.tmp (.tmp .nil)) | exact .cell (.cell (.tmp .nil)) | exact .tmp (.tmp (.tmp .nil)) | exact .tmp (.tmp (.tmp (.tmp .nil))) | exact .cell (.cell (.cell .nil))) ?_
  simp [oneOf, wordB, caseB, e1, e2, e3]
  rw [Bool.eq_iff_iff]
  simp
set_option maxRecDepth 100000 in
set_option maxHeartbeats 16000000 in
theorem lastVote_con (h : Heap) (g : Gd h) (v : AV) (l : List Le) (a cs : Int) (hv : LeV h v l) (hl : l.length ≤ 1000000) : Con Tryz.prog Bs 30 [v, .int .i64 a, .int .i64 cs] h [] (.tup [.int .i64 (vR l a cs), .int .i64 (vF l a cs)]) [] := by
  refine Con.start rfl Tryz.func30 rfl rfl Tryz.ntmps30 rfl rfl g ?_
  (refine WK.seq ?_; refine WK.region ?_; refine St.assign ?_; refine St.assign ?_; refine WO.nil ?_; refine WK.seq ?_; refine WK.seq ?_; refine WK.region ?_; refine St.move ?_)
  refine St.lenG rfl hv.llen ?_
  (refine St.move ?_; refine WO.nil ?_; refine WK.block ?_)
  refine WK.inv (ι := Nat) (fun z => [(1, .int .i64 a), (2, .int .i64 cs), (6, .int .i64 (lvR l a cs z)), (7, .int .i64 (lvF l a cs z)), (10, v), (11, .int .i64 l.length), (12, .int .i64 z)]) (fun _ => []) (fun z => z ≤ l.length) (fun z => l.length - z) 0 (Nat.zero_le _) ⟨rfl, rfl, rfl, rfl, rfl, rfl, rfl, trivial⟩ (by (repeat (first | exact List.Sublist.refl _ | exact List.nil_sublist _ | apply List.Sublist.cons_cons | apply List.Sublist.cons))) ?_
  rintro k hkl ih
  (refine WK.seq ?_; refine WK.region ?_; refine St.bin ?_; refine WO.nil ?_; refine WK.seq ?_)
  refine St.splitC (fun hc => ?_) (fun hc => ?_)
  · have hlt : k < l.length := by simp at hc; omega
    have hv' := hv
    obtain ⟨b, off, m, rfl, hk⟩ := hv'.ne (by omega)
    have ih' := ih (k + 1) hlt (by omega)
    have r1 : lvR l a cs (k + 1) = if voteB (nthE l k) a cs = true ∧ (nthE l k).rd > lvR l a cs k then (nthE l k).rd else lvR l a cs k := rfl
    have r2 : lvF l a cs (k + 1) = if voteB (nthE l k) a cs = true ∧ (nthE l k).rd > lvR l a cs k then (nthE l k).fi else lvF l a cs k := rfl
    rw [r1, r2] at ih'
    have hvw := vote_word (nthE l k) a cs
    generalize lvR l a cs k = R at ih' ⊢
    generalize lvF l a cs k = F at ih' ⊢
    (refine WK.skip ?_; refine WK.seq ?_; refine WK.block ?_; refine WK.seq ?_; refine WK.region ?_)
    refine St.at ?_
    refine St.loadX (fun h2 hh => ((hk.vw hh).at_ (z := (k : Int)) (n := k) (by omega) hlt).agg (by simp [leC]) rfl rfl rfl) ?_
    (refine St.alloc fun _ _ => ?_; refine St.store0 ?_; refine WO.nil ?_; refine WK.seq ?_; refine WK.region ?_; refine St.fieldAddr ?_; refine St.load ?_; refine St.bin ?_; refine St.move ?_)
    refine St.split (fun q => ?_) (fun q => ?_)
    rotate_left
    · have e1 : ¬ (nthE l k).kd = 4 := by simpa using q
      have hno : ¬ (voteB (nthE l k) a cs = true ∧ (nthE l k).rd > R) := fun h => by unfold voteB at h; simp [e1] at h
      rw [if_neg hno, if_neg hno] at ih'
      (refine St.skip ?_; refine St.skip ?_; refine St.skip ?_; refine St.skip ?_; refine St.pickF ?_; refine St.move ?_; refine St.skip ?_; refine St.skip ?_; refine St.skip ?_; refine St.skip ?_; refine St.pickF ?_; refine WO.nil ?_; refine WK.condF ?_; refine WK.skip ?_; refine WK.blk ?_; refine WK.region ?_; refine St.binI ?_; refine St.move ?_; refine WO.nil ?_)
      refine WK.le ?_ (by (repeat (first | exact List.Sublist.refl _ | exact List.nil_sublist _ | apply List.Sublist.cons_cons | apply List.Sublist.cons))) ih'
      exact ⟨rfl, rfl, rfl, rfl, rfl, rfl, rfl, trivial⟩
    have e1 : (nthE l k).kd = 4 := by simpa using q
    (refine St.load ?_; refine St.move ?_; refine St.move ?_)
    refine St.call (fun _ => rfl) (fun h2 hh => isWord_con h2 hh.gd (nthE l k) a cs) ?_
    have hw : wordB (nthE l k) a cs = voteB (nthE l k) a cs := by rw [← hvw]; simp [e1]
    rw [hw]
    cases hvb : voteB (nthE l k) a cs
    · have hno : ¬ (voteB (nthE l k) a cs = true ∧ (nthE l k).rd > R) := fun h => by rw [hvb] at h; simp at h
      rw [if_neg hno, if_neg hno] at ih'
      (refine St.pickT ?_; refine St.move ?_; refine St.skip ?_; refine St.skip ?_; refine St.skip ?_; refine St.skip ?_; refine St.pickF ?_; refine WO.nil ?_; refine WK.condF ?_; refine WK.skip ?_; refine WK.blk ?_; refine WK.region ?_; refine St.binI ?_; refine St.move ?_; refine WO.nil ?_)
      refine WK.le ?_ (by (repeat (first | exact List.Sublist.refl _ | exact List.nil_sublist _ | apply List.Sublist.cons_cons | apply List.Sublist.cons))) ih'
      exact ⟨rfl, rfl, rfl, rfl, rfl, rfl, rfl, trivial⟩
    (refine St.pickT ?_; refine St.move ?_; refine St.fieldAddr ?_; refine St.load ?_; refine St.move ?_; refine St.bin ?_; refine St.pickT ?_; refine WO.nil ?_)
    refine St.splitC (fun q2 => ?_) (fun q2 => ?_)
    · have e2 : (nthE l k).rd > R := by simpa using q2
      rw [if_pos ⟨hvb, e2⟩, if_pos ⟨hvb, e2⟩] at ih'
      (refine WK.regionD ?_; refine St.fieldAddr ?_; refine St.load ?_; refine St.fieldAddr ?_; refine St.load ?_; refine St.assign ?_; refine St.assign ?_; refine WO.nil ?_; refine WK.blk ?_; refine WK.region ?_; refine St.binI ?_; refine St.move ?_; refine WO.nil ?_)
      refine WK.le ?_ (by (repeat (first | exact List.Sublist.refl _ | exact List.nil_sublist _ | apply List.Sublist.cons_cons | apply List.Sublist.cons))) ih'
      exact ⟨rfl, rfl, rfl, rfl, rfl, rfl, rfl, trivial⟩
    · have e2 : ¬ (nthE l k).rd > R := by simp at q2; omega
      rw [if_neg (fun h => e2 h.2), if_neg (fun h => e2 h.2)] at ih'
      (refine WK.skip ?_; refine WK.blk ?_; refine WK.region ?_; refine St.binI ?_; refine St.move ?_; refine WO.nil ?_)
      refine WK.le ?_ (by (repeat (first | exact List.Sublist.refl _ | exact List.nil_sublist _ | apply List.Sublist.cons_cons | apply List.Sublist.cons))) ih'
      exact ⟨rfl, rfl, rfl, rfl, rfl, rfl, rfl, trivial⟩
  · have : k = l.length := by simp at hc; omega
    subst this
    (refine WK.exit ?_; refine WK.seq ?_; refine WK.region ?_; refine St.move ?_; refine St.move ?_; refine St.assign ?_; refine St.assign ?_; refine WO.nil ?_)
    refine St.ret (by first | exact .tmp .nil | exact .cell .nil | exact .cell (.tmp .nil) | exact .tmp (.tmp .nil) | exact .cell (.cell .nil) | exact .tmp (.cell .nil) | exact .nil | exact .tmp (.cell (.tmp .nil)) | exact .cell (.tmp (.tmp .nil)) | exact .cell (.cell (.tmp .nil)) | exact .tmp (.tmp (.tmp .nil)) | exact .tmp (.tmp (.tmp (.tmp .nil))) | exact .cell (.cell (.cell .nil))) ?_
    rfl
set_option maxRecDepth 100000 in
set_option maxHeartbeats 16000000 in
theorem lastWord_con (h : Heap) (g : Gd h) (v : AV) (l : List Le) (a cs : Int) (hv : LeV h v l) (hl : l.length ≤ 1000000) : Con Tryz.prog Bs 65 [v, .int .i64 a, .int .i64 cs] h [] (.int .i64 (wR l a cs)) [] := by
  refine Con.start rfl Tryz.func65 rfl rfl Tryz.ntmps65 rfl rfl g ?_
  (refine WK.seq ?_; refine WK.region ?_; refine St.assign ?_; refine WO.nil ?_; refine WK.seq ?_; refine WK.region ?_; refine St.assign ?_; refine WO.nil ?_; refine WK.seq ?_; refine WK.seq ?_; refine WK.region ?_; refine St.move ?_)
  refine St.lenG rfl hv.llen ?_
  (refine St.move ?_; refine WO.nil ?_; refine WK.block ?_)
  refine WK.inv (ι := Nat) (fun z => [(1, .int .i64 a), (2, .int .i64 cs), (7, .int .i64 (lwR l a cs z)), (10, v), (11, .int .i64 l.length), (12, .int .i64 z)]) (fun _ => []) (fun z => z ≤ l.length) (fun z => l.length - z) 0 (Nat.zero_le _) ⟨rfl, rfl, rfl, rfl, rfl, rfl, trivial⟩ (by (repeat (first | exact List.Sublist.refl _ | exact List.nil_sublist _ | apply List.Sublist.cons_cons | apply List.Sublist.cons))) ?_
  rintro k hkl ih
  (refine WK.seq ?_; refine WK.region ?_; refine St.bin ?_; refine WO.nil ?_; refine WK.seq ?_)
  refine St.splitC (fun hc => ?_) (fun hc => ?_)
  · have hlt : k < l.length := by simp at hc; omega
    have hv' := hv
    obtain ⟨b, off, m, rfl, hk⟩ := hv'.ne (by omega)
    have ih' := ih (k + 1) hlt (by omega)
    have r1 : lwR l a cs (k + 1) = if wordB (nthE l k) a cs = true then max (lwR l a cs k) (nthE l k).rd else lwR l a cs k := rfl
    rw [r1] at ih'
    generalize lwR l a cs k = R at ih' ⊢
    (refine WK.skip ?_; refine WK.seq ?_; refine WK.block ?_; refine WK.seq ?_; refine WK.region ?_)
    refine St.at ?_
    refine St.loadX (fun h2 hh => ((hk.vw hh).at_ (z := (k : Int)) (n := k) (by omega) hlt).agg (by simp [leC]) rfl rfl rfl) ?_
    (refine St.alloc fun _ _ => ?_; refine St.store0 ?_; refine WO.nil ?_; refine WK.seq ?_; refine WK.region ?_; refine St.load ?_; refine St.move ?_; refine St.move ?_)
    refine St.call (fun _ => rfl) (fun h2 hh => isWord_con h2 hh.gd (nthE l k) a cs) ?_
    cases hw : wordB (nthE l k) a cs
    · rw [if_neg (by rw [hw]; simp)] at ih'
      (refine WO.nil ?_; refine WK.condF ?_; refine WK.skip ?_; refine WK.blk ?_; refine WK.region ?_; refine St.binI ?_; refine St.move ?_; refine WO.nil ?_)
      refine WK.le ?_ (by (repeat (first | exact List.Sublist.refl _ | exact List.nil_sublist _ | apply List.Sublist.cons_cons | apply List.Sublist.cons))) ih'
      exact ⟨rfl, rfl, rfl, rfl, rfl, rfl, trivial⟩
    · rw [if_pos hw] at ih'
      (refine WO.nil ?_; refine WK.condT ?_; refine WK.region ?_; refine St.move ?_; refine St.fieldAddr ?_; refine St.load ?_; refine St.maxI ?_; refine St.assign ?_; refine WO.nil ?_; refine WK.blk ?_; refine WK.region ?_; refine St.binI ?_; refine St.move ?_; refine WO.nil ?_)
      refine WK.le ?_ (by (repeat (first | exact List.Sublist.refl _ | exact List.nil_sublist _ | apply List.Sublist.cons_cons | apply List.Sublist.cons))) ih'
      exact ⟨rfl, rfl, rfl, rfl, rfl, rfl, trivial⟩
  · have : k = l.length := by simp at hc; omega
    subst this
    (refine WK.exit ?_; refine WK.seq ?_; refine WK.region ?_; refine St.move ?_; refine St.assign ?_; refine WO.nil ?_)
    refine St.ret (by first | exact .tmp .nil | exact .cell .nil | exact .cell (.tmp .nil) | exact .tmp (.tmp .nil) | exact .cell (.cell .nil) | exact .tmp (.cell .nil) | exact .nil | exact .tmp (.cell (.tmp .nil)) | exact .cell (.tmp (.tmp .nil)) | exact .cell (.cell (.tmp .nil)) | exact .tmp (.tmp (.tmp .nil)) | exact .tmp (.tmp (.tmp (.tmp .nil))) | exact .cell (.cell (.cell .nil))) ?_
    rfl
set_option maxRecDepth 100000 in
set_option maxHeartbeats 4000000 in
theorem isOpen_con (h : Heap) (g : Gd h) (v : AV) (l : List Le) (a cs rd : Int) (hv : LeV h v l) (hl : l.length ≤ 1000000) : Con Tryz.prog Bs 39 [v, .int .i64 a, .int .i64 cs, .int .i64 rd] h [] (.bool (openB l a cs rd)) [] := by
  refine Con.start rfl Tryz.func39 rfl rfl Tryz.ntmps39 rfl rfl g ?_
  (refine WK.seq ?_; refine WK.region ?_; refine St.assign ?_; refine WO.nil ?_; refine WK.seq ?_; refine WK.region ?_; refine St.move ?_; refine St.move ?_; refine St.move ?_)
  refine St.call (fun _ => rfl) (fun h2 hh => lastVote_con h2 hh.gd v l a cs (hv.vw hh) hl) ?_
  (refine St.move ?_; refine St.extract ?_; refine St.extract ?_; refine St.assign ?_; refine St.assign ?_; refine WO.nil ?_; refine WK.seq ?_; refine WK.region ?_; refine St.move ?_; refine St.move ?_; refine St.bin ?_; refine St.move ?_)
  refine St.split (fun q => ?_) (fun q => ?_)
  rotate_left
  · have e1 : ¬ vR l a cs < rd := by simp at q; omega
    (refine St.skip ?_; refine St.skip ?_; refine St.skip ?_; refine St.skip ?_; refine St.skip ?_; refine St.skip ?_; refine St.pickF ?_; refine St.assign ?_; refine WO.nil ?_)
    refine St.ret (by first | exact .tmp .nil | exact .cell .nil | exact .cell (.tmp .nil) | exact .tmp (.tmp .nil) | exact .cell (.cell .nil) | exact .tmp (.cell .nil) | exact .nil | exact .tmp (.cell (.tmp .nil)) | exact .cell (.tmp (.tmp .nil)) | exact .cell (.cell (.tmp .nil)) | exact .tmp (.tmp (.tmp .nil)) | exact .tmp (.tmp (.tmp (.tmp .nil))) | exact .cell (.cell (.cell .nil))) ?_
    simp [oneOf, openB, e1]
  have e1 : vR l a cs < rd := by simpa using q
  (refine St.move ?_; refine St.move ?_; refine St.move ?_)
  refine St.call (fun _ => rfl) (fun h2 hh => lastWord_con h2 hh.gd v l a cs (hv.vw hh) hl) ?_
  (refine St.move ?_; refine St.bin ?_; refine St.pickT ?_; refine St.assign ?_; refine WO.nil ?_)
  refine St.ret (by first | exact .tmp .nil | exact .cell .nil | exact .cell (.tmp .nil) | exact .tmp (.tmp .nil) | exact .cell (.cell .nil) | exact .tmp (.cell .nil) | exact .nil | exact .tmp (.cell (.tmp .nil)) | exact .cell (.tmp (.tmp .nil)) | exact .cell (.cell (.tmp .nil)) | exact .tmp (.tmp (.tmp .nil)) | exact .tmp (.tmp (.tmp (.tmp .nil))) | exact .cell (.cell (.cell .nil))) ?_
  simp [oneOf, openB, e1]
set_option maxRecDepth 100000 in
theorem ofPr_con (h : Heap) (g : Gd h) (y : Le) (cs rd : Int) (p1 p2 : Nat) (hp1 : Rd h p1 0 (.int .i64 cs)) (hp2 : Rd h p2 0 (.int .i64 rd)) : Con Tryz.prog Bs 67 [.agg (leC y), .ptr p1 0, .ptr p2 0] h [] (.bool (ofB 3 cs rd y)) [] := by
  refine Con.start rfl Tryz.func67 rfl rfl Tryz.ntmps67 rfl rfl g ?_
  (refine WK.seq ?_; refine WK.region ?_; refine St.box fun _ _ => ?_; refine St.assign ?_; refine WO.nil ?_; refine WK.seq ?_; refine WK.region ?_; refine St.fieldAddr ?_; refine St.load ?_; refine St.bin ?_; refine St.move ?_)
  refine St.split (fun q => ?_) (fun q => ?_)
  rotate_left
  · have e1 : ¬ y.kd = 3 := by simpa using q
    (refine St.skip ?_; refine St.skip ?_; refine St.skip ?_; refine St.skip ?_; refine St.pickF ?_; refine St.move ?_; refine St.skip ?_; refine St.skip ?_; refine St.skip ?_; refine St.skip ?_; refine St.pickF ?_; refine St.assign ?_; refine WO.nil ?_)
    refine St.ret (by first | exact .tmp .nil | exact .cell .nil | exact .cell (.tmp .nil) | exact .tmp (.tmp .nil) | exact .cell (.cell .nil) | exact .tmp (.cell .nil) | exact .nil | exact .tmp (.cell (.tmp .nil)) | exact .cell (.tmp (.tmp .nil)) | exact .cell (.cell (.tmp .nil)) | exact .tmp (.tmp (.tmp .nil)) | exact .tmp (.tmp (.tmp (.tmp .nil))) | exact .cell (.cell (.cell .nil))) ?_
    simp [oneOf, ofB, e1]
  have e1 : y.kd = 3 := by simpa using q
  (refine St.fieldAddr ?_; refine St.load ?_)
  refine St.loadX (fun h2 hh => (hh.rd (by simp) hp1).one rfl) ?_
  (refine St.bin ?_; refine St.pickT ?_; refine St.move ?_)
  refine St.split (fun q => ?_) (fun q => ?_)
  rotate_left
  · have e2 : ¬ y.cs = cs := by simpa using q
    (refine St.skip ?_; refine St.skip ?_; refine St.skip ?_; refine St.skip ?_; refine St.pickF ?_; refine St.assign ?_; refine WO.nil ?_)
    refine St.ret (by first | exact .tmp .nil | exact .cell .nil | exact .cell (.tmp .nil) | exact .tmp (.tmp .nil) | exact .cell (.cell .nil) | exact .tmp (.cell .nil) | exact .nil | exact .tmp (.cell (.tmp .nil)) | exact .cell (.tmp (.tmp .nil)) | exact .cell (.cell (.tmp .nil)) | exact .tmp (.tmp (.tmp .nil)) | exact .tmp (.tmp (.tmp (.tmp .nil))) | exact .cell (.cell (.cell .nil))) ?_
    simp [oneOf, ofB, e2]
  have e2 : y.cs = cs := by simpa using q
  (refine St.fieldAddr ?_; refine St.load ?_)
  refine St.loadX (fun h2 hh => (hh.rd (by simp) hp2).one rfl) ?_
  (refine St.bin ?_; refine St.pickT ?_; refine St.assign ?_; refine WO.nil ?_)
  refine St.ret (by first | exact .tmp .nil | exact .cell .nil | exact .cell (.tmp .nil) | exact .tmp (.tmp .nil) | exact .cell (.cell .nil) | exact .tmp (.cell .nil) | exact .nil | exact .tmp (.cell (.tmp .nil)) | exact .cell (.tmp (.tmp .nil)) | exact .cell (.cell (.tmp .nil)) | exact .tmp (.tmp (.tmp .nil)) | exact .tmp (.tmp (.tmp (.tmp .nil))) | exact .cell (.cell (.cell .nil))) ?_
  simp [oneOf, ofB, e1, e2]
  rw [Bool.eq_iff_iff]
  simp
set_option maxRecDepth 100000 in
set_option maxHeartbeats 4000000 in
theorem proposed_con (h : Heap) (g : Gd h) (v : AV) (l : List Le) (cs rd : Int) (hv : LeV h v l) (hl : l.length ≤ 1000000) : Con Tryz.prog Bs 41 [v, .int .i64 cs, .int .i64 rd] h [] (.tup [.int .i64 (prF l cs rd), .bool (prB l cs rd)]) [] := by
  refine Con.start rfl Tryz.func41 rfl rfl Tryz.ntmps41 rfl rfl g ?_
  (refine WK.seq ?_; refine WK.region ?_; refine St.box fun _ _ => ?_; refine St.box fun _ _ => ?_; refine St.assign ?_; refine St.assign ?_; refine WO.nil ?_; refine WK.seq ?_; refine WK.region ?_; refine St.move ?_; refine St.fn ?_)
  rename_i p1 hp1 p2 hp2
  refine St.call (fun _ => rfl) (fun h2 hh => indexF_con h2 hh.gd v l 67 [.ptr p1 0, .ptr p2 0] (ofB 3 cs rd) (hv.vw hh) hl (fun h3 V hh3 x _ => ofPr_con h3 hh3.gd x cs rd p1 p2 (hh3.rd (by simp) (hh.rdG (List.Mem.tail _ (List.Mem.head _)) rfl)) (hh3.rd (by simp) (hh.rdG (List.Mem.head _) rfl)))) ?_
  change WO Tryz.prog Bs _ h [] _ _ _ _ _ _ ((_, AV.int .i64 (prI l cs rd)) :: _) _ _
  have hlt := prI_lt l cs rd
  (refine St.assign ?_; refine WO.nil ?_; refine WK.seq ?_; refine WK.seq ?_; refine WK.region ?_; refine St.move ?_; refine St.bin ?_; refine WO.nil ?_)
  refine St.splitC (fun q => ?_) (fun q => ?_)
  · have e1 : prI l cs rd < 0 := by simpa using q
    (refine WK.seq ?_; refine WK.region ?_; refine St.assign ?_; refine St.assign ?_; refine WO.nil ?_)
    refine St.ret (by first | exact .tmp .nil | exact .cell .nil | exact .cell (.tmp .nil) | exact .tmp (.tmp .nil) | exact .cell (.cell .nil) | exact .tmp (.cell .nil) | exact .nil | exact .tmp (.cell (.tmp .nil)) | exact .cell (.tmp (.tmp .nil)) | exact .cell (.cell (.tmp .nil)) | exact .tmp (.tmp (.tmp .nil)) | exact .tmp (.tmp (.tmp (.tmp .nil))) | exact .cell (.cell (.cell .nil))) ?_
    have e2 : ¬ prI l cs rd ≥ 0 := by omega
    simp [oneOf, prF, prB, e1]
  · have e1 : ¬ prI l cs rd < 0 := by simp at q; omega
    have hv' := hv
    obtain ⟨b, off, m, rfl, hk⟩ := hv'.ne (by omega)
    have hF : prF l cs rd = (nthE l (prI l cs rd).toNat).fi := by unfold prF; rw [if_neg e1]; rfl
    have hB : prB l cs rd = true := by unfold prB; simp; omega
    (refine WK.skip ?_; refine WK.seq ?_; refine WK.region ?_; refine St.move ?_; refine St.move ?_)
    refine St.at ?_
    (refine St.fieldAddr ?_)
    refine St.loadX (fun h2 hh => (Rds.headG ((hk.vw hh).at_ (z := prI l cs rd) (n := (prI l cs rd).toNat) rfl (by omega)).2.2.2.2.2.2.2).one rfl) ?_
    (refine St.assign ?_; refine St.assign ?_; refine WO.nil ?_)
    refine St.ret (by first | exact .tmp .nil | exact .cell .nil | exact .cell (.tmp .nil) | exact .tmp (.tmp .nil) | exact .cell (.cell .nil) | exact .tmp (.cell .nil) | exact .nil | exact .tmp (.cell (.tmp .nil)) | exact .cell (.tmp (.tmp .nil)) | exact .cell (.cell (.tmp .nil)) | exact .tmp (.tmp (.tmp .nil)) | exact .tmp (.tmp (.tmp (.tmp .nil))) | exact .cell (.cell (.cell .nil))) ?_
    rw [hF, hB]
    rfl
end Go.Proofs.YtilpinmbngikgaaGreat
