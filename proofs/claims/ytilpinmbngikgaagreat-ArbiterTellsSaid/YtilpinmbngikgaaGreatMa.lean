/- Layer 9: letters in memory; IndexFunc, ContainsFunc of letters; the errors of a list of letters. -/
import Derived.Test.YtilpinmbngikgaaGreatLe
import Derived.Test.YtilpinmbngikgaaGreatLf
import Derived.Test.YtilpinmbngikgaaGreatKt
namespace Go.Proofs.YtilpinmbngikgaaGreat
open Go.Proofs.YtilpinmbngikgaaGreat.Ev

theorem Ev.Vw.trans' {h0 h1 h2 : Heap} {V1 V2 : Ob} {W : List Nat} (k1 : Vw h0 [] V1 h1) (k2 : Vw h1 W V2 h2) (hW : ∀ x ∈ W, h0.next ≤ x) : Vw h0 [] V2 h2 := ⟨k2.gd, Nat.le_trans k1.nx k2.nx, fun i hi _ => (k2.old i (Nat.lt_of_lt_of_le hi k1.nx) (fun hm => absurd (hW i hm) (by omega))).trans (k1.old i hi (by simp)), k2.own⟩
abbrev LeH := EH leC 8
abbrev LeV := EV leC 8
abbrev LeA := EA leC 8
theorem leC_len (x : Le) : (leC x).length = 8 := rfl
theorem LeV.llen {h : Heap} {v : AV} {l : List Le} (k : LeV h v l) : ∀ h2, lenA Tryz.prog 24 h2 v = some (.int .i64 (l.length : Int)) := EV.len k Tryz.underlying24
set_option maxRecDepth 100000 in
set_option maxHeartbeats 4000000 in
theorem indexF_con (h : Heap) (g : Gd h) (v : AV) (l : List Le) (F : Nat) (cs : List AV) (t : Le → Bool) (hv : LeV h v l) (hl : l.length ≤ 1000000) (hf : ∀ (h2 : Heap) (V : Ob), Vw h [] V h2 → ∀ x ∈ l, Con Tryz.prog Bs F (.agg (leC x) :: cs) h2 [] (.bool (t x)) []) :
    Con Tryz.prog Bs 66 [v, .fn (.func F) [] cs] h [] (.int .i64 (idxF t l 0)) [] := by
  refine Con.start rfl Tryz.func66 rfl rfl Tryz.ntmps66 rfl rfl g ?_
  (refine WK.seq ?_; refine WK.region ?_; refine St.assign ?_; refine WO.nil ?_; refine WK.seq ?_; refine WK.seq ?_; refine WK.region ?_; refine St.move ?_)
  refine St.lenG rfl hv.llen ?_
  (refine St.move ?_; refine WO.nil ?_; refine WK.block ?_)
  by_cases hn : l.length = 0
  · have e1 : l = [] := List.length_eq_zero_iff.1 hn
    subst e1
    refine WK.unroll ?_
    (refine WK.seq ?_; refine WK.region ?_; refine St.bin ?_; refine WO.nil ?_; refine WK.seq ?_; refine WK.condF ?_; refine WK.exit ?_; refine WK.seq ?_; refine WK.region ?_; refine St.assign ?_; refine WO.nil ?_)
    refine St.ret (by first | exact .tmp .nil | exact .cell .nil | exact .cell (.tmp .nil) | exact .tmp (.tmp .nil) | exact .cell (.cell .nil) | exact .tmp (.cell .nil) | exact .nil | exact .tmp (.cell (.tmp .nil)) | exact .cell (.tmp (.tmp .nil)) | exact .cell (.cell (.tmp .nil)) | exact .tmp (.tmp (.tmp .nil)) | exact .tmp (.tmp (.tmp (.tmp .nil))) | exact .cell (.cell (.cell .nil))) ?_
    rfl
  obtain ⟨b, off, c, rfl, hk⟩ := hv.ne (by omega)
  refine WK.inv (ι := Nat) (fun z => [(0, .slice b off l.length c), (1, .fn (.func F) [] cs), (7, .int .i64 l.length), (8, .int .i64 z)]) (fun _ => []) (fun z => z ≤ l.length ∧ idxF t l 0 = idxF t (l.drop z) z) (fun z => l.length - z) 0 ⟨by omega, rfl⟩ ⟨rfl, rfl, rfl, rfl, trivial⟩ (by (repeat (first | exact List.Sublist.refl _ | exact List.nil_sublist _ | apply List.Sublist.cons_cons | apply List.Sublist.cons))) ?_
  rintro k ⟨hkl, hno⟩ ih
  (refine WK.seq ?_; refine WK.region ?_; refine St.bin ?_; refine WO.nil ?_; refine WK.seq ?_)
  refine St.splitC (fun hc => ?_) (fun hc => ?_)
  · have hlt : k < l.length := by simp at hc; omega
    rw [drop_consE hlt, idxF] at hno
    (refine WK.skip ?_; refine WK.seq ?_; refine WK.block ?_; refine WK.seq ?_; refine WK.region ?_; refine St.move ?_; refine St.assign ?_; refine WO.nil ?_; refine WK.seq ?_; refine WK.region ?_; refine St.move ?_; refine St.move ?_; refine St.move ?_)
    refine St.at ?_
    refine St.loadX (fun h2 hh => ((hk.vw hh).at_ (z := (k : Int)) (n := k) (by omega) hlt).agg (by simp [leC]) rfl rfl rfl) ?_
    skip
    refine St.call (fun _ => rfl) (fun h2 hh => hf h2 _ hh (nthE l k) (nthE_mem hlt)) ?_
    cases ht : t (nthE l k)
    · rw [if_neg (by rw [ht]; simp)] at hno
      (refine WO.nil ?_; refine WK.condF ?_; refine WK.skip ?_; refine WK.blk ?_; refine WK.region ?_; refine St.binI ?_; refine St.move ?_; refine WO.nil ?_)
      refine WK.le ?_ (by (repeat (first | exact List.Sublist.refl _ | exact List.nil_sublist _ | apply List.Sublist.cons_cons | apply List.Sublist.cons))) (ih (k + 1) ⟨hlt, hno⟩ (by omega))
      exact ⟨rfl, rfl, rfl, rfl, trivial⟩
    · rw [if_pos ht] at hno
      (refine WO.nil ?_; refine WK.condT ?_; refine WK.seq ?_; refine WK.region ?_; refine St.move ?_; refine St.assign ?_; refine WO.nil ?_)
      refine St.ret (by first | exact .tmp .nil | exact .cell .nil | exact .cell (.tmp .nil) | exact .tmp (.tmp .nil) | exact .cell (.cell .nil) | exact .tmp (.cell .nil) | exact .nil | exact .tmp (.cell (.tmp .nil)) | exact .cell (.tmp (.tmp .nil)) | exact .cell (.cell (.tmp .nil)) | exact .tmp (.tmp (.tmp .nil)) | exact .tmp (.tmp (.tmp (.tmp .nil))) | exact .cell (.cell (.cell .nil))) ?_
      rw [hno]
      rfl
  · have : k = l.length := by simp at hc; omega
    subst this
    rw [List.drop_length] at hno
    (refine WK.exit ?_; refine WK.seq ?_; refine WK.region ?_; refine St.assign ?_; refine WO.nil ?_)
    refine St.ret (by first | exact .tmp .nil | exact .cell .nil | exact .cell (.tmp .nil) | exact .tmp (.tmp .nil) | exact .cell (.cell .nil) | exact .tmp (.cell .nil) | exact .nil | exact .tmp (.cell (.tmp .nil)) | exact .cell (.tmp (.tmp .nil)) | exact .cell (.cell (.tmp .nil)) | exact .tmp (.tmp (.tmp .nil)) | exact .tmp (.tmp (.tmp (.tmp .nil))) | exact .cell (.cell (.cell .nil))) ?_
    rw [hno]
    rfl
set_option maxRecDepth 100000 in
theorem contF_con (h : Heap) (g : Gd h) (v : AV) (l : List Le) (F : Nat) (cs : List AV) (t : Le → Bool) (hv : LeV h v l) (hl : l.length ≤ 1000000) (hf : ∀ (h2 : Heap) (V : Ob), Vw h [] V h2 → ∀ x ∈ l, Con Tryz.prog Bs F (.agg (leC x) :: cs) h2 [] (.bool (t x)) []) :
    Con Tryz.prog Bs 48 [v, .fn (.func F) [] cs] h [] (.bool (l.any t)) [] := by
  refine Con.start rfl Tryz.func48 rfl rfl Tryz.ntmps48 rfl rfl g ?_
  (refine WK.seq ?_; refine WK.region ?_; refine St.assign ?_; refine WO.nil ?_; refine WK.seq ?_; refine WK.region ?_; refine St.move ?_; refine St.move ?_)
  refine St.call (fun _ => rfl) (fun h2 hh => indexF_con h2 hh.gd v l F cs t (hv.vw hh) hl (fun h3 V hh3 => hf h3 _ (Ev.Vw.trans' hh hh3 (by simp)))) ?_
  (refine St.bin ?_; refine St.assign ?_; refine WO.nil ?_)
  refine St.ret (by first | exact .tmp .nil | exact .cell .nil | exact .cell (.tmp .nil) | exact .tmp (.tmp .nil) | exact .cell (.cell .nil) | exact .tmp (.cell .nil) | exact .nil | exact .tmp (.cell (.tmp .nil)) | exact .cell (.tmp (.tmp .nil)) | exact .cell (.cell (.tmp .nil)) | exact .tmp (.tmp (.tmp .nil)) | exact .tmp (.tmp (.tmp (.tmp .nil))) | exact .cell (.cell (.cell .nil))) ?_
  show AV.bool (decide (idxF t l 0 ≥ 0)) = _
  rw [idxF_any]
set_option maxRecDepth 100000 in
theorem unformed_con (h : Heap) (g : Gd h) (c : Int) (x : Le) (p : Nat) (hp : Rd h p 0 (.int .i64 c)) : Con Tryz.prog Bs 52 [.agg (leC x), .ptr p 0] h [] (.bool (!frmB c x)) [] := by
  refine Con.start rfl Tryz.func52 rfl rfl Tryz.ntmps52 rfl rfl g ?_
  (refine WK.seq ?_; refine WK.region ?_; refine St.box fun _ _ => ?_; refine St.assign ?_; refine WO.nil ?_; refine WK.seq ?_; refine WK.region ?_)
  refine St.loadX (fun h2 hh => (show Rds h2 p 0 [.int .i64 c] from ⟨hh.rd (by simp) hp, trivial⟩).agg (by simp) rfl rfl rfl) ?_
  (refine St.load ?_)
  refine St.call (fun _ => rfl) (fun h2 hh => formed_con h2 hh.gd c x) ?_
  (refine St.un ?_; refine St.assign ?_; refine WO.nil ?_)
  refine St.ret (by first | exact .tmp .nil | exact .cell .nil | exact .cell (.tmp .nil) | exact .tmp (.tmp .nil) | exact .cell (.cell .nil) | exact .tmp (.cell .nil) | exact .nil | exact .tmp (.cell (.tmp .nil)) | exact .cell (.tmp (.tmp .nil)) | exact .cell (.cell (.tmp .nil)) | exact .tmp (.tmp (.tmp .nil)) | exact .tmp (.tmp (.tmp (.tmp .nil))) | exact .cell (.cell (.cell .nil))) ?_
  rfl
set_option maxRecDepth 100000 in
set_option maxHeartbeats 4000000 in
theorem checkLetters_con (h : Heap) (g : Gd h) (c : Int) (v : AV) (l : List Le) (hv : LeV h v l) : Con Tryz.prog Bs 22 [.agg [.int .i64 c], v] h [] (.int .i64 (errL c l)) [] := by
  refine Con.start rfl Tryz.func22 rfl rfl Tryz.ntmps22 rfl rfl g ?_
  (refine WK.seq ?_; refine WK.region ?_; refine St.box fun _ _ => ?_; refine St.assign ?_; refine WO.nil ?_; refine WK.seq ?_; refine WK.seq ?_; refine WK.region ?_; refine St.load ?_)
  rename_i p2 hp2
  refine St.call (fun _ => rfl) (fun h2 hh => check_con h2 hh.gd c) ?_
  cases hq : crt c
  · rw [chkC_no hq]
    (refine St.assign ?_; refine WO.nil ?_; refine WK.seq ?_; refine WK.region ?_; refine St.move ?_; refine St.bin ?_; refine WO.nil ?_; refine WK.condT ?_; refine WK.seq ?_; refine WK.region ?_; refine St.move ?_; refine St.assign ?_; refine WO.nil ?_)
    refine St.ret (by first | exact .tmp .nil | exact .cell .nil | exact .cell (.tmp .nil) | exact .tmp (.tmp .nil) | exact .cell (.cell .nil) | exact .tmp (.cell .nil) | exact .nil | exact .tmp (.cell (.tmp .nil)) | exact .cell (.tmp (.tmp .nil)) | exact .cell (.cell (.tmp .nil)) | exact .tmp (.tmp (.tmp .nil)) | exact .tmp (.tmp (.tmp (.tmp .nil))) | exact .cell (.cell (.cell .nil))) ?_
    simp [oneOf, errL, hq]
  rw [chkC_yes hq]
  (refine St.assign ?_; refine WO.nil ?_; refine WK.seq ?_; refine WK.region ?_; refine St.move ?_; refine St.bin ?_; refine WO.nil ?_; refine WK.condF ?_; refine WK.skip ?_; refine WK.seq ?_; refine WK.seq ?_; refine WK.region ?_; refine St.move ?_)
  refine St.lenG rfl hv.llen ?_
  (refine St.bin ?_; refine WO.nil ?_)
  refine St.splitC (fun q => ?_) (fun q => ?_)
  · have : 2000 < l.length := by simp at q; omega
    (refine WK.seq ?_; refine WK.region ?_; refine St.assign ?_; refine WO.nil ?_)
    refine St.ret (by first | exact .tmp .nil | exact .cell .nil | exact .cell (.tmp .nil) | exact .tmp (.tmp .nil) | exact .cell (.cell .nil) | exact .tmp (.cell .nil) | exact .nil | exact .tmp (.cell (.tmp .nil)) | exact .cell (.tmp (.tmp .nil)) | exact .cell (.cell (.tmp .nil)) | exact .tmp (.tmp (.tmp .nil)) | exact .tmp (.tmp (.tmp (.tmp .nil))) | exact .cell (.cell (.cell .nil))) ?_
    simp [oneOf, errL, hq, this]
  have hl : ¬ 2000 < l.length := by simp at q; omega
  (refine WK.skip ?_; refine WK.seq ?_; refine WK.seq ?_; refine WK.region ?_; refine St.move ?_; refine St.fn ?_)
  refine St.call (fun _ => rfl) (fun h2 hh => contF_con h2 hh.gd v l 52 [.ptr p2 0] (fun x => !frmB c x) (hv.vw hh) (by omega) (fun h3 V hh3 x _ => unformed_con h3 hh3.gd c x p2 (hh3.rd (by simp) (hh.rdG (List.Mem.head _) rfl)))) ?_
  cases ha : l.any (fun x => !frmB c x)
  · (refine WO.nil ?_; refine WK.condF ?_; refine WK.skip ?_; refine WK.seq ?_; refine WK.region ?_; refine St.assign ?_; refine WO.nil ?_)
    refine St.ret (by first | exact .tmp .nil | exact .cell .nil | exact .cell (.tmp .nil) | exact .tmp (.tmp .nil) | exact .cell (.cell .nil) | exact .tmp (.cell .nil) | exact .nil | exact .tmp (.cell (.tmp .nil)) | exact .cell (.tmp (.tmp .nil)) | exact .cell (.cell (.tmp .nil)) | exact .tmp (.tmp (.tmp .nil)) | exact .tmp (.tmp (.tmp (.tmp .nil))) | exact .cell (.cell (.cell .nil))) ?_
    simp [oneOf, errL, hq, hl, ha]
  · (refine WO.nil ?_; refine WK.condT ?_; refine WK.seq ?_; refine WK.region ?_; refine St.assign ?_; refine WO.nil ?_)
    refine St.ret (by first | exact .tmp .nil | exact .cell .nil | exact .cell (.tmp .nil) | exact .tmp (.tmp .nil) | exact .cell (.cell .nil) | exact .tmp (.cell .nil) | exact .nil | exact .tmp (.cell (.tmp .nil)) | exact .cell (.tmp (.tmp .nil)) | exact .cell (.cell (.tmp .nil)) | exact .tmp (.tmp (.tmp .nil)) | exact .tmp (.tmp (.tmp (.tmp .nil))) | exact .cell (.cell (.cell .nil))) ?_
    simp [oneOf, errL, hq, hl, ha]
set_option maxRecDepth 100000 in
set_option maxHeartbeats 4000000 in
theorem listed_con (h : Heap) (g : Gd h) (c : Int) (v : AV) (l : List Le) (hv : LeV h v l) : Con Tryz.prog Bs 25 [.agg [.int .i64 c], v] h [] (.int .i64 (errL c l)) [] := by
  refine Con.start rfl Tryz.func25 rfl rfl Tryz.ntmps25 rfl rfl g ?_
  (refine WK.seq ?_; refine WK.region ?_; refine St.box fun _ _ => ?_; refine St.assign ?_; refine WO.nil ?_; refine WK.seq ?_; refine WK.region ?_; refine St.load ?_)
  rename_i p2 hp2
  refine St.call (fun _ => rfl) (fun h2 hh => rcheck_con h2 hh.gd c) ?_
  cases hq : crt c
  · rw [chkC_no hq]
    (refine St.assign ?_; refine WO.nil ?_; refine WK.seq ?_; refine WK.seq ?_; refine WK.region ?_; refine St.move ?_; refine St.bin ?_; refine WO.nil ?_; refine WK.condT ?_; refine WK.seq ?_; refine WK.region ?_; refine St.move ?_; refine St.assign ?_; refine WO.nil ?_)
    refine St.ret (by first | exact .tmp .nil | exact .cell .nil | exact .cell (.tmp .nil) | exact .tmp (.tmp .nil) | exact .cell (.cell .nil) | exact .tmp (.cell .nil) | exact .nil | exact .tmp (.cell (.tmp .nil)) | exact .cell (.tmp (.tmp .nil)) | exact .cell (.cell (.tmp .nil)) | exact .tmp (.tmp (.tmp .nil)) | exact .tmp (.tmp (.tmp (.tmp .nil))) | exact .cell (.cell (.cell .nil))) ?_
    simp [oneOf, errL, hq]
  rw [chkC_yes hq]
  (refine St.assign ?_; refine WO.nil ?_; refine WK.seq ?_; refine WK.seq ?_; refine WK.region ?_; refine St.move ?_; refine St.bin ?_; refine WO.nil ?_; refine WK.condF ?_; refine WK.skip ?_; refine WK.seq ?_; refine WK.seq ?_; refine WK.region ?_; refine St.move ?_)
  refine St.lenG rfl hv.llen ?_
  (refine St.bin ?_; refine WO.nil ?_)
  refine St.splitC (fun q => ?_) (fun q => ?_)
  · have : 2000 < l.length := by simp at q; omega
    (refine WK.seq ?_; refine WK.region ?_; refine St.assign ?_; refine WO.nil ?_)
    refine St.ret (by first | exact .tmp .nil | exact .cell .nil | exact .cell (.tmp .nil) | exact .tmp (.tmp .nil) | exact .cell (.cell .nil) | exact .tmp (.cell .nil) | exact .nil | exact .tmp (.cell (.tmp .nil)) | exact .cell (.tmp (.tmp .nil)) | exact .cell (.cell (.tmp .nil)) | exact .tmp (.tmp (.tmp .nil)) | exact .tmp (.tmp (.tmp (.tmp .nil))) | exact .cell (.cell (.cell .nil))) ?_
    simp [oneOf, errL, hq, this]
  have hl : ¬ 2000 < l.length := by simp at q; omega
  (refine WK.skip ?_; refine WK.seq ?_; refine WK.seq ?_; refine WK.region ?_; refine St.assign ?_; refine WO.nil ?_; refine WK.block ?_)
  refine WK.inv (ι := Nat) (fun z => [(1, v), (2, .ptr p2 0), (6, .int .i64 z)]) (fun _ => [(p2, .cells [.int .i64 c] 23)]) (fun z => z ≤ l.length ∧ ∀ i, i < z → frmB c (nthE l i) = true) (fun z => l.length - z) 0 ⟨Nat.zero_le _, fun i hi => absurd hi (by omega)⟩ ⟨rfl, rfl, rfl, trivial⟩ (by (repeat (first | exact List.Sublist.refl _ | exact List.nil_sublist _ | apply List.Sublist.cons_cons | apply List.Sublist.cons))) ?_
  rintro k ⟨hkl, hgood⟩ ih
  (refine WK.seq ?_; refine WK.seq ?_; refine WK.region ?_; refine St.move ?_; refine St.move ?_)
  refine St.lenG rfl hv.llen ?_
  (refine St.bin ?_; refine WO.nil ?_)
  refine St.splitC (fun hc => ?_) (fun hc => ?_)
  · have hlt : k < l.length := by simp at hc; omega
    have hv' := hv
    obtain ⟨b, off, cc, rfl, hk⟩ := hv'.ne (by omega)
    (refine WK.skip ?_; refine WK.seq ?_; refine WK.block ?_; refine WK.seq ?_; refine WK.regionD ?_; refine St.load ?_; refine St.move ?_; refine St.move ?_)
    refine St.at ?_
    refine St.loadX (fun h2 hh => ((hk.vw hh).at_ (z := (k : Int)) (n := k) (by omega) hlt).agg (by simp [leC]) rfl rfl rfl) ?_
    skip
    refine St.call (fun _ => rfl) (fun h2 hh => rformed_con h2 hh.gd c (nthE l k)) ?_
    cases hf : frmB c (nthE l k)
    · (refine St.assign ?_; refine WO.nil ?_; refine WK.seq ?_; refine WK.region ?_; refine St.move ?_; refine St.un ?_; refine WO.nil ?_; refine WK.condT ?_; refine WK.seq ?_; refine WK.region ?_; refine St.assign ?_; refine WO.nil ?_)
      refine St.ret (by first | exact .tmp .nil | exact .cell .nil | exact .cell (.tmp .nil) | exact .tmp (.tmp .nil) | exact .cell (.cell .nil) | exact .tmp (.cell .nil) | exact .nil | exact .tmp (.cell (.tmp .nil)) | exact .cell (.tmp (.tmp .nil)) | exact .cell (.cell (.tmp .nil)) | exact .tmp (.tmp (.tmp .nil)) | exact .tmp (.tmp (.tmp (.tmp .nil))) | exact .cell (.cell (.cell .nil))) ?_
      have ha : l.any (fun x => !frmB c x) = true := List.any_eq_true.2 ⟨nthE l k, nthE_mem hlt, by rw [hf]; rfl⟩
      simp [oneOf, errL, hq, hl, ha]
    · (refine St.assign ?_; refine WO.nil ?_; refine WK.seq ?_; refine WK.region ?_; refine St.move ?_; refine St.un ?_; refine WO.nil ?_; refine WK.condF ?_; refine WK.skip ?_; refine WK.blk ?_; refine WK.region ?_; refine St.move ?_; refine St.binI ?_; refine St.assign ?_; refine WO.nil ?_)
      refine WK.le ?_ (by (repeat (first | exact List.Sublist.refl _ | exact List.nil_sublist _ | apply List.Sublist.cons_cons | apply List.Sublist.cons))) (ih (k + 1) ⟨hlt, fun i hi => ?_⟩ (by omega))
      · exact ⟨rfl, rfl, rfl, trivial⟩
      · by_cases e : i = k
        · subst e; exact hf
        · exact hgood i (by omega)
  · have : k = l.length := by simp at hc; omega
    subst this
    (refine WK.exit ?_; refine WK.seq ?_; refine WK.region ?_; refine St.assign ?_; refine WO.nil ?_)
    refine St.ret (by first | exact .tmp .nil | exact .cell .nil | exact .cell (.tmp .nil) | exact .tmp (.tmp .nil) | exact .cell (.cell .nil) | exact .tmp (.cell .nil) | exact .nil | exact .tmp (.cell (.tmp .nil)) | exact .cell (.tmp (.tmp .nil)) | exact .cell (.cell (.tmp .nil)) | exact .tmp (.tmp (.tmp .nil)) | exact .tmp (.tmp (.tmp (.tmp .nil))) | exact .cell (.cell (.cell .nil))) ?_
    have ha : l.any (fun x => !frmB c x) = false := by
      rw [List.any_eq_false]
      intro x hx
      obtain ⟨i, hi, rfl⟩ := List.mem_iff_getElem.1 hx
      have := hgood i hi
      rw [nthE_eq hi] at this
      simp [this]
    simp [oneOf, errL, hq, hl, ha]
end Go.Proofs.YtilpinmbngikgaaGreat
