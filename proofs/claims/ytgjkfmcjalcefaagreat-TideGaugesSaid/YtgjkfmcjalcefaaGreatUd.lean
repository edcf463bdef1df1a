/- The reference's Height over the calculator's memory; the laws' few; the law TideChecks. -/
import Derived.Test.YtgjkfmcjalcefaaGreatUc
namespace Go.Proofs.YtgjkfmcjalcefaaGreat
open Go.Proofs.YtgjkfmcjalcefaaGreat.Ev

set_option maxRecDepth 100000 in
set_option maxHeartbeats 8000000 in
theorem rcorrection_con (h : Heap) (g : Gd h) (lv t : Int) (cv sv : AV) (ss : List Sh) (hs : ShV h sv ss) (hl : ss.length ≤ 20) (h0 : 0 ≤ t) (h1 : t ≤ 1048576) :
    Con Tryz.prog Bs 113 [.agg [.int .i64 lv, cv, sv], .int .i64 t] h [] (.int .i64 (corD (t / 1440) ss)) [] := by
  have ed : t.tdiv 1440 = t / 1440 := Int.tdiv_eq_ediv_of_nonneg h0
  refine Con.start rfl Tryz.func113 rfl rfl Tryz.ntmps113 rfl rfl g ?_
  (refine WK.seq ?_; refine WK.region ?_; refine St.box fun _ _ => ?_; refine St.assign ?_; refine WO.nil ?_; refine WK.seq ?_; refine WK.region ?_; refine St.move ?_; refine St.binI ?_; refine St.assign ?_; refine WO.nil ?_; refine WK.seq ?_; refine WK.seq ?_; refine WK.region ?_; refine St.assign ?_; refine WO.nil ?_; refine WK.block ?_)
  rename_i p hp
  rw [ed]
  by_cases hn : ss.length = 0
  · have e1 : ss = [] := List.length_eq_zero_iff.1 hn
    subst e1
    refine WK.unroll ?_
    (refine WK.seq ?_; refine WK.seq ?_; refine WK.region ?_; refine St.move ?_; refine St.fieldAddr ?_; refine St.load ?_)
    refine St.lenV rfl hs.len ?_
    (refine St.bin ?_; refine WO.nil ?_; refine WK.condF ?_; refine WK.exit ?_; refine WK.seq ?_; refine WK.region ?_; refine St.assign ?_; refine WO.nil ?_)
    refine St.ret (by first | exact .tmp .nil | exact .cell .nil | exact .cell (.tmp .nil) | exact .tmp (.tmp .nil) | exact .cell (.cell .nil) | exact .tmp (.cell .nil) | exact .nil | exact .tmp (.cell (.tmp .nil)) | exact .cell (.tmp (.tmp .nil)) | exact .cell (.cell (.tmp .nil)) | exact .tmp (.tmp (.tmp .nil)) | exact .cell (.cell (.cell .nil))) ?_
    rfl
  obtain ⟨b, off, c, rfl, hk⟩ := hs.ne (by omega)
  refine WK.inv (ι := Nat) (fun z => [(2, .ptr p 0), (4, .int .i64 0), (5, .int .i64 (t / 1440)), (6, .int .i64 z)]) (fun _ => [(p, .cells [.int .i64 lv, cv, .slice b off ss.length c] 25)]) (fun z => z ≤ ss.length ∧ corD (t / 1440) ss = corD (t / 1440) (ss.drop z)) (fun z => ss.length - z) 0 ⟨by omega, rfl⟩ ⟨rfl, rfl, rfl, rfl, trivial⟩ (by (repeat (first | exact List.Sublist.refl _ | exact List.nil_sublist _ | apply List.Sublist.cons_cons | apply List.Sublist.cons))) ?_
  rintro k ⟨hkl, hcd⟩ ih
  (refine WK.seq ?_; refine WK.seq ?_; refine WK.region ?_; refine St.move ?_; refine St.fieldAddr ?_; refine St.load ?_; refine St.len ?_; refine St.bin ?_; refine WO.nil ?_)
  refine St.splitC (fun hc => ?_) (fun hc => ?_)
  · have hlt : k < ss.length := by simp at hc; omega
    have hd := corD_drop (day := t / 1440) hlt
    (refine WK.skip ?_; refine WK.seq ?_; refine WK.block ?_; refine WK.seq ?_; refine WK.region ?_; refine St.fieldAddr ?_; refine St.load ?_; refine St.move ?_)
    refine St.at ?_
    (refine St.fieldAddr ?_)
    refine St.loadX (fun h hh => ((hk.vw hh).fr_ (z := (k : Int)) (n := k) (by omega) hlt).one rfl) ?_
    (refine St.move ?_; refine St.bin ?_; refine St.move ?_)
    refine St.split (fun h1 => ?_) (fun h1 => ?_)
    · (refine St.move ?_; refine St.fieldAddr ?_; refine St.load ?_; refine St.move ?_)
      refine St.at ?_
      (refine St.fieldAddr ?_)
      refine St.loadX (fun h hh => ((hk.vw hh).to_ (z := (k : Int)) (n := k) (by omega) hlt).one rfl) ?_
      (refine St.bin ?_; refine St.pickT ?_; refine WO.nil ?_)
      refine St.splitC (fun h2 => ?_) (fun h2 => ?_)
      · (refine WK.seq ?_; refine WK.region ?_; refine St.fieldAddr ?_; refine St.load ?_; refine St.move ?_)
        refine St.at ?_
        (refine St.fieldAddr ?_)
        refine St.loadX (fun h hh => ((hk.vw hh).ad_ (z := (k : Int)) (n := k) (by omega) hlt).one rfl) ?_
        (refine St.assign ?_; refine WO.nil ?_)
        refine St.ret (by first | exact .tmp .nil | exact .cell .nil | exact .cell (.tmp .nil) | exact .tmp (.tmp .nil) | exact .cell (.cell .nil) | exact .tmp (.cell .nil) | exact .nil | exact .tmp (.cell (.tmp .nil)) | exact .cell (.tmp (.tmp .nil)) | exact .cell (.cell (.tmp .nil)) | exact .tmp (.tmp (.tmp .nil)) | exact .cell (.cell (.cell .nil))) ?_
        rw [hcd, hd, if_pos ⟨by simpa using h1, by simpa using h2⟩]; rfl
      · rw [if_neg (fun q => by simp at h2; omega)] at hd
        (refine WK.skip ?_; refine WK.blk ?_; refine WK.region ?_; refine St.move ?_; refine St.binI ?_; refine St.assign ?_; refine WO.nil ?_)
        refine WK.le ?_ (by (repeat (first | exact List.Sublist.refl _ | exact List.nil_sublist _ | apply List.Sublist.cons_cons | apply List.Sublist.cons))) (ih (k + 1) ⟨hlt, by rw [hcd, hd]⟩ (by omega))
        exact ⟨rfl, rfl, rfl, rfl, trivial⟩
    · rw [if_neg (fun q => by simp at h1; omega)] at hd
      (refine St.skip ?_; refine St.skip ?_; refine St.skip ?_; refine St.skip ?_; refine St.skip ?_; refine St.skip ?_; refine St.skip ?_; refine St.skip ?_; refine St.pickF ?_; refine WO.nil ?_; refine WK.condF ?_; refine WK.skip ?_; refine WK.blk ?_; refine WK.region ?_; refine St.move ?_; refine St.binI ?_; refine St.assign ?_; refine WO.nil ?_)
      refine WK.le ?_ (by (repeat (first | exact List.Sublist.refl _ | exact List.nil_sublist _ | apply List.Sublist.cons_cons | apply List.Sublist.cons))) (ih (k + 1) ⟨hlt, by rw [hcd, hd]⟩ (by omega))
      exact ⟨rfl, rfl, rfl, rfl, trivial⟩
  · have : k = ss.length := by simp at hc; omega
    subst this
    (refine WK.exit ?_; refine WK.seq ?_; refine WK.region ?_; refine St.assign ?_; refine WO.nil ?_)
    refine St.ret (by first | exact .tmp .nil | exact .cell .nil | exact .cell (.tmp .nil) | exact .tmp (.tmp .nil) | exact .cell (.cell .nil) | exact .tmp (.cell .nil) | exact .nil | exact .tmp (.cell (.tmp .nil)) | exact .cell (.tmp (.tmp .nil)) | exact .cell (.cell (.tmp .nil)) | exact .tmp (.tmp (.tmp .nil)) | exact .cell (.cell (.cell .nil))) ?_
    rw [hcd, List.drop_length]
    rfl
set_option maxRecDepth 100000 in
set_option maxHeartbeats 8000000 in
theorem rrest_con (h : Heap) (g : Gd h) (lv t : Int) (cv sv : AV) (l : List Cw) (ss : List Sh) (hc : CyV h cv l) (hs : ShV h sv ss) (w : WOk lv (cys l) ss) (h0 : 0 ≤ t) (h1 : t ≤ 1048576) :
    Con Tryz.prog Bs 82 [.agg [.int .i64 lv, cv, sv], .int .i64 t] h [] (.int .i64 (bareV (cys l) ss t)) [] := by
  have hl := w.n1
  rw [cys_len] at hl
  have hcb := corD_bd (day := t / 1440) (chkS_all w.ss)
  have hsb := fun k hk => sumV_bd (t := t) (chkC_all w.cs) k hk
  rw [cys_len] at hsb
  refine Con.start rfl Tryz.func82 rfl rfl Tryz.ntmps82 rfl rfl g ?_
  (refine WK.seq ?_; refine WK.region ?_; refine St.box fun _ _ => ?_; refine St.assign ?_; refine WO.nil ?_; refine WK.seq ?_; refine WK.region ?_; refine St.load ?_; refine St.move ?_)
  rename_i p hp
  refine St.call (fun _ => rfl) (fun h2 hh => rcorrection_con h2 hh.gd lv t cv sv ss (hs.vw hh) w.n2 h0 h1) ?_
  (refine St.assign ?_; refine WO.nil ?_; refine WK.seq ?_; refine WK.seq ?_; refine WK.region ?_; refine St.assign ?_; refine WO.nil ?_; refine WK.block ?_)
  have e0 : corD (t / 1440) ss = corD (t / 1440) ss + sumV (cys l) t 0 := by simp [sumV]
  by_cases hn : l.length = 0
  · have e1 : l = [] := List.length_eq_zero_iff.1 hn
    subst e1
    refine WK.unroll ?_
    (refine WK.seq ?_; refine WK.seq ?_; refine WK.region ?_; refine St.move ?_; refine St.fieldAddr ?_; refine St.load ?_)
    refine St.lenV rfl hc.len ?_
    (refine St.bin ?_; refine WO.nil ?_; refine WK.condF ?_; refine WK.exit ?_; refine WK.seq ?_; refine WK.region ?_; refine St.move ?_; refine St.assign ?_; refine WO.nil ?_)
    refine St.ret (by first | exact .tmp .nil | exact .cell .nil | exact .cell (.tmp .nil) | exact .tmp (.tmp .nil) | exact .cell (.cell .nil) | exact .tmp (.cell .nil) | exact .nil | exact .tmp (.cell (.tmp .nil)) | exact .cell (.tmp (.tmp .nil)) | exact .cell (.cell (.tmp .nil)) | exact .tmp (.tmp (.tmp .nil)) | exact .cell (.cell (.cell .nil))) ?_
    unfold bareV
    rw [show (cys []).length = 0 from rfl, ← e0]; rfl
  obtain ⟨b, off, c, rfl, hk⟩ := hc.ne (by omega)
  refine WK.inv (ι := Nat) (fun z => [(1, .int .i64 t), (2, .ptr p 0), (4, .int .i64 0), (5, .int .i64 (corD (t / 1440) ss + sumV (cys l) t z)), (6, .int .i64 z)]) (fun _ => [(p, .cells [.int .i64 lv, .slice b off l.length c, sv] 25)]) (fun z => z ≤ l.length) (fun z => l.length - z) 0 (by omega) ⟨rfl, rfl, rfl, congrArg (fun z => some (AV.int .i64 z)) e0, rfl, trivial⟩ (by (repeat (first | exact List.Sublist.refl _ | exact List.nil_sublist _ | apply List.Sublist.cons_cons | apply List.Sublist.cons))) ?_
  intro k hkl ih
  (refine WK.seq ?_; refine WK.seq ?_; refine WK.region ?_; refine St.move ?_; refine St.fieldAddr ?_; refine St.load ?_; refine St.len ?_; refine St.bin ?_; refine WO.nil ?_)
  refine St.splitC (fun hc => ?_) (fun hc => ?_)
  · have hlt : k < l.length := by simp at hc; omega
    have hit := (hk k hlt).2
    have hst := sumV_succ (cs := cys l) (t := t) (k := k) (by rw [cys_len]; exact hlt)
    have hb1 := hsb k (by omega)
    have hck := chkC_all w.cs (nthC (cys l) k) (by rw [nthC_eq (by rw [cys_len]; exact hlt)]; exact List.getElem_mem _)
    rw [cys_nth hlt] at hst hck
    have hvb := valC_bd hck t
    (refine WK.skip ?_; refine WK.seq ?_; refine WK.block ?_; refine WK.region ?_; refine St.move ?_; refine St.fieldAddr ?_; refine St.load ?_; refine St.move ?_)
    refine St.at ?_
    refine St.loadX (fun h hh => ((hk.vw hh).at_ (z := (k : Int)) (n := k) (by omega) hlt).agg (by simp) rfl rfl rfl) ?_
    (refine St.move ?_)
    refine St.call (fun _ => rfl) (fun h2 hh => of_con h2 hh.gd _ _ _ t _ _ (hit.vw hh) hck (by omega) (by omega)) ?_
    generalize hW : nthW l k = w2 at *
    obtain ⟨⟨id, bg, ev, hs⟩, wv⟩ := w2
    simp only at hst hvb hb1 ⊢
    (refine St.binI ?_; refine St.assign ?_; refine WO.nil ?_; refine WK.blk ?_; refine WK.region ?_; refine St.move ?_; refine St.binI ?_; refine St.assign ?_; refine WO.nil ?_)
    refine WK.le ?_ (by (repeat (first | exact List.Sublist.refl _ | exact List.nil_sublist _ | apply List.Sublist.cons_cons | apply List.Sublist.cons))) (ih (k + 1) hlt (by omega))
    exact ⟨rfl, rfl, rfl, congrArg (fun z => some (AV.int .i64 z)) (by rw [hst]; omega), rfl, trivial⟩
  · have : k = l.length := by simp at hc; omega
    subst this
    (refine WK.exit ?_; refine WK.seq ?_; refine WK.region ?_; refine St.move ?_; refine St.assign ?_; refine WO.nil ?_)
    refine St.ret (by first | exact .tmp .nil | exact .cell .nil | exact .cell (.tmp .nil) | exact .tmp (.tmp .nil) | exact .cell (.cell .nil) | exact .tmp (.cell .nil) | exact .nil | exact .tmp (.cell (.tmp .nil)) | exact .cell (.tmp (.tmp .nil)) | exact .cell (.cell (.tmp .nil)) | exact .tmp (.tmp (.tmp .nil)) | exact .cell (.cell (.cell .nil))) ?_
    unfold bareV
    rw [cys_len]; rfl
def fewB (l : List Cw) (ss : List Sh) : Bool := (l.all fun w => decide (w.c.hs.length ≤ 100)) && (decide (l.length ≤ 8) && decide (ss.length ≤ 30))
set_option maxRecDepth 100000 in
set_option maxHeartbeats 8000000 in
theorem few_con (h : Heap) (g : Gd h) (lv : Int) (cv sv : AV) (l : List Cw) (ss : List Sh) (hc : CyV h cv l) (hs : ShV h sv ss) (hl : l.length ≤ 9223372036854775807) :
    Con Tryz.prog Bs 5 [.agg [.int .i64 lv, cv, sv]] h [] (.bool (fewB l ss)) [] := by
  refine Con.start rfl Tryz.func5 rfl rfl Tryz.ntmps5 rfl rfl g ?_
  (refine WK.seq ?_; refine WK.region ?_; refine St.box fun _ _ => ?_; refine St.assign ?_; refine WO.nil ?_; refine WK.seq ?_; refine WK.seq ?_; refine WK.region ?_; refine St.assign ?_; refine WO.nil ?_; refine WK.block ?_)
  rename_i p hp
  by_cases hn : l.length = 0
  · have e1 : l = [] := List.length_eq_zero_iff.1 hn
    subst e1
    refine WK.unroll ?_
    (refine WK.seq ?_; refine WK.seq ?_; refine WK.region ?_; refine St.move ?_; refine St.fieldAddr ?_; refine St.load ?_)
    refine St.lenV rfl hc.len ?_
    (refine St.bin ?_; refine WO.nil ?_; refine WK.condF ?_; refine WK.exit ?_; refine WK.seq ?_; refine WK.region ?_; refine St.fieldAddr ?_; refine St.load ?_)
    refine St.lenV rfl hc.len ?_
    (refine St.bin ?_; refine St.move ?_; refine St.fieldAddr ?_; refine St.load ?_)
    refine St.lenV rfl hs.len ?_
    (refine St.bin ?_; refine St.pickT ?_; refine St.assign ?_; refine WO.nil ?_)
    refine St.ret (by first | exact .tmp .nil | exact .cell .nil | exact .cell (.tmp .nil) | exact .tmp (.tmp .nil) | exact .cell (.cell .nil) | exact .tmp (.cell .nil) | exact .nil | exact .tmp (.cell (.tmp .nil)) | exact .cell (.tmp (.tmp .nil)) | exact .cell (.cell (.tmp .nil)) | exact .tmp (.tmp (.tmp .nil)) | exact .cell (.cell (.cell .nil))) ?_
    simp [oneOf, fewB]
    omega
  obtain ⟨b, off, c, rfl, hk⟩ := hc.ne (by omega)
  refine WK.inv (ι := Nat) (fun z => [(1, .ptr p 0), (2, .bool false), (3, .int .i64 z)]) (fun _ => [(p, .cells [.int .i64 lv, .slice b off l.length c, sv] 25)]) (fun z => z ≤ l.length ∧ ∀ i, i < z → (nthW l i).c.hs.length ≤ 100) (fun z => l.length - z) 0 ⟨by omega, fun i hi => absurd hi (by omega)⟩ ⟨rfl, rfl, rfl, trivial⟩ (by (repeat (first | exact List.Sublist.refl _ | exact List.nil_sublist _ | apply List.Sublist.cons_cons | apply List.Sublist.cons))) ?_
  rintro k ⟨hkl, hall⟩ ih
  (refine WK.seq ?_; refine WK.seq ?_; refine WK.region ?_; refine St.move ?_; refine St.fieldAddr ?_; refine St.load ?_; refine St.len ?_; refine St.bin ?_; refine WO.nil ?_)
  refine St.splitC (fun hcc => ?_) (fun hcc => ?_)
  · have hlt : k < l.length := by simp at hcc; omega
    have hit := (hk k hlt).2
    (refine WK.skip ?_; refine WK.seq ?_; refine WK.block ?_; refine WK.seq ?_; refine WK.region ?_; refine St.fieldAddr ?_; refine St.load ?_; refine St.move ?_)
    refine St.at ?_
    (refine St.fieldAddr ?_)
    refine St.loadX (fun h hh => ((hk.vw hh).hs_ (z := (k : Int)) (n := k) (by omega) hlt).one rfl) ?_
    skip
    refine St.lenV rfl hit.len ?_
    (refine St.bin ?_; refine WO.nil ?_)
    refine St.splitC (fun h2 => ?_) (fun h2 => ?_)
    · (refine WK.seq ?_; refine WK.region ?_; refine St.assign ?_; refine WO.nil ?_)
      refine St.ret (by first | exact .tmp .nil | exact .cell .nil | exact .cell (.tmp .nil) | exact .tmp (.tmp .nil) | exact .cell (.cell .nil) | exact .tmp (.cell .nil) | exact .nil | exact .tmp (.cell (.tmp .nil)) | exact .cell (.tmp (.tmp .nil)) | exact .cell (.cell (.tmp .nil)) | exact .tmp (.tmp (.tmp .nil)) | exact .cell (.cell (.cell .nil))) ?_
      have : fewB l ss = false := by
        unfold fewB
        rw [show (l.all fun w => decide (w.c.hs.length ≤ 100)) = false from by
          rw [List.all_eq_false]
          refine ⟨l[k], List.getElem_mem hlt, ?_⟩
          rw [← nthW_eq hlt]
          simp at h2 ⊢
          omega]
        rfl
      rw [this]; rfl
    · (refine WK.skip ?_; refine WK.blk ?_; refine WK.region ?_; refine St.move ?_; refine St.binI ?_; refine St.assign ?_; refine WO.nil ?_)
      refine WK.le ?_ (by (repeat (first | exact List.Sublist.refl _ | exact List.nil_sublist _ | apply List.Sublist.cons_cons | apply List.Sublist.cons))) (ih (k + 1) ⟨hlt, fun i hi => ?_⟩ (by omega))
      · exact ⟨rfl, rfl, rfl, trivial⟩
      · rcases Nat.lt_succ_iff_lt_or_eq.1 hi with h3 | rfl
        · exact hall i h3
        · simp at h2; omega
  · have : k = l.length := by simp at hcc; omega
    subst this
    have hA : (l.all fun w => decide (w.c.hs.length ≤ 100)) = true := by
      rw [List.all_eq_true]
      intro w hw
      obtain ⟨i, hi, rfl⟩ := List.getElem_of_mem hw
      have := hall i hi
      rw [nthW_eq hi] at this
      simpa using this
    clear ih
    (refine WK.exit ?_; refine WK.seq ?_; refine WK.region ?_; refine St.fieldAddr ?_; refine St.load ?_; refine St.len ?_; refine St.bin ?_; refine St.move ?_)
    refine St.split (fun h3 => ?_) (fun h3 => ?_)
    · (refine St.fieldAddr ?_; refine St.load ?_)
      refine St.lenV rfl hs.len ?_
      (refine St.bin ?_; refine St.pickT ?_; refine St.assign ?_; refine WO.nil ?_)
      refine St.ret (by first | exact .tmp .nil | exact .cell .nil | exact .cell (.tmp .nil) | exact .tmp (.tmp .nil) | exact .cell (.cell .nil) | exact .tmp (.cell .nil) | exact .nil | exact .tmp (.cell (.tmp .nil)) | exact .cell (.tmp (.tmp .nil)) | exact .cell (.cell (.tmp .nil)) | exact .tmp (.tmp (.tmp .nil)) | exact .cell (.cell (.cell .nil))) ?_
      have e8 : decide (l.length ≤ 8) = true := by simp at h3 ⊢; omega
      have e30 : decide ((ss.length : Int) ≤ 30) = decide (ss.length ≤ 30) := by rw [Bool.eq_iff_iff]; simp; omega
      unfold fewB
      rw [hA, e8, ← e30]
      rfl
    · (refine St.skip ?_; refine St.skip ?_; refine St.skip ?_; refine St.skip ?_; refine St.pickF ?_; refine St.assign ?_; refine WO.nil ?_)
      refine St.ret (by first | exact .tmp .nil | exact .cell .nil | exact .cell (.tmp .nil) | exact .tmp (.tmp .nil) | exact .cell (.cell .nil) | exact .tmp (.cell .nil) | exact .nil | exact .tmp (.cell (.tmp .nil)) | exact .cell (.tmp (.tmp .nil)) | exact .cell (.cell (.tmp .nil)) | exact .tmp (.tmp (.tmp .nil)) | exact .cell (.cell (.cell .nil))) ?_
      have e8 : decide (l.length ≤ 8) = false := by simp at h3 ⊢; omega
      unfold fewB
      rw [hA, e8]
      rfl
end Go.Proofs.YtgjkfmcjalcefaaGreat
