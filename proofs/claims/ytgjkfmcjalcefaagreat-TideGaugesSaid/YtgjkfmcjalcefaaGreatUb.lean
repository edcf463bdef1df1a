/- The program's Check, correction, bare, Height over the calculator's memory. -/
import Derived.Test.YtgjkfmcjalcefaaGreatUa
namespace Go.Proofs.YtgjkfmcjalcefaaGreat
open Go.Proofs.YtgjkfmcjalcefaaGreat.Ev

set_option maxRecDepth 100000 in
set_option maxHeartbeats 8000000 in
theorem checkShifts_con (h : Heap) (g : Gd h) (v : AV) (l : List Sh) (hv : ShV h v l) (hl : l.length ≤ 1000000) :
    Con Tryz.prog Bs 90 [v] h [] (.int .i64 (chkS (-1) l)) [] := by
  refine Con.start rfl Tryz.func90 rfl rfl Tryz.ntmps90 rfl rfl g ?_
  (refine WK.seq ?_; refine WK.region ?_; refine St.assign ?_; refine WO.nil ?_; refine WK.seq ?_; refine WK.region ?_; refine St.assign ?_; refine WO.nil ?_; refine WK.seq ?_; refine WK.seq ?_; refine WK.region ?_; refine St.move ?_)
  refine St.lenV rfl hv.len ?_
  (refine St.move ?_; refine WO.nil ?_; refine WK.block ?_)
  by_cases hn : l.length = 0
  · have e1 : l = [] := List.length_eq_zero_iff.1 hn
    subst e1
    refine WK.unroll ?_
    (refine WK.seq ?_; refine WK.region ?_; refine St.bin ?_; refine WO.nil ?_; refine WK.seq ?_; refine WK.condF ?_; refine WK.exit ?_; refine WK.seq ?_; refine WK.region ?_; refine St.assign ?_; refine WO.nil ?_)
    refine St.ret (by first | exact .tmp .nil | exact .cell .nil | exact .cell (.tmp .nil) | exact .tmp (.tmp .nil) | exact .cell (.cell .nil) | exact .tmp (.cell .nil) | exact .nil | exact .tmp (.cell (.tmp .nil)) | exact .cell (.tmp (.tmp .nil)) | exact .cell (.cell (.tmp .nil)) | exact .tmp (.tmp (.tmp .nil)) | exact .cell (.cell (.cell .nil))) ?_
    rfl
  obtain ⟨b, off, c, rfl, hk⟩ := hv.ne (by omega)
  refine WK.inv (ι := Nat × Int) (fun z => [(2, .int .i64 0), (3, .int .i64 z.2), (6, .slice b off l.length c), (7, .int .i64 l.length), (8, .int .i64 z.1)]) (fun _ => []) (fun z => z.1 ≤ l.length ∧ chkS (-1) l = chkS z.2 (l.drop z.1)) (fun z => l.length - z.1) (0, -1) ⟨by omega, rfl⟩ ⟨rfl, rfl, rfl, rfl, rfl, trivial⟩ (by (repeat (first | exact List.Sublist.refl _ | exact List.nil_sublist _ | apply List.Sublist.cons_cons | apply List.Sublist.cons))) ?_
  rintro ⟨k, bf⟩ ⟨hkl, hchk⟩ ih
  simp only at hkl hchk ih ⊢
  (refine WK.seq ?_; refine WK.region ?_; refine St.bin ?_; refine WO.nil ?_; refine WK.seq ?_)
  refine St.splitC (fun hc => ?_) (fun hc => ?_)
  · have hlt : k < l.length := by simp at hc; omega
    have hd := chkS_drop (before := bf) hlt
    (refine WK.skip ?_; refine WK.seq ?_; refine WK.block ?_; refine WK.seq ?_; refine WK.region ?_)
    refine St.at ?_
    refine St.loadX (fun h hh => ((hk.vw hh).at_ (z := (k : Int)) (n := k) (by omega) hlt).agg (by simp) rfl rfl rfl) ?_
    generalize hW : nthS l k = w at *
    obtain ⟨fr, to, ad⟩ := w
    simp only at hd ⊢
    (refine St.alloc fun _ _ => ?_; refine St.store0 ?_; refine WO.nil ?_; refine WK.seq ?_; refine WK.seq ?_; refine WK.regionD ?_; refine St.fieldAddr ?_; refine St.load ?_; refine St.move ?_; refine St.bin ?_; refine St.move ?_)
    rename_i x hx
    have bad : shBad bf ⟨fr, to, ad⟩ = true → chkS (-1) l = 1 := fun q => by rw [hchk, hd, if_pos q]
    refine St.split (fun h1 => ?_) (fun h1 => ?_)
    · (refine St.skip ?_; refine St.skip ?_; refine St.skip ?_; refine St.skip ?_; refine St.skip ?_; refine St.pickT ?_; refine St.move ?_; refine St.skip ?_; refine St.skip ?_; refine St.skip ?_; refine St.skip ?_; refine St.pickT ?_; refine St.move ?_; refine St.skip ?_; refine St.skip ?_; refine St.skip ?_; refine St.skip ?_; refine St.pickT ?_; refine WO.nil ?_; refine WK.condT ?_; refine WK.seq ?_; refine WK.region ?_; refine St.assign ?_; refine WO.nil ?_)
      refine St.ret (by first | exact .tmp .nil | exact .cell .nil | exact .cell (.tmp .nil) | exact .tmp (.tmp .nil) | exact .cell (.cell .nil) | exact .tmp (.cell .nil) | exact .nil | exact .tmp (.cell (.tmp .nil)) | exact .cell (.tmp (.tmp .nil)) | exact .cell (.cell (.tmp .nil)) | exact .tmp (.tmp (.tmp .nil)) | exact .cell (.cell (.cell .nil))) ?_
      rw [bad (by unfold shBad; simp at h1 ⊢; omega)]; rfl
    (refine St.fieldAddr ?_; refine St.load ?_; refine St.fieldAddr ?_; refine St.load ?_; refine St.bin ?_; refine St.pickF ?_; refine St.move ?_)
    refine St.split (fun h2 => ?_) (fun h2 => ?_)
    · (refine St.skip ?_; refine St.skip ?_; refine St.skip ?_; refine St.skip ?_; refine St.pickT ?_; refine St.move ?_; refine St.skip ?_; refine St.skip ?_; refine St.skip ?_; refine St.skip ?_; refine St.pickT ?_; refine WO.nil ?_; refine WK.condT ?_; refine WK.seq ?_; refine WK.region ?_; refine St.assign ?_; refine WO.nil ?_)
      refine St.ret (by first | exact .tmp .nil | exact .cell .nil | exact .cell (.tmp .nil) | exact .tmp (.tmp .nil) | exact .cell (.cell .nil) | exact .tmp (.cell .nil) | exact .nil | exact .tmp (.cell (.tmp .nil)) | exact .cell (.tmp (.tmp .nil)) | exact .cell (.cell (.tmp .nil)) | exact .tmp (.tmp (.tmp .nil)) | exact .cell (.cell (.cell .nil))) ?_
      rw [bad (by unfold shBad; simp at h2 ⊢; omega)]; rfl
    (refine St.fieldAddr ?_; refine St.load ?_)
    refine St.call (v := .int .i64 728) (fun _ => rfl) (fun hp2 hh => by
      have := dayOf_con hp2 hh.gd 1048576 (by omega) (by omega)
      exact this) ?_
    (refine St.bin ?_; refine St.pickF ?_; refine St.move ?_)
    refine St.split (fun h3 => ?_) (fun h3 => ?_)
    · (refine St.skip ?_; refine St.skip ?_; refine St.skip ?_; refine St.skip ?_; refine St.pickT ?_; refine WO.nil ?_; refine WK.condT ?_; refine WK.seq ?_; refine WK.region ?_; refine St.assign ?_; refine WO.nil ?_)
      refine St.ret (by first | exact .tmp .nil | exact .cell .nil | exact .cell (.tmp .nil) | exact .tmp (.tmp .nil) | exact .cell (.cell .nil) | exact .tmp (.cell .nil) | exact .nil | exact .tmp (.cell (.tmp .nil)) | exact .cell (.tmp (.tmp .nil)) | exact .cell (.cell (.tmp .nil)) | exact .tmp (.tmp (.tmp .nil)) | exact .cell (.cell (.cell .nil))) ?_
      rw [bad (by unfold shBad; simp at h3 ⊢; omega)]; rfl
    (refine St.fieldAddr ?_; refine St.load ?_)
    refine St.call (fun _ => rfl) (fun hp2 hh => within_con hp2 hh.gd ad) ?_
    (refine St.un ?_; refine St.pickF ?_; refine WO.nil ?_)
    refine St.splitC (fun h4 => ?_) (fun h4 => ?_)
    · (refine WK.seq ?_; refine WK.region ?_; refine St.assign ?_; refine WO.nil ?_)
      refine St.ret (by first | exact .tmp .nil | exact .cell .nil | exact .cell (.tmp .nil) | exact .tmp (.tmp .nil) | exact .cell (.cell .nil) | exact .tmp (.cell .nil) | exact .nil | exact .tmp (.cell (.tmp .nil)) | exact .cell (.tmp (.tmp .nil)) | exact .cell (.cell (.tmp .nil)) | exact .tmp (.tmp (.tmp .nil)) | exact .cell (.cell (.cell .nil))) ?_
      rw [bad (by unfold shBad; simp at h4 ⊢; simp [h4])]; rfl
    have ok : ¬ shBad bf ⟨fr, to, ad⟩ = true := by
      unfold shBad
      simp at h1 h2 h3 h4 ⊢
      exact ⟨by omega, by omega, by omega, h4⟩
    rw [if_neg ok] at hd
    (refine WK.skip ?_; refine WK.region ?_; refine St.fieldAddr ?_; refine St.load ?_; refine St.assign ?_; refine WO.nil ?_; refine WK.blk ?_; refine WK.region ?_; refine St.binI ?_; refine St.move ?_; refine WO.nil ?_)
    refine WK.le ?_ (by (repeat (first | exact List.Sublist.refl _ | exact List.nil_sublist _ | apply List.Sublist.cons_cons | apply List.Sublist.cons))) (ih (k + 1, to) ⟨hlt, by rw [hchk, hd]⟩ (by simp only; omega))
    exact ⟨rfl, rfl, rfl, rfl, rfl, trivial⟩
  · have : k = l.length := by simp at hc; omega
    subst this
    (refine WK.exit ?_; refine WK.seq ?_; refine WK.region ?_; refine St.assign ?_; refine WO.nil ?_)
    refine St.ret (by first | exact .tmp .nil | exact .cell .nil | exact .cell (.tmp .nil) | exact .tmp (.tmp .nil) | exact .cell (.cell .nil) | exact .tmp (.cell .nil) | exact .nil | exact .tmp (.cell (.tmp .nil)) | exact .cell (.tmp (.tmp .nil)) | exact .cell (.cell (.tmp .nil)) | exact .tmp (.tmp (.tmp .nil)) | exact .cell (.cell (.cell .nil))) ?_
    rw [hchk, List.drop_length]
    rfl
set_option maxRecDepth 100000 in
set_option maxHeartbeats 8000000 in
theorem check_con (h : Heap) (g : Gd h) (lv : Int) (cv sv : AV) (l : List Cw) (ss : List Sh) (hc : CyV h cv l) (hs : ShV h sv ss) :
    Con Tryz.prog Bs 56 [.agg [.int .i64 lv, cv, sv]] h [] (.int .i64 (chkW lv (cys l) ss)) [] := by
  refine Con.start rfl Tryz.func56 rfl rfl Tryz.ntmps56 rfl rfl g ?_
  (refine WK.seq ?_; refine WK.region ?_; refine St.box fun _ _ => ?_; refine St.assign ?_; refine WO.nil ?_; refine WK.seq ?_; refine WK.seq ?_; refine WK.region ?_; refine St.fieldAddr ?_; refine St.load ?_)
  refine St.call (fun _ => rfl) (fun h2 hh => within_con h2 hh.gd lv) ?_
  (refine St.un ?_; refine WO.nil ?_)
  refine St.splitC (fun h1 => ?_) (fun h1 => ?_)
  · (refine WK.seq ?_; refine WK.region ?_; refine St.assign ?_; refine WO.nil ?_)
    refine St.ret (by first | exact .tmp .nil | exact .cell .nil | exact .cell (.tmp .nil) | exact .tmp (.tmp .nil) | exact .cell (.cell .nil) | exact .tmp (.cell .nil) | exact .nil | exact .tmp (.cell (.tmp .nil)) | exact .cell (.tmp (.tmp .nil)) | exact .cell (.cell (.tmp .nil)) | exact .tmp (.tmp (.tmp .nil)) | exact .cell (.cell (.cell .nil))) ?_
    unfold chkW
    rw [if_pos (by simpa using h1)]; rfl
  (refine WK.skip ?_; refine WK.seq ?_; refine WK.seq ?_; refine WK.region ?_; refine St.fieldAddr ?_; refine St.load ?_)
  refine St.lenV rfl hc.len ?_
  (refine St.bin ?_; refine St.move ?_)
  have e1 : ¬ inB lv 4000 = false := by simpa using h1
  refine St.split (fun h2 => ?_) (fun h2 => ?_)
  · (refine St.skip ?_; refine St.skip ?_; refine St.skip ?_; refine St.skip ?_; refine St.pickT ?_; refine WO.nil ?_; refine WK.condT ?_; refine WK.seq ?_; refine WK.region ?_; refine St.assign ?_; refine WO.nil ?_)
    refine St.ret (by first | exact .tmp .nil | exact .cell .nil | exact .cell (.tmp .nil) | exact .tmp (.tmp .nil) | exact .cell (.cell .nil) | exact .tmp (.cell .nil) | exact .nil | exact .tmp (.cell (.tmp .nil)) | exact .cell (.tmp (.tmp .nil)) | exact .cell (.cell (.tmp .nil)) | exact .tmp (.tmp (.tmp .nil)) | exact .cell (.cell (.cell .nil))) ?_
    unfold chkW
    rw [if_neg e1, if_pos (by rw [cys_len]; simp at h2; omega)]; rfl
  (refine St.fieldAddr ?_; refine St.load ?_)
  refine St.lenV rfl hs.len ?_
  (refine St.bin ?_; refine St.pickF ?_; refine WO.nil ?_)
  refine St.splitC (fun h3 => ?_) (fun h3 => ?_)
  · (refine WK.seq ?_; refine WK.region ?_; refine St.assign ?_; refine WO.nil ?_)
    refine St.ret (by first | exact .tmp .nil | exact .cell .nil | exact .cell (.tmp .nil) | exact .tmp (.tmp .nil) | exact .cell (.cell .nil) | exact .tmp (.cell .nil) | exact .nil | exact .tmp (.cell (.tmp .nil)) | exact .cell (.tmp (.tmp .nil)) | exact .cell (.cell (.tmp .nil)) | exact .tmp (.tmp (.tmp .nil)) | exact .cell (.cell (.cell .nil))) ?_
    unfold chkW
    rw [if_neg e1, if_pos (by simp at h3; omega)]; rfl
  have hl1 : l.length ≤ 6 := by simp at h2; omega
  have hl2 : ss.length ≤ 20 := by simp at h3; omega
  have e2 : ¬ (6 < (cys l).length ∨ 20 < ss.length) := by rw [cys_len]; omega
  (refine WK.skip ?_; refine WK.seq ?_; refine WK.seq ?_; refine WK.region ?_; refine St.fieldAddr ?_; refine St.load ?_)
  refine St.call (fun _ => rfl) (fun h2 hh => checkEach_con h2 hh.gd cv l (hc.vw hh) (by omega)) ?_
  (refine St.assign ?_; refine WO.nil ?_; refine WK.seq ?_; refine WK.region ?_; refine St.move ?_; refine St.bin ?_; refine WO.nil ?_)
  refine St.splitC (fun h4 => ?_) (fun h4 => ?_)
  · (refine WK.seq ?_; refine WK.region ?_; refine St.move ?_; refine St.assign ?_; refine WO.nil ?_)
    refine St.ret (by first | exact .tmp .nil | exact .cell .nil | exact .cell (.tmp .nil) | exact .tmp (.tmp .nil) | exact .cell (.cell .nil) | exact .tmp (.cell .nil) | exact .nil | exact .tmp (.cell (.tmp .nil)) | exact .cell (.tmp (.tmp .nil)) | exact .cell (.cell (.tmp .nil)) | exact .tmp (.tmp (.tmp .nil)) | exact .cell (.cell (.cell .nil))) ?_
    unfold chkW
    rw [if_neg e1, if_neg e2, if_pos (by simpa using h4)]; rfl
  (refine WK.skip ?_; refine WK.seq ?_; refine WK.region ?_; refine St.fieldAddr ?_; refine St.load ?_)
  refine St.call (fun _ => rfl) (fun h2 hh => checkShifts_con h2 hh.gd sv ss (hs.vw hh) (by omega)) ?_
  (refine St.assign ?_; refine WO.nil ?_)
  refine St.ret (by first | exact .tmp .nil | exact .cell .nil | exact .cell (.tmp .nil) | exact .tmp (.tmp .nil) | exact .cell (.cell .nil) | exact .tmp (.cell .nil) | exact .nil | exact .tmp (.cell (.tmp .nil)) | exact .cell (.tmp (.tmp .nil)) | exact .cell (.cell (.tmp .nil)) | exact .tmp (.tmp (.tmp .nil)) | exact .cell (.cell (.cell .nil))) ?_
  unfold chkW
  rw [if_neg e1, if_neg e2, if_neg (by simpa using h4)]; rfl
set_option maxRecDepth 100000 in
set_option maxHeartbeats 8000000 in
theorem correction_con (h : Heap) (g : Gd h) (lv t : Int) (cv sv : AV) (ss : List Sh) (hs : ShV h sv ss) (hl : ss.length ≤ 20) (h0 : 0 ≤ t) (h1 : t ≤ 1048576) :
    Con Tryz.prog Bs 91 [.agg [.int .i64 lv, cv, sv], .int .i64 t] h [] (.int .i64 (corD (t / 1440) ss)) [] := by
  refine Con.start rfl Tryz.func91 rfl rfl Tryz.ntmps91 rfl rfl g ?_
  (refine WK.seq ?_; refine WK.region ?_; refine St.box fun _ _ => ?_; refine St.assign ?_; refine WO.nil ?_; refine WK.seq ?_; refine WK.region ?_; refine St.move ?_)
  rename_i p hp
  refine St.call (fun _ => rfl) (fun h2 hh => dayOf_con h2 hh.gd t h0 h1) ?_
  (refine St.assign ?_; refine WO.nil ?_; refine WK.seq ?_; refine WK.seq ?_; refine WK.region ?_; refine St.fieldAddr ?_; refine St.load ?_)
  refine St.lenV rfl hs.len ?_
  (refine St.move ?_; refine WO.nil ?_; refine WK.block ?_)
  by_cases hn : ss.length = 0
  · have e1 : ss = [] := List.length_eq_zero_iff.1 hn
    subst e1
    refine WK.unroll ?_
    (refine WK.seq ?_; refine WK.region ?_; refine St.bin ?_; refine WO.nil ?_; refine WK.seq ?_; refine WK.condF ?_; refine WK.exit ?_; refine WK.seq ?_; refine WK.region ?_; refine St.assign ?_; refine WO.nil ?_)
    refine St.ret (by first | exact .tmp .nil | exact .cell .nil | exact .cell (.tmp .nil) | exact .tmp (.tmp .nil) | exact .cell (.cell .nil) | exact .tmp (.cell .nil) | exact .nil | exact .tmp (.cell (.tmp .nil)) | exact .cell (.tmp (.tmp .nil)) | exact .cell (.cell (.tmp .nil)) | exact .tmp (.tmp (.tmp .nil)) | exact .cell (.cell (.cell .nil))) ?_
    rfl
  obtain ⟨b, off, c, rfl, hk⟩ := hs.ne (by omega)
  refine WK.inv (ι := Nat) (fun z => [(4, .int .i64 0), (5, .int .i64 (t / 1440)), (11, .slice b off ss.length c), (12, .int .i64 ss.length), (13, .int .i64 z)]) (fun _ => []) (fun z => z ≤ ss.length ∧ corD (t / 1440) ss = corD (t / 1440) (ss.drop z)) (fun z => ss.length - z) 0 ⟨by omega, rfl⟩ ⟨rfl, rfl, rfl, rfl, rfl, trivial⟩ (by (repeat (first | exact List.Sublist.refl _ | exact List.nil_sublist _ | apply List.Sublist.cons_cons | apply List.Sublist.cons))) ?_
  rintro k ⟨hkl, hcd⟩ ih
  (refine WK.seq ?_; refine WK.region ?_; refine St.bin ?_; refine WO.nil ?_; refine WK.seq ?_)
  refine St.splitC (fun hc => ?_) (fun hc => ?_)
  · have hlt : k < ss.length := by simp at hc; omega
    have hd := corD_drop (day := t / 1440) hlt
    (refine WK.skip ?_; refine WK.seq ?_; refine WK.block ?_; refine WK.seq ?_; refine WK.region ?_)
    refine St.at ?_
    refine St.loadX (fun h hh => ((hk.vw hh).at_ (z := (k : Int)) (n := k) (by omega) hlt).agg (by simp) rfl rfl rfl) ?_
    generalize hW : nthS ss k = w at *
    obtain ⟨fr, to, ad⟩ := w
    simp only at hd ⊢
    (refine St.alloc fun _ _ => ?_; refine St.store0 ?_; refine WO.nil ?_; refine WK.seq ?_; refine WK.region ?_; refine St.fieldAddr ?_; refine St.load ?_; refine St.move ?_; refine St.bin ?_; refine St.move ?_)
    refine St.split (fun h1 => ?_) (fun h1 => ?_)
    · (refine St.move ?_; refine St.fieldAddr ?_; refine St.load ?_; refine St.bin ?_; refine St.pickT ?_; refine WO.nil ?_)
      refine St.splitC (fun h2 => ?_) (fun h2 => ?_)
      · (refine WK.seq ?_; refine WK.region ?_; refine St.fieldAddr ?_; refine St.load ?_; refine St.assign ?_; refine WO.nil ?_)
        refine St.ret (by first | exact .tmp .nil | exact .cell .nil | exact .cell (.tmp .nil) | exact .tmp (.tmp .nil) | exact .cell (.cell .nil) | exact .tmp (.cell .nil) | exact .nil | exact .tmp (.cell (.tmp .nil)) | exact .cell (.tmp (.tmp .nil)) | exact .cell (.cell (.tmp .nil)) | exact .tmp (.tmp (.tmp .nil)) | exact .cell (.cell (.cell .nil))) ?_
        rw [hcd, hd, if_pos ⟨by simpa using h1, by simpa using h2⟩]; rfl
      · rw [if_neg (fun q => by simp at h2; omega)] at hd
        (refine WK.skip ?_; refine WK.blk ?_; refine WK.region ?_; refine St.binI ?_; refine St.move ?_; refine WO.nil ?_)
        refine WK.le ?_ (by (repeat (first | exact List.Sublist.refl _ | exact List.nil_sublist _ | apply List.Sublist.cons_cons | apply List.Sublist.cons))) (ih (k + 1) ⟨hlt, by rw [hcd, hd]⟩ (by omega))
        exact ⟨rfl, rfl, rfl, rfl, rfl, trivial⟩
    · rw [if_neg (fun q => by simp at h1; omega)] at hd
      (refine St.skip ?_; refine St.skip ?_; refine St.skip ?_; refine St.skip ?_; refine St.pickF ?_; refine WO.nil ?_; refine WK.condF ?_; refine WK.skip ?_; refine WK.blk ?_; refine WK.region ?_; refine St.binI ?_; refine St.move ?_; refine WO.nil ?_)
      refine WK.le ?_ (by (repeat (first | exact List.Sublist.refl _ | exact List.nil_sublist _ | apply List.Sublist.cons_cons | apply List.Sublist.cons))) (ih (k + 1) ⟨hlt, by rw [hcd, hd]⟩ (by omega))
      exact ⟨rfl, rfl, rfl, rfl, rfl, trivial⟩
  · have : k = ss.length := by simp at hc; omega
    subst this
    (refine WK.exit ?_; refine WK.seq ?_; refine WK.region ?_; refine St.assign ?_; refine WO.nil ?_)
    refine St.ret (by first | exact .tmp .nil | exact .cell .nil | exact .cell (.tmp .nil) | exact .tmp (.tmp .nil) | exact .cell (.cell .nil) | exact .tmp (.cell .nil) | exact .nil | exact .tmp (.cell (.tmp .nil)) | exact .cell (.tmp (.tmp .nil)) | exact .cell (.cell (.tmp .nil)) | exact .tmp (.tmp (.tmp .nil)) | exact .cell (.cell (.cell .nil))) ?_
    rw [hcd, List.drop_length]
    rfl
set_option maxRecDepth 100000 in
set_option maxHeartbeats 8000000 in
theorem bare_con (h : Heap) (g : Gd h) (lv t : Int) (cv sv : AV) (l : List Cw) (ss : List Sh) (hc : CyV h cv l) (hs : ShV h sv ss) (w : WOk lv (cys l) ss) (h0 : 0 ≤ t) (h1 : t ≤ 1048576) :
    Con Tryz.prog Bs 57 [.agg [.int .i64 lv, cv, sv], .int .i64 t] h [] (.int .i64 (bareV (cys l) ss t)) [] := by
  have hl := w.n1
  rw [cys_len] at hl
  have hcb := corD_bd (day := t / 1440) (chkS_all w.ss)
  have hsb := fun k hk => sumV_bd (t := t) (chkC_all w.cs) k hk
  rw [cys_len] at hsb
  refine Con.start rfl Tryz.func57 rfl rfl Tryz.ntmps57 rfl rfl g ?_
  (refine WK.seq ?_; refine WK.region ?_; refine St.box fun _ _ => ?_; refine St.assign ?_; refine WO.nil ?_; refine WK.seq ?_; refine WK.region ?_; refine St.load ?_; refine St.move ?_)
  rename_i p hp
  refine St.call (fun _ => rfl) (fun h2 hh => correction_con h2 hh.gd lv t cv sv ss (hs.vw hh) w.n2 h0 h1) ?_
  (refine St.assign ?_; refine WO.nil ?_; refine WK.seq ?_; refine WK.seq ?_; refine WK.region ?_; refine St.fieldAddr ?_; refine St.load ?_)
  refine St.lenV rfl hc.len ?_
  (refine St.move ?_; refine WO.nil ?_; refine WK.block ?_)
  have e0 : corD (t / 1440) ss = corD (t / 1440) ss + sumV (cys l) t 0 := by simp [sumV]
  by_cases hn : l.length = 0
  · have e1 : l = [] := List.length_eq_zero_iff.1 hn
    subst e1
    refine WK.unroll ?_
    (refine WK.seq ?_; refine WK.region ?_; refine St.bin ?_; refine WO.nil ?_; refine WK.seq ?_; refine WK.condF ?_; refine WK.exit ?_; refine WK.seq ?_; refine WK.region ?_; refine St.move ?_; refine St.assign ?_; refine WO.nil ?_)
    refine St.ret (by first | exact .tmp .nil | exact .cell .nil | exact .cell (.tmp .nil) | exact .tmp (.tmp .nil) | exact .cell (.cell .nil) | exact .tmp (.cell .nil) | exact .nil | exact .tmp (.cell (.tmp .nil)) | exact .cell (.tmp (.tmp .nil)) | exact .cell (.cell (.tmp .nil)) | exact .tmp (.tmp (.tmp .nil)) | exact .cell (.cell (.cell .nil))) ?_
    unfold bareV
    rw [show (cys []).length = 0 from rfl, ← e0]; rfl
  obtain ⟨b, off, c, rfl, hk⟩ := hc.ne (by omega)
  refine WK.inv (ι := Nat) (fun z => [(1, .int .i64 t), (4, .int .i64 0), (5, .int .i64 (corD (t / 1440) ss + sumV (cys l) t z)), (12, .slice b off l.length c), (13, .int .i64 l.length), (14, .int .i64 z)]) (fun _ => []) (fun z => z ≤ l.length) (fun z => l.length - z) 0 (by omega) ⟨rfl, rfl, congrArg (fun z => some (AV.int .i64 z)) e0, rfl, rfl, rfl, trivial⟩ (by (repeat (first | exact List.Sublist.refl _ | exact List.nil_sublist _ | apply List.Sublist.cons_cons | apply List.Sublist.cons))) ?_
  intro k hkl ih
  (refine WK.seq ?_; refine WK.region ?_; refine St.bin ?_; refine WO.nil ?_; refine WK.seq ?_)
  refine St.splitC (fun hc => ?_) (fun hc => ?_)
  · have hlt : k < l.length := by simp at hc; omega
    have hit := (hk k hlt).2
    have hst := sumV_succ (cs := cys l) (t := t) (k := k) (by rw [cys_len]; exact hlt)
    have hb1 := hsb k (by omega)
    have hck := chkC_all w.cs (nthC (cys l) k) (by rw [nthC_eq (by rw [cys_len]; exact hlt)]; exact List.getElem_mem _)
    rw [cys_nth hlt] at hst hck
    have hvb := valC_bd hck t
    (refine WK.skip ?_; refine WK.seq ?_; refine WK.block ?_; refine WK.seq ?_; refine WK.region ?_)
    refine St.at ?_
    refine St.loadX (fun h hh => ((hk.vw hh).at_ (z := (k : Int)) (n := k) (by omega) hlt).agg (by simp) rfl rfl rfl) ?_
    (refine St.alloc fun _ _ => ?_)
    refine St.store0 (hv := store4 rfl rfl rfl rfl hit.ok) ?_
    (refine WO.nil ?_; refine WK.region ?_; refine St.move ?_; refine St.load ?_; refine St.move ?_)
    refine St.call (fun _ => rfl) (fun h2 hh => value_con h2 hh.gd _ _ _ t _ _ (hit.vw hh) hck (by omega) (by omega)) ?_
    generalize hW : nthW l k = w2 at *
    obtain ⟨⟨id, bg, ev, hs⟩, wv⟩ := w2
    simp only at hst hvb hb1 ⊢
    (refine St.binI ?_; refine St.assign ?_; refine WO.nil ?_; refine WK.blk ?_; refine WK.region ?_; refine St.binI ?_; refine St.move ?_; refine WO.nil ?_)
    refine WK.le ?_ (by (repeat (first | exact List.Sublist.refl _ | exact List.nil_sublist _ | apply List.Sublist.cons_cons | apply List.Sublist.cons))) (ih (k + 1) hlt (by omega))
    exact ⟨rfl, rfl, congrArg (fun z => some (AV.int .i64 z)) (by rw [hst]; omega), rfl, rfl, rfl, trivial⟩
  · have : k = l.length := by simp at hc; omega
    subst this
    (refine WK.exit ?_; refine WK.seq ?_; refine WK.region ?_; refine St.move ?_; refine St.assign ?_; refine WO.nil ?_)
    refine St.ret (by first | exact .tmp .nil | exact .cell .nil | exact .cell (.tmp .nil) | exact .tmp (.tmp .nil) | exact .cell (.cell .nil) | exact .tmp (.cell .nil) | exact .nil | exact .tmp (.cell (.tmp .nil)) | exact .cell (.tmp (.tmp .nil)) | exact .cell (.cell (.tmp .nil)) | exact .tmp (.tmp (.tmp .nil)) | exact .cell (.cell (.cell .nil))) ?_
    unfold bareV
    rw [cys_len]; rfl
end Go.Proofs.YtgjkfmcjalcefaaGreat
