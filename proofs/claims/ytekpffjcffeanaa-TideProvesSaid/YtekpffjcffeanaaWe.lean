/- The minutes in which a water is looked at; the reference's height; both comparisons of two waters. -/
import Derived.Test.YtekpffjcffeanaaWd
import Derived.Test.YtekpffjcffeanaaQa
namespace Go.Proofs.Ytekpffjcffeanaa
open Go.Proofs.Ytekpffjcffeanaa.Ev

set_option maxRecDepth 100000 in
theorem count_con (h : Heap) (g : Gd h) (lo hi : Int) (h1 : 0 ≤ lo) (h2 : lo ≤ 1099511627776) (h3 : 0 ≤ hi) (h4 : hi ≤ 1099511627776) : Con Try.prog Bs 67 [.agg [.int .i64 lo, .int .i64 hi]] h [] (.int .i64 (hi - lo + 1)) [] := by
  refine Con.start rfl Try.func67 rfl rfl Try.ntmps67 rfl rfl g ?_
  (refine WK.seq ?_; refine WK.region ?_; refine St.box fun _ _ => ?_; refine St.assign ?_; refine WO.nil ?_; refine WK.seq ?_; refine WK.region ?_; refine St.fieldAddr ?_; refine St.load ?_; refine St.fieldAddr ?_; refine St.load ?_; refine St.binI ?_; refine St.binI ?_; refine St.assign ?_; refine WO.nil ?_)
  refine St.ret (by first | exact .tmp .nil | exact .cell .nil | exact .cell (.tmp .nil) | exact .tmp (.tmp .nil) | exact .cell (.cell .nil) | exact .tmp (.cell .nil) | exact .nil | exact .tmp (.cell (.tmp .nil)) | exact .cell (.tmp (.tmp .nil)) | exact .cell (.cell (.tmp .nil)) | exact .tmp (.tmp (.tmp .nil)) | exact .cell (.cell (.cell .nil))) ?_
  rfl
set_option maxRecDepth 100000 in
set_option maxHeartbeats 8000000 in
theorem checkMinutes_con (h : Heap) (g : Gd h) (lv lo hi : Int) (cv sv : AV) (l : List Cw) (ss : List Sh) (hc : CyV h cv l) (hs : ShV h sv ss) :
    Con Try.prog Bs 65 [.agg [.int .i64 lv, cv, sv], .agg [.int .i64 lo, .int .i64 hi]] h [] (.int .i64 (minR lv (cys l) ss lo hi)) [] := by
  refine Con.start rfl Try.func65 rfl rfl Try.ntmps65 rfl rfl g ?_
  (refine WK.seq ?_; refine WK.region ?_; refine St.box fun _ _ => ?_; refine St.box fun _ _ => ?_; refine St.assign ?_; refine WO.nil ?_; refine WK.seq ?_; refine WK.seq ?_; refine WK.region ?_; refine St.load ?_)
  refine St.call (fun _ => rfl) (fun h2 hh => check_con h2 hh.gd lv cv sv l ss (hc.vw hh) (hs.vw hh)) ?_
  (refine St.assign ?_; refine WO.nil ?_; refine WK.seq ?_; refine WK.region ?_; refine St.move ?_; refine St.bin ?_; refine WO.nil ?_)
  refine St.splitC (fun h0 => ?_) (fun h0 => ?_)
  · (refine WK.seq ?_; refine WK.region ?_; refine St.move ?_; refine St.assign ?_; refine WO.nil ?_)
    refine St.ret (by first | exact .tmp .nil | exact .cell .nil | exact .cell (.tmp .nil) | exact .tmp (.tmp .nil) | exact .cell (.cell .nil) | exact .tmp (.cell .nil) | exact .nil | exact .tmp (.cell (.tmp .nil)) | exact .cell (.tmp (.tmp .nil)) | exact .cell (.cell (.tmp .nil)) | exact .tmp (.tmp (.tmp .nil)) | exact .cell (.cell (.cell .nil))) ?_
    unfold minR
    rw [if_pos (by simpa using h0)]
    rfl
  have e0 : ¬ chkW lv (cys l) ss ≠ 0 := by simpa using h0
  have bad : ((decide (0 ≤ lo) && decide (lo ≤ 1048576)) = false ∨ (decide (0 ≤ hi) && decide (hi ≤ 1048576)) = false ∨ hi < lo) → minR lv (cys l) ss lo hi = 1 := fun q => by
    unfold minR
    rw [if_neg e0, if_pos q]
  (refine WK.skip ?_; refine WK.seq ?_; refine WK.seq ?_; refine WK.region ?_; refine St.fieldAddr ?_; refine St.load ?_)
  refine St.call (fun _ => rfl) (fun h2 hh => isMinute_con h2 hh.gd lo) ?_
  (refine St.un ?_; refine St.move ?_)
  refine St.split (fun h1 => ?_) (fun h1 => ?_)
  · (refine St.skip ?_; refine St.skip ?_; refine St.skip ?_; refine St.skip ?_; refine St.pickT ?_; refine St.move ?_; refine St.skip ?_; refine St.skip ?_; refine St.skip ?_; refine St.pickT ?_; refine WO.nil ?_; refine WK.condT ?_; refine WK.seq ?_; refine WK.region ?_; refine St.assign ?_; refine WO.nil ?_)
    refine St.ret (by first | exact .tmp .nil | exact .cell .nil | exact .cell (.tmp .nil) | exact .tmp (.tmp .nil) | exact .cell (.cell .nil) | exact .tmp (.cell .nil) | exact .nil | exact .tmp (.cell (.tmp .nil)) | exact .cell (.tmp (.tmp .nil)) | exact .cell (.cell (.tmp .nil)) | exact .tmp (.tmp (.tmp .nil)) | exact .cell (.cell (.cell .nil))) ?_
    rw [bad (.inl (by simp at h1 ⊢; omega))]
    rfl
  (refine St.fieldAddr ?_; refine St.load ?_)
  refine St.call (fun _ => rfl) (fun h2 hh => isMinute_con h2 hh.gd hi) ?_
  (refine St.un ?_; refine St.pickF ?_; refine St.move ?_)
  refine St.split (fun h2 => ?_) (fun h2 => ?_)
  · (refine St.skip ?_; refine St.skip ?_; refine St.skip ?_; refine St.pickT ?_; refine WO.nil ?_; refine WK.condT ?_; refine WK.seq ?_; refine WK.region ?_; refine St.assign ?_; refine WO.nil ?_)
    refine St.ret (by first | exact .tmp .nil | exact .cell .nil | exact .cell (.tmp .nil) | exact .tmp (.tmp .nil) | exact .cell (.cell .nil) | exact .tmp (.cell .nil) | exact .nil | exact .tmp (.cell (.tmp .nil)) | exact .cell (.tmp (.tmp .nil)) | exact .cell (.cell (.tmp .nil)) | exact .tmp (.tmp (.tmp .nil)) | exact .cell (.cell (.cell .nil))) ?_
    rw [bad (.inr (.inl (by simp at h2 ⊢; omega)))]
    rfl
  (refine St.load ?_)
  refine St.call (fun _ => rfl) (fun h2 hh => isSpan_con h2 hh.gd lo hi) ?_
  (refine St.un ?_; refine St.pickF ?_; refine WO.nil ?_)
  refine St.splitC (fun h3 => ?_) (fun h3 => ?_)
  · (refine WK.seq ?_; refine WK.region ?_; refine St.assign ?_; refine WO.nil ?_)
    refine St.ret (by first | exact .tmp .nil | exact .cell .nil | exact .cell (.tmp .nil) | exact .tmp (.tmp .nil) | exact .cell (.cell .nil) | exact .tmp (.cell .nil) | exact .nil | exact .tmp (.cell (.tmp .nil)) | exact .cell (.tmp (.tmp .nil)) | exact .cell (.cell (.tmp .nil)) | exact .tmp (.tmp (.tmp .nil)) | exact .cell (.cell (.cell .nil))) ?_
    rw [bad (.inr (.inr (by simp at h3; omega)))]
    rfl
  have b1 : (0 ≤ lo ∧ lo ≤ 1048576) ∧ (0 ≤ hi ∧ hi ≤ 1048576) ∧ lo ≤ hi := by simp at h1 h2 h3; omega
  have ok : minR lv (cys l) ss lo hi = if 10080 < hi - lo + 1 then 2 else 0 := by
    unfold minR
    rw [if_neg e0, if_neg (by simp at h1 h2 h3 ⊢; omega)]
  (refine WK.skip ?_; refine WK.seq ?_; refine WK.seq ?_; refine WK.region ?_; refine St.load ?_)
  refine St.call (fun _ => rfl) (fun h2 hh => count_con h2 hh.gd lo hi (by omega) (by omega) (by omega) (by omega)) ?_
  (refine St.bin ?_; refine WO.nil ?_)
  refine St.splitC (fun h4 => ?_) (fun h4 => ?_)
  · (refine WK.seq ?_; refine WK.region ?_; refine St.assign ?_; refine WO.nil ?_)
    refine St.ret (by first | exact .tmp .nil | exact .cell .nil | exact .cell (.tmp .nil) | exact .tmp (.tmp .nil) | exact .cell (.cell .nil) | exact .tmp (.cell .nil) | exact .nil | exact .tmp (.cell (.tmp .nil)) | exact .cell (.tmp (.tmp .nil)) | exact .cell (.cell (.tmp .nil)) | exact .tmp (.tmp (.tmp .nil)) | exact .cell (.cell (.cell .nil))) ?_
    rw [ok, if_pos (by simpa using h4)]
    rfl
  · (refine WK.skip ?_; refine WK.seq ?_; refine WK.region ?_; refine St.assign ?_; refine WO.nil ?_)
    refine St.ret (by first | exact .tmp .nil | exact .cell .nil | exact .cell (.tmp .nil) | exact .tmp (.tmp .nil) | exact .cell (.cell .nil) | exact .tmp (.cell .nil) | exact .nil | exact .tmp (.cell (.tmp .nil)) | exact .cell (.tmp (.tmp .nil)) | exact .cell (.cell (.tmp .nil)) | exact .tmp (.tmp (.tmp .nil)) | exact .cell (.cell (.cell .nil))) ?_
    rw [ok, if_neg (by simp at h4; omega)]
    rfl
set_option maxRecDepth 100000 in
set_option maxHeartbeats 8000000 in
theorem watched_con (h : Heap) (g : Gd h) (lv lo hi : Int) (cv sv : AV) (l : List Cw) (ss : List Sh) (hc : CyV h cv l) (hs : ShV h sv ss) :
    Con Try.prog Bs 100 [.agg [.int .i64 lv, cv, sv], .agg [.int .i64 lo, .int .i64 hi]] h [] (.int .i64 (minR lv (cys l) ss lo hi)) [] := by
  refine Con.start rfl Try.func100 rfl rfl Try.ntmps100 rfl rfl g ?_
  (refine WK.seq ?_; refine WK.region ?_; refine St.box fun _ _ => ?_; refine St.box fun _ _ => ?_; refine St.assign ?_; refine WO.nil ?_; refine WK.seq ?_; refine WK.region ?_; refine St.load ?_)
  refine St.call (fun _ => rfl) (fun h2 hh => rcheck_con h2 hh.gd lv cv sv l ss (hc.vw hh) (hs.vw hh)) ?_
  (refine St.assign ?_; refine WO.nil ?_; refine WK.seq ?_; refine WK.seq ?_; refine WK.region ?_; refine St.move ?_; refine St.bin ?_; refine WO.nil ?_)
  refine St.splitC (fun h0 => ?_) (fun h0 => ?_)
  · (refine WK.seq ?_; refine WK.region ?_; refine St.move ?_; refine St.assign ?_; refine WO.nil ?_)
    refine St.ret (by first | exact .tmp .nil | exact .cell .nil | exact .cell (.tmp .nil) | exact .tmp (.tmp .nil) | exact .cell (.cell .nil) | exact .tmp (.cell .nil) | exact .nil | exact .tmp (.cell (.tmp .nil)) | exact .cell (.tmp (.tmp .nil)) | exact .cell (.cell (.tmp .nil)) | exact .tmp (.tmp (.tmp .nil)) | exact .cell (.cell (.cell .nil))) ?_
    unfold minR
    rw [if_pos (by simpa using h0)]
    rfl
  have e0 : ¬ chkW lv (cys l) ss ≠ 0 := by simpa using h0
  have bad : (lo < 0 ∨ hi < lo ∨ 1048576 < hi) → minR lv (cys l) ss lo hi = 1 := fun q => by
    unfold minR
    rw [if_neg e0, if_pos (by simp; omega)]
  (refine WK.skip ?_; refine WK.seq ?_; refine WK.seq ?_; refine WK.region ?_; refine St.fieldAddr ?_; refine St.load ?_; refine St.bin ?_; refine St.move ?_)
  refine St.split (fun h1 => ?_) (fun h1 => ?_)
  · (refine St.skip ?_; refine St.skip ?_; refine St.skip ?_; refine St.skip ?_; refine St.skip ?_; refine St.pickT ?_; refine St.move ?_; refine St.skip ?_; refine St.skip ?_; refine St.skip ?_; refine St.pickT ?_; refine WO.nil ?_; refine WK.condT ?_; refine WK.seq ?_; refine WK.region ?_; refine St.assign ?_; refine WO.nil ?_)
    refine St.ret (by first | exact .tmp .nil | exact .cell .nil | exact .cell (.tmp .nil) | exact .tmp (.tmp .nil) | exact .cell (.cell .nil) | exact .tmp (.cell .nil) | exact .nil | exact .tmp (.cell (.tmp .nil)) | exact .cell (.tmp (.tmp .nil)) | exact .cell (.cell (.tmp .nil)) | exact .tmp (.tmp (.tmp .nil)) | exact .cell (.cell (.cell .nil))) ?_
    rw [bad (.inl (by simpa using h1))]
    rfl
  (refine St.fieldAddr ?_; refine St.load ?_; refine St.fieldAddr ?_; refine St.load ?_; refine St.bin ?_; refine St.pickF ?_; refine St.move ?_)
  refine St.split (fun h2 => ?_) (fun h2 => ?_)
  · (refine St.skip ?_; refine St.skip ?_; refine St.skip ?_; refine St.pickT ?_; refine WO.nil ?_; refine WK.condT ?_; refine WK.seq ?_; refine WK.region ?_; refine St.assign ?_; refine WO.nil ?_)
    refine St.ret (by first | exact .tmp .nil | exact .cell .nil | exact .cell (.tmp .nil) | exact .tmp (.tmp .nil) | exact .cell (.cell .nil) | exact .tmp (.cell .nil) | exact .nil | exact .tmp (.cell (.tmp .nil)) | exact .cell (.tmp (.tmp .nil)) | exact .cell (.cell (.tmp .nil)) | exact .tmp (.tmp (.tmp .nil)) | exact .cell (.cell (.cell .nil))) ?_
    rw [bad (.inr (.inl (by simpa using h2)))]
    rfl
  (refine St.fieldAddr ?_; refine St.load ?_; refine St.bin ?_; refine St.pickF ?_; refine WO.nil ?_)
  refine St.splitC (fun h3 => ?_) (fun h3 => ?_)
  · (refine WK.seq ?_; refine WK.region ?_; refine St.assign ?_; refine WO.nil ?_)
    refine St.ret (by first | exact .tmp .nil | exact .cell .nil | exact .cell (.tmp .nil) | exact .tmp (.tmp .nil) | exact .cell (.cell .nil) | exact .tmp (.cell .nil) | exact .nil | exact .tmp (.cell (.tmp .nil)) | exact .cell (.tmp (.tmp .nil)) | exact .cell (.cell (.tmp .nil)) | exact .tmp (.tmp (.tmp .nil)) | exact .cell (.cell (.cell .nil))) ?_
    rw [bad (.inr (.inr (by simpa using h3)))]
    rfl
  have b1 : 0 ≤ lo ∧ lo ≤ hi ∧ hi ≤ 1048576 := by simp at h1 h2 h3; omega
  have ok : minR lv (cys l) ss lo hi = if 10080 < hi - lo + 1 then 2 else 0 := by
    unfold minR
    rw [if_neg e0, if_neg (by simp; omega)]
  (refine WK.skip ?_; refine WK.seq ?_; refine WK.seq ?_; refine WK.region ?_; refine St.fieldAddr ?_; refine St.load ?_; refine St.fieldAddr ?_; refine St.load ?_; refine St.binI ?_; refine St.bin ?_; refine WO.nil ?_)
  refine St.splitC (fun h4 => ?_) (fun h4 => ?_)
  · (refine WK.seq ?_; refine WK.region ?_; refine St.assign ?_; refine WO.nil ?_)
    refine St.ret (by first | exact .tmp .nil | exact .cell .nil | exact .cell (.tmp .nil) | exact .tmp (.tmp .nil) | exact .cell (.cell .nil) | exact .tmp (.cell .nil) | exact .nil | exact .tmp (.cell (.tmp .nil)) | exact .cell (.tmp (.tmp .nil)) | exact .cell (.cell (.tmp .nil)) | exact .tmp (.tmp (.tmp .nil)) | exact .cell (.cell (.cell .nil))) ?_
    rw [ok, if_pos (by simp at h4; omega)]
    rfl
  · (refine WK.skip ?_; refine WK.seq ?_; refine WK.region ?_; refine St.assign ?_; refine WO.nil ?_)
    refine St.ret (by first | exact .tmp .nil | exact .cell .nil | exact .cell (.tmp .nil) | exact .tmp (.tmp .nil) | exact .cell (.cell .nil) | exact .tmp (.cell .nil) | exact .nil | exact .tmp (.cell (.tmp .nil)) | exact .cell (.tmp (.tmp .nil)) | exact .cell (.cell (.tmp .nil)) | exact .tmp (.tmp (.tmp .nil)) | exact .cell (.cell (.cell .nil))) ?_
    rw [ok, if_neg (by simp at h4; omega)]
    rfl
set_option maxRecDepth 100000 in
theorem rat_con (h : Heap) (g : Gd h) (lv t : Int) (cv sv : AV) (l : List Cw) (ss : List Sh) (hc : CyV h cv l) (hs : ShV h sv ss) (w : WOk lv (cys l) ss) (h0 : 0 ≤ t) (h1 : t ≤ 1048576) :
    Con Try.prog Bs 92 [.agg [.int .i64 lv, cv, sv], .int .i64 t] h [] (.int .i64 (lv + bareV (cys l) ss t)) [] := by
  have hb := bare_bd w t
  have l1 := w.l1
  have l2 := w.l2
  refine Con.start rfl Try.func92 rfl rfl Try.ntmps92 rfl rfl g ?_
  (refine WK.seq ?_; refine WK.region ?_; refine St.box fun _ _ => ?_; refine St.assign ?_; refine WO.nil ?_; refine WK.seq ?_; refine WK.regionD ?_; refine St.fieldAddr ?_; refine St.load ?_; refine St.load ?_; refine St.move ?_)
  refine St.call (fun _ => rfl) (fun h3 hh => rrest_con h3 hh.gd lv t cv sv l ss (hc.vw hh) (hs.vw hh) w h0 h1) ?_
  (refine St.binI ?_; refine St.assign ?_; refine WO.nil ?_)
  refine St.ret (by first | exact .tmp .nil | exact .cell .nil | exact .cell (.tmp .nil) | exact .tmp (.tmp .nil) | exact .cell (.cell .nil) | exact .tmp (.cell .nil) | exact .nil | exact .tmp (.cell (.tmp .nil)) | exact .cell (.tmp (.tmp .nil)) | exact .cell (.cell (.tmp .nil)) | exact .tmp (.tmp (.tmp .nil)) | exact .cell (.cell (.cell .nil))) ?_
  rfl
/-- what two waters compared say -/
def diffK (fa fb : Nat → Int) (n : Nat) : Option Nat := (List.range n).find? fun k => decide (fa k ≠ fb k)
def sameR (ea eb lo : Int) (fa fb : Nat → Int) (n : Nat) : Int × Bool × Int :=
  if ea ≠ 0 then (0, false, ea) else if eb ≠ 0 then (0, false, eb) else match diffK fa fb n with
    | some k => (lo + k, false, 0)
    | none => (0, true, 0)
end Go.Proofs.Ytekpffjcffeanaa
