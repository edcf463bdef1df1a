/- The minutes in which a water is looked at; the reference's height; both comparisons of two waters. -/
import Derived.Test.YtekpffjcffeanaaWd
import Derived.Test.YtekpffjcffeanaaQa
namespace Go.Proofs.Ytekpffjcffeanaa
open Go.Proofs.Ytekpffjcffeanaa.Ev

set_option maxRecDepth 100000 in
theorem count_con (h : Heap) (g : Gd h) (lo hi : Int) (h1 : 0 ≤ lo) (h2 : lo ≤ 1099511627776) (h3 : 0 ≤ hi) (h4 : hi ≤ 1099511627776) : Con Try.prog Bs 67 [.agg [.int .i64 lo, .int .i64 hi]] h [] (.int .i64 (hi - lo + 1)) [] := by
  refine Con.start rfl Try.func67 rfl rfl Try.ntmps67 rfl rfl g ?_
  (refine WK.seq ?_; refine WK.region ?_; refine St.box fun _ _ => ?_; refine St.assign ?_; refine WO.nil ?_; refine WK.seq ?_; refine WK.region ?_; refine St.fieldAddr ?_; refine St.load ?_; refine St.fieldAddr ?_; refine St.load ?_; refine St.binI ?_; refine St.binI ?_; refine St.assign ?_; refine WO.nil ?_)
  refine St.ret (by first | exact .tmp .nil | exact .cell .nil | exact .cell (.tmp .nil) | exact .tmp (.tmp .nil) | exact .cell (.cell .nil) | exact .tmp (.cell .nil) | exact .nil | exact .tmp (.cell (.tmp .nil)) | exact .cell (.tmp (.tmp .nil)) | exact .cell (.cell (.tmp .nil)) | exact .tmp (.tmp (.tmp .nil)) | exact .cell (.cell (.cell .nil))) ?_
  rfl
set_option maxRecDepth 100000 in
set_option maxHeartbeats 8000000 in
theorem checkMinutes_con (h : Heap) (g : Gd h) (lv lo hi : Int) (cv sv : AV) (l : List Cw) (ss : List Sh) (hc : CyV h cv l) (hs : ShV h sv ss) :
    Con Try.prog Bs 65 [.agg [.int .i64 lv, cv, sv], .agg [.int .i64 lo, .int .i64 hi]] h [] (.int .i64 (minR lv (cys l) ss lo hi)) [] := by
  refine Con.start rfl Try.func65 rfl rfl Try.ntmps65 rfl rfl g ?_
  (refine WK.seq ?_; refine WK.region ?_; refine St.box fun _ _ => ?_; refine St.box fun _ _ => ?_; refine St.assign ?_; refine WO.nil ?_; refine WK.seq ?_; refine WK.seq ?_; refine WK.region ?_; refine St.load ?_)
  refine St.call (fun _ => rfl) (fun h2 hh => check_con h2 hh.gd lv cv sv l ss (hc.vw hh) (hs.vw hh)) ?_
  (refine St.assign ?_; refine WO.nil ?_; refine WK.seq ?_; refine WK.region ?_; refine St.move ?_; refine St.bin ?_; refine WO.nil ?_)
  refine St.splitC (fun h0 => ?_) (fun h0 => ?_)
  · (refine WK.seq ?_; refine WK.region ?_; refine St.move ?_; refine St.assign ?_; refine WO.nil ?_)
    refine St.ret (by first | exact .tmp .nil | exact .cell .nil | exact .cell (.tmp .nil) | exact .tmp (.tmp .nil) | exact .cell (.cell .nil) | exact .tmp (.cell .nil) | exact .nil | exact .tmp (.cell (.tmp .nil)) | exact .cell (.tmp (.tmp .nil)) | exact .cell (.cell (.tmp .nil)) | exact .tmp (.tmp (.tmp .nil)) | exact .cell (.cell (.cell .nil))) ?_
    unfold minR
    rw [if_pos (by simpa using h0)]
    rfl
  have e0 : ¬ chkW lv (cys l) ss ≠ 0 := by simpa using h0
  have bad : ((decide (0 ≤ lo) && decide (lo ≤ 1048576)) = false ∨ (decide (0 ≤ hi) && decide (hi ≤ 1048576)) = false ∨ hi < lo) → minR lv (cys l) ss lo hi = 1 := fun q => by
    unfold minR
    rw [if_neg e0, if_pos q]
  (refine WK.skip ?_; refine WK.seq ?_; refine WK.seq ?_; refine WK.region ?_; refine St.fieldAddr ?_; refine St.load ?_)
  refine St.call (fun _ => rfl) (fun h2 hh => isMinute_con h2 hh.gd lo) ?_
  (refine St.un ?_; refine St.move ?_)
  refine St.split (fun h1 => ?_) (fun h1 => ?_)
  · (refine St.skip ?_; refine St.skip ?_; refine St.skip ?_; refine St.skip ?_; refine St.pickT ?_; refine St.move ?_; refine St.skip ?_; refine St.skip ?_; refine St.skip ?_; refine St.pickT ?_; refine WO.nil ?_; refine WK.condT ?_; refine WK.seq ?_; refine WK.region ?_; refine St.assign ?_; refine WO.nil ?_)
    refine St.ret (by first | exact .tmp .nil | exact .cell .nil | exact .cell (.tmp .nil) | exact .tmp (.tmp .nil) | exact .cell (.cell .nil) | exact .tmp (.cell .nil) | exact .nil | exact .tmp (.cell (.tmp .nil)) | exact .cell (.tmp (.tmp .nil)) | exact .cell (.cell (.tmp .nil)) | exact .tmp (.tmp (.tmp .nil)) | exact .cell (.cell (.cell .nil))) ?_
    rw [bad (.inl (by simp at h1 ⊢; omega))]
    rfl
  (refine St.fieldAddr ?_; refine St.load ?_)
  refine St.call (fun _ => rfl) (fun h2 hh => isMinute_con h2 hh.gd hi) ?_
  (refine St.un ?_; refine St.pickF ?_; refine St.move ?_)
  refine St.split (fun h2 => ?_) (fun h2 => ?_)
  · (refine St.skip ?_; refine St.skip ?_; refine St.skip ?_; refine St.pickT ?_; refine WO.nil ?_; refine WK.condT ?_; refine WK.seq ?_; refine WK.region ?_; refine St.assign ?_; refine WO.nil ?_)
    refine St.ret (by first | exact .tmp .nil | exact .cell .nil | exact .cell (.tmp .nil) | exact .tmp (.tmp .nil) | exact .cell (.cell .nil) | exact .tmp (.cell .nil) | exact .nil | exact .tmp (.cell (.tmp .nil)) | exact .cell (.tmp (.tmp .nil)) | exact .cell (.cell (.tmp .nil)) | exact .tmp (.tmp (.tmp .nil)) | exact .cell (.cell (.cell .nil))) ?_
    rw [bad (.inr (.inl (by simp at h2 ⊢; omega)))]
    rfl
  (refine St.load ?_)
  refine St.call (fun _ => rfl) (fun h2 hh => isSpan_con h2 hh.gd lo hi) ?_
  (refine St.un ?_; refine St.pickF ?_; refine WO.nil ?_)
  refine St.splitC (fun h3 => ?_) (fun h3 => ?_)
  · (refine WK.seq ?_; refine WK.region ?_; refine St.assign ?_; refine WO.nil ?_)
    refine St.ret (by first | exact .tmp .nil | exact .cell .nil | exact .cell (.tmp .nil) | exact .tmp (.tmp .nil) | exact .cell (.cell .nil) | exact .tmp (.cell .nil) | exact .nil | exact .tmp (.cell (.tmp .nil)) | exact .cell (.tmp (.tmp .nil)) | exact .cell (.cell (.tmp .nil)) | exact .tmp (.tmp (.tmp .nil)) | exact .cell (.cell (.cell .nil))) ?_
    rw [bad (.inr (.inr (by simp at h3; omega)))]
    rfl
  have b1 : (0 ≤ lo ∧ lo ≤ 1048576) ∧ (0 ≤ hi ∧ hi ≤ 1048576) ∧ lo ≤ hi := by simp at h1 h2 h3; omega
  have ok : minR lv (cys l) ss lo hi = if 10080 < hi - lo + 1 then 2 else 0 := by
    unfold minR
    rw [if_neg e0, if_neg (by simp at h1 h2 h3 ⊢; omega)]
  (refine WK.skip ?_; refine WK.seq ?_; refine WK.seq ?_; refine WK.region ?_; refine St.load ?_)
  refine St.call (fun _ => rfl) (fun h2 hh => count_con h2 hh.gd lo hi (by omega) (by omega) (by omega) (by omega)) ?_
  (refine St.bin ?_; refine WO.nil ?_)
  refine St.splitC (fun h4 => ?_) (fun h4 => ?_)
  · (refine WK.seq ?_; refine WK.region ?_; refine St.assign ?_; refine WO.nil ?_)
    refine St.ret (by first | exact .tmp .nil | exact .cell .nil | exact .cell (.tmp .nil) | exact .tmp (.tmp .nil) | exact .cell (.cell .nil) | exact .tmp (.cell .nil) | exact .nil | exact .tmp (.cell (.tmp .nil)) | exact .cell (.tmp (.tmp .nil)) | exact .cell (.cell (.tmp .nil)) | exact .tmp (.tmp (.tmp .nil)) | exact .cell (.cell (.cell .nil))) ?_
    rw [ok, if_pos (by simpa using h4)]
    rfl
  · (refine WK.skip ?_; refine WK.seq ?_; refine WK.region ?_; refine St.assign ?_; refine WO.nil ?_)
    refine St.ret (by first | exact .tmp .nil | exact .cell .nil | exact .cell (.tmp .nil) | exact .tmp (.tmp .nil) | exact .cell (.cell .nil) | exact .tmp (.cell .nil) | exact .nil | exact .tmp (.cell (.tmp .nil)) | exact .cell (.tmp (.tmp .nil)) | exact .cell (.cell (.tmp .nil)) | exact .tmp (.tmp (.tmp .nil)) | exact .cell (.cell (.cell .nil))) ?_
    rw [ok, if_neg (by simp at h4; omega)]
    rfl
set_option maxRecDepth 100000 in
set_option maxHeartbeats 8000000 in
theorem watched_con (h : Heap) (g : Gd h) (lv lo hi : Int) (cv sv : AV) (l : List Cw) (ss : List Sh) (hc : CyV h cv l) (hs : ShV h sv ss) :
    Con Try.prog Bs 100 [.agg [.int .i64 lv, cv, sv], .agg [.int .i64 lo, .int .i64 hi]] h [] (.int .i64 (minR lv (cys l) ss lo hi)) [] := by
  refine Con.start rfl Try.func100 rfl rfl Try.ntmps100 rfl rfl g ?_
  (refine WK.seq ?_; refine WK.region ?_; refine St.box fun _ _ => ?_; refine St.box fun _ _ => ?_; refine St.assign ?_; refine WO.nil ?_; refine WK.seq ?_; refine WK.region ?_; refine St.load ?_)
  refine St.call (fun _ => rfl) (fun h2 hh => rcheck_con h2 hh.gd lv cv sv l ss (hc.vw hh) (hs.vw hh)) ?_
  (refine St.assign ?_; refine WO.nil ?_; refine WK.seq ?_; refine WK.seq ?_; refine WK.region ?_; refine St.move ?_; refine St.bin ?_; refine WO.nil ?_)
  refine St.splitC (fun h0 => ?_) (fun h0 => ?_)
  · (refine WK.seq ?_; refine WK.region ?_; refine St.move ?_; refine St.assign ?_; refine WO.nil ?_)
    refine St.ret (by first | exact .tmp .nil | exact .cell .nil | exact .cell (.tmp .nil) | exact .tmp (.tmp .nil) | exact .cell (.cell .nil) | exact .tmp (.cell .nil) | exact .nil | exact .tmp (.cell (.tmp .nil)) | exact .cell (.tmp (.tmp .nil)) | exact .cell (.cell (.tmp .nil)) | exact .tmp (.tmp (.tmp .nil)) | exact .cell (.cell (.cell .nil))) ?_
    unfold minR
    rw [if_pos (by simpa using h0)]
    rfl
  have e0 : ¬ chkW lv (cys l) ss ≠ 0 := by simpa using h0
  have bad : (lo < 0 ∨ hi < lo ∨ 1048576 < hi) → minR lv (cys l) ss lo hi = 1 := fun q => by
    unfold minR
    rw [if_neg e0, if_pos (by simp; omega)]
  (refine WK.skip ?_; refine WK.seq ?_; refine WK.seq ?_; refine WK.region ?_; refine St.fieldAddr ?_; refine St.load ?_; refine St.bin ?_; refine St.move ?_)
  refine St.split (fun h1 => ?_) (fun h1 => ?_)
  · (refine St.skip ?_; refine St.skip ?_; refine St.skip ?_; refine St.skip ?_; refine St.skip ?_; refine St.pickT ?_; refine St.move ?_; refine St.skip ?_; refine St.skip ?_; refine St.skip ?_; refine St.pickT ?_; refine WO.nil ?_; refine WK.condT ?_; refine WK.seq ?_; refine WK.region ?_; refine St.assign ?_; refine WO.nil ?_)
    refine St.ret (by first | exact .tmp .nil | exact .cell .nil | exact .cell (.tmp .nil) | exact .tmp (.tmp .nil) | exact .cell (.cell .nil) | exact .tmp (.cell .nil) | exact .nil | exact .tmp (.cell (.tmp .nil)) | exact .cell (.tmp (.tmp .nil)) | exact .cell (.cell (.tmp .nil)) | exact .tmp (.tmp (.tmp .nil)) | exact .cell (.cell (.cell .nil))) ?_
    rw [bad (.inl (by simpa using h1))]
    rfl
  (refine St.fieldAddr ?_; refine St.load ?_; refine St.fieldAddr ?_; refine St.load ?_; refine St.bin ?_; refine St.pickF ?_; refine St.move ?_)
  refine St.split (fun h2 => ?_) (fun h2 => ?_)
  · (refine St.skip ?_; refine St.skip ?_; refine St.skip ?_; refine St.pickT ?_; refine WO.nil ?_; refine WK.condT ?_; refine WK.seq ?_; refine WK.region ?_; refine St.assign ?_; refine WO.nil ?_)
    refine St.ret (by first | exact .tmp .nil | exact .cell .nil | exact .cell (.tmp .nil) | exact .tmp (.tmp .nil) | exact .cell (.cell .nil) | exact .tmp (.cell .nil) | exact .nil | exact .tmp (.cell (.tmp .nil)) | exact .cell (.tmp (.tmp .nil)) | exact .cell (.cell (.tmp .nil)) | exact .tmp (.tmp (.tmp .nil)) | exact .cell (.cell (.cell .nil))) ?_
    rw [bad (.inr (.inl (by simpa using h2)))]
    rfl
  (refine St.fieldAddr ?_; refine St.load ?_; refine St.bin ?_; refine St.pickF ?_; refine WO.nil ?_)
  refine St.splitC (fun h3 => ?_) (fun h3 => ?_)
  · (refine WK.seq ?_; refine WK.region ?_; refine St.assign ?_; refine WO.nil ?_)
    refine St.ret (by first | exact .tmp .nil | exact .cell .nil | exact .cell (.tmp .nil) | exact .tmp (.tmp .nil) | exact .cell (.cell .nil) | exact .tmp (.cell .nil) | exact .nil | exact .tmp (.cell (.tmp .nil)) | exact .cell (.tmp (.tmp .nil)) | exact .cell (.cell (.tmp .nil)) | exact .tmp (.tmp (.tmp .nil)) | exact .cell (.cell (.cell .nil))) ?_
    rw [bad (.inr (.inr (by simpa using h3)))]
    rfl
  have b1 : 0 ≤ lo ∧ lo ≤ hi ∧ hi ≤ 1048576 := by simp at h1 h2 h3; omega
  have ok : minR lv (cys l) ss lo hi = if 10080 < hi - lo + 1 then 2 else 0 := by
    unfold minR
    rw [if_neg e0, if_neg (by simp; omega)]
  (refine WK.skip ?_; refine WK.seq ?_; refine WK.seq ?_; refine WK.region ?_; refine St.fieldAddr ?_; refine St.load ?_; refine St.fieldAddr ?_; refine St.load ?_; refine St.binI ?_; refine St.bin ?_; refine WO.nil ?_)
  refine St.splitC (fun h4 => ?_) (fun h4 => ?_)
  · (refine WK.seq ?_; refine WK.region ?_; refine St.assign ?_; refine WO.nil ?_)
    refine St.ret (by first | exact .tmp .nil | exact .cell .nil | exact .cell (.tmp .nil) | exact .tmp (.tmp .nil) | exact .cell (.cell .nil) | exact .tmp (.cell .nil) | exact .nil | exact .tmp (.cell (.tmp .nil)) | exact .cell (.tmp (.tmp .nil)) | exact .cell (.cell (.tmp .nil)) | exact .tmp (.tmp (.tmp .nil)) | exact .cell (.cell (.cell .nil))) ?_
    rw [ok, if_pos (by simp at h4; omega)]
    rfl
  · (refine WK.skip ?_; refine WK.seq ?_; refine WK.region ?_; refine St.assign ?_; refine WO.nil ?_)
    refine St.ret (by first | exact .tmp .nil | exact .cell .nil | exact .cell (.tmp .nil) | exact .tmp (.tmp .nil) | exact .cell (.cell .nil) | exact .tmp (.cell .nil) | exact .nil | exact .tmp (.cell (.tmp .nil)) | exact .cell (.tmp (.tmp .nil)) | exact .cell (.cell (.tmp .nil)) | exact .tmp (.tmp (.tmp .nil)) | exact .cell (.cell (.cell .nil))) ?_
    rw [ok, if_neg (by simp at h4; omega)]
    rfl
set_option maxRecDepth 100000 in
theorem rat_con (h : Heap) (g : Gd h) (lv t : Int) (cv sv : AV) (l : List Cw) (ss : List Sh) (hc : CyV h cv l) (hs : ShV h sv ss) (w : WOk lv (cys l) ss) (h0 : 0 ≤ t) (h1 : t ≤ 1048576) :
    Con Try.prog Bs 92 [.agg [.int .i64 lv, cv, sv], .int .i64 t] h [] (.int .i64 (lv + bareV (cys l) ss t)) [] := by
  have hb := bare_bd w t
  have l1 := w.l1
  have l2 := w.l2
  refine Con.start rfl Try.func92 rfl rfl Try.ntmps92 rfl rfl g ?_
  (refine WK.seq ?_; refine WK.region ?_; refine St.box fun _ _ => ?_; refine St.assign ?_; refine WO.nil ?_; refine WK.seq ?_; refine WK.regionD ?_; refine St.fieldAddr ?_; refine St.load ?_; refine St.load ?_; refine St.move ?_)
  refine St.call (fun _ => rfl) (fun h3 hh => rrest_con h3 hh.gd lv t cv sv l ss (hc.vw hh) (hs.vw hh) w h0 h1) ?_
  (refine St.binI ?_; refine St.assign ?_; refine WO.nil ?_)
  refine St.ret (by first | exact .tmp .nil | exact .cell .nil | exact .cell (.tmp .nil) | exact .tmp (.tmp .nil) | exact .cell (.cell .nil) | exact .tmp (.cell .nil) | exact .nil | exact .tmp (.cell (.tmp .nil)) | exact .cell (.tmp (.tmp .nil)) | exact .cell (.cell (.tmp .nil)) | exact .tmp (.tmp (.tmp .nil)) | exact .cell (.cell (.cell .nil))) ?_
  rfl
/-- what two waters compared say -/
def diffK (fa fb : Nat → Int) (n : Nat) : Option Nat := (List.range n).find? fun k => decide (fa k ≠ fb k)
def sameR (ea eb lo : Int) (fa fb : Nat → Int) (n : Nat) : Int × Bool × Int :=
  if ea ≠ 0 then (0, false, ea) else if eb ≠ 0 then (0, false, eb) else match diffK fa fb n with
    | some k => (lo + k, false, 0)
    | none => (0, true, 0)
theorem diffK_some {fa fb : Nat → Int} {n k : Nat} (hk : k < n) (h : fa k ≠ fb k) (hb : ∀ i, i < k → fa i = fb i) : diffK fa fb n = some k := by
  unfold diffK
  rw [List.find?_range_eq_some]
  exact ⟨by simpa using h, List.mem_range.2 hk, fun i hi => by simpa using hb i hi⟩
theorem diffK_none {fa fb : Nat → Int} {n : Nat} (hb : ∀ i, i < n → fa i = fb i) : diffK fa fb n = none := by
  unfold diffK
  rw [List.find?_eq_none]
  intro i hi
  simpa using hb i (List.mem_range.1 hi)
set_option maxRecDepth 100000 in
set_option maxHeartbeats 16000000 in
theorem rsame_con (h : Heap) (g : Gd h) (lva lvb lo hi : Int) (ca sa cb sb : AV) (la lb : List Cw) (ssa ssb : List Sh) (hca : CyV h ca la) (hsa : ShV h sa ssa) (hcb : CyV h cb lb) (hsb : ShV h sb ssb) :
    ∃ r, r = sameR (chkW lva (cys la) ssa) (minR lvb (cys lb) ssb lo hi) lo (fun k => lva + bareV (cys la) ssa (lo + k)) (fun k => lvb + bareV (cys lb) ssb (lo + k)) (hi - lo + 1).toNat ∧
    Con Try.prog Bs 59 [.agg [.int .i64 lva, ca, sa], .agg [.int .i64 lvb, cb, sb], .agg [.int .i64 lo, .int .i64 hi]] h [] (.tup [.int .i64 r.1, .bool r.2.1, .int .i64 r.2.2]) [] := by
  refine ⟨_, rfl, ?_⟩
  refine Con.start rfl Try.func59 rfl rfl Try.ntmps59 rfl rfl g ?_
  (refine WK.seq ?_; refine WK.region ?_; refine St.box fun _ _ => ?_; refine St.box fun _ _ => ?_; refine St.box fun _ _ => ?_; refine St.assign ?_; refine St.assign ?_; refine St.assign ?_; refine WO.nil ?_; refine WK.seq ?_; refine WK.region ?_; refine St.load ?_)
  rename_i p3 hp3 p4 hp4 p5 hp5
  refine St.call (fun _ => rfl) (fun h2 hh => rcheck_con h2 hh.gd lva ca sa la ssa (hca.vw hh) (hsa.vw hh)) ?_
  (refine St.assign ?_; refine WO.nil ?_; refine WK.seq ?_; refine WK.region ?_; refine St.load ?_; refine St.load ?_)
  refine St.call (fun _ => rfl) (fun h2 hh => watched_con h2 hh.gd lvb lo hi cb sb lb ssb (hcb.vw hh) (hsb.vw hh)) ?_
  (refine St.assign ?_; refine WO.nil ?_; refine WK.seq ?_; refine WK.seq ?_; refine WK.region ?_; refine St.move ?_; refine St.bin ?_; refine WO.nil ?_)
  refine St.splitC (fun h0 => ?_) (fun h0 => ?_)
  · (refine WK.seq ?_; refine WK.region ?_; refine St.move ?_; refine St.assign ?_; refine St.assign ?_; refine St.assign ?_; refine WO.nil ?_)
    refine St.ret (by first | exact .tmp .nil | exact .cell .nil | exact .cell (.tmp .nil) | exact .tmp (.tmp .nil) | exact .cell (.cell .nil) | exact .tmp (.cell .nil) | exact .nil | exact .tmp (.cell (.tmp .nil)) | exact .cell (.tmp (.tmp .nil)) | exact .cell (.cell (.tmp .nil)) | exact .tmp (.tmp (.tmp .nil)) | exact .cell (.cell (.cell .nil))) ?_
    unfold sameR
    rw [if_pos (by simpa using h0)]
    rfl
  have e0 : chkW lva (cys la) ssa = 0 := by simpa using h0
  (refine WK.skip ?_; refine WK.seq ?_; refine WK.seq ?_; refine WK.region ?_; refine St.move ?_; refine St.bin ?_; refine WO.nil ?_)
  refine St.splitC (fun h1 => ?_) (fun h1 => ?_)
  · (refine WK.seq ?_; refine WK.region ?_; refine St.move ?_; refine St.assign ?_; refine St.assign ?_; refine St.assign ?_; refine WO.nil ?_)
    refine St.ret (by first | exact .tmp .nil | exact .cell .nil | exact .cell (.tmp .nil) | exact .tmp (.tmp .nil) | exact .cell (.cell .nil) | exact .tmp (.cell .nil) | exact .nil | exact .tmp (.cell (.tmp .nil)) | exact .cell (.tmp (.tmp .nil)) | exact .cell (.cell (.tmp .nil)) | exact .tmp (.tmp (.tmp .nil)) | exact .cell (.cell (.cell .nil))) ?_
    unfold sameR
    rw [if_neg (by simp [e0]), if_pos (by simpa using h1)]
    rfl
  have e1 : minR lvb (cys lb) ssb lo hi = 0 := by simpa using h1
  have m := minR_ok e1
  have m1 := m.l1
  have m2 := m.le
  have m3 := m.h2
  have wa := chkW_ok e0
  have wb := m.w
  have es : sameR (chkW lva (cys la) ssa) (minR lvb (cys lb) ssb lo hi) lo (fun k => lva + bareV (cys la) ssa (lo + k)) (fun k => lvb + bareV (cys lb) ssb (lo + k)) (hi - lo + 1).toNat = match diffK (fun k => lva + bareV (cys la) ssa (lo + k)) (fun k => lvb + bareV (cys lb) ssb (lo + k)) (hi - lo + 1).toNat with | some k => (lo + k, false, 0) | none => (0, true, 0) := by
    unfold sameR
    rw [if_neg (by simp [e0]), if_neg (by simp [e1])]
  rw [es]
  (refine WK.skip ?_; refine WK.seq ?_; refine WK.seq ?_; refine WK.region ?_; refine St.fieldAddr ?_; refine St.load ?_; refine St.assign ?_; refine WO.nil ?_; refine WK.block ?_)
  refine WK.inv (ι := Nat) (fun k => [(3, .ptr p3 0), (4, .ptr p4 0), (5, .ptr p5 0), (6, .int .i64 0), (7, .bool false), (8, .int .i64 0), (11, .int .i64 (lo + (k : Int)))]) (fun _ => [(p5, .cells [.int .i64 lo, .int .i64 hi] 37), (p4, .cells [.int .i64 lvb, cb, sb] 25), (p3, .cells [.int .i64 lva, ca, sa] 25)]) (fun k => k ≤ (hi - lo + 1).toNat ∧ ∀ i, i < k → lva + bareV (cys la) ssa (lo + (i : Int)) = lvb + bareV (cys lb) ssb (lo + (i : Int))) (fun k => (hi - lo + 1).toNat - k) 0 ⟨Nat.zero_le _, fun i hi => by omega⟩ ⟨rfl, rfl, rfl, rfl, rfl, rfl, congrArg (fun z => some (AV.int .i64 z)) (by simp), trivial⟩ (by (repeat (first | exact List.Sublist.refl _ | exact List.nil_sublist _ | apply List.Sublist.cons_cons | apply List.Sublist.cons))) ?_
  rintro k ⟨hkl, hall⟩ ih
  (refine WK.seq ?_; refine WK.seq ?_; refine WK.region ?_; refine St.move ?_; refine St.fieldAddr ?_; refine St.load ?_; refine St.bin ?_; refine WO.nil ?_)
  refine St.splitC (fun hc => ?_) (fun hc => ?_)
  · have hlt : k < (hi - lo + 1).toNat := by simp at hc; omega
    have ht0 : 0 ≤ lo + (k : Int) := by omega
    have ht1 : lo + (k : Int) ≤ 1048576 := by simp at hc; omega
    (refine WK.skip ?_; refine WK.seq ?_; refine WK.block ?_; refine WK.seq ?_; refine WK.regionD ?_; refine St.load ?_; refine St.move ?_)
    refine St.call (fun _ => rfl) (fun h2 hh => rat_con h2 hh.gd lva (lo + (k : Int)) ca sa la ssa (hca.vw hh) (hsa.vw hh) wa ht0 ht1) ?_
    (refine St.load ?_; refine St.move ?_)
    refine St.call (fun _ => rfl) (fun h2 hh => rat_con h2 hh.gd lvb (lo + (k : Int)) cb sb lb ssb (hcb.vw hh) (hsb.vw hh) wb ht0 ht1) ?_
    (refine St.bin ?_; refine WO.nil ?_)
    refine St.splitC (fun h2 => ?_) (fun h2 => ?_)
    · have hne : lva + bareV (cys la) ssa (lo + (k : Int)) ≠ lvb + bareV (cys lb) ssb (lo + (k : Int)) := by simpa using h2
      (refine WK.seq ?_; refine WK.region ?_; refine St.move ?_; refine St.assign ?_; refine St.assign ?_; refine St.assign ?_; refine WO.nil ?_)
      refine St.ret (by first | exact .tmp .nil | exact .cell .nil | exact .cell (.tmp .nil) | exact .tmp (.tmp .nil) | exact .cell (.cell .nil) | exact .tmp (.cell .nil) | exact .nil | exact .tmp (.cell (.tmp .nil)) | exact .cell (.tmp (.tmp .nil)) | exact .cell (.cell (.tmp .nil)) | exact .tmp (.tmp (.tmp .nil)) | exact .cell (.cell (.cell .nil))) ?_
      rw [diffK_some hlt hne hall]
      rfl
    · have heq : lva + bareV (cys la) ssa (lo + (k : Int)) = lvb + bareV (cys lb) ssb (lo + (k : Int)) := by simpa using h2
      (refine WK.skip ?_; refine WK.blk ?_; refine WK.region ?_; refine St.move ?_; refine St.binI ?_; refine St.assign ?_; refine WO.nil ?_)
      refine WK.le ?_ (by (repeat (first | exact List.Sublist.refl _ | exact List.nil_sublist _ | apply List.Sublist.cons_cons | apply List.Sublist.cons))) (ih (k + 1) ⟨hlt, fun i hi => ?_⟩ (by omega))
      · exact ⟨rfl, rfl, rfl, rfl, rfl, rfl, congrArg (fun z => some (AV.int .i64 z)) (by omega), trivial⟩
      · rcases Nat.lt_succ_iff_lt_or_eq.1 hi with h3 | rfl
        · exact hall i h3
        · exact heq
  · have : k = (hi - lo + 1).toNat := by simp at hc; omega
    subst this
    (refine WK.exit ?_; refine WK.seq ?_; refine WK.region ?_; refine St.assign ?_; refine St.assign ?_; refine St.assign ?_; refine WO.nil ?_)
    refine St.ret (by first | exact .tmp .nil | exact .cell .nil | exact .cell (.tmp .nil) | exact .tmp (.tmp .nil) | exact .cell (.cell .nil) | exact .tmp (.cell .nil) | exact .nil | exact .tmp (.cell (.tmp .nil)) | exact .cell (.tmp (.tmp .nil)) | exact .cell (.cell (.tmp .nil)) | exact .tmp (.tmp (.tmp .nil)) | exact .cell (.cell (.cell .nil))) ?_
    rw [diffK_none hall]
    rfl
end Go.Proofs.Ytekpffjcffeanaa
