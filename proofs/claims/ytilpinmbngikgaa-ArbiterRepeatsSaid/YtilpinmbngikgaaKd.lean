/- Layer 9: the program's canPropose, canSay. -/
import Derived.Test.YtilpinmbngikgaaKc
namespace Go.Proofs.Ytilpinmbngikgaa
open Go.Proofs.Ytilpinmbngikgaa.Ev

/-- a promise that allows a finding -/
def letsB (c : Int) (l : List Le) (x y : Le) : Bool := decide (y.vo > 0) && (decide (y.fi = x.fi) && decide ((popN (vBits l x.rd y.vo) : Int) ≥ maj c))
def canPp (c : Int) (l : List Le) (x : Le) : Bool := if prB l x.cs x.rd = true then false else if (popN (vBits l x.rd 0) : Int) ≥ maj c then true else (prms l x.rd).any (letsB c l x)
/-- what can be said behind others of its case -/
def sayC (c : Int) (l : List Le) (x : Le) : Bool := if x.kd = 2 then canPr l x else if x.kd = 3 then canPp c l x else if x.kd = 4 then canVo l x else true
theorem vBits_lt {l : List Le} {rd last : Int} (hfr : ∀ y ∈ l, 0 ≤ y.fr ∧ y.fr < 7) : vBits l rd last < 128 := bits_lt fun i hi => hfr _ (prms_mem hi).1
set_option maxRecDepth 100000 in
set_option maxHeartbeats 32000000 in
theorem canPropose_con (h : Heap) (g : Gd h) (c : Int) (v : AV) (l : List Le) (x : Le) (hv : LeV h v l) (hl : l.length ≤ 1000000) (hfr : ∀ y ∈ l, 0 ≤ y.fr ∧ y.fr < 7) : Con Try.prog Bs 78 [.agg [.int .i64 c], v, .agg (leC x)] h [] (.bool (canPp c l x)) [] := by
  have hcell := okCell_cells (EV.okv hv)
  refine Con.start rfl Try.func78 rfl rfl Try.ntmps78 rfl rfl g ?_
  (refine WK.seq ?_; refine WK.region ?_; refine St.box fun _ _ => ?_; refine St.box fun _ _ => ?_; refine St.box fun _ _ => ?_; refine St.alloc fun _ _ => ?_; refine WO.nil ?_; refine WK.seq ?_; refine WK.seq ?_; refine WK.region ?_)
  rw [hcell]
  (refine St.load ?_; refine St.fieldAddr ?_; refine St.load ?_; refine St.fieldAddr ?_; refine St.load ?_)
  rename_i p3 hp3 p4 hp4 p5 hp5 p6 hp6
  refine St.call (fun _ => rfl) (fun h2 hh => proposed_con h2 hh.gd v l x.cs x.rd (hv.vw hh) hl) ?_
  cases hb : prB l x.cs x.rd
  rotate_left
  · (refine St.move ?_; refine St.extract ?_; refine St.extract ?_; refine St.assign ?_; refine St.assign ?_; refine WO.nil ?_; refine WK.seq ?_; refine WK.region ?_; refine St.move ?_; refine WO.nil ?_; refine WK.condT ?_; refine WK.seq ?_; refine WK.region ?_; refine St.store0 ?_; refine WO.nil ?_)
    refine St.ret (by first | exact .tmp .nil | exact .cell .nil | exact .cell (.tmp .nil) | exact .tmp (.tmp .nil) | exact .cell (.cell .nil) | exact .tmp (.cell .nil) | exact .nil | exact .tmp (.cell (.tmp .nil)) | exact .cell (.tmp (.tmp .nil)) | exact .cell (.cell (.tmp .nil)) | exact .tmp (.tmp (.tmp .nil)) | exact .cell (.cell (.cell .nil))) ?_
    simp [oneOf, canPp, hb]
  (refine St.move ?_; refine St.extract ?_; refine St.extract ?_; refine St.assign ?_; refine St.assign ?_; refine WO.nil ?_; refine WK.seq ?_; refine WK.region ?_; refine St.move ?_; refine WO.nil ?_; refine WK.condF ?_; refine WK.skip ?_; refine WK.seq ?_; refine WK.seq ?_; refine WK.regionD ?_; refine St.load ?_; refine St.fieldAddr ?_; refine St.load ?_)
  refine St.call (fun _ => rfl) (fun h2 hh => votedUpTo_con h2 hh.gd v l x.rd 0 (hv.vw hh) hl hfr) ?_
  (refine St.load ?_)
  refine St.call (fun _ => rfl) (fun h2 hh => isMajority_con h2 hh.gd c (vBits l x.rd 0) (vBits_lt hfr)) ?_
  cases hm : decide ((popN (vBits l x.rd 0) : Int) ≥ maj c)
  rotate_left
  · have hm2 : (popN (vBits l x.rd 0) : Int) ≥ maj c := of_decide_eq_true hm
    (refine WO.nil ?_; refine WK.condT ?_; refine WK.seq ?_; refine WK.region ?_; refine St.store0 ?_; refine WO.nil ?_)
    refine St.ret (by first | exact .tmp .nil | exact .cell .nil | exact .cell (.tmp .nil) | exact .tmp (.tmp .nil) | exact .cell (.cell .nil) | exact .tmp (.cell .nil) | exact .nil | exact .tmp (.cell (.tmp .nil)) | exact .cell (.tmp (.tmp .nil)) | exact .cell (.cell (.tmp .nil)) | exact .tmp (.tmp (.tmp .nil)) | exact .cell (.cell (.cell .nil))) ?_
    unfold canPp
    rw [hb, if_neg (by simp), if_pos hm2]
    rfl
  have hm2 : ¬ (popN (vBits l x.rd 0) : Int) ≥ maj c := of_decide_eq_false hm
  have hcp : canPp c l x = (prms l x.rd).any (letsB c l x) := by unfold canPp; rw [hb, if_neg (by simp), if_neg hm2]
  (refine WO.nil ?_; refine WK.condF ?_; refine WK.skip ?_; refine WK.seq ?_; refine WK.seq ?_; refine WK.region ?_; refine St.load ?_; refine St.fieldAddr ?_; refine St.load ?_)
  refine St.callR (fun _ => rfl) (fun h2 hh => promises_con h2 hh.gd v x.rd (EV.okv hv)) ?_
  rintro u L' ⟨j1, j2, rfl, rfl⟩
  (refine WO.nil ?_; refine WK.block ?_)
  refine rangeY (hb := h) (j1 := j1) (j2 := j2) (L0 := [(p6, .cells [.bool false] 4), (p5, .cells (leC x) 38), (p4, .cells [v] 24), (p3, .cells [.int .i64 c] 23)])
    (fun k Ln => (∀ i, i < k → letsB c l x (atL (prms l x.rd) i) = false) ∧ Ln = [(p6, .cells [.bool false] 4), (p5, .cells (leC x) 38), (p4, .cells [v] 24), (p3, .cells [.int .i64 c] 23)])
    (fun pd Ln => pd = some .ret ∧ canPp c l x = true ∧ Ln = [(p6, .cells [.bool true] 4), (p5, .cells (leC x) 38), (p4, .cells [v] 24), (p3, .cells [.int .i64 c] 23)])
    (promises_y h v l x.rd hv hl) rfl (SS.init g).vw (fun _ h => by cases h) (by (repeat (first | exact List.Perm.refl _ | refine perm_at 0 rfl ?_ | refine perm_at 1 rfl ?_ | refine perm_at 2 rfl ?_ | refine perm_at 3 rfl ?_ | refine perm_at 4 rfl ?_ | refine perm_at 5 rfl ?_ | refine perm_at 6 rfl ?_ | refine perm_at 7 rfl ?_ | refine perm_at 8 rfl ?_ | refine perm_at 9 rfl ?_))) ⟨fun i hi => absurd hi (by omega), rfl⟩ (fun _ => rfl) rfl ?_ ?_ ?_
  · rintro r2 q2 hq2 k Lk h2 hk ⟨hall, rfl⟩ hl2
    have hW2 := hl2.ss.ltW
    have hle : letsB c l x (atL (prms l x.rd) k) = (decide ((atL (prms l x.rd) k).vo > 0) && (decide ((atL (prms l x.rd) k).fi = x.fi) && decide ((popN (vBits l x.rd (atL (prms l x.rd) k).vo) : Int) ≥ maj c))) := rfl
    have hyes : letsB c l x (atL (prms l x.rd) k) = true → canPp c l x = true := fun e => by
      rw [hcp, List.any_eq_true]
      exact ⟨atL (prms l x.rd) k, by unfold atL; simp [hk], e⟩
    generalize hy : atL (prms l x.rd) k = y at hle hyes ⊢
    (refine WK.region ?_; refine St.alloc fun _ _ => ?_; refine St.store0 ?_; refine WO.nil ?_)
    rename_i j9 hj9
    refine WK.busyQ hq2.st (A := [(_, _)]) rfl ?_
    (refine WK.block ?_; refine WK.seq ?_; refine WK.regionD ?_; refine St.fieldAddr ?_; refine St.load ?_; refine St.bin ?_; refine St.move ?_)
    refine St.split (fun q1 => ?_) (fun q1 => ?_)
    rotate_left
    · have e1 : ¬ y.vo > 0 := by simpa using q1
      have e : letsB c l x y = false := by rw [hle]; simp [e1]
      (refine St.skip ?_; refine St.skip ?_; refine St.skip ?_; refine St.skip ?_; refine St.skip ?_; refine St.pickF ?_; refine St.move ?_; refine St.skip ?_; refine St.skip ?_; refine St.skip ?_; refine St.skip ?_; refine St.skip ?_; refine St.skip ?_; refine St.skip ?_; refine St.skip ?_; refine St.pickF ?_; refine WO.nil ?_; refine WK.condF ?_; refine WK.skip ?_; refine WK.blk ?_)
      refine endY (Lk := [(p6, .cells [.bool false] 4), (p5, .cells (leC x) 38), (p4, .cells [v] 24), (p3, .cells [.int .i64 c] 23)]) (X := [(j9, .cells (leC y) 38)]) (by (refine perm_cnt fun _ _ => ?_; simp only [List.append_eq, List.cons_append, List.nil_append, List.count_append, List.count_cons, List.count_nil, Nat.add_zero, Nat.zero_add]; try ac_rfl)) ⟨less_succ' hall (by rw [hy]; exact e), rfl⟩
    have e1 : y.vo > 0 := by simpa using q1
    (refine St.fieldAddr ?_; refine St.load ?_; refine St.fieldAddr ?_; refine St.load ?_; refine St.bin ?_; refine St.pickT ?_; refine St.move ?_)
    refine St.split (fun q2 => ?_) (fun q2 => ?_)
    rotate_left
    · have e2 : ¬ y.fi = x.fi := by simpa using q2
      have e : letsB c l x y = false := by rw [hle]; simp [e2]
      (refine St.skip ?_; refine St.skip ?_; refine St.skip ?_; refine St.skip ?_; refine St.skip ?_; refine St.skip ?_; refine St.skip ?_; refine St.skip ?_; refine St.pickF ?_; refine WO.nil ?_; refine WK.condF ?_; refine WK.skip ?_; refine WK.blk ?_)
      refine endY (Lk := [(p6, .cells [.bool false] 4), (p5, .cells (leC x) 38), (p4, .cells [v] 24), (p3, .cells [.int .i64 c] 23)]) (X := [(j9, .cells (leC y) 38)]) (by (refine perm_cnt fun _ _ => ?_; simp only [List.append_eq, List.cons_append, List.nil_append, List.count_append, List.count_cons, List.count_nil, Nat.add_zero, Nat.zero_add]; try ac_rfl)) ⟨less_succ' hall (by rw [hy]; exact e), rfl⟩
    have e2 : y.fi = x.fi := by simpa using q2
    (refine St.load ?_; refine St.fieldAddr ?_; refine St.load ?_; refine St.fieldAddr ?_; refine St.load ?_)
    refine St.call (fun _ => rfl) (fun h3 hh => votedUpTo_con h3 hh.gd v l x.rd y.vo (hv.vw (hl2.to hh)) hl hfr) ?_
    (refine St.load ?_)
    refine St.call (fun _ => rfl) (fun h3 hh => isMajority_con h3 hh.gd c (vBits l x.rd y.vo) (vBits_lt hfr)) ?_
    cases hm3 : decide ((popN (vBits l x.rd y.vo) : Int) ≥ maj c)
    · have e : letsB c l x y = false := by rw [hle, hm3]; simp
      (refine St.pickT ?_; refine WO.nil ?_; refine WK.condF ?_; refine WK.skip ?_; refine WK.blk ?_)
      refine endY (Lk := [(p6, .cells [.bool false] 4), (p5, .cells (leC x) 38), (p4, .cells [v] 24), (p3, .cells [.int .i64 c] 23)]) (X := [(j9, .cells (leC y) 38)]) (by (refine perm_cnt fun _ _ => ?_; simp only [List.append_eq, List.cons_append, List.nil_append, List.count_append, List.count_cons, List.count_nil, Nat.add_zero, Nat.zero_add]; try ac_rfl)) ⟨less_succ' hall (by rw [hy]; exact e), rfl⟩
    · have e : letsB c l x y = true := by rw [hle, hm3]; simp [e1, e2]
      (refine St.pickT ?_; refine WO.nil ?_; refine WK.condT ?_; refine WK.seq ?_; refine WK.region ?_; refine St.store2 ?_; refine WO.nil ?_)
      refine retY (Lk := [(p6, .cells [.bool true] 4), (p5, .cells (leC x) 38), (p4, .cells [v] 24), (p3, .cells [.int .i64 c] 23)]) (X := [(j9, .cells (leC y) 38)]) (by (refine perm_cnt fun _ _ => ?_; simp only [List.append_eq, List.cons_append, List.nil_append, List.count_append, List.count_cons, List.count_nil, Nat.add_zero, Nat.zero_add]; try ac_rfl)) ⟨rfl, hyes e, rfl⟩
  · rintro dq L' ⟨hall, rfl⟩
    have hno : canPp c l x = false := by
      rw [hcp, List.any_eq_false]
      intro y hy
      obtain ⟨i, hi, rfl⟩ := List.mem_iff_getElem.1 hy
      have := hall i hi
      unfold atL at this
      rw [List.getElem?_eq_getElem hi, Option.getD_some] at this
      simp [this]
    (refine WK.blk ?_; refine WK.seq ?_; refine WK.region ?_; refine St.store0 ?_; refine WO.nil ?_)
    refine St.ret1 (A := [(p6, .cells [.bool false] 4), (p5, .cells (leC x) 38), (p4, .cells [v] 24), (p3, .cells [.int .i64 c] 23)]) (C := []) rfl (.cell .nil) ?_
    rw [hno]
    rfl
  · rintro dq cc L' ⟨e, hyes, rfl⟩
    cases e
    skip
    refine St.ret1 (A := [(p6, .cells [.bool true] 4), (p5, .cells (leC x) 38), (p4, .cells [v] 24), (p3, .cells [.int .i64 c] 23)]) (C := []) rfl (.cell .nil) ?_
    rw [hyes]
    rfl
set_option maxRecDepth 100000 in
set_option maxHeartbeats 8000000 in
theorem canSay_con (h : Heap) (g : Gd h) (c : Int) (v : AV) (l : List Le) (x : Le) (hv : LeV h v l) (hl : l.length ≤ 1000000) (hfr : ∀ y ∈ l, 0 ≤ y.fr ∧ y.fr < 7) (hcs : ∀ y ∈ l, y.cs = x.cs) : Con Try.prog Bs 52 [.agg [.int .i64 c], v, .agg (leC x)] h [] (.bool (sayC c l x)) [] := by
  refine Con.start rfl Try.func52 rfl rfl Try.ntmps52 rfl rfl g ?_
  (refine WK.seq ?_; refine WK.region ?_; refine St.box fun _ _ => ?_; refine St.box fun _ _ => ?_; refine St.assign ?_; refine WO.nil ?_; refine WK.seq ?_; refine WK.seq ?_; refine WK.region ?_; refine St.fieldAddr ?_; refine St.load ?_; refine WO.nil ?_; refine WK.block ?_; refine WK.seq ?_; refine WK.region ?_; refine St.bin ?_; refine St.assign ?_; refine WO.nil ?_)
  refine St.splitC (fun q1 => ?_) (fun q1 => ?_)
  · have k1 : x.kd = 2 := by simpa using q1
    (refine WK.seq ?_; refine WK.region ?_; refine St.move ?_; refine St.load ?_)
    refine St.call (fun _ => rfl) (fun h2 hh => canPromise_con h2 hh.gd v l x (hv.vw hh) hl hcs) ?_
    (refine St.assign ?_; refine WO.nil ?_)
    refine St.ret (by first | exact .tmp .nil | exact .cell .nil | exact .cell (.tmp .nil) | exact .tmp (.tmp .nil) | exact .cell (.cell .nil) | exact .tmp (.cell .nil) | exact .nil | exact .tmp (.cell (.tmp .nil)) | exact .cell (.tmp (.tmp .nil)) | exact .cell (.cell (.tmp .nil)) | exact .tmp (.tmp (.tmp .nil)) | exact .cell (.cell (.cell .nil))) ?_
    simp [oneOf, sayC, k1]
  have k1 : ¬ x.kd = 2 := by simpa using q1
  (refine WK.seq ?_; refine WK.region ?_; refine St.bin ?_; refine St.assign ?_; refine WO.nil ?_)
  refine St.splitC (fun q2 => ?_) (fun q2 => ?_)
  · have k2 : x.kd = 3 := by simpa using q2
    (refine WK.seq ?_; refine WK.region ?_; refine St.load ?_; refine St.move ?_; refine St.load ?_)
    refine St.call (fun _ => rfl) (fun h2 hh => canPropose_con h2 hh.gd c v l x (hv.vw hh) hl hfr) ?_
    (refine St.assign ?_; refine WO.nil ?_)
    refine St.ret (by first | exact .tmp .nil | exact .cell .nil | exact .cell (.tmp .nil) | exact .tmp (.tmp .nil) | exact .cell (.cell .nil) | exact .tmp (.cell .nil) | exact .nil | exact .tmp (.cell (.tmp .nil)) | exact .cell (.tmp (.tmp .nil)) | exact .cell (.cell (.tmp .nil)) | exact .tmp (.tmp (.tmp .nil)) | exact .cell (.cell (.cell .nil))) ?_
    simp [oneOf, sayC, k2]
  have k2 : ¬ x.kd = 3 := by simpa using q2
  (refine WK.seq ?_; refine WK.region ?_; refine St.bin ?_; refine St.assign ?_; refine WO.nil ?_)
  refine St.splitC (fun q3 => ?_) (fun q3 => ?_)
  · have k3 : x.kd = 4 := by simpa using q3
    (refine WK.seq ?_; refine WK.region ?_; refine St.move ?_; refine St.load ?_)
    refine St.call (fun _ => rfl) (fun h2 hh => canVote_con h2 hh.gd v l x (hv.vw hh) hl) ?_
    (refine St.assign ?_; refine WO.nil ?_)
    refine St.ret (by first | exact .tmp .nil | exact .cell .nil | exact .cell (.tmp .nil) | exact .tmp (.tmp .nil) | exact .cell (.cell .nil) | exact .tmp (.cell .nil) | exact .nil | exact .tmp (.cell (.tmp .nil)) | exact .cell (.tmp (.tmp .nil)) | exact .cell (.cell (.tmp .nil)) | exact .tmp (.tmp (.tmp .nil)) | exact .cell (.cell (.cell .nil))) ?_
    simp [oneOf, sayC, k3]
  · have k3 : ¬ x.kd = 4 := by simpa using q3
    (refine WK.skip ?_; refine WK.blk ?_; refine WK.seq ?_; refine WK.region ?_; refine St.assign ?_; refine WO.nil ?_)
    refine St.ret (by first | exact .tmp .nil | exact .cell .nil | exact .cell (.tmp .nil) | exact .tmp (.tmp .nil) | exact .cell (.cell .nil) | exact .tmp (.cell .nil) | exact .nil | exact .tmp (.cell (.tmp .nil)) | exact .cell (.tmp (.tmp .nil)) | exact .cell (.cell (.tmp .nil)) | exact .tmp (.tmp (.tmp .nil)) | exact .cell (.cell (.cell .nil))) ?_
    simp [oneOf, sayC, k1, k2, k3]
end Go.Proofs.Ytilpinmbngikgaa
