/- Prove and CheckProof; the law TideProofsHold over the calculator's memory. -/
import Derived.Test.YtekpffjcffeanaaYd
import Derived.Test.YtekpffjcffeanaaWj
import Derived.Test.YtekpffjcffeanaaWg
namespace Go.Proofs.Ytekpffjcffeanaa
open Go.Proofs.Ytekpffjcffeanaa.Ev

def addF (cs : List Cy) (ss : List Sh) (lo : Int) (k : Nat) : List Int := addA cs ss (lo + (k : Int))
def pvS : Option (List Int × List Int) → List Int × Int
  | none => ([], 5)
  | some r => if 2000 < r.1.length then ([], 2) else (r.1, 0)
/-- what Prove returns: the cuts, and an error -/
def pvR (lv : Int) (cs : List Cy) (ss : List Sh) (lo hi height : Int) : List Int × Int :=
  if minR lv cs ss lo hi ≠ 0 then ([], minR lv cs ss lo hi) else pvS (grd (addF cs ss lo) lv height lo (hi - lo + 1).toNat)
/-- what CheckProof returns -/
def cpR (lv : Int) (cs : List Cy) (ss : List Sh) (lo hi height : Int) (C : List Int) : Int :=
  if minR lv cs ss lo hi ≠ 0 then minR lv cs ss lo hi else if 2000 < C.length then 2 else if (cutsB hi lo C && (prv (addF cs ss lo) lv height lo C (hi - lo + 1).toNat).isSome) = false then 8 else 0
set_option maxRecDepth 100000 in
set_option maxHeartbeats 8000000 in
theorem proveP_con (h : Heap) (g : Gd h) (lv lo hi height : Int) (cv sv : AV) (cl : List Cw) (ss : List Sh) (hc : CyV h cv cl) (hs : ShV h sv ss) :
    ∃ v L, Con Try.prog Bs 29 [.agg [.int .i64 lv, cv, sv], .agg [.int .i64 lo, .int .i64 hi], .int .i64 height] h [] v L ∧ ∃ u, v = .tup [u, .int .i64 (pvR lv (cys cl) ss lo hi height).2] ∧ IsL 3 1 (pvR lv (cys cl) ss lo hi height).1.length ((pvR lv (cys cl) ss lo hi height).1.map (AV.int .i64)) u L := by
  refine Con.pick (Con.startR rfl Try.func29 rfl rfl Try.ntmps29 rfl rfl (SS.init g) ?_)
  (refine WK.seq ?_; refine WK.region ?_; refine St.box fun _ _ => ?_; refine St.box fun _ _ => ?_; refine St.assign ?_; refine St.assign ?_; refine WO.nil ?_; refine WK.seq ?_; refine WK.seq ?_; refine WK.region ?_; refine St.load ?_; refine St.load ?_)
  rename_i p3 hp3 p4 hp4
  refine St.call (fun _ => rfl) (fun h2 hh => checkMinutes_con h2 hh.gd lv lo hi cv sv cl ss (hc.vw hh) (hs.vw hh)) ?_
  (refine St.assign ?_; refine WO.nil ?_; refine WK.seq ?_; refine WK.region ?_; refine St.move ?_; refine St.bin ?_; refine WO.nil ?_)
  refine St.splitC (fun h1 => ?_) (fun h1 => ?_)
  · (refine WK.seq ?_; refine WK.region ?_; refine St.move ?_; refine St.assign ?_; refine St.assign ?_; refine WO.nil ?_)
    refine St.ret (by first | exact .tmp .nil | exact .cell .nil | exact .cell (.tmp .nil) | exact .tmp (.tmp .nil) | exact .cell (.cell .nil) | exact .tmp (.cell .nil) | exact .nil | exact .tmp (.cell (.tmp .nil)) | exact .cell (.tmp (.tmp .nil)) | exact .cell (.cell (.tmp .nil)) | exact .tmp (.tmp (.tmp .nil)) | exact .cell (.cell (.cell .nil))) ?_
    have e : pvR lv (cys cl) ss lo hi height = ([], minR lv (cys cl) ss lo hi) := if_pos (by simpa using h1)
    rw [e]
    exact ⟨[], _, List.Perm.refl _, _, rfl, .nil rfl rfl⟩
  have e1 : minR lv (cys cl) ss lo hi = 0 := by simpa using h1
  have m := minR_ok e1
  have e : pvR lv (cys cl) ss lo hi height = pvS (grd (addF (cys cl) ss lo) lv height lo (hi - lo + 1).toNat) := if_neg (by simp [e1])
  rw [e]
  (refine WK.skip ?_; refine WK.seq ?_; refine WK.region ?_; refine St.load ?_; refine St.load ?_; refine St.move ?_)
  refine St.callR (fun _ => rfl) (fun h2 hh => prove_con h2 hh.gd lv lo hi height cv sv cl ss (hc.vw hh) (hs.vw hh) m) ?_
  rintro v L1 ⟨u, cu, rfl, hcu, hu⟩
  have ef : (fun k : Nat => addA (cys cl) ss (lo + (k : Int))) = addF (cys cl) ss lo := rfl
  rw [ef] at hcu ⊢
  refine WO.permF (L' := (p4, .cells [.int .i64 lo, .int .i64 hi] 37) :: (p3, .cells [.int .i64 lv, cv, sv] 25) :: L1) (by (refine perm_cnt fun _ _ => ?_; simp only [List.append_eq, List.cons_append, List.nil_append, List.count_append, List.count_cons, List.count_nil, Nat.add_zero, Nat.zero_add]; try ac_rfl)) ?_
  cases hG : grd (addF (cys cl) ss lo) lv height lo (hi - lo + 1).toNat with
  | none =>
    (refine St.move ?_; refine St.extract ?_; refine St.extract ?_; refine St.assign ?_; refine St.assign ?_; refine WO.nil ?_; refine WK.seq ?_; refine WK.seq ?_; refine WK.region ?_; refine St.move ?_; refine St.un ?_; refine WO.nil ?_; refine WK.condT ?_; refine WK.seq ?_; refine WK.region ?_; refine St.assign ?_; refine St.assign ?_; refine WO.nil ?_)
    refine St.ret (by first | exact .tmp .nil | exact .cell .nil | exact .cell (.tmp .nil) | exact .tmp (.tmp .nil) | exact .cell (.cell .nil) | exact .tmp (.cell .nil) | exact .nil | exact .tmp (.cell (.tmp .nil)) | exact .cell (.tmp (.tmp .nil)) | exact .cell (.cell (.tmp .nil)) | exact .tmp (.tmp (.tmp .nil)) | exact .cell (.cell (.cell .nil))) ?_
    exact ⟨[], _, List.Perm.refl _, _, rfl, .nil rfl rfl⟩
  | some r =>
    obtain ⟨c, q⟩ := r
    obtain rfl := hcu c q hG
    have ep : pvS (some (cu, q)) = if 2000 < cu.length then ([], 2) else (cu, 0) := rfl
    rw [ep]
    (refine St.move ?_; refine St.extract ?_; refine St.extract ?_; refine St.assign ?_; refine St.assign ?_; refine WO.nil ?_; refine WK.seq ?_; refine WK.seq ?_; refine WK.region ?_; refine St.move ?_; refine St.un ?_; refine WO.nil ?_; refine WK.condF ?_; refine WK.skip ?_; refine WK.seq ?_; refine WK.seq ?_; refine WK.region ?_; refine St.move ?_)
    refine St.lenV rfl (isl_len hu Try.underlying26) ?_
    (refine St.bin ?_; refine WO.nil ?_)
    refine St.splitC (fun h2 => ?_) (fun h2 => ?_)
    · rw [if_pos (by simp at h2; omega)]
      (refine WK.seq ?_; refine WK.region ?_; refine St.assign ?_; refine St.assign ?_; refine WO.nil ?_)
      refine St.ret (by first | exact .tmp .nil | exact .cell .nil | exact .cell (.tmp .nil) | exact .tmp (.tmp .nil) | exact .cell (.cell .nil) | exact .tmp (.cell .nil) | exact .nil | exact .tmp (.cell (.tmp .nil)) | exact .cell (.tmp (.tmp .nil)) | exact .cell (.cell (.tmp .nil)) | exact .tmp (.tmp (.tmp .nil)) | exact .cell (.cell (.cell .nil))) ?_
      exact ⟨[], _, List.Perm.refl _, _, rfl, .nil rfl rfl⟩
    · rw [if_neg (by simp at h2; omega)]
      (refine WK.skip ?_; refine WK.seq ?_; refine WK.region ?_; refine St.move ?_; refine St.assign ?_; refine St.assign ?_; refine WO.nil ?_)
      refine St.ret (by first | exact .tmp .nil | exact .cell .nil | exact .cell (.tmp .nil) | exact .tmp (.tmp .nil) | exact .cell (.cell .nil) | exact .tmp (.cell .nil) | exact .nil | exact .tmp (.cell (.tmp .nil)) | exact .cell (.tmp (.tmp .nil)) | exact .cell (.cell (.tmp .nil)) | exact .tmp (.tmp (.tmp .nil)) | exact .cell (.cell (.cell .nil))) ?_
      refine ⟨L1, [(p4, .cells [.int .i64 lo, .int .i64 hi] 37), (p3, .cells [.int .i64 lv, cv, sv] 25)], ?_, u, rfl, hu⟩
      (refine perm_cnt fun _ _ => ?_; simp only [List.append_eq, List.cons_append, List.nil_append, List.count_append, List.count_cons, List.count_nil, Nat.add_zero, Nat.zero_add]; try ac_rfl)
set_option maxRecDepth 100000 in
set_option maxHeartbeats 8000000 in
theorem checkProof_con (h : Heap) (g : Gd h) (lv lo hi height : Int) (cv sv v : AV) (cl : List Cw) (ss : List Sh) (C : List Int) (hc : CyV h cv cl) (hs : ShV h sv ss) (hv : ItV h v C) (hl : C.length ≤ 9223372036854775807) :
    Con Try.prog Bs 30 [.agg [.int .i64 lv, cv, sv], .agg [.int .i64 lo, .int .i64 hi], .int .i64 height, v] h [] (.int .i64 (cpR lv (cys cl) ss lo hi height C)) [] := by
  refine Con.start rfl Try.func30 rfl rfl Try.ntmps30 rfl rfl g ?_
  (refine WK.seq ?_; refine WK.region ?_; refine St.box fun _ _ => ?_; refine St.box fun _ _ => ?_; refine St.assign ?_; refine WO.nil ?_; refine WK.seq ?_; refine WK.seq ?_; refine WK.region ?_; refine St.load ?_; refine St.load ?_)
  refine St.call (fun _ => rfl) (fun h2 hh => checkMinutes_con h2 hh.gd lv lo hi cv sv cl ss (hc.vw hh) (hs.vw hh)) ?_
  (refine St.assign ?_; refine WO.nil ?_; refine WK.seq ?_; refine WK.region ?_; refine St.move ?_; refine St.bin ?_; refine WO.nil ?_)
  refine St.splitC (fun h1 => ?_) (fun h1 => ?_)
  · (refine WK.seq ?_; refine WK.region ?_; refine St.move ?_; refine St.assign ?_; refine WO.nil ?_)
    refine St.ret (by first | exact .tmp .nil | exact .cell .nil | exact .cell (.tmp .nil) | exact .tmp (.tmp .nil) | exact .cell (.cell .nil) | exact .tmp (.cell .nil) | exact .nil | exact .tmp (.cell (.tmp .nil)) | exact .cell (.tmp (.tmp .nil)) | exact .cell (.cell (.tmp .nil)) | exact .tmp (.tmp (.tmp .nil)) | exact .cell (.cell (.cell .nil))) ?_
    have e : cpR lv (cys cl) ss lo hi height C = minR lv (cys cl) ss lo hi := if_pos (by simpa using h1)
    rw [e]
    rfl
  have e1 : minR lv (cys cl) ss lo hi = 0 := by simpa using h1
  have m := minR_ok e1
  have e : cpR lv (cys cl) ss lo hi height C = if 2000 < C.length then 2 else if (cutsB hi lo C && (prv (addF (cys cl) ss lo) lv height lo C (hi - lo + 1).toNat).isSome) = false then 8 else 0 := if_neg (by simp [e1])
  rw [e]
  (refine WK.skip ?_; refine WK.seq ?_; refine WK.seq ?_; refine WK.region ?_; refine St.move ?_)
  refine St.lenV rfl hv.len ?_
  (refine St.bin ?_; refine WO.nil ?_)
  refine St.splitC (fun h2 => ?_) (fun h2 => ?_)
  · rw [if_pos (by simp at h2; omega)]
    (refine WK.seq ?_; refine WK.region ?_; refine St.assign ?_; refine WO.nil ?_)
    refine St.ret (by first | exact .tmp .nil | exact .cell .nil | exact .cell (.tmp .nil) | exact .tmp (.tmp .nil) | exact .cell (.cell .nil) | exact .tmp (.cell .nil) | exact .nil | exact .tmp (.cell (.tmp .nil)) | exact .cell (.tmp (.tmp .nil)) | exact .cell (.cell (.tmp .nil)) | exact .tmp (.tmp (.tmp .nil)) | exact .cell (.cell (.cell .nil))) ?_
    rfl
  rw [if_neg (by simp at h2; omega)]
  have hl2 : C.length ≤ 1000000 := by simp at h2; omega
  (refine WK.skip ?_; refine WK.seq ?_; refine WK.seq ?_; refine WK.region ?_; refine St.load ?_; refine St.move ?_)
  refine St.call (fun _ => rfl) (fun h2 hh => areCuts_con h2 hh.gd lo hi v C (hv.vw hh) hl) ?_
  cases hcu : cutsB hi lo C with
  | false =>
    (refine St.un ?_; refine St.move ?_; refine St.skip ?_; refine St.skip ?_; refine St.skip ?_; refine St.skip ?_; refine St.skip ?_; refine St.skip ?_; refine St.pickT ?_; refine WO.nil ?_; refine WK.condT ?_; refine WK.seq ?_; refine WK.region ?_; refine St.assign ?_; refine WO.nil ?_)
    refine St.ret (by first | exact .tmp .nil | exact .cell .nil | exact .cell (.tmp .nil) | exact .tmp (.tmp .nil) | exact .cell (.cell .nil) | exact .tmp (.cell .nil) | exact .nil | exact .tmp (.cell (.tmp .nil)) | exact .cell (.tmp (.tmp .nil)) | exact .cell (.cell (.tmp .nil)) | exact .tmp (.tmp (.tmp .nil)) | exact .cell (.cell (.cell .nil))) ?_
    rfl
  | true =>
    obtain ⟨hC, _⟩ := cutsB_asc hcu
    (refine St.un ?_; refine St.move ?_; refine St.load ?_; refine St.load ?_; refine St.move ?_; refine St.move ?_)
    refine St.call (fun _ => rfl) (fun h2 hh => proves_con h2 hh.gd lv lo hi height cv sv v cl ss C (hc.vw hh) (hs.vw hh) (hv.vw hh) hl2 m hC) ?_
    have ef : (fun k : Nat => addA (cys cl) ss (lo + (k : Int))) = addF (cys cl) ss lo := rfl
    rw [ef]
    generalize (prv (addF (cys cl) ss lo) lv height lo C (hi - lo + 1).toNat).isSome = b
    cases b
    · (refine St.un ?_; refine St.pickF ?_; refine WO.nil ?_; refine WK.condT ?_; refine WK.seq ?_; refine WK.region ?_; refine St.assign ?_; refine WO.nil ?_)
      refine St.ret (by first | exact .tmp .nil | exact .cell .nil | exact .cell (.tmp .nil) | exact .tmp (.tmp .nil) | exact .cell (.cell .nil) | exact .tmp (.cell .nil) | exact .nil | exact .tmp (.cell (.tmp .nil)) | exact .cell (.tmp (.tmp .nil)) | exact .cell (.cell (.tmp .nil)) | exact .tmp (.tmp (.tmp .nil)) | exact .cell (.cell (.cell .nil))) ?_
      rfl
    · (refine St.un ?_; refine St.pickF ?_; refine WO.nil ?_; refine WK.condF ?_; refine WK.skip ?_; refine WK.seq ?_; refine WK.region ?_; refine St.assign ?_; refine WO.nil ?_)
      refine St.ret (by first | exact .tmp .nil | exact .cell .nil | exact .cell (.tmp .nil) | exact .tmp (.tmp .nil) | exact .cell (.cell .nil) | exact .tmp (.cell .nil) | exact .nil | exact .tmp (.cell (.tmp .nil)) | exact .cell (.tmp (.tmp .nil)) | exact .cell (.cell (.tmp .nil)) | exact .tmp (.tmp (.tmp .nil)) | exact .cell (.cell (.cell .nil))) ?_
      rfl
/-- what Prove returns, CheckProof accepts -/
theorem pv_cp {lv : Int} {cs : List Cy} {ss : List Sh} {lo hi height : Int} (h : (pvR lv cs ss lo hi height).2 = 0) : cpR lv cs ss lo hi height (pvR lv cs ss lo hi height).1 = 0 := by
  unfold pvR at h ⊢
  by_cases e1 : minR lv cs ss lo hi = 0
  rotate_left
  · rw [if_pos e1] at h
    exact absurd h e1
  have m := minR_ok e1
  have m1 := m.le
  have hA7 : ∀ k : Nat, (addF cs ss lo k).length = 7 := fun k => addK_len (Nat.le_refl _) m.w.n1
  rw [if_neg (by simp [e1])] at h ⊢
  cases hG : grd (addF cs ss lo) lv height lo (hi - lo + 1).toNat with
  | none =>
    rw [hG] at h
    cases h
  | some r =>
    obtain ⟨c, q⟩ := r
    rw [hG] at h
    have ep : pvS (some (c, q)) = if 2000 < c.length then ([], 2) else (c, 0) := rfl
    rw [ep] at h ⊢
    by_cases h2 : 2000 < c.length
    · rw [if_pos h2] at h
      cases h
    · rw [if_neg h2]
      obtain ⟨i1, i2, _, i4⟩ := grd_prv (addF cs ss lo) lv height lo hA7 hG
      have i5 := i4 [] (fun d hd => by cases hd)
      rw [List.append_nil] at i5
      have i6 : cutsB hi lo c = true := asc_cutsB i1 fun d hd => by
        have := i2 d hd
        omega
      unfold cpR
      rw [if_neg (by simp [e1]), if_neg h2, i5, i6]
      rfl
/-- cuts that CheckProof accepts: the water is so high, and Prove finds no more -/
theorem cp_pv {lv : Int} {cs : List Cy} {ss : List Sh} {lo hi height : Int} {C : List Int} (h : cpR lv cs ss lo hi height C = 0) : minR lv cs ss lo hi = 0 ∧ (∀ k : Nat, k < (hi - lo + 1).toNat → height ≤ lv + bareV cs ss (lo + (k : Int))) ∧ (pvR lv cs ss lo hi height).2 = 0 ∧ (pvR lv cs ss lo hi height).1.length ≤ C.length := by
  unfold cpR at h
  by_cases e1 : minR lv cs ss lo hi = 0
  rotate_left
  · rw [if_pos e1] at h
    exact absurd h e1
  have m := minR_ok e1
  have hA7 : ∀ k : Nat, (addF cs ss lo k).length = 7 := fun k => addK_len (Nat.le_refl _) m.w.n1
  rw [if_neg (by simp [e1])] at h
  by_cases h2 : 2000 < C.length
  · rw [if_pos h2] at h
    cases h
  rw [if_neg h2] at h
  cases hcu : cutsB hi lo C with
  | false =>
    rw [hcu] at h
    cases h
  | true =>
    cases hp : prv (addF cs ss lo) lv height lo C (hi - lo + 1).toNat with
    | none =>
      rw [hcu, hp] at h
      cases h
    | some p =>
      obtain ⟨i1, _, gg, q, i3, _, i5⟩ := grd_best (addF cs ss lo) lv height lo hA7 (cutsB_asc hcu).1 hp
      have i6 := cntC_le lo C (hi - lo + 1).toNat
      have i7 : gg.length ≤ C.length := by rcases i5 with i5 | i5 <;> omega
      have ep : pvR lv cs ss lo hi height = (gg, 0) := by
        unfold pvR
        rw [if_neg (by simp [e1]), i3]
        show (if 2000 < gg.length then ([], 2) else (gg, 0)) = (gg, (0 : Int))
        rw [if_neg (by omega)]
      refine ⟨e1, fun k hk => ?_, by rw [ep], by rw [ep]; exact i7⟩
      have := i1 k hk
      unfold sumL addF at this
      rw [addA_sum] at this
      exact this
end Go.Proofs.Ytekpffjcffeanaa
