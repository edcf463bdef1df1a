/- CheckOver over the calculator's memory. -/
import Derived.Test.YtcaemeedmnpdjaaMo
namespace Go.Proofs.Ytcaemeedmnpdjaa
open Go.Proofs.Ytcaemeedmnpdjaa.Ev

def pkEq (p q : Pk) : Bool := (p.ln == q.ln) && ((p.ld == q.ld) && ((p.hn == q.hn) && ((p.hd == q.hd) && ((p.al == q.al) && (p.ah == q.ah)))))
theorem pkEq_self (p : Pk) : pkEq p p = true := by simp [pkEq]
theorem pkEq_comm (p q : Pk) : pkEq p q = pkEq q p := by
  unfold pkEq
  have h : ∀ a b : Int, (a == b) = (b == a) := fun a b => by rw [Bool.eq_iff_iff, beq_iff_eq, beq_iff_eq]; exact eq_comm
  rw [h p.ln, h p.ld, h p.hn, h p.hd, h p.al, h p.ah]
set_option maxRecDepth 100000 in
theorem szF23 : sizeT Try.prog 23 = some 2 := by kernel_rfl
set_option maxRecDepth 100000 in
theorem pk_neq (p q : Pk) : evBin Try.prog .neq 47 (pkA p) (pkA q) = some (.bool (!pkEq p q)) := by
  unfold pkEq
  simp [pkA, evBin, evEq, guardOk, eqT, eqFs, partE, isAggT, szF23, takeN, dropN, nthN]
  cases p.ln == q.ln <;> cases p.ld == q.ld <;> cases p.hn == q.hn <;> cases p.hd == q.hd <;> cases p.al == q.al <;> cases p.ah == q.ah <;> rfl
set_option maxRecDepth 100000 in
theorem pk_eql (p q : Pk) : evBin Try.prog .eql 47 (pkA p) (pkA q) = some (.bool (pkEq p q)) := by
  unfold pkEq
  simp [pkA, evBin, evEq, guardOk, eqT, eqFs, partE, isAggT, szF23, takeN, dropN, nthN]
  cases p.ln == q.ln <;> cases p.ld == q.ld <;> cases p.hn == q.hn <;> cases p.hd == q.hd <;> cases p.al == q.al <;> cases p.ah == q.ah <;> rfl

def checkOverR (ks : List (Int × Int)) (err lo hi : Int) (p : Pk) : Int := if errOn ks err lo hi = 0 then (if pkEq (overK ks lo hi) p = true then 0 else 8) else errOn ks err lo hi
set_option maxRecDepth 100000 in
set_option maxHeartbeats 4000000 in
theorem checkOverP_con (h : Heap) (g : Gd h) (kv : AV) (ks : List (Int × Int)) (err lo hi : Int) (p : Pk) (hk : KnV h kv ks) (hl : ks.length ≤ 1000000000000) : Con Try.prog Bs 30 [.agg [kv, .int .i64 err], .agg [.int .i64 lo, .int .i64 hi], pkA p] h [] (.int .i64 (checkOverR ks err lo hi p)) [] := by
  by_cases hch : chk ks err = 0
  · have v := vd_of_chk hch
    obtain ⟨b, off, c, rfl, hk'⟩ := hk.ne v.ne
    have he := errOn_of (lo := lo) (hi := hi) hch
    refine Con.start rfl Try.func30 rfl rfl Try.ntmps30 rfl rfl g ?_
    (refine WK.seq ?_; refine WK.region ?_; refine St.box fun _ _ => ?_; refine St.box fun _ _ => ?_; refine St.box fun _ _ => ?_; refine St.assign ?_; refine WO.nil ?_; refine WK.seq ?_; refine WK.seq ?_; refine WK.region ?_; refine St.load ?_)
    refine St.call (fun _ => rfl) (fun h hh => check_con h hh.gd _ ks err (hk.vw hh) hl) ?_
    rw [hch]
    (refine St.assign ?_; refine WO.nil ?_; refine WK.seq ?_; refine WK.region ?_; refine St.move ?_; refine St.bin ?_; refine WO.nil ?_; refine WK.condF ?_; refine WK.skip ?_; refine WK.seq ?_; refine WK.seq ?_; refine WK.region ?_; refine St.load ?_; refine St.load ?_; refine St.mkS fun _ _ => ?_)
    rename_i i1 hi1
    refine St.call (v := .int .i64 (errOn ks err lo hi)) (fun _ => rfl) (fun h hh => by
      have := checkOn_con h hh.gd i1 0 (.k 1) [⟨.slice b off ks.length c, ks, err⟩] lo hi (by simp) (hh.cv1 (List.Mem.head _) rfl ((hk'.vw hh).v v.pos) (by omega)) (one_vd v)
      rw [he]
      exact this) ?_
    (refine St.assign ?_; refine WO.nil ?_; refine WK.seq ?_; refine WK.region ?_; refine St.move ?_; refine St.bin ?_; refine WO.nil ?_)
    refine St.splitC (fun hc => ?_) (fun hc => ?_)
    · have hc : errOn ks err lo hi ≠ 0 := by simpa using hc
      (refine WK.seq ?_; refine WK.region ?_; refine St.move ?_; refine St.assign ?_; refine WO.nil ?_)
      refine St.ret (by first | exact .tmp .nil | exact .cell .nil | exact .cell (.tmp .nil) | exact .tmp (.tmp .nil) | exact .cell (.cell .nil) | exact .tmp (.cell .nil) | exact .nil | exact .tmp (.cell (.tmp .nil)) | exact .cell (.tmp (.tmp .nil)) | exact .cell (.cell (.tmp .nil)) | exact .tmp (.tmp (.tmp .nil)) | exact .cell (.cell (.cell .nil))) ?_
      unfold checkOverR
      rw [if_neg hc]
      rfl
    · have hc : errOn ks err lo hi = 0 := by simpa using hc
      obtain ⟨_, hlh, hd⟩ := errOn_zero hc
      (refine WK.skip ?_; refine WK.seq ?_; refine WK.seq ?_; refine WK.regionD ?_; refine St.load ?_; refine St.load ?_)
      refine St.call (fun _ => rfl) (fun h hh => over_con h hh.gd b off c ks err lo hi v (hk'.vw hh) hlh hd) ?_
      (refine St.load ?_)
      refine St.binX (r := .bool (!pkEq (overK ks lo hi) p)) (pk_neq _ _) rfl rfl ?_
      (refine WO.nil ?_)
      refine St.splitC (fun hc2 => ?_) (fun hc2 => ?_)
      · (refine WK.seq ?_; refine WK.region ?_; refine St.assign ?_; refine WO.nil ?_)
        refine St.ret (by first | exact .tmp .nil | exact .cell .nil | exact .cell (.tmp .nil) | exact .tmp (.tmp .nil) | exact .cell (.cell .nil) | exact .tmp (.cell .nil) | exact .nil | exact .tmp (.cell (.tmp .nil)) | exact .cell (.tmp (.tmp .nil)) | exact .cell (.cell (.tmp .nil)) | exact .tmp (.tmp (.tmp .nil)) | exact .cell (.cell (.cell .nil))) ?_
        unfold checkOverR
        rw [if_pos hc, if_neg (by simpa using hc2)]
        rfl
      · (refine WK.skip ?_; refine WK.seq ?_; refine WK.region ?_; refine St.assign ?_; refine WO.nil ?_)
        refine St.ret (by first | exact .tmp .nil | exact .cell .nil | exact .cell (.tmp .nil) | exact .tmp (.tmp .nil) | exact .cell (.cell .nil) | exact .tmp (.cell .nil) | exact .nil | exact .tmp (.cell (.tmp .nil)) | exact .cell (.tmp (.tmp .nil)) | exact .cell (.cell (.tmp .nil)) | exact .tmp (.tmp (.tmp .nil)) | exact .cell (.cell (.cell .nil))) ?_
        unfold checkOverR
        rw [if_pos hc, if_pos (by simpa using hc2)]
        rfl
  · refine Con.start rfl Try.func30 rfl rfl Try.ntmps30 rfl rfl g ?_
    (refine WK.seq ?_; refine WK.region ?_; refine St.box fun _ _ => ?_; refine St.box fun _ _ => ?_; refine St.box fun _ _ => ?_; refine St.assign ?_; refine WO.nil ?_; refine WK.seq ?_; refine WK.seq ?_; refine WK.region ?_; refine St.load ?_)
    refine St.call (fun _ => rfl) (fun h hh => check_con h hh.gd _ ks err (hk.vw hh) hl) ?_
    (refine St.assign ?_; refine WO.nil ?_; refine WK.seq ?_; refine WK.region ?_; refine St.move ?_; refine St.bin ?_; refine WO.nil ?_)
    refine St.splitC (fun hc => ?_) (fun hc => ?_)
    · (refine WK.seq ?_; refine WK.region ?_; refine St.move ?_; refine St.assign ?_; refine WO.nil ?_)
      refine St.ret (by first | exact .tmp .nil | exact .cell .nil | exact .cell (.tmp .nil) | exact .tmp (.tmp .nil) | exact .cell (.cell .nil) | exact .tmp (.cell .nil) | exact .nil | exact .tmp (.cell (.tmp .nil)) | exact .cell (.tmp (.tmp .nil)) | exact .cell (.cell (.tmp .nil)) | exact .tmp (.tmp (.tmp .nil)) | exact .cell (.cell (.cell .nil))) ?_
      have he : errOn ks err lo hi = chk ks err := by unfold errOn; rw [if_neg hch]
      unfold checkOverR
      rw [he, if_neg hch]
      rfl
    · simp at hc; exact absurd hc hch
set_option maxRecDepth 100000 in
set_option maxHeartbeats 4000000 in
theorem checkOverRef_con (h : Heap) (g : Gd h) (kv : AV) (ks : List (Int × Int)) (err lo hi : Int) (p : Pk) (hk : KnV h kv ks) (hl : ks.length ≤ 1000000000000) : Con Try.prog Bs 31 [.agg [kv, .int .i64 err], .agg [.int .i64 lo, .int .i64 hi], pkA p] h [] (.int .i64 (checkOverR ks err lo hi p)) [] := by
  have hO : ∀ (h2 : Heap) {V : Ob}, Vw h [] V h2 → Con Try.prog Bs 29 [.agg [kv, .int .i64 err], .agg [.int .i64 lo, .int .i64 hi]] h2 [] (avP (overR ks err lo hi)) [] := fun h2 V hh => by
    have := overRef_con h2 hh.gd kv ks err lo hi (hk.vw hh) hl
    rw [overE_eq] at this
    exact this
  refine Con.start rfl Try.func31 rfl rfl Try.ntmps31 rfl rfl g ?_
  (refine WK.seq ?_; refine WK.region ?_; refine St.box fun _ _ => ?_; refine St.box fun _ _ => ?_; refine St.box fun _ _ => ?_; refine St.assign ?_; refine WO.nil ?_; refine WK.seq ?_; refine WK.region ?_; refine St.load ?_; refine St.load ?_)
  refine St.call (fun _ => rfl) (fun h2 hh => hO h2 hh) ?_
  by_cases hc : errOn ks err lo hi = 0
  · rw [show overR ks err lo hi = ⟨overK ks lo hi, 0⟩ by unfold overR; rw [if_pos hc]]
    (refine St.move ?_; refine St.extract ?_; refine St.extract ?_; refine St.alloc fun _ _ => ?_; refine St.store0 ?_; refine St.assign ?_; refine WO.nil ?_; refine WK.seq ?_; refine WK.seq ?_; refine WK.region ?_; refine St.move ?_; refine St.bin ?_; refine WO.nil ?_; refine WK.condF ?_; refine WK.skip ?_; refine WK.seq ?_; refine WK.seq ?_; refine WK.region ?_; refine St.load ?_; refine St.load ?_)
    refine St.binX (r := .bool (!pkEq p (overK ks lo hi))) (pk_neq _ _) rfl rfl ?_
    (refine WO.nil ?_)
    refine St.splitC (fun hc2 => ?_) (fun hc2 => ?_)
    · (refine WK.seq ?_; refine WK.region ?_; refine St.assign ?_; refine WO.nil ?_)
      refine St.ret (by first | exact .tmp .nil | exact .cell .nil | exact .cell (.tmp .nil) | exact .tmp (.tmp .nil) | exact .cell (.cell .nil) | exact .tmp (.cell .nil) | exact .nil | exact .tmp (.cell (.tmp .nil)) | exact .cell (.tmp (.tmp .nil)) | exact .cell (.cell (.tmp .nil)) | exact .tmp (.tmp (.tmp .nil)) | exact .cell (.cell (.cell .nil))) ?_
      rw [pkEq_comm] at hc2
      unfold checkOverR
      rw [if_pos hc, if_neg (by simpa using hc2)]
      rfl
    · (refine WK.skip ?_; refine WK.seq ?_; refine WK.region ?_; refine St.assign ?_; refine WO.nil ?_)
      refine St.ret (by first | exact .tmp .nil | exact .cell .nil | exact .cell (.tmp .nil) | exact .tmp (.tmp .nil) | exact .cell (.cell .nil) | exact .tmp (.cell .nil) | exact .nil | exact .tmp (.cell (.tmp .nil)) | exact .cell (.tmp (.tmp .nil)) | exact .cell (.cell (.tmp .nil)) | exact .tmp (.tmp (.tmp .nil)) | exact .cell (.cell (.cell .nil))) ?_
      rw [pkEq_comm] at hc2
      unfold checkOverR
      rw [if_pos hc, if_pos (by simpa using hc2)]
      rfl
  · rw [show overR ks err lo hi = ⟨⟨0, 0, 0, 0, 0, 0⟩, errOn ks err lo hi⟩ by unfold overR; rw [if_neg hc]]
    (refine St.move ?_; refine St.extract ?_; refine St.extract ?_; refine St.alloc fun _ _ => ?_; refine St.store0 ?_; refine St.assign ?_; refine WO.nil ?_; refine WK.seq ?_; refine WK.seq ?_; refine WK.region ?_; refine St.move ?_; refine St.bin ?_; refine WO.nil ?_)
    refine St.splitC (fun hc2 => ?_) (fun hc2 => ?_)
    · (refine WK.seq ?_; refine WK.region ?_; refine St.move ?_; refine St.assign ?_; refine WO.nil ?_)
      refine St.ret (by first | exact .tmp .nil | exact .cell .nil | exact .cell (.tmp .nil) | exact .tmp (.tmp .nil) | exact .cell (.cell .nil) | exact .tmp (.cell .nil) | exact .nil | exact .tmp (.cell (.tmp .nil)) | exact .cell (.tmp (.tmp .nil)) | exact .cell (.cell (.tmp .nil)) | exact .tmp (.tmp (.tmp .nil)) | exact .cell (.cell (.cell .nil))) ?_
      unfold checkOverR
      rw [if_neg hc]
      rfl
    · simp at hc2; exact absurd hc2 hc
end Go.Proofs.Ytcaemeedmnpdjaa
