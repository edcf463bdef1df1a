/- The reference's Height over the calculator's memory; the laws' few; the law TideChecks. -/
import Derived.Test.YtaobicfidejfbaaUc
namespace Go.Proofs.Ytaobicfidejfbaa
open Go.Proofs.Ytaobicfidejfbaa.Ev

def fewB (l : List Cw) (ss : List Sh) : Bool := (l.all fun w => decide (w.c.hs.length ≤ 100)) && (decide (l.length ≤ 8) && decide (ss.length ≤ 30))
set_option maxRecDepth 100000 in
set_option maxHeartbeats 8000000 in
theorem few_con (h : Heap) (g : Gd h) (lv : Int) (cv sv : AV) (l : List Cw) (ss : List Sh) (hc : CyV h cv l) (hs : ShV h sv ss) (hl : l.length ≤ 9223372036854775807) :
    Con Try.prog Bs 4 [.agg [.int .i64 lv, cv, sv]] h [] (.bool (fewB l ss)) [] := by
  refine Con.start rfl Try.func4 rfl rfl Try.ntmps4 rfl rfl g ?_
  (refine WK.seq ?_; refine WK.region ?_; refine St.box fun _ _ => ?_; refine St.assign ?_; refine WO.nil ?_; refine WK.seq ?_; refine WK.seq ?_; refine WK.region ?_; refine St.assign ?_; refine WO.nil ?_; refine WK.block ?_)
  rename_i p hp
  by_cases hn : l.length = 0
  · have e1 : l = [] := List.length_eq_zero_iff.1 hn
    subst e1
    refine WK.unroll ?_
    (refine WK.seq ?_; refine WK.seq ?_; refine WK.region ?_; refine St.move ?_; refine St.fieldAddr ?_; refine St.load ?_)
    refine St.lenV rfl hc.len ?_
    (refine St.bin ?_; refine WO.nil ?_; refine WK.condF ?_; refine WK.exit ?_; refine WK.seq ?_; refine WK.region ?_; refine St.fieldAddr ?_; refine St.load ?_)
    refine St.lenV rfl hc.len ?_
    (refine St.bin ?_; refine St.move ?_; refine St.fieldAddr ?_; refine St.load ?_)
    refine St.lenV rfl hs.len ?_
    (refine St.bin ?_; refine St.pickT ?_; refine St.assign ?_; refine WO.nil ?_)
    refine St.ret (by first | exact .tmp .nil | exact .cell .nil | exact .cell (.tmp .nil) | exact .tmp (.tmp .nil) | exact .cell (.cell .nil) | exact .tmp (.cell .nil) | exact .nil | exact .tmp (.cell (.tmp .nil)) | exact .cell (.tmp (.tmp .nil)) | exact .cell (.cell (.tmp .nil)) | exact .tmp (.tmp (.tmp .nil)) | exact .cell (.cell (.cell .nil))) ?_
    simp [oneOf, fewB]
    omega
  obtain ⟨b, off, c, rfl, hk⟩ := hc.ne (by omega)
  refine WK.inv (ι := Nat) (fun z => [(1, .ptr p 0), (2, .bool false), (3, .int .i64 z)]) (fun _ => [(p, .cells [.int .i64 lv, .slice b off l.length c, sv] 25)]) (fun z => z ≤ l.length ∧ ∀ i, i < z → (nthW l i).c.hs.length ≤ 100) (fun z => l.length - z) 0 ⟨by omega, fun i hi => absurd hi (by omega)⟩ ⟨rfl, rfl, rfl, trivial⟩ (by (repeat (first | exact List.Sublist.refl _ | exact List.nil_sublist _ | apply List.Sublist.cons_cons | apply List.Sublist.cons))) ?_
  rintro k ⟨hkl, hall⟩ ih
  (refine WK.seq ?_; refine WK.seq ?_; refine WK.region ?_; refine St.move ?_; refine St.fieldAddr ?_; refine St.load ?_; refine St.len ?_; refine St.bin ?_; refine WO.nil ?_)
  refine St.splitC (fun hcc => ?_) (fun hcc => ?_)
  · have hlt : k < l.length := by simp at hcc; omega
    have hit := (hk k hlt).2
    (refine WK.skip ?_; refine WK.seq ?_; refine WK.block ?_; refine WK.seq ?_; refine WK.region ?_; refine St.fieldAddr ?_; refine St.load ?_; refine St.move ?_)
    refine St.at ?_
    (refine St.fieldAddr ?_)
    refine St.loadX (fun h hh => ((hk.vw hh).hs_ (z := (k : Int)) (n := k) (by omega) hlt).one rfl) ?_
    skip
    refine St.lenV rfl hit.len ?_
    (refine St.bin ?_; refine WO.nil ?_)
    refine St.splitC (fun h2 => ?_) (fun h2 => ?_)
    · (refine WK.seq ?_; refine WK.region ?_; refine St.assign ?_; refine WO.nil ?_)
      refine St.ret (by first | exact .tmp .nil | exact .cell .nil | exact .cell (.tmp .nil) | exact .tmp (.tmp .nil) | exact .cell (.cell .nil) | exact .tmp (.cell .nil) | exact .nil | exact .tmp (.cell (.tmp .nil)) | exact .cell (.tmp (.tmp .nil)) | exact .cell (.cell (.tmp .nil)) | exact .tmp (.tmp (.tmp .nil)) | exact .cell (.cell (.cell .nil))) ?_
      have : fewB l ss = false := by
        unfold fewB
        rw [show (l.all fun w => decide (w.c.hs.length ≤ 100)) = false from by
          rw [List.all_eq_false]
          refine ⟨l[k], List.getElem_mem hlt, ?_⟩
          rw [← nthW_eq hlt]
          simp at h2 ⊢
          omega]
        rfl
      rw [this]; rfl
    · (refine WK.skip ?_; refine WK.blk ?_; refine WK.region ?_; refine St.move ?_; refine St.binI ?_; refine St.assign ?_; refine WO.nil ?_)
      refine WK.le ?_ (by (repeat (first | exact List.Sublist.refl _ | exact List.nil_sublist _ | apply List.Sublist.cons_cons | apply List.Sublist.cons))) (ih (k + 1) ⟨hlt, fun i hi => ?_⟩ (by omega))
      · exact ⟨rfl, rfl, rfl, trivial⟩
      · rcases Nat.lt_succ_iff_lt_or_eq.1 hi with h3 | rfl
        · exact hall i h3
        · simp at h2; omega
  · have : k = l.length := by simp at hcc; omega
    subst this
    have hA : (l.all fun w => decide (w.c.hs.length ≤ 100)) = true := by
      rw [List.all_eq_true]
      intro w hw
      obtain ⟨i, hi, rfl⟩ := List.getElem_of_mem hw
      have := hall i hi
      rw [nthW_eq hi] at this
      simpa using this
    clear ih
    (refine WK.exit ?_; refine WK.seq ?_; refine WK.region ?_; refine St.fieldAddr ?_; refine St.load ?_; refine St.len ?_; refine St.bin ?_; refine St.move ?_)
    refine St.split (fun h3 => ?_) (fun h3 => ?_)
    · (refine St.fieldAddr ?_; refine St.load ?_)
      refine St.lenV rfl hs.len ?_
      (refine St.bin ?_; refine St.pickT ?_; refine St.assign ?_; refine WO.nil ?_)
      refine St.ret (by first | exact .tmp .nil | exact .cell .nil | exact .cell (.tmp .nil) | exact .tmp (.tmp .nil) | exact .cell (.cell .nil) | exact .tmp (.cell .nil) | exact .nil | exact .tmp (.cell (.tmp .nil)) | exact .cell (.tmp (.tmp .nil)) | exact .cell (.cell (.tmp .nil)) | exact .tmp (.tmp (.tmp .nil)) | exact .cell (.cell (.cell .nil))) ?_
      have e8 : decide (l.length ≤ 8) = true := by simp at h3 ⊢; omega
      have e30 : decide ((ss.length : Int) ≤ 30) = decide (ss.length ≤ 30) := by rw [Bool.eq_iff_iff]; simp; omega
      unfold fewB
      rw [hA, e8, ← e30]
      rfl
    · (refine St.skip ?_; refine St.skip ?_; refine St.skip ?_; refine St.skip ?_; refine St.pickF ?_; refine St.assign ?_; refine WO.nil ?_)
      refine St.ret (by first | exact .tmp .nil | exact .cell .nil | exact .cell (.tmp .nil) | exact .tmp (.tmp .nil) | exact .cell (.cell .nil) | exact .tmp (.cell .nil) | exact .nil | exact .tmp (.cell (.tmp .nil)) | exact .cell (.tmp (.tmp .nil)) | exact .cell (.cell (.tmp .nil)) | exact .tmp (.tmp (.tmp .nil)) | exact .cell (.cell (.cell .nil))) ?_
      have e8 : decide (l.length ≤ 8) = false := by simp at h3 ⊢; omega
      unfold fewB
      rw [hA, e8]
      rfl
end Go.Proofs.Ytaobicfidejfbaa
