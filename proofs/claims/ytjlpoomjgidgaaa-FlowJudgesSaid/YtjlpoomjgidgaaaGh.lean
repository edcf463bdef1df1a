/- Layer 5: SameTrade of the same lists; few; the law FlowChecks: the walk. -/
import Derived.Test.YtjlpoomjgidgaaaGg
namespace Go.Proofs.Ytjlpoomjgidgaaa
open Go.Proofs.Ytjlpoomjgidgaaa.Ev

/-- what few says -/
def fewB (hs : List Ho) (ms : List Mv) : Bool := (Bool.or (decide (hs.length ≤ 5)) (decide (9 < hs.length) && decide (hs.length ≤ 20))) && (Bool.or (decide (ms.length ≤ 9)) (decide (24 < ms.length) && decide (ms.length ≤ 40)))
set_option maxRecDepth 100000 in
set_option maxHeartbeats 8000000 in
theorem few_con' (h : Heap) (g : Gd h) (hv mv : AV) (hs : List Ho) (ms : List Mv) (h1 : HoV h hv hs) (m1 : MvV h mv ms) : Con Try.prog Bs 4 [.agg [hv, mv]] h [] (.bool (fewB hs ms)) [] := by
  refine Con.start rfl Try.func4 rfl rfl Try.ntmps4 rfl rfl g ?_
  (refine WK.seq ?_; refine WK.region ?_; refine St.box fun _ _ => ?_; refine St.assign ?_; refine WO.nil ?_; refine WK.seq ?_; refine WK.region ?_; refine St.fieldAddr ?_; refine St.load ?_)
  refine St.lenG rfl h1.hlen ?_
  (refine St.bin ?_; refine St.move ?_)
  refine St.split (fun a1 => ?_) (fun a1 => ?_)
  · simp at a1
    have a1' : hs.length ≤ 5 := by omega
    (refine St.skip ?_; refine St.skip ?_; refine St.skip ?_; refine St.skip ?_; refine St.skip ?_; refine St.skip ?_; refine St.skip ?_; refine St.skip ?_; refine St.skip ?_; refine St.skip ?_; refine St.pickT ?_; refine St.move ?_; refine St.fieldAddr ?_; refine St.load ?_)
    refine St.lenG rfl m1.mlen ?_
    (refine St.bin ?_; refine St.move ?_)
    refine St.split (fun b1 => ?_) (fun b1 => ?_)
    · simp at b1
      have b1' : ms.length ≤ 9 := by omega
      (refine St.skip ?_; refine St.skip ?_; refine St.skip ?_; refine St.skip ?_; refine St.skip ?_; refine St.skip ?_; refine St.skip ?_; refine St.skip ?_; refine St.skip ?_; refine St.skip ?_; refine St.pickT ?_; refine St.pickT ?_; refine St.assign ?_; refine WO.nil ?_)
      refine St.ret (by first | exact .tmp .nil | exact .cell .nil | exact .cell (.tmp .nil) | exact .tmp (.tmp .nil) | exact .cell (.cell .nil) | exact .tmp (.cell .nil) | exact .nil | exact .tmp (.cell (.tmp .nil)) | exact .cell (.tmp (.tmp .nil)) | exact .cell (.cell (.tmp .nil)) | exact .tmp (.tmp (.tmp .nil)) | exact .cell (.cell (.cell .nil))) ?_
      simp [oneOf, fewB, a1', b1']
    simp at b1
    have b1' : ¬ ms.length ≤ 9 := by omega
    (refine St.fieldAddr ?_; refine St.load ?_)
    refine St.lenG rfl m1.mlen ?_
    (refine St.bin ?_; refine St.move ?_)
    refine St.split (fun b2 => ?_) (fun b2 => ?_)
    · simp at b2
      have b2' : 24 < ms.length := by omega
      (refine St.fieldAddr ?_; refine St.load ?_)
      refine St.lenG rfl m1.mlen ?_
      (refine St.bin ?_; refine St.pickT ?_; refine St.pickF ?_; refine St.pickT ?_; refine St.assign ?_; refine WO.nil ?_)
      refine St.ret (by first | exact .tmp .nil | exact .cell .nil | exact .cell (.tmp .nil) | exact .tmp (.tmp .nil) | exact .cell (.cell .nil) | exact .tmp (.cell .nil) | exact .nil | exact .tmp (.cell (.tmp .nil)) | exact .cell (.tmp (.tmp .nil)) | exact .cell (.cell (.tmp .nil)) | exact .tmp (.tmp (.tmp .nil)) | exact .cell (.cell (.cell .nil))) ?_
      simp [oneOf, fewB, a1', b1', b2']
      omega
    · simp at b2
      have b2' : ¬ 24 < ms.length := by omega
      (refine St.skip ?_; refine St.skip ?_; refine St.skip ?_; refine St.skip ?_; refine St.pickF ?_; refine St.pickF ?_; refine St.pickT ?_; refine St.assign ?_; refine WO.nil ?_)
      refine St.ret (by first | exact .tmp .nil | exact .cell .nil | exact .cell (.tmp .nil) | exact .tmp (.tmp .nil) | exact .cell (.cell .nil) | exact .tmp (.cell .nil) | exact .nil | exact .tmp (.cell (.tmp .nil)) | exact .cell (.tmp (.tmp .nil)) | exact .cell (.cell (.tmp .nil)) | exact .tmp (.tmp (.tmp .nil)) | exact .cell (.cell (.cell .nil))) ?_
      simp [oneOf, fewB, a1', b1', b2']
  simp at a1
  have a1' : ¬ hs.length ≤ 5 := by omega
  (refine St.fieldAddr ?_; refine St.load ?_)
  refine St.lenG rfl h1.hlen ?_
  (refine St.bin ?_; refine St.move ?_)
  refine St.split (fun a2 => ?_) (fun a2 => ?_)
  · simp at a2
    have a2' : 9 < hs.length := by omega
    (refine St.fieldAddr ?_; refine St.load ?_)
    refine St.lenG rfl h1.hlen ?_
    by_cases a3' : hs.length ≤ 20
    · refine St.bin (r := .bool true) ?_ (he := by show some (AV.bool (decide ((hs.length : Int) ≤ 20))) = _; rw [decide_eq_true (by omega)]) 
      (refine St.pickT ?_; refine St.pickF ?_; refine St.move ?_; refine St.fieldAddr ?_; refine St.load ?_)
      refine St.lenG rfl m1.mlen ?_
      (refine St.bin ?_; refine St.move ?_)
      refine St.split (fun b1 => ?_) (fun b1 => ?_)
      · simp at b1
        have b1' : ms.length ≤ 9 := by omega
        (refine St.skip ?_; refine St.skip ?_; refine St.skip ?_; refine St.skip ?_; refine St.skip ?_; refine St.skip ?_; refine St.skip ?_; refine St.skip ?_; refine St.skip ?_; refine St.skip ?_; refine St.pickT ?_; refine St.pickT ?_; refine St.assign ?_; refine WO.nil ?_)
        refine St.ret (by first | exact .tmp .nil | exact .cell .nil | exact .cell (.tmp .nil) | exact .tmp (.tmp .nil) | exact .cell (.cell .nil) | exact .tmp (.cell .nil) | exact .nil | exact .tmp (.cell (.tmp .nil)) | exact .cell (.tmp (.tmp .nil)) | exact .cell (.cell (.tmp .nil)) | exact .tmp (.tmp (.tmp .nil)) | exact .cell (.cell (.cell .nil))) ?_
        simp [oneOf, fewB, a1', a2', a3', b1']
      simp at b1
      have b1' : ¬ ms.length ≤ 9 := by omega
      (refine St.fieldAddr ?_; refine St.load ?_)
      refine St.lenG rfl m1.mlen ?_
      (refine St.bin ?_; refine St.move ?_)
      refine St.split (fun b2 => ?_) (fun b2 => ?_)
      · simp at b2
        have b2' : 24 < ms.length := by omega
        (refine St.fieldAddr ?_; refine St.load ?_)
        refine St.lenG rfl m1.mlen ?_
        (refine St.bin ?_; refine St.pickT ?_; refine St.pickF ?_; refine St.pickT ?_; refine St.assign ?_; refine WO.nil ?_)
        refine St.ret (by first | exact .tmp .nil | exact .cell .nil | exact .cell (.tmp .nil) | exact .tmp (.tmp .nil) | exact .cell (.cell .nil) | exact .tmp (.cell .nil) | exact .nil | exact .tmp (.cell (.tmp .nil)) | exact .cell (.tmp (.tmp .nil)) | exact .cell (.cell (.tmp .nil)) | exact .tmp (.tmp (.tmp .nil)) | exact .cell (.cell (.cell .nil))) ?_
        simp [oneOf, fewB, a1', a2', a3', b1', b2']
        omega
      · simp at b2
        have b2' : ¬ 24 < ms.length := by omega
        (refine St.skip ?_; refine St.skip ?_; refine St.skip ?_; refine St.skip ?_; refine St.pickF ?_; refine St.pickF ?_; refine St.pickT ?_; refine St.assign ?_; refine WO.nil ?_)
        refine St.ret (by first | exact .tmp .nil | exact .cell .nil | exact .cell (.tmp .nil) | exact .tmp (.tmp .nil) | exact .cell (.cell .nil) | exact .tmp (.cell .nil) | exact .nil | exact .tmp (.cell (.tmp .nil)) | exact .cell (.tmp (.tmp .nil)) | exact .cell (.cell (.tmp .nil)) | exact .tmp (.tmp (.tmp .nil)) | exact .cell (.cell (.cell .nil))) ?_
        simp [oneOf, fewB, a1', a2', a3', b1', b2']
    · refine St.bin (r := .bool false) ?_ (he := by show some (AV.bool (decide ((hs.length : Int) ≤ 20))) = _; rw [decide_eq_false (by omega)]) 
      (refine St.pickT ?_; refine St.pickF ?_; refine St.move ?_; refine St.skip ?_; refine St.skip ?_; refine St.skip ?_; refine St.skip ?_; refine St.skip ?_; refine St.skip ?_; refine St.skip ?_; refine St.skip ?_; refine St.skip ?_; refine St.skip ?_; refine St.skip ?_; refine St.skip ?_; refine St.skip ?_; refine St.skip ?_; refine St.skip ?_; refine St.skip ?_; refine St.pickF ?_; refine St.assign ?_; refine WO.nil ?_)
      refine St.ret (by first | exact .tmp .nil | exact .cell .nil | exact .cell (.tmp .nil) | exact .tmp (.tmp .nil) | exact .cell (.cell .nil) | exact .tmp (.cell .nil) | exact .nil | exact .tmp (.cell (.tmp .nil)) | exact .cell (.tmp (.tmp .nil)) | exact .cell (.cell (.tmp .nil)) | exact .tmp (.tmp (.tmp .nil)) | exact .cell (.cell (.cell .nil))) ?_
      simp [oneOf, fewB, a1', a2', a3']
  · simp at a2
    have a2' : ¬ 9 < hs.length := by omega
    (refine St.skip ?_; refine St.skip ?_; refine St.skip ?_; refine St.skip ?_; refine St.pickF ?_; refine St.pickF ?_; refine St.move ?_; refine St.skip ?_; refine St.skip ?_; refine St.skip ?_; refine St.skip ?_; refine St.skip ?_; refine St.skip ?_; refine St.skip ?_; refine St.skip ?_; refine St.skip ?_; refine St.skip ?_; refine St.skip ?_; refine St.skip ?_; refine St.skip ?_; refine St.skip ?_; refine St.skip ?_; refine St.skip ?_; refine St.pickF ?_; refine St.assign ?_; refine WO.nil ?_)
    refine St.ret (by first | exact .tmp .nil | exact .cell .nil | exact .cell (.tmp .nil) | exact .tmp (.tmp .nil) | exact .cell (.cell .nil) | exact .tmp (.cell .nil) | exact .nil | exact .tmp (.cell (.tmp .nil)) | exact .cell (.tmp (.tmp .nil)) | exact .cell (.cell (.tmp .nil)) | exact .tmp (.tmp (.tmp .nil)) | exact .cell (.cell (.cell .nil))) ?_
    simp [oneOf, fewB, a1', a2']
end Go.Proofs.Ytjlpoomjgidgaaa
