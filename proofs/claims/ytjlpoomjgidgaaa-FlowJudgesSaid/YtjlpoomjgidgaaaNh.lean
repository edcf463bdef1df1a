/- Layer 5: the specification's CheckCourse; the law's course. -/
import Derived.Test.YtjlpoomjgidgaaaNg
import Derived.Test.YtjlpoomjgidgaaaGf
namespace Go.Proofs.Ytjlpoomjgidgaaa
open Go.Proofs.Ytjlpoomjgidgaaa.Ev

/-- what CheckCourse returns -/
def couE (hs : List Ho) (ms : List Mv) (ss es xs : List Int) : Int := if chkT hs ms ≠ 0 then chkT hs ms else if fits hs ms ss es xs = true then 0 else 8
set_option maxRecDepth 100000 in
set_option maxHeartbeats 8000000 in
theorem RCheckCourse_con (h : Heap) (g : Gd h) (hv mv sv ev xv : AV) (hs : List Ho) (ms : List Mv) (ss es xs : List Int) (hh : HoA h hv hs) (hm : MvA h mv ms) (hs1 : InV h sv ss) (he1 : InV h ev es) (hx1 : InV h xv xs) :
    Con Try.prog Bs 10 [.agg [hv, mv], .agg [sv, ev, xv]] h [] (.int .i64 (couE hs ms ss es xs)) [] := by
  refine Con.start rfl Try.func10 rfl rfl Try.ntmps10 rfl rfl g ?_
  (refine WK.seq ?_; refine WK.region ?_; refine St.box fun _ _ => ?_; refine St.box fun _ _ => ?_; refine St.assign ?_; refine WO.nil ?_; refine WK.seq ?_; refine WK.region ?_; refine St.load ?_)
  rename_i p2 hp2 p3 hp3
  refine St.call (fun _ => rfl) (fun h2 hh2 => rcheck_con h2 hh2.gd hv mv hs ms (hh.vw hh2) (hm.vw hh2)) ?_
  (refine St.assign ?_; refine WO.nil ?_; refine WK.seq ?_; refine WK.seq ?_; refine WK.region ?_; refine St.move ?_; refine St.bin ?_; refine WO.nil ?_)
  refine St.splitC (fun q => ?_) (fun q => ?_)
  · have hne : chkT hs ms ≠ 0 := by simpa using q
    (refine WK.seq ?_; refine WK.region ?_; refine St.move ?_; refine St.assign ?_; refine WO.nil ?_)
    refine St.ret (by first | exact .tmp .nil | exact .cell .nil | exact .cell (.tmp .nil) | exact .tmp (.tmp .nil) | exact .cell (.cell .nil) | exact .tmp (.cell .nil) | exact .nil | exact .tmp (.cell (.tmp .nil)) | exact .cell (.tmp (.tmp .nil)) | exact .cell (.cell (.tmp .nil)) | exact .tmp (.tmp (.tmp .nil)) | exact .cell (.cell (.cell .nil))) ?_
    unfold couE
    rw [if_pos hne]
    rfl
  have he : chkT hs ms = 0 := by simpa using q
  obtain ⟨l1, l2⟩ := chkT_len he
  obtain ⟨b1, b2⟩ := chkT_bd he
  have eE : couE hs ms ss es xs = if fits hs ms ss es xs = true then 0 else 8 := if_neg (by simp [he])
  rw [eE]
  (refine WK.skip ?_; refine WK.seq ?_; refine WK.region ?_; refine St.load ?_; refine St.load ?_)
  refine St.call (fun _ => rfl) (fun h2 hh2 => fits_con h2 hh2.gd hv mv sv ev xv hs ms ss es xs (hh.eV.vw hh2) (hm.eV.vw hh2) (hs1.vw hh2) (he1.vw hh2) (hx1.vw hh2) (by omega) (by omega) b1 b2) ?_
  cases fits hs ms ss es xs
  · (refine St.assign ?_; refine WO.nil ?_; refine WK.seq ?_; refine WK.seq ?_; refine WK.region ?_; refine St.move ?_; refine St.un ?_; refine WO.nil ?_; refine WK.condT ?_; refine WK.seq ?_; refine WK.region ?_; refine St.assign ?_; refine WO.nil ?_)
    refine St.ret (by first | exact .tmp .nil | exact .cell .nil | exact .cell (.tmp .nil) | exact .tmp (.tmp .nil) | exact .cell (.cell .nil) | exact .tmp (.cell .nil) | exact .nil | exact .tmp (.cell (.tmp .nil)) | exact .cell (.tmp (.tmp .nil)) | exact .cell (.cell (.tmp .nil)) | exact .tmp (.tmp (.tmp .nil)) | exact .cell (.cell (.cell .nil))) ?_
    rfl
  · (refine St.assign ?_; refine WO.nil ?_; refine WK.seq ?_; refine WK.seq ?_; refine WK.region ?_; refine St.move ?_; refine St.un ?_; refine WO.nil ?_; refine WK.condF ?_; refine WK.skip ?_; refine WK.seq ?_; refine WK.region ?_; refine St.assign ?_; refine WO.nil ?_)
    refine St.ret (by first | exact .tmp .nil | exact .cell .nil | exact .cell (.tmp .nil) | exact .tmp (.tmp .nil) | exact .cell (.cell .nil) | exact .tmp (.cell .nil) | exact .nil | exact .tmp (.cell (.tmp .nil)) | exact .cell (.tmp (.tmp .nil)) | exact .cell (.cell (.tmp .nil)) | exact .tmp (.tmp (.tmp .nil)) | exact .cell (.cell (.cell .nil))) ?_
    rfl
set_option maxRecDepth 100000 in
theorem course_con (h : Heap) (g : Gd h) (sv ev xv : AV) (ss es xs : List Int) (hs1 : InV h sv ss) (he1 : InV h ev es) (hx1 : InV h xv xs) :
    Con Try.prog Bs 5 [.agg [sv, ev, xv]] h [] (.bool (decide (ss.length ≤ 60) && (decide (es.length ≤ 60) && decide (xs.length ≤ 60)))) [] := by
  refine Con.start rfl Try.func5 rfl rfl Try.ntmps5 rfl rfl g ?_
  (refine WK.seq ?_; refine WK.region ?_; refine St.box fun _ _ => ?_; refine St.assign ?_; refine WO.nil ?_; refine WK.seq ?_; refine WK.region ?_; refine St.fieldAddr ?_; refine St.load ?_)
  refine St.lenG rfl hs1.ilen ?_
  (refine St.bin ?_; refine St.move ?_)
  refine St.split (fun q1 => ?_) (fun q1 => ?_)
  · have a1 : ss.length ≤ 60 := by simp at q1; omega
    (refine St.fieldAddr ?_; refine St.load ?_)
    refine St.lenG rfl he1.ilen ?_
    (refine St.bin ?_; refine St.pickT ?_; refine St.move ?_)
    refine St.split (fun q2 => ?_) (fun q2 => ?_)
    · have a2 : es.length ≤ 60 := by simp at q2; omega
      (refine St.fieldAddr ?_; refine St.load ?_)
      refine St.lenG rfl hx1.ilen ?_
      (refine St.bin ?_; refine St.pickT ?_; refine St.assign ?_; refine WO.nil ?_)
      refine St.ret (by first | exact .tmp .nil | exact .cell .nil | exact .cell (.tmp .nil) | exact .tmp (.tmp .nil) | exact .cell (.cell .nil) | exact .tmp (.cell .nil) | exact .nil | exact .tmp (.cell (.tmp .nil)) | exact .cell (.tmp (.tmp .nil)) | exact .cell (.cell (.tmp .nil)) | exact .tmp (.tmp (.tmp .nil)) | exact .cell (.cell (.cell .nil))) ?_
      simp [oneOf, a1, a2]
      omega
    · have a2 : ¬ es.length ≤ 60 := by simp at q2; omega
      (refine St.skip ?_; refine St.skip ?_; refine St.skip ?_; refine St.skip ?_; refine St.pickF ?_; refine St.assign ?_; refine WO.nil ?_)
      refine St.ret (by first | exact .tmp .nil | exact .cell .nil | exact .cell (.tmp .nil) | exact .tmp (.tmp .nil) | exact .cell (.cell .nil) | exact .tmp (.cell .nil) | exact .nil | exact .tmp (.cell (.tmp .nil)) | exact .cell (.tmp (.tmp .nil)) | exact .cell (.cell (.tmp .nil)) | exact .tmp (.tmp (.tmp .nil)) | exact .cell (.cell (.cell .nil))) ?_
      simp [oneOf, a1, a2]
  · have a1 : ¬ ss.length ≤ 60 := by simp at q1; omega
    (refine St.skip ?_; refine St.skip ?_; refine St.skip ?_; refine St.skip ?_; refine St.pickF ?_; refine St.move ?_; refine St.skip ?_; refine St.skip ?_; refine St.skip ?_; refine St.skip ?_; refine St.pickF ?_; refine St.assign ?_; refine WO.nil ?_)
    refine St.ret (by first | exact .tmp .nil | exact .cell .nil | exact .cell (.tmp .nil) | exact .tmp (.tmp .nil) | exact .cell (.cell .nil) | exact .tmp (.cell .nil) | exact .nil | exact .tmp (.cell (.tmp .nil)) | exact .cell (.tmp (.tmp .nil)) | exact .cell (.cell (.tmp .nil)) | exact .tmp (.tmp (.tmp .nil)) | exact .cell (.cell (.cell .nil))) ?_
    simp [oneOf, a1]
end Go.Proofs.Ytjlpoomjgidgaaa
