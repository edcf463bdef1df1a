/- Layer 9: the law of lawful letters. -/
import Derived.Test.YtehmkhlcejcniaaKw
import Derived.Test.YtehmkhlcejcniaaMd
namespace Go.Proofs.Ytehmkhlcejcniaa
open Go.Proofs.Ytehmkhlcejcniaa.Ev

theorem law_res {c : Int} {l : List Le} : (if errL c l ≠ 0 then 0 else fstN (badN c l) l.length 0) = (if errL c l ≠ 0 then 0 else fstN (badS c l) l.length 0) ∧ (if errL c l ≠ 0 then false else decide (fstN (badN c l) l.length 0 < 0)) = (if errL c l ≠ 0 then false else decide (fstN (badS c l) l.length 0 < 0)) := by
  by_cases he : errL c l = 0
  · obtain ⟨hcr, _, hfm⟩ := errL_ok he
    rw [fst_eq (crt_bd hcr) hfm]
    exact ⟨rfl, rfl⟩
  · simp [he]
set_option maxRecDepth 100000 in
set_option maxHeartbeats 8000000 in
theorem lawfulLaw_con (h : Heap) (g : Gd h) (c : Int) (v : AV) (l : List Le) (hv : LeA h v l) : Con Try.prog Bs 3 [.agg [.int .i64 c], v] h [] (.bool true) [] := by
  refine Con.start rfl Try.func3 rfl rfl Try.ntmps3 rfl rfl g ?_
  (refine WK.seq ?_; refine WK.region ?_; refine St.box fun _ _ => ?_; refine St.assign ?_; refine WO.nil ?_; refine WK.seq ?_; refine WK.seq ?_; refine WK.region ?_; refine St.move ?_)
  refine St.call (fun _ => rfl) (fun h2 hh => few_con h2 hh.gd v l 60 (hv.eV.vw hh)) ?_
  generalize fewL l.length 60 = fb
  cases fb
  · (refine St.un ?_; refine WO.nil ?_; refine WK.condT ?_; refine WK.seq ?_; refine WK.region ?_)
    refine St.call (fun _ => rfl) (fun h2 hh2 => sanity_con h2 hh2.gd) ?_
    (refine St.assign ?_; refine WO.nil ?_)
    refine St.ret (by first | exact .tmp .nil | exact .cell .nil | exact .cell (.tmp .nil) | exact .tmp (.tmp .nil) | exact .cell (.cell .nil) | exact .tmp (.cell .nil) | exact .nil | exact .tmp (.cell (.tmp .nil)) | exact .cell (.tmp (.tmp .nil)) | exact .cell (.cell (.tmp .nil)) | exact .tmp (.tmp (.tmp .nil)) | exact .cell (.cell (.cell .nil))) ?_
    rfl
  (refine St.un ?_; refine WO.nil ?_; refine WK.condF ?_; refine WK.skip ?_; refine WK.seq ?_; refine WK.region ?_; refine St.load ?_; refine St.move ?_)
  refine St.call (fun _ => rfl) (fun h2 hh => lawful_con h2 hh.gd c v l (hv.eV.vw hh)) ?_
  rw [law_res.1, law_res.2]
  (refine St.move ?_; refine St.extract ?_; refine St.extract ?_; refine St.extract ?_; refine St.assign ?_; refine St.assign ?_; refine St.assign ?_; refine WO.nil ?_; refine WK.seq ?_; refine WK.region ?_; refine St.load ?_; refine St.move ?_)
  refine St.call (fun _ => rfl) (fun h2 hh => rLawful_con h2 hh.gd c v l (hv.vw hh)) ?_
  generalize (if errL c l ≠ 0 then (0 : Int) else fstN (badS c l) l.length 0) = pn
  generalize (if errL c l ≠ 0 then false else decide (fstN (badS c l) l.length 0 < 0)) = pb
  generalize errL c l = pe
  cases pb <;> skip
  all_goals
    (refine St.move ?_; refine St.extract ?_; refine St.extract ?_; refine St.extract ?_; refine St.assign ?_; refine St.assign ?_; refine St.assign ?_; refine WO.nil ?_; refine WK.seq ?_; refine WK.region ?_)
    refine St.call (fun _ => rfl) (fun h2 hh2 => sanity_con h2 hh2.gd) ?_
    (refine St.move ?_; refine St.move ?_; refine St.move ?_; refine St.bin ?_; refine St.pickT ?_; refine St.move ?_)
    refine St.split (fun q => ?_) (fun q => ?_)
    rotate_left
    · simp at q
    (refine St.move ?_; refine St.move ?_; refine St.bin ?_; refine St.pickT ?_; refine St.move ?_; refine St.move ?_; refine St.move ?_; refine St.bin ?_; refine St.pickT ?_; refine St.assign ?_; refine WO.nil ?_)
    refine St.ret (by first | exact .tmp .nil | exact .cell .nil | exact .cell (.tmp .nil) | exact .tmp (.tmp .nil) | exact .cell (.cell .nil) | exact .tmp (.cell .nil) | exact .nil | exact .tmp (.cell (.tmp .nil)) | exact .cell (.tmp (.tmp .nil)) | exact .cell (.cell (.tmp .nil)) | exact .tmp (.tmp (.tmp .nil)) | exact .cell (.cell (.cell .nil))) ?_
    simp [oneOf]
end Go.Proofs.Ytehmkhlcejcniaa
