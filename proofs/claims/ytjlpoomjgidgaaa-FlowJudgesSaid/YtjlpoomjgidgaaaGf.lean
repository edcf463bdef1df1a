/- Layer 5: the specification's Check. -/
import Derived.Test.YtjlpoomjgidgaaaGe
namespace Go.Proofs.Ytjlpoomjgidgaaa
open Go.Proofs.Ytjlpoomjgidgaaa.Ev

set_option maxRecDepth 100000 in
set_option maxHeartbeats 16000000 in
theorem rcheck_con (h : Heap) (g : Gd h) (hv mv : AV) (hs : List Ho) (ms : List Mv) (hh : HoA h hv hs) (hm : MvA h mv ms) :
    Con Try.prog Bs 29 [.agg [hv, mv]] h [] (.int .i64 (chkT hs ms)) [] := by
  refine Con.start rfl Try.func29 rfl rfl Try.ntmps29 rfl rfl g ?_
  (refine WK.seq ?_; refine WK.region ?_; refine St.box fun _ _ => ?_; refine St.assign ?_; refine WO.nil ?_; refine WK.seq ?_; refine WK.seq ?_; refine WK.region ?_; refine St.fieldAddr ?_; refine St.load ?_)
  rename_i p1 hp1
  refine St.lenG rfl (HoV.hlen hh.eV) ?_
  (refine St.bin ?_; refine St.move ?_)
  refine St.split (fun q1 => ?_) (fun q1 => ?_)
  · (refine St.skip ?_; refine St.skip ?_; refine St.skip ?_; refine St.skip ?_; refine St.pickT ?_; refine WO.nil ?_; refine WK.condT ?_; refine WK.seq ?_; refine WK.region ?_; refine St.assign ?_; refine WO.nil ?_)
    refine St.ret (by first | exact .tmp .nil | exact .cell .nil | exact .cell (.tmp .nil) | exact .tmp (.tmp .nil) | exact .cell (.cell .nil) | exact .tmp (.cell .nil) | exact .nil | exact .tmp (.cell (.tmp .nil)) | exact .cell (.tmp (.tmp .nil)) | exact .cell (.cell (.tmp .nil)) | exact .tmp (.tmp (.tmp .nil)) | exact .cell (.cell (.cell .nil))) ?_
    unfold chkT
    rw [if_pos (.inl (by simp at q1; omega))]
    rfl
  (refine St.fieldAddr ?_; refine St.load ?_)
  refine St.lenG rfl (MvV.mlen hm.eV) ?_
  (refine St.bin ?_; refine St.pickF ?_; refine WO.nil ?_)
  refine St.splitC (fun q2 => ?_) (fun q2 => ?_)
  · (refine WK.seq ?_; refine WK.region ?_; refine St.assign ?_; refine WO.nil ?_)
    refine St.ret (by first | exact .tmp .nil | exact .cell .nil | exact .cell (.tmp .nil) | exact .tmp (.tmp .nil) | exact .cell (.cell .nil) | exact .tmp (.cell .nil) | exact .nil | exact .tmp (.cell (.tmp .nil)) | exact .cell (.tmp (.tmp .nil)) | exact .cell (.cell (.tmp .nil)) | exact .tmp (.tmp (.tmp .nil)) | exact .cell (.cell (.cell .nil))) ?_
    unfold chkT
    rw [if_pos (.inr (by simp at q2; omega))]
    rfl
  have hl1 : hs.length ≤ 9 := by simp at q1; omega
  have hl2 : ms.length ≤ 24 := by simp at q2; omega
  have e : chkT hs ms = if chkHo [] hs ≠ 0 then chkHo [] hs else chkMv hs [] ms := by unfold chkT; rw [if_neg (by omega)]
  rw [e]
  clear e q1 q2
  (refine WK.skip ?_; refine WK.seq ?_; refine WK.region ?_; refine St.load ?_)
  refine St.call (fun _ => rfl) (fun h2 hh2 => heldBy_con h2 hh2.gd hv mv hs (hh.eV.vw hh2) (by omega)) ?_
  generalize chkHo [] hs = er
  (refine St.assign ?_; refine WO.nil ?_; refine WK.seq ?_; refine WK.seq ?_; refine WK.region ?_; refine St.move ?_; refine St.bin ?_; refine WO.nil ?_)
  refine St.splitC (fun q => ?_) (fun q => ?_)
  · have hne : er ≠ 0 := by simpa using q
    rw [if_pos hne]
    (refine WK.seq ?_; refine WK.region ?_; refine St.move ?_; refine St.assign ?_; refine WO.nil ?_)
    refine St.ret (by first | exact .tmp .nil | exact .cell .nil | exact .cell (.tmp .nil) | exact .tmp (.tmp .nil) | exact .cell (.cell .nil) | exact .tmp (.cell .nil) | exact .nil | exact .tmp (.cell (.tmp .nil)) | exact .cell (.tmp (.tmp .nil)) | exact .cell (.cell (.tmp .nil)) | exact .tmp (.tmp (.tmp .nil)) | exact .cell (.cell (.cell .nil))) ?_
    rfl
  have he0 : er = 0 := by simpa using q
  rw [if_neg (by simp [he0])]
  (refine WK.skip ?_; refine WK.seq ?_; refine WK.seq ?_; refine WK.region ?_; refine St.assign ?_; refine WO.nil ?_; refine WK.block ?_)
  refine WK.inv (ι := Nat) (fun z => [(1, .ptr p1 0), (4, .int .i64 z)]) (fun _ => [(p1, .cells [hv, mv] 25)]) (fun z => z ≤ ms.length ∧ chkMv hs [] ms = chkMv hs ((mids ms).take z) (ms.drop z)) (fun z => ms.length - z) 0 ⟨by omega, rfl⟩ ⟨rfl, rfl, trivial⟩ (by (repeat (first | exact List.Sublist.refl _ | exact List.nil_sublist _ | apply List.Sublist.cons_cons | apply List.Sublist.cons))) ?_
  rintro k ⟨hkl, hchk⟩ ih
  (refine WK.seq ?_; refine WK.seq ?_; refine WK.region ?_; refine St.move ?_; refine St.fieldAddr ?_; refine St.load ?_)
  refine St.lenG rfl (MvV.mlen hm.eV) ?_
  (refine St.bin ?_; refine WO.nil ?_)
  refine St.splitC (fun hc => ?_) (fun hc => ?_)
  · have hlt : k < ms.length := by simp at hc; omega
    have hd := chkMv_drop (hs := hs) (seen := (mids ms).take k) (l := ms) (k := k) hlt
    rw [← mids_succ hlt] at hd
    have hm' := hm
    obtain ⟨b, off, m, rfl, hmm, hk⟩ := hm'.ne (by omega)
    (refine WK.skip ?_; refine WK.seq ?_; refine WK.block ?_; refine WK.seq ?_; refine WK.regionD ?_; refine St.load ?_; refine St.fieldAddr ?_; refine St.load ?_; refine St.move ?_)
    refine St.at ?_
    refine St.loadX (fun h2 hh2 => ((hk.vw hh2).at_ (z := (k : Int)) (n := k) (by omega) hlt).agg (by simp [mvC]) rfl rfl rfl) ?_
    skip
    refine St.call (fun _ => rfl) (fun h2 hh2 => moved_con h2 hh2.gd hv (.slice b off ms.length (.k m)) hs (nthE ms k) (hh.eV.vw hh2) (by omega)) ?_
    (refine St.assign ?_; refine WO.nil ?_; refine WK.seq ?_; refine WK.seq ?_; refine WK.region ?_; refine St.move ?_; refine St.bin ?_; refine WO.nil ?_)
    refine St.splitC (fun q => ?_) (fun q => ?_)
    · have hne : mvErr hs (nthE ms k) ≠ 0 := by simpa using q
      rw [if_pos hne] at hd
      (refine WK.seq ?_; refine WK.region ?_; refine St.move ?_; refine St.assign ?_; refine WO.nil ?_)
      refine St.ret (by first | exact .tmp .nil | exact .cell .nil | exact .cell (.tmp .nil) | exact .tmp (.tmp .nil) | exact .cell (.cell .nil) | exact .tmp (.cell .nil) | exact .nil | exact .tmp (.cell (.tmp .nil)) | exact .cell (.tmp (.tmp .nil)) | exact .cell (.cell (.tmp .nil)) | exact .tmp (.tmp (.tmp .nil)) | exact .cell (.cell (.cell .nil))) ?_
      rw [hchk, hd]
      rfl
    have he0 : mvErr hs (nthE ms k) = 0 := by simpa using q
    rw [if_neg (by simp [he0])] at hd
    (refine WK.skip ?_; refine WK.seq ?_; refine WK.region ?_; refine St.assign ?_; refine WO.nil ?_; refine WK.block ?_)
    refine WK.inv (ι := Nat) (fun z => [(1, .ptr p1 0), (4, .int .i64 k), (6, .int .i64 z)]) (fun _ => [(p1, .cells [hv, .slice b off ms.length (.k m)] 25)]) (fun z => z ≤ k ∧ (nthE ms k).id ∉ (mids ms).take z) (fun z => k - z) 0 ⟨by omega, by simp⟩ ⟨rfl, rfl, rfl, trivial⟩ (by (repeat (first | exact List.Sublist.refl _ | exact List.nil_sublist _ | apply List.Sublist.cons_cons | apply List.Sublist.cons))) ?_
    rintro z ⟨hzk, hno⟩ ih2
    (refine WK.seq ?_; refine WK.seq ?_; refine WK.region ?_; refine St.move ?_; refine St.move ?_; refine St.bin ?_; refine WO.nil ?_)
    refine St.splitC (fun hc2 => ?_) (fun hc2 => ?_)
    · have hzl : z < k := by simp at hc2; omega
      (refine WK.skip ?_; refine WK.seq ?_; refine WK.block ?_; refine WK.seq ?_; refine WK.regionD ?_; refine St.fieldAddr ?_; refine St.load ?_; refine St.move ?_)
      refine St.at ?_
      (refine St.fieldAddr ?_)
      refine St.loadX (fun h2 hh2 => (Rds.headG ((hk.vw hh2).at_ (z := (z : Int)) (n := z) (by omega) (by omega))).one rfl) ?_
      (refine St.fieldAddr ?_; refine St.load ?_; refine St.move ?_)
      refine St.at ?_
      (refine St.fieldAddr ?_)
      refine St.loadX (fun h2 hh2 => (Rds.headG ((hk.vw hh2).at_ (z := (k : Int)) (n := k) (by omega) hlt)).one rfl) ?_
      (refine St.bin ?_; refine WO.nil ?_)
      refine St.splitC (fun q3 => ?_) (fun q3 => ?_)
      · have hid : (nthE ms z).id = (nthE ms k).id := by simpa using q3
        have hmem : (nthE ms k).id ∈ (mids ms).take k := by
          rw [← hid, ← mids_get (by omega : z < ms.length)]
          exact List.mem_iff_getElem.2 ⟨z, by rw [List.length_take, mids_len]; omega, by rw [List.getElem_take]⟩
        rw [if_pos hmem] at hd
        (refine WK.seq ?_; refine WK.region ?_; refine St.assign ?_; refine WO.nil ?_)
        refine St.ret (by first | exact .tmp .nil | exact .cell .nil | exact .cell (.tmp .nil) | exact .tmp (.tmp .nil) | exact .cell (.cell .nil) | exact .tmp (.cell .nil) | exact .nil | exact .tmp (.cell (.tmp .nil)) | exact .cell (.tmp (.tmp .nil)) | exact .cell (.cell (.tmp .nil)) | exact .tmp (.tmp (.tmp .nil)) | exact .cell (.cell (.cell .nil))) ?_
        rw [hchk, hd]
        rfl
      · have hid : (nthE ms z).id ≠ (nthE ms k).id := by simpa using q3
        (refine WK.skip ?_; refine WK.blk ?_; refine WK.region ?_; refine St.move ?_; refine St.binI ?_; refine St.assign ?_; refine WO.nil ?_)
        refine WK.le ?_ (by (repeat (first | exact List.Sublist.refl _ | exact List.nil_sublist _ | apply List.Sublist.cons_cons | apply List.Sublist.cons))) (ih2 (z + 1) ⟨hzl, ?_⟩ (by omega))
        · exact ⟨rfl, rfl, rfl, trivial⟩
        · rw [mids_succ (by omega)]
          simp only [List.mem_append, List.mem_singleton, not_or]
          exact ⟨hno, fun e => hid e.symm⟩
    · have : z = k := by simp at hc2; omega
      subst this
      rw [if_neg hno] at hd
      (refine WK.exit ?_; refine WK.blk ?_; refine WK.region ?_; refine St.move ?_; refine St.binI ?_; refine St.assign ?_; refine WO.nil ?_)
      refine WK.le ?_ (by (repeat (first | exact List.Sublist.refl _ | exact List.nil_sublist _ | apply List.Sublist.cons_cons | apply List.Sublist.cons))) (ih (z + 1) ⟨hlt, hchk.trans hd⟩ (by omega))
      exact ⟨rfl, rfl, trivial⟩
  · have : k = ms.length := by simp at hc; omega
    subst this
    (refine WK.exit ?_; refine WK.seq ?_; refine WK.region ?_; refine St.assign ?_; refine WO.nil ?_)
    refine St.ret (by first | exact .tmp .nil | exact .cell .nil | exact .cell (.tmp .nil) | exact .tmp (.tmp .nil) | exact .cell (.cell .nil) | exact .tmp (.cell .nil) | exact .nil | exact .tmp (.cell (.tmp .nil)) | exact .cell (.tmp (.tmp .nil)) | exact .cell (.cell (.tmp .nil)) | exact .tmp (.tmp (.tmp .nil)) | exact .cell (.cell (.cell .nil))) ?_
    rw [hchk, List.drop_eq_nil_of_le (by omega)]
    rfl
end Go.Proofs.Ytjlpoomjgidgaaa
