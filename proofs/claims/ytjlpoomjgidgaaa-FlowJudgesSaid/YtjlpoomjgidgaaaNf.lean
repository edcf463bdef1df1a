/- Layer 5: CheckCut: the program's and the specification's return the same. -/
import Derived.Test.YtjlpoomjgidgaaaNe
namespace Go.Proofs.Ytjlpoomjgidgaaa
open Go.Proofs.Ytjlpoomjgidgaaa.Ev

/-- whether a cut is formed, and contradicts -/
def showB (hs : List Ho) (ms : List Mv) (way : Int) (l : List Int) : Bool := frm (hids hs) way l && decide (0 < thrR way hs ms l)
theorem cutE_ok {hs : List Ho} {ms : List Mv} {way : Int} {l : List Int} (h : chkT hs ms = 0) : cutE hs ms way l = if showB hs ms way l = true then 0 else 8 := by
  unfold cutE showB
  rw [if_neg (by simp [h])]
  by_cases a : frm (hids hs) way l = true <;> by_cases b : 0 < thrR way hs ms l <;> simp [a, b]
set_option maxRecDepth 100000 in
set_option maxHeartbeats 8000000 in
theorem contradicts_con (h : Heap) (g : Gd h) (p : Nat) (vi ve cv : AV) (way : Int) (hs : List Ho) (ms : List Mv) (l : List Int) (hp0 : Rd h p 0 vi) (hp1 : Rd h p 1 ve) (hi : InV h vi (hids hs)) (he : EV edC 8 h ve (edges hs ms)) (hc : InV h cv l) (l1 : hs.length ≤ 9) (l2 : ms.length ≤ 24) (hl3 : l.length ≤ 1000000) (b1 : ∀ x ∈ hs, hoB x) (b2 : ∀ x ∈ ms, mvB x) :
    Con Try.prog Bs 33 [.ptr p 0, .agg [.int .i64 way, cv]] h [] (.bool (showB hs ms way l)) [] := by
  have hle := edges_len hs ms
  refine Con.start rfl Try.func33 rfl rfl Try.ntmps33 rfl rfl g ?_
  (refine WK.seq ?_; refine WK.region ?_; refine St.box fun _ _ => ?_; refine St.assign ?_; refine WO.nil ?_; refine WK.seq ?_; refine WK.region ?_; refine St.move ?_; refine St.load ?_)
  rename_i p3 hp3
  refine St.call (fun _ => rfl) (fun h2 hh2 => isFormed_con h2 hh2.gd p vi cv way (hids hs) l (hh2.rd (by simp) hp0) (hi.vw hh2) (hc.vw hh2) (by rw [hids_len]; omega) hl3) ?_
  cases hf : frm (hids hs) way l
  · (refine St.move ?_; refine St.skip ?_; refine St.skip ?_; refine St.skip ?_; refine St.skip ?_; refine St.pickF ?_; refine St.assign ?_; refine WO.nil ?_)
    refine St.ret (by first | exact .tmp .nil | exact .cell .nil | exact .cell (.tmp .nil) | exact .tmp (.tmp .nil) | exact .cell (.cell .nil) | exact .tmp (.cell .nil) | exact .nil | exact .tmp (.cell (.tmp .nil)) | exact .cell (.tmp (.tmp .nil)) | exact .cell (.cell (.tmp .nil)) | exact .tmp (.tmp (.tmp .nil)) | exact .cell (.cell (.cell .nil))) ?_
    unfold showB
    rw [hf]
    rfl
  · (refine St.move ?_; refine St.move ?_; refine St.load ?_)
    refine St.call (fun _ => rfl) (fun h2 hh2 => through_con h2 hh2.gd p ve cv way (edges hs ms) l (hh2.rd (by simp) hp1) (he.vw hh2) (hc.vw hh2) (by omega) hl3 (edges_bd b1 b2)) ?_
    rw [thr_eq (no_zero b1 hf) (frm_mem hf).1]
    (refine St.bin ?_; refine St.pickT ?_; refine St.assign ?_; refine WO.nil ?_)
    refine St.ret (by first | exact .tmp .nil | exact .cell .nil | exact .cell (.tmp .nil) | exact .tmp (.tmp .nil) | exact .cell (.cell .nil) | exact .tmp (.cell .nil) | exact .nil | exact .tmp (.cell (.tmp .nil)) | exact .cell (.tmp (.tmp .nil)) | exact .cell (.cell (.tmp .nil)) | exact .tmp (.tmp (.tmp .nil)) | exact .cell (.cell (.cell .nil))) ?_
    unfold showB
    rw [hf]
    rfl
set_option maxRecDepth 100000 in
set_option maxHeartbeats 8000000 in
theorem shows_con (h : Heap) (g : Gd h) (hv mv cv : AV) (way : Int) (hs : List Ho) (ms : List Mv) (l : List Int) (hh : HoV h hv hs) (hm : MvV h mv ms) (hc : InV h cv l) (l1 : hs.length ≤ 9) (l2 : ms.length ≤ 24) (hl3 : l.length ≤ 1000000) (b1 : ∀ x ∈ hs, hoB x) (b2 : ∀ x ∈ ms, mvB x) :
    Con Try.prog Bs 34 [.agg [hv, mv], .agg [.int .i64 way, cv]] h [] (.bool (showB hs ms way l)) [] := by
  refine Con.start rfl Try.func34 rfl rfl Try.ntmps34 rfl rfl g ?_
  (refine WK.seq ?_; refine WK.region ?_; refine St.box fun _ _ => ?_; refine St.box fun _ _ => ?_; refine St.assign ?_; refine WO.nil ?_; refine WK.seq ?_; refine WK.region ?_; refine St.load ?_; refine St.load ?_)
  rename_i p2 hp2 p3 hp3
  refine St.call (fun _ => rfl) (fun h2 hh2 => formed_con h2 hh2.gd hv mv cv way hs l (hh.vw hh2) (hc.vw hh2) (by omega) hl3) ?_
  cases hf : frm (hids hs) way l
  · (refine St.assign ?_; refine WO.nil ?_; refine WK.seq ?_; refine WK.region ?_; refine St.move ?_; refine St.move ?_; refine St.skip ?_; refine St.skip ?_; refine St.skip ?_; refine St.skip ?_; refine St.pickF ?_; refine St.assign ?_; refine WO.nil ?_)
    refine St.ret (by first | exact .tmp .nil | exact .cell .nil | exact .cell (.tmp .nil) | exact .tmp (.tmp .nil) | exact .cell (.cell .nil) | exact .tmp (.cell .nil) | exact .nil | exact .tmp (.cell (.tmp .nil)) | exact .cell (.tmp (.tmp .nil)) | exact .cell (.cell (.tmp .nil)) | exact .tmp (.tmp (.tmp .nil)) | exact .cell (.cell (.cell .nil))) ?_
    unfold showB
    rw [hf]
    rfl
  · (refine St.assign ?_; refine WO.nil ?_; refine WK.seq ?_; refine WK.region ?_; refine St.move ?_; refine St.move ?_; refine St.load ?_; refine St.load ?_)
    refine St.call (fun _ => rfl) (fun h2 hh2 => rthrough_con h2 hh2.gd hv mv cv way hs ms l (hh.vw hh2) (hm.vw hh2) (hc.vw hh2) (by omega) (by omega) hl3 b1 b2) ?_
    (refine St.bin ?_; refine St.pickT ?_; refine St.assign ?_; refine WO.nil ?_)
    refine St.ret (by first | exact .tmp .nil | exact .cell .nil | exact .cell (.tmp .nil) | exact .tmp (.tmp .nil) | exact .cell (.cell .nil) | exact .tmp (.cell .nil) | exact .nil | exact .tmp (.cell (.tmp .nil)) | exact .cell (.tmp (.tmp .nil)) | exact .cell (.cell (.tmp .nil)) | exact .tmp (.tmp (.tmp .nil)) | exact .cell (.cell (.cell .nil))) ?_
    unfold showB
    rw [hf]
    rfl
set_option maxRecDepth 100000 in
set_option maxHeartbeats 8000000 in
theorem CheckCut_con (h : Heap) (g : Gd h) (hv mv cv : AV) (way : Int) (hs : List Ho) (ms : List Mv) (l : List Int) (hh : HoA h hv hs) (hm : MvA h mv ms) (hc : InV h cv l) (hl3 : l.length ≤ 1000000) :
    Con Try.prog Bs 11 [.agg [hv, mv], .agg [.int .i64 way, cv]] h [] (.int .i64 (cutE hs ms way l)) [] := by
  refine Con.start rfl Try.func11 rfl rfl Try.ntmps11 rfl rfl g ?_
  (refine WK.seq ?_; refine WK.region ?_; refine St.box fun _ _ => ?_; refine St.box fun _ _ => ?_; refine St.assign ?_; refine WO.nil ?_; refine WK.seq ?_; refine WK.seq ?_; refine WK.region ?_; refine St.load ?_)
  rename_i p2 hp2 p3 hp3
  refine St.call (fun _ => rfl) (fun h2 hh2 => check_con h2 hh2.gd hv mv hs ms (hh.vw hh2) (hm.vw hh2)) ?_
  (refine St.assign ?_; refine WO.nil ?_; refine WK.seq ?_; refine WK.region ?_; refine St.move ?_; refine St.bin ?_; refine WO.nil ?_)
  refine St.splitC (fun q => ?_) (fun q => ?_)
  · have hne : chkT hs ms ≠ 0 := by simpa using q
    (refine WK.seq ?_; refine WK.region ?_; refine St.move ?_; refine St.assign ?_; refine WO.nil ?_)
    refine St.ret (by first | exact .tmp .nil | exact .cell .nil | exact .cell (.tmp .nil) | exact .tmp (.tmp .nil) | exact .cell (.cell .nil) | exact .tmp (.cell .nil) | exact .nil | exact .tmp (.cell (.tmp .nil)) | exact .cell (.tmp (.tmp .nil)) | exact .cell (.cell (.tmp .nil)) | exact .tmp (.tmp (.tmp .nil)) | exact .cell (.cell (.cell .nil))) ?_
    unfold cutE
    rw [if_pos hne]
    rfl
  have he : chkT hs ms = 0 := by simpa using q
  obtain ⟨l1, l2⟩ := chkT_len he
  obtain ⟨b1, b2⟩ := chkT_bd he
  rw [cutE_ok he]
  (refine WK.skip ?_; refine WK.seq ?_; refine WK.seq ?_; refine WK.regionD ?_; refine St.load ?_)
  refine StD.callR (fun _ => rfl) (fun h2 hh2 => network_con h2 hh2.gd hv mv hs ms (hh.eV.vw hh2) (hm.eV.vw hh2) (by omega) (by omega)) ?_
  rintro u L ⟨p, vi, ve, Li, Le, rfl, rfl, hwi, hwe⟩
  (refine St.load ?_)
  refine StD.callV (((p, AObj.cells [vi, ve] 91) :: (Li ++ Le)).map (fun q => (1, q))) (v := .bool (showB hs ms way l)) (fun _ => rfl) (fun x hx => ?_) (fun h2 hh2 => ?_) ?_
  · refine ⟨List.mem_append_left _ hx, ?_⟩
    obtain ⟨q, _, rfl⟩ := List.mem_map.1 hx
    exact show maskAt _ _ 1 = true by decide +kernel
  · have hin : ∀ x ∈ (p, AObj.cells [vi, ve] 91) :: (Li ++ Le), x ∈ (((p, AObj.cells [vi, ve] 91) :: (Li ++ Le)).map (fun q => ((1 : Nat), q))).map (·.2) ++ [(p3, AObj.cells [.int .i64 way, cv] 30), (p2, .cells [hv, mv] 25)] := fun x hx => List.mem_append_left _ (by rw [List.map_map]; exact List.mem_map.2 ⟨x, hx, rfl⟩)
    exact contradicts_con h2 hh2.gd p vi ve cv way hs ms l (hh2.rdG (hin _ (List.Mem.head _)) rfl) (hh2.rdG (hin _ (List.Mem.head _)) rfl) (en_v inC_len hwi.isL rfl hh2 (fun x hx => hin x (by simp [hx]))) (en_v edC_len hwe.isL rfl hh2 (fun x hx => hin x (by simp [hx]))) (hc.vw hh2) l1 l2 hl3 b1 b2
  (refine St.un ?_)
  refine WO.nilG ?_
  cases showB hs ms way l
  · (refine WK.condT ?_; refine WK.seq ?_; refine WK.region ?_; refine St.assign ?_; refine WO.nil ?_)
    refine St.ret (by first | exact .tmp .nil | exact .cell .nil | exact .cell (.tmp .nil) | exact .tmp (.tmp .nil) | exact .cell (.cell .nil) | exact .tmp (.cell .nil) | exact .nil | exact .tmp (.cell (.tmp .nil)) | exact .cell (.tmp (.tmp .nil)) | exact .cell (.cell (.tmp .nil)) | exact .tmp (.tmp (.tmp .nil)) | exact .cell (.cell (.cell .nil))) ?_
    rfl
  · (refine WK.condF ?_; refine WK.skip ?_; refine WK.seq ?_; refine WK.region ?_; refine St.assign ?_; refine WO.nil ?_)
    refine St.ret (by first | exact .tmp .nil | exact .cell .nil | exact .cell (.tmp .nil) | exact .tmp (.tmp .nil) | exact .cell (.cell .nil) | exact .tmp (.cell .nil) | exact .nil | exact .tmp (.cell (.tmp .nil)) | exact .cell (.tmp (.tmp .nil)) | exact .cell (.cell (.tmp .nil)) | exact .tmp (.tmp (.tmp .nil)) | exact .cell (.cell (.cell .nil))) ?_
    rfl
set_option maxRecDepth 100000 in
set_option maxHeartbeats 8000000 in
theorem RCheckCut_con (h : Heap) (g : Gd h) (hv mv cv : AV) (way : Int) (hs : List Ho) (ms : List Mv) (l : List Int) (hh : HoA h hv hs) (hm : MvA h mv ms) (hc : InV h cv l) (hl3 : l.length ≤ 1000000) :
    Con Try.prog Bs 12 [.agg [hv, mv], .agg [.int .i64 way, cv]] h [] (.int .i64 (cutE hs ms way l)) [] := by
  refine Con.start rfl Try.func12 rfl rfl Try.ntmps12 rfl rfl g ?_
  (refine WK.seq ?_; refine WK.region ?_; refine St.box fun _ _ => ?_; refine St.box fun _ _ => ?_; refine St.assign ?_; refine WO.nil ?_; refine WK.seq ?_; refine WK.region ?_; refine St.load ?_)
  rename_i p2 hp2 p3 hp3
  refine St.call (fun _ => rfl) (fun h2 hh2 => rcheck_con h2 hh2.gd hv mv hs ms (hh.vw hh2) (hm.vw hh2)) ?_
  (refine St.assign ?_; refine WO.nil ?_; refine WK.seq ?_; refine WK.seq ?_; refine WK.region ?_; refine St.move ?_; refine St.bin ?_; refine WO.nil ?_)
  refine St.splitC (fun q => ?_) (fun q => ?_)
  · have hne : chkT hs ms ≠ 0 := by simpa using q
    (refine WK.seq ?_; refine WK.region ?_; refine St.move ?_; refine St.assign ?_; refine WO.nil ?_)
    refine St.ret (by first | exact .tmp .nil | exact .cell .nil | exact .cell (.tmp .nil) | exact .tmp (.tmp .nil) | exact .cell (.cell .nil) | exact .tmp (.cell .nil) | exact .nil | exact .tmp (.cell (.tmp .nil)) | exact .cell (.tmp (.tmp .nil)) | exact .cell (.cell (.tmp .nil)) | exact .tmp (.tmp (.tmp .nil)) | exact .cell (.cell (.cell .nil))) ?_
    unfold cutE
    rw [if_pos hne]
    rfl
  have he : chkT hs ms = 0 := by simpa using q
  obtain ⟨l1, l2⟩ := chkT_len he
  obtain ⟨b1, b2⟩ := chkT_bd he
  rw [cutE_ok he]
  (refine WK.skip ?_; refine WK.seq ?_; refine WK.region ?_; refine St.load ?_; refine St.load ?_)
  refine St.call (fun _ => rfl) (fun h2 hh2 => shows_con h2 hh2.gd hv mv cv way hs ms l (hh.eV.vw hh2) (hm.eV.vw hh2) (hc.vw hh2) l1 l2 hl3 b1 b2) ?_
  cases showB hs ms way l
  · (refine St.assign ?_; refine WO.nil ?_; refine WK.seq ?_; refine WK.seq ?_; refine WK.region ?_; refine St.move ?_; refine St.un ?_; refine WO.nil ?_; refine WK.condT ?_; refine WK.seq ?_; refine WK.region ?_; refine St.assign ?_; refine WO.nil ?_)
    refine St.ret (by first | exact .tmp .nil | exact .cell .nil | exact .cell (.tmp .nil) | exact .tmp (.tmp .nil) | exact .cell (.cell .nil) | exact .tmp (.cell .nil) | exact .nil | exact .tmp (.cell (.tmp .nil)) | exact .cell (.tmp (.tmp .nil)) | exact .cell (.cell (.tmp .nil)) | exact .tmp (.tmp (.tmp .nil)) | exact .cell (.cell (.cell .nil))) ?_
    rfl
  · (refine St.assign ?_; refine WO.nil ?_; refine WK.seq ?_; refine WK.seq ?_; refine WK.region ?_; refine St.move ?_; refine St.un ?_; refine WO.nil ?_; refine WK.condF ?_; refine WK.skip ?_; refine WK.seq ?_; refine WK.region ?_; refine St.assign ?_; refine WO.nil ?_)
    refine St.ret (by first | exact .tmp .nil | exact .cell .nil | exact .cell (.tmp .nil) | exact .tmp (.tmp .nil) | exact .cell (.cell .nil) | exact .tmp (.cell .nil) | exact .nil | exact .tmp (.cell (.tmp .nil)) | exact .cell (.tmp (.tmp .nil)) | exact .cell (.cell (.tmp .nil)) | exact .tmp (.tmp (.tmp .nil)) | exact .cell (.cell (.cell .nil))) ?_
    rfl
end Go.Proofs.Ytjlpoomjgidgaaa
