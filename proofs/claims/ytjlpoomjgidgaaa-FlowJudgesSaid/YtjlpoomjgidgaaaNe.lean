/- Layer 5: Through, CheckCut: the program's and the specification's return the same. -/
import Derived.Test.YtjlpoomjgidgaaaNb
import Derived.Test.YtjlpoomjgidgaaaNc
import Derived.Test.YtjlpoomjgidgaaaNd
namespace Go.Proofs.Ytjlpoomjgidgaaa
open Go.Proofs.Ytjlpoomjgidgaaa.Ev

/-- what Through and CheckCut return -/
def thruE (hs : List Ho) (ms : List Mv) (way : Int) (l : List Int) : Int := if chkT hs ms ≠ 0 then chkT hs ms else if frm (hids hs) way l = false then 1 else 0
def thruN (hs : List Ho) (ms : List Mv) (way : Int) (l : List Int) : Int := if chkT hs ms ≠ 0 then 0 else if frm (hids hs) way l = false then 0 else thrR way hs ms l
def cutE (hs : List Ho) (ms : List Mv) (way : Int) (l : List Int) : Int := if chkT hs ms ≠ 0 then chkT hs ms else if frm (hids hs) way l = true ∧ 0 < thrR way hs ms l then 0 else 8
theorem edges_bd {hs : List Ho} {ms : List Mv} (h1 : ∀ x ∈ hs, hoB x) (h2 : ∀ x ∈ ms, mvB x) : ∀ e ∈ edges hs ms, (0 ≤ e.lo ∧ e.lo ≤ 65536) ∧ (0 ≤ e.hi ∧ e.hi ≤ 65536) := by
  intro e he
  unfold edges stTo enTo at he
  have key : ∀ i, i ∈ List.range hs.length → hoB (hs[i]?.getD default) := fun i hi => by
    have := List.mem_range.1 hi
    rw [List.getElem?_eq_getElem this]
    exact h1 _ (List.getElem_mem this)
  simp only [List.mem_append, List.mem_map] at he
  rcases he with (⟨i, hi, rfl⟩ | ⟨i, hi, rfl⟩) | ⟨m, hm, rfl⟩
  · have := key i hi
    unfold hoB at this
    exact ⟨this.1, this.2.1⟩
  · have := key i hi
    unfold hoB at this
    exact ⟨this.2.2.1, this.2.2.2.1⟩
  · exact h2 m hm
theorem no_zero {hs : List Ho} {way : Int} {l : List Int} (h1 : ∀ x ∈ hs, hoB x) (hf : frm (hids hs) way l = true) : (0 : Int) ∉ l := fun h => by
  have := (frm_mem hf).2 0 h
  unfold hids at this
  obtain ⟨x, hx, e⟩ := List.mem_map.1 this
  have := (h1 x hx).2.2.2.2
  omega
set_option maxRecDepth 100000 in
set_option maxHeartbeats 8000000 in
theorem Through_con (h : Heap) (g : Gd h) (hv mv cv : AV) (way : Int) (hs : List Ho) (ms : List Mv) (l : List Int) (hh : HoA h hv hs) (hm : MvA h mv ms) (hc : InV h cv l) (hl3 : l.length ≤ 1000000) :
    Con Try.prog Bs 7 [.agg [hv, mv], .agg [.int .i64 way, cv]] h [] (.tup [.int .i64 (thruN hs ms way l), .int .i64 (thruE hs ms way l)]) [] := by
  refine Con.start rfl Try.func7 rfl rfl Try.ntmps7 rfl rfl g ?_
  (refine WK.seq ?_; refine WK.region ?_; refine St.box fun _ _ => ?_; refine St.box fun _ _ => ?_; refine St.assign ?_; refine St.assign ?_; refine WO.nil ?_; refine WK.seq ?_; refine WK.seq ?_; refine WK.region ?_; refine St.load ?_)
  rename_i p2 hp2 p3 hp3
  refine St.call (fun _ => rfl) (fun h2 hh2 => check_con h2 hh2.gd hv mv hs ms (hh.vw hh2) (hm.vw hh2)) ?_
  (refine St.assign ?_; refine WO.nil ?_; refine WK.seq ?_; refine WK.region ?_; refine St.move ?_; refine St.bin ?_; refine WO.nil ?_)
  refine St.splitC (fun q => ?_) (fun q => ?_)
  · have hne : chkT hs ms ≠ 0 := by simpa using q
    (refine WK.seq ?_; refine WK.region ?_; refine St.move ?_; refine St.assign ?_; refine St.assign ?_; refine WO.nil ?_)
    refine St.ret (by first | exact .tmp .nil | exact .cell .nil | exact .cell (.tmp .nil) | exact .tmp (.tmp .nil) | exact .cell (.cell .nil) | exact .tmp (.cell .nil) | exact .nil | exact .tmp (.cell (.tmp .nil)) | exact .cell (.tmp (.tmp .nil)) | exact .cell (.cell (.tmp .nil)) | exact .tmp (.tmp (.tmp .nil)) | exact .cell (.cell (.cell .nil))) ?_
    unfold thruN thruE
    rw [if_pos hne, if_pos hne]
    rfl
  have he : chkT hs ms = 0 := by simpa using q
  obtain ⟨l1, l2⟩ := chkT_len he
  obtain ⟨b1, b2⟩ := chkT_bd he
  have eN : thruN hs ms way l = if frm (hids hs) way l = false then 0 else thrR way hs ms l := if_neg (by simp [he])
  have eE : thruE hs ms way l = if frm (hids hs) way l = false then 1 else 0 := if_neg (by simp [he])
  (refine WK.skip ?_; refine WK.seq ?_; refine WK.region ?_; refine St.load ?_)
  refine St.callR (fun _ => rfl) (fun h2 hh2 => network_con h2 hh2.gd hv mv hs ms (hh.eV.vw hh2) (hm.eV.vw hh2) (by omega) (by omega)) ?_
  rintro u L ⟨p, vi, ve, Li, Le, rfl, rfl, hwi, hwe⟩
  have hle := edges_len hs ms
  refine WO.permF (L' := (p, .cells [vi, ve] 91) :: (p3, .cells [.int .i64 way, cv] 30) :: (p2, .cells [hv, mv] 25) :: (Li ++ Le)) ?_ ?_
  · show List.Perm ((p, .cells [vi, ve] 91) :: (p3, .cells [.int .i64 way, cv] 30) :: (p2, .cells [hv, mv] 25) :: (Li ++ Le) : Ob) ((p, .cells [vi, ve] 91) :: (Li ++ Le) ++ [(p3, .cells [.int .i64 way, cv] 30), (p2, .cells [hv, mv] 25)])
    (refine perm_cnt fun _ _ => ?_; simp only [List.append_eq, List.cons_append, List.nil_append, List.count_append, List.count_cons, List.count_nil, Nat.add_zero, Nat.zero_add]; try ac_rfl)
  (refine St.assign ?_; refine WO.nil ?_; refine WK.seq ?_; refine WK.seq ?_; refine WK.region ?_; refine St.move ?_; refine St.load ?_)
  refine St.call (fun _ => rfl) (fun h2 hh2 => isFormed_con h2 hh2.gd p vi cv way (hids hs) l (hh2.rdG (List.Mem.head _) rfl) (en_v inC_len hwi.isL rfl hh2 (fun x hx => by simp [hx])) (hc.vw hh2) (by rw [hids_len]; omega) hl3) ?_
  cases hf : frm (hids hs) way l
  · (refine St.un ?_; refine WO.nil ?_; refine WK.condT ?_; refine WK.seq ?_; refine WK.region ?_; refine St.assign ?_; refine St.assign ?_; refine WO.nil ?_)
    refine St.ret (by first | exact .tmp .nil | exact .cell .nil | exact .cell (.tmp .nil) | exact .tmp (.tmp .nil) | exact .cell (.cell .nil) | exact .tmp (.cell .nil) | exact .nil | exact .tmp (.cell (.tmp .nil)) | exact .cell (.tmp (.tmp .nil)) | exact .cell (.cell (.tmp .nil)) | exact .tmp (.tmp (.tmp .nil)) | exact .cell (.cell (.cell .nil))) ?_
    rw [eN, eE, if_pos hf, if_pos hf]
    rfl
  · (refine St.un ?_; refine WO.nil ?_; refine WK.condF ?_; refine WK.skip ?_; refine WK.seq ?_; refine WK.region ?_; refine St.move ?_; refine St.load ?_)
    refine St.call (fun _ => rfl) (fun h2 hh2 => through_con h2 hh2.gd p ve cv way (edges hs ms) l (hh2.rdG (List.Mem.head _) rfl) (en_v edC_len hwe.isL rfl hh2 (fun x hx => by simp [hx])) (hc.vw hh2) (by omega) hl3 (edges_bd b1 b2)) ?_
    rw [thr_eq (no_zero b1 hf) (frm_mem hf).1]
    (refine St.assign ?_; refine St.assign ?_; refine WO.nil ?_)
    refine St.ret (by first | exact .tmp .nil | exact .cell .nil | exact .cell (.tmp .nil) | exact .tmp (.tmp .nil) | exact .cell (.cell .nil) | exact .tmp (.cell .nil) | exact .nil | exact .tmp (.cell (.tmp .nil)) | exact .cell (.tmp (.tmp .nil)) | exact .cell (.cell (.tmp .nil)) | exact .tmp (.tmp (.tmp .nil)) | exact .cell (.cell (.cell .nil))) ?_
    rw [eN, eE, if_neg (by simp [hf]), if_neg (by simp [hf])]
    rfl
set_option maxRecDepth 100000 in
set_option maxHeartbeats 8000000 in
theorem RThrough_con (h : Heap) (g : Gd h) (hv mv cv : AV) (way : Int) (hs : List Ho) (ms : List Mv) (l : List Int) (hh : HoA h hv hs) (hm : MvA h mv ms) (hc : InV h cv l) (hl3 : l.length ≤ 1000000) :
    Con Try.prog Bs 8 [.agg [hv, mv], .agg [.int .i64 way, cv]] h [] (.tup [.int .i64 (thruN hs ms way l), .int .i64 (thruE hs ms way l)]) [] := by
  refine Con.start rfl Try.func8 rfl rfl Try.ntmps8 rfl rfl g ?_
  (refine WK.seq ?_; refine WK.region ?_; refine St.box fun _ _ => ?_; refine St.box fun _ _ => ?_; refine St.assign ?_; refine St.assign ?_; refine WO.nil ?_; refine WK.seq ?_; refine WK.region ?_; refine St.load ?_)
  rename_i p2 hp2 p3 hp3
  refine St.call (fun _ => rfl) (fun h2 hh2 => rcheck_con h2 hh2.gd hv mv hs ms (hh.vw hh2) (hm.vw hh2)) ?_
  (refine St.assign ?_; refine WO.nil ?_; refine WK.seq ?_; refine WK.seq ?_; refine WK.region ?_; refine St.move ?_; refine St.bin ?_; refine WO.nil ?_)
  refine St.splitC (fun q => ?_) (fun q => ?_)
  · have hne : chkT hs ms ≠ 0 := by simpa using q
    (refine WK.seq ?_; refine WK.region ?_; refine St.move ?_; refine St.assign ?_; refine St.assign ?_; refine WO.nil ?_)
    refine St.ret (by first | exact .tmp .nil | exact .cell .nil | exact .cell (.tmp .nil) | exact .tmp (.tmp .nil) | exact .cell (.cell .nil) | exact .tmp (.cell .nil) | exact .nil | exact .tmp (.cell (.tmp .nil)) | exact .cell (.tmp (.tmp .nil)) | exact .cell (.cell (.tmp .nil)) | exact .tmp (.tmp (.tmp .nil)) | exact .cell (.cell (.cell .nil))) ?_
    unfold thruN thruE
    rw [if_pos hne, if_pos hne]
    rfl
  have he : chkT hs ms = 0 := by simpa using q
  obtain ⟨l1, l2⟩ := chkT_len he
  obtain ⟨b1, b2⟩ := chkT_bd he
  have eN : thruN hs ms way l = if frm (hids hs) way l = false then 0 else thrR way hs ms l := if_neg (by simp [he])
  have eE : thruE hs ms way l = if frm (hids hs) way l = false then 1 else 0 := if_neg (by simp [he])
  (refine WK.skip ?_; refine WK.seq ?_; refine WK.region ?_; refine St.load ?_; refine St.load ?_)
  refine St.call (fun _ => rfl) (fun h2 hh2 => formed_con h2 hh2.gd hv mv cv way hs l (hh.eV.vw hh2) (hc.vw hh2) (by omega) hl3) ?_
  cases hf : frm (hids hs) way l
  · (refine St.assign ?_; refine WO.nil ?_; refine WK.seq ?_; refine WK.seq ?_; refine WK.region ?_; refine St.move ?_; refine St.un ?_; refine WO.nil ?_; refine WK.condT ?_; refine WK.seq ?_; refine WK.region ?_; refine St.assign ?_; refine St.assign ?_; refine WO.nil ?_)
    refine St.ret (by first | exact .tmp .nil | exact .cell .nil | exact .cell (.tmp .nil) | exact .tmp (.tmp .nil) | exact .cell (.cell .nil) | exact .tmp (.cell .nil) | exact .nil | exact .tmp (.cell (.tmp .nil)) | exact .cell (.tmp (.tmp .nil)) | exact .cell (.cell (.tmp .nil)) | exact .tmp (.tmp (.tmp .nil)) | exact .cell (.cell (.cell .nil))) ?_
    rw [eN, eE, if_pos hf, if_pos hf]
    rfl
  · (refine St.assign ?_; refine WO.nil ?_; refine WK.seq ?_; refine WK.seq ?_; refine WK.region ?_; refine St.move ?_; refine St.un ?_; refine WO.nil ?_; refine WK.condF ?_; refine WK.skip ?_; refine WK.seq ?_; refine WK.region ?_; refine St.load ?_; refine St.load ?_)
    refine St.call (fun _ => rfl) (fun h2 hh2 => rthrough_con h2 hh2.gd hv mv cv way hs ms l (hh.eV.vw hh2) (hm.eV.vw hh2) (hc.vw hh2) (by omega) (by omega) hl3 b1 b2) ?_
    (refine St.assign ?_; refine St.assign ?_; refine WO.nil ?_)
    refine St.ret (by first | exact .tmp .nil | exact .cell .nil | exact .cell (.tmp .nil) | exact .tmp (.tmp .nil) | exact .cell (.cell .nil) | exact .tmp (.cell .nil) | exact .nil | exact .tmp (.cell (.tmp .nil)) | exact .cell (.tmp (.tmp .nil)) | exact .cell (.cell (.tmp .nil)) | exact .tmp (.tmp (.tmp .nil)) | exact .cell (.cell (.cell .nil))) ?_
    rw [eN, eE, if_neg (by simp [hf]), if_neg (by simp [hf])]
    rfl
end Go.Proofs.Ytjlpoomjgidgaaa
