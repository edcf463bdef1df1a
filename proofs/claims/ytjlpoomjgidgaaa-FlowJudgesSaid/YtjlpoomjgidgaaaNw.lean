/- Layer 5: the program's CheckCourse; the law. -/
import Derived.Test.YtjlpoomjgidgaaaNv
import Derived.Test.YtjlpoomjgidgaaaNh
import Derived.Test.YtjlpoomjgidgaaaNf
import Derived.Test.YtjlpoomjgidgaaaGh
namespace Go.Proofs.Ytjlpoomjgidgaaa
open Go.Proofs.Ytjlpoomjgidgaaa.Ev

theorem chkHo_le : ∀ {l : List Ho} {seen : List Int}, chkHo seen l = 0 → ∀ x ∈ l, x.sl ≤ x.sh ∧ x.el ≤ x.eh
  | y :: r, seen, h, x, hx => by
    rw [chkHo] at h
    split at h
    · cases h
    · rename_i hok
      split at h
      · cases h
      · rcases List.mem_cons.1 hx with rfl | hx
        · have h1 : hoOk x = true := by simpa using hok
          unfold hoOk idB msB maB at h1
          simp at h1
          omega
        · exact chkHo_le h x hx
theorem chkMv_le {hs : List Ho} : ∀ {l : List Mv} {seen : List Int}, chkMv hs seen l = 0 → ∀ x ∈ l, x.lo ≤ x.hi
  | y :: r, seen, h, x, hx => by
    rw [chkMv] at h
    split at h
    · rename_i hne; exact absurd h hne
    · rename_i hok
      split at h
      · cases h
      · rcases List.mem_cons.1 hx with rfl | hx
        · have h1 : mvErr hs x = 0 := by omega
          unfold mvErr at h1
          split at h1
          · cases h1
          · rename_i h2
            have h3 : mvOk x = true := by simpa using h2
            unfold mvOk msB maB at h3
            simp at h3
            omega
        · exact chkMv_le h x hx
theorem chkT_le {hs : List Ho} {ms : List Mv} (h : chkT hs ms = 0) : (∀ x ∈ hs, x.sl ≤ x.sh ∧ x.el ≤ x.eh) ∧ ∀ x ∈ ms, x.lo ≤ x.hi := by
  unfold chkT at h
  split at h
  · cases h
  · split at h
    · rename_i h1; exact absurd h h1
    · rename_i h1
      exact ⟨chkHo_le (seen := []) (by omega), chkMv_le h⟩
theorem edges_E {hs : List Ho} {ms : List Mv} (h : chkT hs ms = 0) {k : Nat} (hk : k < hs.length + hs.length + ms.length) : edB (atE (edges hs ms) k) := by
  obtain ⟨b1, b2⟩ := chkT_bd h
  obtain ⟨c1, c2⟩ := chkT_le h
  have aH : ∀ i, i < hs.length → atH hs i ∈ hs := fun i hi => by unfold atH; simp [hi]
  have aM : ∀ i, i < ms.length → atM ms i ∈ ms := fun i hi => by unfold atM; simp [hi]
  by_cases q1 : k < hs.length
  · rw [edges_st q1]
    have h1 := b1 _ (aH k q1)
    have h2 := c1 _ (aH k q1)
    unfold hoB at h1
    unfold eSt edB
    simp only
    omega
  · by_cases q2 : k < hs.length + hs.length
    · obtain ⟨i, rfl⟩ : ∃ i, k = hs.length + i := ⟨k - hs.length, by omega⟩
      have hi : i < hs.length := by omega
      rw [edges_en hi]
      have h1 := b1 _ (aH i hi)
      have h2 := c1 _ (aH i hi)
      unfold hoB at h1
      unfold eEn edB
      simp only
      omega
    · obtain ⟨i, rfl⟩ : ∃ i, k = hs.length + hs.length + i := ⟨k - (hs.length + hs.length), by omega⟩
      have hi : i < ms.length := by omega
      rw [edges_mv hi]
      have h1 := b2 _ (aM i hi)
      have h2 := c2 _ (aM i hi)
      unfold mvB at h1
      unfold eMv edB
      simp only
      omega
set_option maxRecDepth 100000 in
set_option maxHeartbeats 8000000 in
theorem CheckCourse_con (h : Heap) (g : Gd h) (hv mv sv ev xv : AV) (hs : List Ho) (ms : List Mv) (ss es xs : List Int) (hh : HoA h hv hs) (hm : MvA h mv ms) (z1 : InZ h sv ss) (z2 : InZ h ev es) (z3 : InZ h xv xs) :
    Con Try.prog Bs 9 [.agg [hv, mv], .agg [sv, ev, xv]] h [] (.int .i64 (couE hs ms ss es xs)) [] := by
  refine Con.start rfl Try.func9 rfl rfl Try.ntmps9 rfl rfl g ?_
  (refine WK.seq ?_; refine WK.region ?_; refine St.box fun _ _ => ?_; refine St.box fun _ _ => ?_; refine St.assign ?_; refine WO.nil ?_; refine WK.seq ?_; refine WK.seq ?_; refine WK.region ?_; refine St.load ?_)
  rename_i p2 hp2 p3 hp3
  refine St.call (fun _ => rfl) (fun h2 hh2 => check_con h2 hh2.gd hv mv hs ms (hh.vw hh2) (hm.vw hh2)) ?_
  (refine St.assign ?_; refine WO.nil ?_; refine WK.seq ?_; refine WK.region ?_; refine St.move ?_; refine St.bin ?_; refine WO.nil ?_)
  refine St.splitC (fun q => ?_) (fun q => ?_)
  · have hne : chkT hs ms ≠ 0 := by simpa using q
    (refine WK.seq ?_; refine WK.region ?_; refine St.move ?_; refine St.assign ?_; refine WO.nil ?_)
    refine St.ret (by first | exact .tmp .nil | exact .cell .nil | exact .cell (.tmp .nil) | exact .tmp (.tmp .nil) | exact .cell (.cell .nil) | exact .tmp (.cell .nil) | exact .nil | exact .tmp (.cell (.tmp .nil)) | exact .cell (.tmp (.tmp .nil)) | exact .cell (.cell (.tmp .nil)) | exact .tmp (.tmp (.tmp .nil)) | exact .cell (.cell (.cell .nil))) ?_
    unfold couE
    rw [if_pos hne]
    rfl
  have he : chkT hs ms = 0 := by simpa using q
  obtain ⟨l1, l2⟩ := chkT_len he
  obtain ⟨n1, n2⟩ := chkT_ids he
  have eE : couE hs ms ss es xs = if fits hs ms ss es xs = true then 0 else 8 := if_neg (by simp [he])
  rw [eE]
  (refine WK.skip ?_; refine WK.seq ?_; refine WK.seq ?_; refine WK.regionD ?_; refine St.load ?_)
  refine StD.callR (fun _ => rfl) (fun h2 hh2 => network_con h2 hh2.gd hv mv hs ms (hh.eV.vw hh2) (hm.eV.vw hh2) (by omega) (by omega)) ?_
  rintro u L ⟨p, vi, ve, Li, Le, rfl, rfl, hwi, hwe⟩
  (refine St.load ?_)
  refine StD.callV (((p, AObj.cells [vi, ve] 91) :: (Li ++ Le)).map (fun q => (1, q))) (v := .bool (fits hs ms ss es xs)) (fun _ => rfl) (fun x hx => ?_) (fun h2 hh2 => ?_) ?_
  · refine ⟨List.mem_append_left _ hx, ?_⟩
    obtain ⟨q, _, rfl⟩ := List.mem_map.1 hx
    exact show maskAt _ _ 1 = true by decide +kernel
  · have hin : ∀ x ∈ (p, AObj.cells [vi, ve] 91) :: (Li ++ Le), x ∈ (((p, AObj.cells [vi, ve] 91) :: (Li ++ Le)).map (fun q => ((1 : Nat), q))).map (·.2) ++ [(p3, AObj.cells [sv, ev, xv] 28), (p2, .cells [hv, mv] 25)] := fun x hx => List.mem_append_left _ (by rw [List.map_map]; exact List.mem_map.2 ⟨x, hx, rfl⟩)
    exact isCourse_con h2 hh2.gd p vi ve sv ev xv hs ms ss es xs (hh2.rdG (hin _ (List.Mem.head _)) rfl) (hh2.rdG (hin _ (List.Mem.head _)) rfl) (en_v inC_len hwi.isL rfl hh2 (fun x hx => hin x (by simp [hx]))) (en_v edC_len hwe.isL rfl hh2 (fun x hx => hin x (by simp [hx]))) (z1.vw hh2) (z2.vw hh2) (z3.vw hh2) l1 l2 (fun k hk => edges_E he hk) n1 n2
  (refine St.un ?_)
  refine WO.nilG ?_
  cases fits hs ms ss es xs
  · (refine WK.condT ?_; refine WK.seq ?_; refine WK.region ?_; refine St.assign ?_; refine WO.nil ?_)
    refine St.ret (by first | exact .tmp .nil | exact .cell .nil | exact .cell (.tmp .nil) | exact .tmp (.tmp .nil) | exact .cell (.cell .nil) | exact .tmp (.cell .nil) | exact .nil | exact .tmp (.cell (.tmp .nil)) | exact .cell (.tmp (.tmp .nil)) | exact .cell (.cell (.tmp .nil)) | exact .tmp (.tmp (.tmp .nil)) | exact .cell (.cell (.cell .nil))) ?_
    rfl
  · (refine WK.condF ?_; refine WK.skip ?_; refine WK.seq ?_; refine WK.region ?_; refine St.assign ?_; refine WO.nil ?_)
    refine St.ret (by first | exact .tmp .nil | exact .cell .nil | exact .cell (.tmp .nil) | exact .tmp (.tmp .nil) | exact .cell (.cell .nil) | exact .tmp (.cell .nil) | exact .nil | exact .tmp (.cell (.tmp .nil)) | exact .cell (.tmp (.tmp .nil)) | exact .cell (.cell (.tmp .nil)) | exact .tmp (.tmp (.tmp .nil)) | exact .cell (.cell (.cell .nil))) ?_
    rfl
set_option maxRecDepth 100000 in
set_option maxHeartbeats 16000000 in
theorem judges_con (h : Heap) (g : Gd h) (hv mv sv ev xv cv : AV) (way : Int) (hs : List Ho) (ms : List Mv) (ss es xs l : List Int) (hh : HoA h hv hs) (hm : MvA h mv ms) (z1 : InZ h sv ss) (z2 : InZ h ev es) (z3 : InZ h xv xs) (hc : InV h cv l) :
    Con Try.prog Bs 3 [.agg [hv, mv], .agg [sv, ev, xv], .agg [.int .i64 way, cv]] h [] (.bool true) [] := by
  refine Con.start rfl Try.func3 rfl rfl Try.ntmps3 rfl rfl g ?_
  (refine WK.seq ?_; refine WK.region ?_; refine St.box fun _ _ => ?_; refine St.box fun _ _ => ?_; refine St.box fun _ _ => ?_; refine St.assign ?_; refine WO.nil ?_; refine WK.seq ?_; refine WK.seq ?_; refine WK.region ?_; refine St.load ?_)
  rename_i p3 hp3 p4 hp4 p5 hp5
  refine St.call (fun _ => rfl) (fun h2 hh2 => few_con' h2 hh2.gd hv mv hs ms (hh.eV.vw hh2) (hm.eV.vw hh2)) ?_
  generalize fewB hs ms = fb
  cases fb
  · (refine St.un ?_; refine St.move ?_; refine St.skip ?_; refine St.skip ?_; refine St.skip ?_; refine St.pickT ?_; refine St.move ?_; refine St.skip ?_; refine St.skip ?_; refine St.skip ?_; refine St.skip ?_; refine St.pickT ?_; refine WO.nil ?_; refine WK.condT ?_; refine WK.seq ?_; refine WK.region ?_)
    refine St.call (fun _ => rfl) (fun h2 hh2 => sanity_con h2 hh2.gd) ?_
    (refine St.assign ?_; refine WO.nil ?_)
    refine St.ret (by first | exact .tmp .nil | exact .cell .nil | exact .cell (.tmp .nil) | exact .tmp (.tmp .nil) | exact .cell (.cell .nil) | exact .tmp (.cell .nil) | exact .nil | exact .tmp (.cell (.tmp .nil)) | exact .cell (.tmp (.tmp .nil)) | exact .cell (.cell (.tmp .nil)) | exact .tmp (.tmp (.tmp .nil)) | exact .cell (.cell (.cell .nil))) ?_
    rfl
  (refine St.un ?_; refine St.move ?_; refine St.load ?_)
  refine St.call (fun _ => rfl) (fun h2 hh2 => course_con h2 hh2.gd sv ev xv ss es xs (z1.inV.vw hh2) (z2.inV.vw hh2) (z3.inV.vw hh2)) ?_
  generalize (decide (ss.length ≤ 60) && (decide (es.length ≤ 60) && decide (xs.length ≤ 60))) = cb
  cases cb
  · (refine St.un ?_; refine St.pickF ?_; refine St.move ?_; refine St.skip ?_; refine St.skip ?_; refine St.skip ?_; refine St.skip ?_; refine St.pickT ?_; refine WO.nil ?_; refine WK.condT ?_; refine WK.seq ?_; refine WK.region ?_)
    refine St.call (fun _ => rfl) (fun h2 hh2 => sanity_con h2 hh2.gd) ?_
    (refine St.assign ?_; refine WO.nil ?_)
    refine St.ret (by first | exact .tmp .nil | exact .cell .nil | exact .cell (.tmp .nil) | exact .tmp (.tmp .nil) | exact .cell (.cell .nil) | exact .tmp (.cell .nil) | exact .nil | exact .tmp (.cell (.tmp .nil)) | exact .cell (.tmp (.tmp .nil)) | exact .cell (.cell (.tmp .nil)) | exact .tmp (.tmp (.tmp .nil)) | exact .cell (.cell (.cell .nil))) ?_
    rfl
  (refine St.un ?_; refine St.pickF ?_; refine St.move ?_; refine St.fieldAddr ?_; refine St.load ?_)
  refine St.lenG rfl hc.ilen ?_
  (refine St.bin ?_; refine St.pickF ?_; refine WO.nil ?_)
  refine St.splitC (fun q => ?_) (fun q => ?_)
  · (refine WK.seq ?_; refine WK.region ?_)
    refine St.call (fun _ => rfl) (fun h2 hh2 => sanity_con h2 hh2.gd) ?_
    (refine St.assign ?_; refine WO.nil ?_)
    refine St.ret (by first | exact .tmp .nil | exact .cell .nil | exact .cell (.tmp .nil) | exact .tmp (.tmp .nil) | exact .cell (.cell .nil) | exact .tmp (.cell .nil) | exact .nil | exact .tmp (.cell (.tmp .nil)) | exact .cell (.tmp (.tmp .nil)) | exact .cell (.cell (.tmp .nil)) | exact .tmp (.tmp (.tmp .nil)) | exact .cell (.cell (.cell .nil))) ?_
    rfl
  have hl3 : l.length ≤ 1000000 := by simp at q; omega
  (refine WK.skip ?_; refine WK.seq ?_; refine WK.region ?_; refine St.load ?_; refine St.load ?_)
  refine St.call (fun _ => rfl) (fun h2 hh2 => Through_con h2 hh2.gd hv mv cv way hs ms l (hh.vw hh2) (hm.vw hh2) (hc.vw hh2) hl3) ?_
  (refine St.move ?_; refine St.extract ?_; refine St.extract ?_; refine St.assign ?_; refine St.assign ?_; refine WO.nil ?_; refine WK.seq ?_; refine WK.region ?_; refine St.load ?_; refine St.load ?_)
  refine St.call (fun _ => rfl) (fun h2 hh2 => RThrough_con h2 hh2.gd hv mv cv way hs ms l (hh.vw hh2) (hm.vw hh2) (hc.vw hh2) hl3) ?_
  (refine St.move ?_; refine St.extract ?_; refine St.extract ?_; refine St.assign ?_; refine St.assign ?_; refine WO.nil ?_; refine WK.seq ?_; refine WK.regionD ?_)
  refine St.call (fun _ => rfl) (fun h2 hh2 => sanity_con h2 hh2.gd) ?_
  (refine St.move ?_; refine St.load ?_; refine St.load ?_)
  refine St.call (fun _ => rfl) (fun h2 hh2 => CheckCourse_con h2 hh2.gd hv mv sv ev xv hs ms ss es xs (hh.vw hh2) (hm.vw hh2) (z1.vw hh2) (z2.vw hh2) (z3.vw hh2)) ?_
  (refine St.load ?_; refine St.load ?_)
  refine St.call (fun _ => rfl) (fun h2 hh2 => RCheckCourse_con h2 hh2.gd hv mv sv ev xv hs ms ss es xs (hh.vw hh2) (hm.vw hh2) (z1.inV.vw hh2) (z2.inV.vw hh2) (z3.inV.vw hh2)) ?_
  generalize couE hs ms ss es xs = ce
  (refine St.bin ?_; refine St.pickT ?_; refine St.move ?_)
  refine St.split (fun q2 => ?_) (fun q2 => ?_)
  rotate_left
  · simp at q2
  (refine St.load ?_; refine St.load ?_)
  refine St.call (fun _ => rfl) (fun h2 hh2 => CheckCut_con h2 hh2.gd hv mv cv way hs ms l (hh.vw hh2) (hm.vw hh2) (hc.vw hh2) hl3) ?_
  (refine St.load ?_; refine St.load ?_)
  refine St.call (fun _ => rfl) (fun h2 hh2 => RCheckCut_con h2 hh2.gd hv mv cv way hs ms l (hh.vw hh2) (hm.vw hh2) (hc.vw hh2) hl3) ?_
  generalize cutE hs ms way l = cu
  generalize thruN hs ms way l = tn
  generalize thruE hs ms way l = te
  (refine St.bin ?_; refine St.pickT ?_; refine St.move ?_)
  refine St.split (fun q3 => ?_) (fun q3 => ?_)
  rotate_left
  · simp [oneOf] at q3
  (refine St.move ?_; refine St.move ?_; refine St.bin ?_; refine St.pickT ?_; refine St.move ?_)
  refine St.split (fun q4 => ?_) (fun q4 => ?_)
  rotate_left
  · simp [oneOf] at q4
  (refine St.move ?_; refine St.move ?_; refine St.bin ?_; refine St.pickT ?_; refine St.assign ?_; refine WO.nil ?_)
  refine St.ret (by first | exact .tmp .nil | exact .cell .nil | exact .cell (.tmp .nil) | exact .tmp (.tmp .nil) | exact .cell (.cell .nil) | exact .tmp (.cell .nil) | exact .nil | exact .tmp (.cell (.tmp .nil)) | exact .cell (.tmp (.tmp .nil)) | exact .cell (.cell (.tmp .nil)) | exact .tmp (.tmp (.tmp .nil)) | exact .cell (.cell (.cell .nil))) ?_
  simp [oneOf]
end Go.Proofs.Ytjlpoomjgidgaaa
