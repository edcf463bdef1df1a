/- Layer 5: the program's Check. -/
import Derived.Test.YtjlpoomjgidgaaaGb
namespace Go.Proofs.Ytjlpoomjgidgaaa
open Go.Proofs.Ytjlpoomjgidgaaa.Ev

theorem chkHo_drop {seen : List Int} {l : List Ho} {k : Nat} (h : k < l.length) : chkHo seen (l.drop k) = if hoOk (nthE l k) = false then 1 else if (nthE l k).id ∈ seen then 6 else chkHo (seen ++ [(nthE l k).id]) (l.drop (k + 1)) := by
  rw [drop_consE h, chkHo]
theorem chkMv_drop {hs : List Ho} {seen : List Int} {l : List Mv} {k : Nat} (h : k < l.length) : chkMv hs seen (l.drop k) = if mvErr hs (nthE l k) ≠ 0 then mvErr hs (nthE l k) else if (nthE l k).id ∈ seen then 6 else chkMv hs (seen ++ [(nthE l k).id]) (l.drop (k + 1)) := by
  rw [drop_consE h, chkMv]
theorem sizeHo : sizeT Try.prog 69 = some 6 := by kernel_rfl
theorem sizeMv : sizeT Try.prog 65 = some 5 := by kernel_rfl
set_option maxRecDepth 100000 in
set_option maxHeartbeats 16000000 in
theorem check_con (h : Heap) (g : Gd h) (hv mv : AV) (hs : List Ho) (ms : List Mv) (hh : HoA h hv hs) (hm : MvA h mv ms) :
    Con Try.prog Bs 25 [.agg [hv, mv]] h [] (.int .i64 (chkT hs ms)) [] := by
  refine Con.start rfl Try.func25 rfl rfl Try.ntmps25 rfl rfl g ?_
  (refine WK.seq ?_; refine WK.region ?_; refine St.box fun _ _ => ?_; refine St.assign ?_; refine WO.nil ?_; refine WK.seq ?_; refine WK.seq ?_; refine WK.region ?_; refine St.fieldAddr ?_; refine St.load ?_)
  rename_i p1 hp1
  refine St.lenG rfl (HoV.hlen hh.eV) ?_
  (refine St.bin ?_; refine St.move ?_)
  refine St.split (fun q1 => ?_) (fun q1 => ?_)
  · (refine St.skip ?_; refine St.skip ?_; refine St.skip ?_; refine St.skip ?_; refine St.pickT ?_; refine WO.nil ?_; refine WK.condT ?_; refine WK.seq ?_; refine WK.region ?_; refine St.assign ?_; refine WO.nil ?_)
    refine St.ret (by first | exact .tmp .nil | exact .cell .nil | exact .cell (.tmp .nil) | exact .tmp (.tmp .nil) | exact .cell (.cell .nil) | exact .tmp (.cell .nil) | exact .nil | exact .tmp (.cell (.tmp .nil)) | exact .cell (.tmp (.tmp .nil)) | exact .cell (.cell (.tmp .nil)) | exact .tmp (.tmp (.tmp .nil)) | exact .cell (.cell (.cell .nil))) ?_
    unfold chkT
    rw [if_pos (.inl (by simp at q1; omega))]
    rfl
  (refine St.fieldAddr ?_; refine St.load ?_)
  refine St.lenG rfl (MvV.mlen hm.eV) ?_
  (refine St.bin ?_; refine St.pickF ?_; refine WO.nil ?_)
  refine St.splitC (fun q2 => ?_) (fun q2 => ?_)
  · (refine WK.seq ?_; refine WK.region ?_; refine St.assign ?_; refine WO.nil ?_)
    refine St.ret (by first | exact .tmp .nil | exact .cell .nil | exact .cell (.tmp .nil) | exact .tmp (.tmp .nil) | exact .cell (.cell .nil) | exact .tmp (.cell .nil) | exact .nil | exact .tmp (.cell (.tmp .nil)) | exact .cell (.tmp (.tmp .nil)) | exact .cell (.cell (.tmp .nil)) | exact .tmp (.tmp (.tmp .nil)) | exact .cell (.cell (.cell .nil))) ?_
    unfold chkT
    rw [if_pos (.inr (by simp at q2; omega))]
    rfl
  have hl1 : hs.length ≤ 9 := by simp at q1; omega
  have hl2 : ms.length ≤ 24 := by simp at q2; omega
  have e : chkT hs ms = if chkHo [] hs ≠ 0 then chkHo [] hs else chkMv hs [] ms := by unfold chkT; rw [if_neg (by omega)]
  rw [e]
  clear e q1 q2
  (refine WK.skip ?_; refine WK.seq ?_; refine WK.seq ?_; refine WK.region ?_; refine St.fieldAddr ?_; refine St.load ?_)
  refine St.lenG rfl (HoV.hlen hh.eV) ?_
  (refine St.move ?_; refine WO.nil ?_; refine WK.block ?_)
  by_cases hn : hs.length = 0
  · have e1 : hs = [] := List.length_eq_zero_iff.1 hn
    subst e1
    rw [show chkHo [] [] = 0 from rfl, if_neg (by simp)]
    refine WK.unroll ?_
    (refine WK.seq ?_; refine WK.region ?_; refine St.bin ?_; refine WO.nil ?_; refine WK.seq ?_; refine WK.condF ?_; refine WK.exit ?_; refine WK.seq ?_; refine WK.seq ?_; refine WK.region ?_; refine St.fieldAddr ?_; refine St.load ?_)
    refine St.lenG rfl (MvV.mlen hm.eV) ?_
    (refine St.move ?_; refine WO.nil ?_; refine WK.block ?_)
    by_cases hn2 : ms.length = 0
    · have e1 : ms = [] := List.length_eq_zero_iff.1 hn2
      subst e1
      refine WK.unroll ?_
      (refine WK.seq ?_; refine WK.region ?_; refine St.bin ?_; refine WO.nil ?_; refine WK.seq ?_; refine WK.condF ?_; refine WK.exit ?_; refine WK.seq ?_; refine WK.region ?_; refine St.assign ?_; refine WO.nil ?_)
      refine St.ret (by first | exact .tmp .nil | exact .cell .nil | exact .cell (.tmp .nil) | exact .tmp (.tmp .nil) | exact .cell (.cell .nil) | exact .tmp (.cell .nil) | exact .nil | exact .tmp (.cell (.tmp .nil)) | exact .cell (.tmp (.tmp .nil)) | exact .cell (.cell (.tmp .nil)) | exact .tmp (.tmp (.tmp .nil)) | exact .cell (.cell (.cell .nil))) ?_
      rfl
    rcases hm with ⟨_, rfl⟩ | ⟨b2, off2, m2, rfl, hm2, hk2⟩
    · simp at hn2
    refine WK.inv (ι := Nat) (fun z => [(1, .ptr p1 0), (2, .int .i64 0), (38, .slice b2 off2 ms.length (.k m2)), (39, .int .i64 ms.length), (40, .int .i64 z)]) (fun _ => [(p1, .cells [hv, .slice b2 off2 ms.length (.k m2)] 25)]) (fun z => z ≤ ms.length ∧ chkMv [] [] ms = chkMv [] ((mids ms).take z) (ms.drop z)) (fun z => ms.length - z) 0 ⟨by omega, rfl⟩ ⟨rfl, rfl, rfl, rfl, rfl, trivial⟩ (by (repeat (first | exact List.Sublist.refl _ | exact List.nil_sublist _ | apply List.Sublist.cons_cons | apply List.Sublist.cons))) ?_
    rintro k ⟨hkl, hchk⟩ ih
    (refine WK.seq ?_; refine WK.region ?_; refine St.bin ?_; refine WO.nil ?_; refine WK.seq ?_)
    refine St.splitC (fun hc => ?_) (fun hc => ?_)
    · have hlt : k < ms.length := by simp at hc; omega
      have hd := chkMv_drop (hs := []) (seen := (mids ms).take k) (l := ms) (k := k) hlt
      rw [← mids_succ hlt] at hd
      (refine WK.skip ?_; refine WK.seq ?_; refine WK.block ?_; refine WK.seq ?_; refine WK.region ?_; refine St.move ?_)
      refine St.at ?_
      refine St.loadX (fun h2 hh2 => ((hk2.vw hh2).at_ (z := (k : Int)) (n := k) (by omega) hlt).agg (by simp [mvC]) rfl rfl rfl) ?_
      (refine St.alloc fun _ _ => ?_; refine St.assign ?_; refine St.store0 ?_; refine WO.nil ?_; refine WK.seq ?_; refine WK.seq ?_; refine WK.region ?_; refine St.fieldAddr ?_; refine St.load ?_; refine St.load ?_)
      refine St.call (fun _ => rfl) (fun h2 hh2 => checkMove_con h2 hh2.gd hv [] (nthE ms k) (hh.eV.vw hh2) (by omega)) ?_
      (refine St.assign ?_; refine WO.nil ?_; refine WK.seq ?_; refine WK.region ?_; refine St.move ?_; refine St.bin ?_; refine WO.nil ?_)
      refine St.splitC (fun q => ?_) (fun q => ?_)
      · have hne : mvErr [] (nthE ms k) ≠ 0 := by simpa using q
        rw [if_pos hne] at hd
        (refine WK.seq ?_; refine WK.region ?_; refine St.move ?_; refine St.assign ?_; refine WO.nil ?_)
        refine St.ret (by first | exact .tmp .nil | exact .cell .nil | exact .cell (.tmp .nil) | exact .tmp (.tmp .nil) | exact .cell (.cell .nil) | exact .tmp (.cell .nil) | exact .nil | exact .tmp (.cell (.tmp .nil)) | exact .cell (.tmp (.tmp .nil)) | exact .cell (.cell (.tmp .nil)) | exact .tmp (.tmp (.tmp .nil)) | exact .cell (.cell (.cell .nil))) ?_
        rw [hchk, hd]
        rfl
      have he0 : mvErr [] (nthE ms k) = 0 := by simpa using q
      rw [if_neg (by simp [he0])] at hd
      (refine WK.skip ?_; refine WK.seq ?_; refine WK.regionD ?_; refine St.fieldAddr ?_; refine St.load ?_; refine St.move ?_)
      refine St.sliceG (v := .slice b2 off2 k (.k m2)) (fun h2 hh2 => ?_) ?_
      · show plainV (evSlice Try.prog h2 23 (.slice b2 off2 ms.length (.k m2)) none (some (.int .i64 (k : Int))) none) h2 = _
        rw [slK_to Try.underlying23 sizeMv (by omega) hm2]
        rfl
      (refine St.fieldAddr ?_; refine St.load ?_)
      refine St.call (fun _ => rfl) (fun h2 hh2 => moveAt_con h2 hh2.gd (.slice b2 off2 k (.k m2)) (ms.take k) (nthE ms k).id ((hk2.vw hh2).takV (by omega)) (by rw [List.length_take]; omega)) ?_
      rw [mids_take]
      (refine St.bin ?_; refine WO.nil ?_)
      refine St.splitC (fun q3 => ?_) (fun q3 => ?_)
      · have hmm : (nthE ms k).id ∈ (mids ms).take k := plI_ge.1 (by simpa using q3)
        rw [if_pos hmm] at hd
        (refine WK.seq ?_; refine WK.region ?_; refine St.assign ?_; refine WO.nil ?_)
        refine St.ret (by first | exact .tmp .nil | exact .cell .nil | exact .cell (.tmp .nil) | exact .tmp (.tmp .nil) | exact .cell (.cell .nil) | exact .tmp (.cell .nil) | exact .nil | exact .tmp (.cell (.tmp .nil)) | exact .cell (.tmp (.tmp .nil)) | exact .cell (.cell (.tmp .nil)) | exact .tmp (.tmp (.tmp .nil)) | exact .cell (.cell (.cell .nil))) ?_
        rw [hchk, hd]
        rfl
      · have hmm : (nthE ms k).id ∉ (mids ms).take k := fun e => by have := plI_ge.2 e; simp at q3; omega
        rw [if_neg hmm] at hd
        (refine WK.skip ?_; refine WK.blk ?_; refine WK.region ?_; refine St.binI ?_; refine St.move ?_; refine WO.nil ?_)
        refine WK.le ?_ (by (repeat (first | exact List.Sublist.refl _ | exact List.nil_sublist _ | apply List.Sublist.cons_cons | apply List.Sublist.cons))) (ih (k + 1) ⟨hlt, hchk.trans hd⟩ (by omega))
        exact ⟨rfl, rfl, rfl, rfl, rfl, trivial⟩
    · have : k = ms.length := by simp at hc; omega
      subst this
      (refine WK.exit ?_; refine WK.seq ?_; refine WK.region ?_; refine St.assign ?_; refine WO.nil ?_)
      refine St.ret (by first | exact .tmp .nil | exact .cell .nil | exact .cell (.tmp .nil) | exact .tmp (.tmp .nil) | exact .cell (.cell .nil) | exact .tmp (.cell .nil) | exact .nil | exact .tmp (.cell (.tmp .nil)) | exact .cell (.tmp (.tmp .nil)) | exact .cell (.cell (.tmp .nil)) | exact .tmp (.tmp (.tmp .nil)) | exact .cell (.cell (.cell .nil))) ?_
      rw [hchk, List.drop_eq_nil_of_le (by omega)]
      rfl
  have hh' := hh
  rcases hh' with ⟨_, rfl⟩ | ⟨b, off, m, rfl, hm1, hk⟩
  · simp at hn
  refine WK.inv (ι := Nat) (fun z => [(1, .ptr p1 0), (2, .int .i64 0), (20, .slice b off hs.length (.k m)), (21, .int .i64 hs.length), (22, .int .i64 z)]) (fun _ => [(p1, .cells [.slice b off hs.length (.k m), mv] 25)]) (fun z => z ≤ hs.length ∧ chkHo [] hs = chkHo ((hids hs).take z) (hs.drop z)) (fun z => hs.length - z) 0 ⟨by omega, rfl⟩ ⟨rfl, rfl, rfl, rfl, rfl, trivial⟩ (by (repeat (first | exact List.Sublist.refl _ | exact List.nil_sublist _ | apply List.Sublist.cons_cons | apply List.Sublist.cons))) ?_
  rintro k ⟨hkl, hchk⟩ ih
  (refine WK.seq ?_; refine WK.region ?_; refine St.bin ?_; refine WO.nil ?_; refine WK.seq ?_)
  refine St.splitC (fun hc => ?_) (fun hc => ?_)
  · have hlt : k < hs.length := by simp at hc; omega
    have hd := chkHo_drop (seen := (hids hs).take k) (l := hs) (k := k) hlt
    rw [← hids_succ hlt] at hd
    (refine WK.skip ?_; refine WK.seq ?_; refine WK.block ?_; refine WK.seq ?_; refine WK.region ?_; refine St.move ?_)
    refine St.at ?_
    refine St.loadX (fun h2 hh2 => ((hk.vw hh2).at_ (z := (k : Int)) (n := k) (by omega) hlt).agg (by simp [hoC]) rfl rfl rfl) ?_
    (refine St.alloc fun _ _ => ?_; refine St.assign ?_; refine St.store0 ?_; refine WO.nil ?_; refine WK.seq ?_; refine WK.regionD ?_; refine St.fieldAddr ?_; refine St.load ?_; refine St.move ?_)
    refine St.sliceG (v := .slice b off k (.k m)) (fun h2 hh2 => ?_) ?_
    · show plainV (evSlice Try.prog h2 22 (.slice b off hs.length (.k m)) none (some (.int .i64 (k : Int))) none) h2 = _
      rw [slK_to Try.underlying22 sizeHo (by omega) hm1]
      rfl
    (refine St.load ?_)
    refine St.call (fun _ => rfl) (fun h2 hh2 => checkHolder_con h2 hh2.gd (.slice b off k (.k m)) (hs.take k) (nthE hs k) ((hk.vw hh2).takV (by omega)) (by rw [List.length_take]; omega)) ?_
    rw [hids_take]
    have hd' : chkHo ((hids hs).take k) (hs.drop k) = if (if hoOk (nthE hs k) = false then (1 : Int) else if (nthE hs k).id ∈ (hids hs).take k then 6 else 0) ≠ 0 then (if hoOk (nthE hs k) = false then (1 : Int) else if (nthE hs k).id ∈ (hids hs).take k then 6 else 0) else chkHo ((hids hs).take (k + 1)) (hs.drop (k + 1)) := by
      rw [hd]
      split
      · simp
      · split <;> simp
    generalize (if hoOk (nthE hs k) = false then (1 : Int) else if (nthE hs k).id ∈ (hids hs).take k then 6 else 0) = er at hd' ⊢
    clear hd
    (refine St.assign ?_; refine WO.nil ?_; refine WK.seq ?_; refine WK.region ?_; refine St.move ?_; refine St.bin ?_; refine WO.nil ?_)
    refine St.splitC (fun q => ?_) (fun q => ?_)
    · have hne : er ≠ 0 := by simpa using q
      rw [if_pos hne] at hd'
      (refine WK.seq ?_; refine WK.region ?_; refine St.move ?_; refine St.assign ?_; refine WO.nil ?_)
      refine St.ret (by first | exact .tmp .nil | exact .cell .nil | exact .cell (.tmp .nil) | exact .tmp (.tmp .nil) | exact .cell (.cell .nil) | exact .tmp (.cell .nil) | exact .nil | exact .tmp (.cell (.tmp .nil)) | exact .cell (.tmp (.tmp .nil)) | exact .cell (.cell (.tmp .nil)) | exact .tmp (.tmp (.tmp .nil)) | exact .cell (.cell (.cell .nil))) ?_
      rw [hchk, hd', if_pos hne]
      rfl
    · have he0 : er = 0 := by simpa using q
      rw [if_neg (by simp [he0])] at hd'
      (refine WK.skip ?_; refine WK.blk ?_; refine WK.region ?_; refine St.binI ?_; refine St.move ?_; refine WO.nil ?_)
      refine WK.le ?_ (by (repeat (first | exact List.Sublist.refl _ | exact List.nil_sublist _ | apply List.Sublist.cons_cons | apply List.Sublist.cons))) (ih (k + 1) ⟨hlt, hchk.trans hd'⟩ (by omega))
      exact ⟨rfl, rfl, rfl, rfl, rfl, trivial⟩
  · have : k = hs.length := by simp at hc; omega
    subst this
    rw [List.drop_eq_nil_of_le (Nat.le_refl _)] at hchk
    rw [hchk, show ∀ s, chkHo s [] = 0 from fun _ => rfl, if_neg (by simp)]
    clear ih
    (refine WK.exit ?_; refine WK.seq ?_; refine WK.seq ?_; refine WK.region ?_; refine St.fieldAddr ?_; refine St.load ?_)
    refine St.lenG rfl (MvV.mlen hm.eV) ?_
    (refine St.move ?_; refine WO.nil ?_; refine WK.block ?_)
    by_cases hn2 : ms.length = 0
    · have e1 : ms = [] := List.length_eq_zero_iff.1 hn2
      subst e1
      refine WK.unroll ?_
      (refine WK.seq ?_; refine WK.region ?_; refine St.bin ?_; refine WO.nil ?_; refine WK.seq ?_; refine WK.condF ?_; refine WK.exit ?_; refine WK.seq ?_; refine WK.region ?_; refine St.assign ?_; refine WO.nil ?_)
      refine St.ret (by first | exact .tmp .nil | exact .cell .nil | exact .cell (.tmp .nil) | exact .tmp (.tmp .nil) | exact .cell (.cell .nil) | exact .tmp (.cell .nil) | exact .nil | exact .tmp (.cell (.tmp .nil)) | exact .cell (.tmp (.tmp .nil)) | exact .cell (.cell (.tmp .nil)) | exact .tmp (.tmp (.tmp .nil)) | exact .cell (.cell (.cell .nil))) ?_
      rfl
    rcases hm with ⟨_, rfl⟩ | ⟨b2, off2, m2, rfl, hm2, hk2⟩
    · simp at hn2
    refine WK.inv (ι := Nat) (fun z => [(1, .ptr p1 0), (2, .int .i64 0), (38, .slice b2 off2 ms.length (.k m2)), (39, .int .i64 ms.length), (40, .int .i64 z)]) (fun _ => [(p1, .cells [.slice b off hs.length (.k m), .slice b2 off2 ms.length (.k m2)] 25)]) (fun z => z ≤ ms.length ∧ chkMv hs [] ms = chkMv hs ((mids ms).take z) (ms.drop z)) (fun z => ms.length - z) 0 ⟨by omega, rfl⟩ ⟨rfl, rfl, rfl, rfl, rfl, trivial⟩ (by (repeat (first | exact List.Sublist.refl _ | exact List.nil_sublist _ | apply List.Sublist.cons_cons | apply List.Sublist.cons))) ?_
    rintro k ⟨hkl2, hchk2⟩ ih2
    (refine WK.seq ?_; refine WK.region ?_; refine St.bin ?_; refine WO.nil ?_; refine WK.seq ?_)
    refine St.splitC (fun hc => ?_) (fun hc => ?_)
    · have hlt : k < ms.length := by simp at hc; omega
      have hd := chkMv_drop (hs := hs) (seen := (mids ms).take k) (l := ms) (k := k) hlt
      rw [← mids_succ hlt] at hd
      (refine WK.skip ?_; refine WK.seq ?_; refine WK.block ?_; refine WK.seq ?_; refine WK.region ?_; refine St.move ?_)
      refine St.at ?_
      refine St.loadX (fun h2 hh2 => ((hk2.vw hh2).at_ (z := (k : Int)) (n := k) (by omega) hlt).agg (by simp [mvC]) rfl rfl rfl) ?_
      (refine St.alloc fun _ _ => ?_; refine St.assign ?_; refine St.store0 ?_; refine WO.nil ?_; refine WK.seq ?_; refine WK.seq ?_; refine WK.region ?_; refine St.fieldAddr ?_; refine St.load ?_; refine St.load ?_)
      refine St.call (fun _ => rfl) (fun h2 hh2 => checkMove_con h2 hh2.gd (.slice b off hs.length (.k m)) hs (nthE ms k) (hh.eV.vw hh2) (by omega)) ?_
      (refine St.assign ?_; refine WO.nil ?_; refine WK.seq ?_; refine WK.region ?_; refine St.move ?_; refine St.bin ?_; refine WO.nil ?_)
      refine St.splitC (fun q => ?_) (fun q => ?_)
      · have hne : mvErr hs (nthE ms k) ≠ 0 := by simpa using q
        rw [if_pos hne] at hd
        (refine WK.seq ?_; refine WK.region ?_; refine St.move ?_; refine St.assign ?_; refine WO.nil ?_)
        refine St.ret (by first | exact .tmp .nil | exact .cell .nil | exact .cell (.tmp .nil) | exact .tmp (.tmp .nil) | exact .cell (.cell .nil) | exact .tmp (.cell .nil) | exact .nil | exact .tmp (.cell (.tmp .nil)) | exact .cell (.tmp (.tmp .nil)) | exact .cell (.cell (.tmp .nil)) | exact .tmp (.tmp (.tmp .nil)) | exact .cell (.cell (.cell .nil))) ?_
        rw [hchk2, hd]
        rfl
      have he0 : mvErr hs (nthE ms k) = 0 := by simpa using q
      rw [if_neg (by simp [he0])] at hd
      (refine WK.skip ?_; refine WK.seq ?_; refine WK.regionD ?_; refine St.fieldAddr ?_; refine St.load ?_; refine St.move ?_)
      refine St.sliceG (v := .slice b2 off2 k (.k m2)) (fun h2 hh2 => ?_) ?_
      · show plainV (evSlice Try.prog h2 23 (.slice b2 off2 ms.length (.k m2)) none (some (.int .i64 (k : Int))) none) h2 = _
        rw [slK_to Try.underlying23 sizeMv (by omega) hm2]
        rfl
      (refine St.fieldAddr ?_; refine St.load ?_)
      refine St.call (fun _ => rfl) (fun h2 hh2 => moveAt_con h2 hh2.gd (.slice b2 off2 k (.k m2)) (ms.take k) (nthE ms k).id ((hk2.vw hh2).takV (by omega)) (by rw [List.length_take]; omega)) ?_
      rw [mids_take]
      (refine St.bin ?_; refine WO.nil ?_)
      refine St.splitC (fun q3 => ?_) (fun q3 => ?_)
      · have hmm : (nthE ms k).id ∈ (mids ms).take k := plI_ge.1 (by simpa using q3)
        rw [if_pos hmm] at hd
        (refine WK.seq ?_; refine WK.region ?_; refine St.assign ?_; refine WO.nil ?_)
        refine St.ret (by first | exact .tmp .nil | exact .cell .nil | exact .cell (.tmp .nil) | exact .tmp (.tmp .nil) | exact .cell (.cell .nil) | exact .tmp (.cell .nil) | exact .nil | exact .tmp (.cell (.tmp .nil)) | exact .cell (.tmp (.tmp .nil)) | exact .cell (.cell (.tmp .nil)) | exact .tmp (.tmp (.tmp .nil)) | exact .cell (.cell (.cell .nil))) ?_
        rw [hchk2, hd]
        rfl
      · have hmm : (nthE ms k).id ∉ (mids ms).take k := fun e => by have := plI_ge.2 e; simp at q3; omega
        rw [if_neg hmm] at hd
        (refine WK.skip ?_; refine WK.blk ?_; refine WK.region ?_; refine St.binI ?_; refine St.move ?_; refine WO.nil ?_)
        refine WK.le ?_ (by (repeat (first | exact List.Sublist.refl _ | exact List.nil_sublist _ | apply List.Sublist.cons_cons | apply List.Sublist.cons))) (ih2 (k + 1) ⟨hlt, hchk2.trans hd⟩ (by omega))
        exact ⟨rfl, rfl, rfl, rfl, rfl, trivial⟩
    · have : k = ms.length := by simp at hc; omega
      subst this
      (refine WK.exit ?_; refine WK.seq ?_; refine WK.region ?_; refine St.assign ?_; refine WO.nil ?_)
      refine St.ret (by first | exact .tmp .nil | exact .cell .nil | exact .cell (.tmp .nil) | exact .tmp (.tmp .nil) | exact .cell (.cell .nil) | exact .tmp (.cell .nil) | exact .nil | exact .tmp (.cell (.tmp .nil)) | exact .cell (.tmp (.tmp .nil)) | exact .cell (.cell (.tmp .nil)) | exact .tmp (.tmp (.tmp .nil)) | exact .cell (.cell (.cell .nil))) ?_
      rw [hchk2, List.drop_eq_nil_of_le (by omega)]
      rfl
end Go.Proofs.Ytjlpoomjgidgaaa
