/- Layer 5: the specification's within2, Fits. -/
import Derived.Test.YtjlpoomjgidgaaaGg
import Derived.Test.YtjlpoomjgidgaaaNr
namespace Go.Proofs.Ytjlpoomjgidgaaa
open Go.Proofs.Ytjlpoomjgidgaaa.Ev

theorem Rds.two {h : Heap} {b off : Nat} {x y : AV} {l : List AV} (r : Rds h b off (x :: y :: l)) : Rds h b off [x, y] := ⟨r.1, r.2.1, trivial⟩
set_option maxRecDepth 100000 in
theorem within2_con (h : Heap) (g : Gd h) (n lo hi : Int) : Con Try.prog Bs 41 [.int .i64 n, .agg [.int .i64 lo, .int .i64 hi]] h [] (.bool (inB n lo hi)) [] := by
  refine Con.start rfl Try.func41 rfl rfl Try.ntmps41 rfl rfl g ?_
  (refine WK.seq ?_; refine WK.region ?_; refine St.box fun _ _ => ?_; refine St.assign ?_; refine WO.nil ?_; refine WK.seq ?_; refine WK.region ?_; refine St.move ?_; refine St.fieldAddr ?_; refine St.load ?_; refine St.bin ?_; refine St.move ?_)
  refine St.split (fun q => ?_) (fun q => ?_)
  · (refine St.move ?_; refine St.fieldAddr ?_; refine St.load ?_; refine St.bin ?_; refine St.pickT ?_; refine St.assign ?_; refine WO.nil ?_)
    refine St.ret (by first | exact .tmp .nil | exact .cell .nil | exact .cell (.tmp .nil) | exact .tmp (.tmp .nil) | exact .cell (.cell .nil) | exact .tmp (.cell .nil) | exact .nil | exact .tmp (.cell (.tmp .nil)) | exact .cell (.tmp (.tmp .nil)) | exact .cell (.cell (.tmp .nil)) | exact .tmp (.tmp (.tmp .nil)) | exact .cell (.cell (.cell .nil))) ?_
    simp at q
    simp [oneOf, inB, q]
  · (refine St.skip ?_; refine St.skip ?_; refine St.skip ?_; refine St.skip ?_; refine St.pickF ?_; refine St.assign ?_; refine WO.nil ?_)
    refine St.ret (by first | exact .tmp .nil | exact .cell .nil | exact .cell (.tmp .nil) | exact .tmp (.tmp .nil) | exact .cell (.cell .nil) | exact .tmp (.cell .nil) | exact .nil | exact .tmp (.cell (.tmp .nil)) | exact .cell (.tmp (.tmp .nil)) | exact .cell (.cell (.tmp .nil)) | exact .tmp (.tmp (.tmp .nil)) | exact .cell (.cell (.cell .nil))) ?_
    simp at q
    have : ¬ lo ≤ n := by omega
    simp [oneOf, inB, this]
theorem fits_lens {hs ms ss es xs} (h : lensB hs ms ss es xs = false) : fits hs ms ss es xs = false := by unfold fits; rw [h]; rfl
theorem fits_i {hs : List Ho} {ms ss es xs} {i : Nat} (hi : i < hs.length) (h : fitI hs ss es i = false) : fits hs ms ss es xs = false := by unfold fits; rw [allB_no hi h]; simp
theorem fits_m {hs : List Ho} {ms : List Mv} {ss es xs} {i : Nat} (hi : i < ms.length) (h : fitM ms xs i = false) : fits hs ms ss es xs = false := by unfold fits; rw [allB_no hi h]; simp
theorem fits_h {hs : List Ho} {ms : List Mv} {ss es xs} {i : Nat} (hi : i < hs.length) (h : heldTo hs ms ss xs i ms.length ≠ atI es i) : fits hs ms ss es xs = false := by
  unfold fits
  rw [allB_no (f := fun i => decide (heldTo hs ms ss xs i ms.length = atI es i)) hi (decide_eq_false h)]
  simp
theorem fits_yes {hs : List Ho} {ms : List Mv} {ss es xs} (h0 : lensB hs ms ss es xs = true) (h1 : ∀ i, i < hs.length → fitI hs ss es i = true) (h2 : ∀ i, i < ms.length → fitM ms xs i = true) (h3 : ∀ i, i < hs.length → heldTo hs ms ss xs i ms.length = atI es i) : fits hs ms ss es xs = true := by
  unfold fits
  rw [h0, allB_yes h1, allB_yes h2, allB_yes fun i hi => decide_eq_true (h3 i hi)]
  rfl
theorem less_succ {p : Nat → Prop} {k : Nat} (h : ∀ i, i < k → p i) (hk : p k) : ∀ i, i < k + 1 → p i := fun i hi => by
  by_cases q : i = k
  · subst q; exact hk
  · exact h i (by omega)
set_option maxRecDepth 100000 in
set_option maxHeartbeats 32000000 in
theorem fits_con (h : Heap) (g : Gd h) (hv mv sv ev xv : AV) (hs : List Ho) (ms : List Mv) (ss es xs : List Int) (hh : HoV h hv hs) (hm : MvV h mv ms) (hs1 : InV h sv ss) (he1 : InV h ev es) (hx1 : InV h xv xs) (l1 : hs.length ≤ 1000) (l2 : ms.length ≤ 1000) (hb1 : ∀ x ∈ hs, hoB x) (hb2 : ∀ x ∈ ms, mvB x) :
    Con Try.prog Bs 20 [.agg [hv, mv], .agg [sv, ev, xv]] h [] (.bool (fits hs ms ss es xs)) [] := by
  refine Con.start rfl Try.func20 rfl rfl Try.ntmps20 rfl rfl g ?_
  (refine WK.seq ?_; refine WK.region ?_; refine St.box fun _ _ => ?_; refine St.box fun _ _ => ?_; refine St.assign ?_; refine WO.nil ?_; refine WK.seq ?_; refine WK.region ?_; refine St.fieldAddr ?_; refine St.load ?_)
  rename_i p2 hp2 p3 hp3
  refine St.lenG rfl hh.hlen ?_
  (refine St.assign ?_; refine WO.nil ?_; refine WK.seq ?_; refine WK.seq ?_; refine WK.region ?_; refine St.fieldAddr ?_; refine St.load ?_)
  refine St.lenG rfl hs1.ilen ?_
  (refine St.move ?_; refine St.bin ?_; refine St.move ?_)
  refine St.split (fun q1 => ?_) (fun q1 => ?_)
  · (refine St.skip ?_; refine St.skip ?_; refine St.skip ?_; refine St.skip ?_; refine St.skip ?_; refine St.pickT ?_; refine St.move ?_; refine St.skip ?_; refine St.skip ?_; refine St.skip ?_; refine St.skip ?_; refine St.skip ?_; refine St.skip ?_; refine St.skip ?_; refine St.pickT ?_; refine WO.nil ?_; refine WK.condT ?_; refine WK.seq ?_; refine WK.region ?_; refine St.assign ?_; refine WO.nil ?_)
    refine St.ret (by first | exact .tmp .nil | exact .cell .nil | exact .cell (.tmp .nil) | exact .tmp (.tmp .nil) | exact .cell (.cell .nil) | exact .tmp (.cell .nil) | exact .nil | exact .tmp (.cell (.tmp .nil)) | exact .cell (.tmp (.tmp .nil)) | exact .cell (.cell (.tmp .nil)) | exact .tmp (.tmp (.tmp .nil)) | exact .cell (.cell (.cell .nil))) ?_
    have : ¬ ss.length = hs.length := by simp at q1; omega
    rw [fits_lens (by unfold lensB; rw [decide_eq_false this]; rfl)]
    rfl
  have a1 : ss.length = hs.length := by simp at q1; omega
  (refine St.fieldAddr ?_; refine St.load ?_)
  refine St.lenG rfl he1.ilen ?_
  (refine St.move ?_; refine St.bin ?_; refine St.pickF ?_; refine St.move ?_)
  refine St.split (fun q2 => ?_) (fun q2 => ?_)
  · (refine St.skip ?_; refine St.skip ?_; refine St.skip ?_; refine St.skip ?_; refine St.skip ?_; refine St.skip ?_; refine St.skip ?_; refine St.pickT ?_; refine WO.nil ?_; refine WK.condT ?_; refine WK.seq ?_; refine WK.region ?_; refine St.assign ?_; refine WO.nil ?_)
    refine St.ret (by first | exact .tmp .nil | exact .cell .nil | exact .cell (.tmp .nil) | exact .tmp (.tmp .nil) | exact .cell (.cell .nil) | exact .tmp (.cell .nil) | exact .nil | exact .tmp (.cell (.tmp .nil)) | exact .cell (.tmp (.tmp .nil)) | exact .cell (.cell (.tmp .nil)) | exact .tmp (.tmp (.tmp .nil)) | exact .cell (.cell (.cell .nil))) ?_
    have : ¬ es.length = hs.length := by simp at q2; omega
    rw [fits_lens (by unfold lensB; rw [decide_eq_false this]; simp)]
    rfl
  have a2 : es.length = hs.length := by simp at q2; omega
  (refine St.fieldAddr ?_; refine St.load ?_)
  refine St.lenG rfl hx1.ilen ?_
  (refine St.fieldAddr ?_; refine St.load ?_)
  refine St.lenG rfl hm.mlen ?_
  (refine St.bin ?_; refine St.pickF ?_; refine WO.nil ?_)
  refine St.splitC (fun q3 => ?_) (fun q3 => ?_)
  · (refine WK.seq ?_; refine WK.region ?_; refine St.assign ?_; refine WO.nil ?_)
    refine St.ret (by first | exact .tmp .nil | exact .cell .nil | exact .cell (.tmp .nil) | exact .tmp (.tmp .nil) | exact .cell (.cell .nil) | exact .tmp (.cell .nil) | exact .nil | exact .tmp (.cell (.tmp .nil)) | exact .cell (.tmp (.tmp .nil)) | exact .cell (.cell (.tmp .nil)) | exact .tmp (.tmp (.tmp .nil)) | exact .cell (.cell (.cell .nil))) ?_
    have : ¬ xs.length = ms.length := by simp at q3; omega
    rw [fits_lens (by unfold lensB; rw [decide_eq_false this]; simp)]
    rfl
  have a3 : xs.length = ms.length := by simp at q3; omega
  have hlen : lensB hs ms ss es xs = true := by unfold lensB; simp [a1, a2, a3]
  clear q1 q2 q3
  (refine WK.skip ?_; refine WK.seq ?_; refine WK.seq ?_; refine WK.region ?_; refine St.assign ?_; refine WO.nil ?_; refine WK.block ?_)
  refine WK.inv (ι := Nat) (fun z => [(2, .ptr p2 0), (3, .ptr p3 0), (5, .int .i64 hs.length), (6, .int .i64 z)]) (fun _ => [(p3, .cells [sv, ev, xv] 28), (p2, .cells [hv, mv] 25)]) (fun z => z ≤ hs.length ∧ ∀ i, i < z → fitI hs ss es i = true) (fun z => hs.length - z) 0 ⟨Nat.zero_le _, fun i hi => absurd hi (by omega)⟩ ⟨rfl, rfl, rfl, rfl, trivial⟩ (by (repeat (first | exact List.Sublist.refl _ | exact List.nil_sublist _ | apply List.Sublist.cons_cons | apply List.Sublist.cons))) ?_
  rintro k ⟨hkl, hgood⟩ ih
  (refine WK.seq ?_; refine WK.seq ?_; refine WK.region ?_; refine St.move ?_; refine St.move ?_; refine St.bin ?_; refine WO.nil ?_)
  refine St.splitC (fun hc => ?_) (fun hc => ?_)
  · have hlt : k < hs.length := by simp at hc; omega
    have hh' := hh
    have hs1' := hs1
    have he1' := he1
    obtain ⟨b, off, c, rfl, hk⟩ := hh'.ne (by omega)
    obtain ⟨b3, off3, c3, rfl, hk3⟩ := hs1'.ne (by omega)
    obtain ⟨b4, off4, c4, rfl, hk4⟩ := he1'.ne (by omega)
    have hf : fitI hs ss es k = (inB (nthE ss k) (nthE hs k).sl (nthE hs k).sh && inB (nthE es k) (nthE hs k).el (nthE hs k).eh) := rfl
    (refine WK.skip ?_; refine WK.seq ?_; refine WK.block ?_; refine WK.seq ?_; refine WK.regionD ?_; refine St.fieldAddr ?_; refine St.load ?_; refine St.move ?_)
    refine St.at ?_
    refine St.loadX (fun h2 hh2 => (Rds.headG ((hk3.vw hh2).at_ (z := (k : Int)) (n := k) (by omega) (by omega))).one rfl) ?_
    (refine St.fieldAddr ?_; refine St.load ?_; refine St.move ?_)
    refine St.at ?_
    (refine St.fieldAddr ?_)
    refine St.loadX (fun h2 hh2 => (Rds.two ((hk.vw hh2).at_ (z := (k : Int)) (n := k) (by omega) hlt).2).agg (by simp) rfl rfl rfl) ?_
    refine St.call (fun _ => rfl) (fun h2 hh2 => within2_con h2 hh2.gd (nthE ss k) (nthE hs k).sl (nthE hs k).sh) ?_
    (refine St.assign ?_; refine WO.nil ?_; refine WK.seq ?_; refine WK.regionD ?_; refine St.fieldAddr ?_; refine St.load ?_; refine St.move ?_)
    refine St.at ?_
    refine St.loadX (fun h2 hh2 => (Rds.headG ((hk4.vw hh2).at_ (z := (k : Int)) (n := k) (by omega) (by omega))).one rfl) ?_
    (refine St.fieldAddr ?_; refine St.load ?_; refine St.move ?_)
    refine St.at ?_
    (refine St.fieldAddr ?_)
    refine St.loadX (fun h2 hh2 => (Rds.two ((hk.vw hh2).at_ (z := (k : Int)) (n := k) (by omega) hlt).2.2.2).agg (by simp) rfl rfl rfl) ?_
    refine St.call (fun _ => rfl) (fun h2 hh2 => within2_con h2 hh2.gd (nthE es k) (nthE hs k).el (nthE hs k).eh) ?_
    generalize inB (nthE ss k) (nthE hs k).sl (nthE hs k).sh = A at hf ⊢
    generalize inB (nthE es k) (nthE hs k).el (nthE hs k).eh = B at hf ⊢
    cases A
    · (refine St.assign ?_; refine WO.nil ?_; refine WK.seq ?_; refine WK.region ?_; refine St.move ?_; refine St.un ?_; refine St.move ?_; refine St.skip ?_; refine St.skip ?_; refine St.pickT ?_; refine WO.nil ?_; refine WK.condT ?_; refine WK.seq ?_; refine WK.region ?_; refine St.assign ?_; refine WO.nil ?_)
      refine St.ret (by first | exact .tmp .nil | exact .cell .nil | exact .cell (.tmp .nil) | exact .tmp (.tmp .nil) | exact .cell (.cell .nil) | exact .tmp (.cell .nil) | exact .nil | exact .tmp (.cell (.tmp .nil)) | exact .cell (.tmp (.tmp .nil)) | exact .cell (.cell (.tmp .nil)) | exact .tmp (.tmp (.tmp .nil)) | exact .cell (.cell (.cell .nil))) ?_
      rw [fits_i hlt (by rw [hf]; rfl)]
      rfl
    cases B
    · (refine St.assign ?_; refine WO.nil ?_; refine WK.seq ?_; refine WK.region ?_; refine St.move ?_; refine St.un ?_; refine St.move ?_; refine St.move ?_; refine St.un ?_; refine St.pickF ?_; refine WO.nil ?_; refine WK.condT ?_; refine WK.seq ?_; refine WK.region ?_; refine St.assign ?_; refine WO.nil ?_)
      refine St.ret (by first | exact .tmp .nil | exact .cell .nil | exact .cell (.tmp .nil) | exact .tmp (.tmp .nil) | exact .cell (.cell .nil) | exact .tmp (.cell .nil) | exact .nil | exact .tmp (.cell (.tmp .nil)) | exact .cell (.tmp (.tmp .nil)) | exact .cell (.cell (.tmp .nil)) | exact .tmp (.tmp (.tmp .nil)) | exact .cell (.cell (.cell .nil))) ?_
      rw [fits_i hlt (by rw [hf]; rfl)]
      rfl
    (refine St.assign ?_; refine WO.nil ?_; refine WK.seq ?_; refine WK.region ?_; refine St.move ?_; refine St.un ?_; refine St.move ?_; refine St.move ?_; refine St.un ?_; refine St.pickF ?_; refine WO.nil ?_; refine WK.condF ?_; refine WK.skip ?_; refine WK.blk ?_; refine WK.region ?_; refine St.move ?_; refine St.binI ?_; refine St.assign ?_; refine WO.nil ?_)
    refine WK.le ?_ (by (repeat (first | exact List.Sublist.refl _ | exact List.nil_sublist _ | apply List.Sublist.cons_cons | apply List.Sublist.cons))) (ih (k + 1) ⟨hlt, less_succ hgood hf⟩ (by omega))
    exact ⟨rfl, rfl, rfl, rfl, trivial⟩
  have : k = hs.length := by simp at hc; omega
  subst this
  have g1 := hgood
  clear ih hc hkl hgood
  (refine WK.exit ?_; refine WK.seq ?_; refine WK.seq ?_; refine WK.region ?_; refine St.assign ?_; refine WO.nil ?_; refine WK.block ?_)
  refine WK.inv (ι := Nat) (fun z => [(2, .ptr p2 0), (3, .ptr p3 0), (5, .int .i64 hs.length), (9, .int .i64 z)]) (fun _ => [(p3, .cells [sv, ev, xv] 28), (p2, .cells [hv, mv] 25)]) (fun z => z ≤ ms.length ∧ ∀ i, i < z → fitM ms xs i = true) (fun z => ms.length - z) 0 ⟨Nat.zero_le _, fun i hi => absurd hi (by omega)⟩ ⟨rfl, rfl, rfl, rfl, trivial⟩ (by (repeat (first | exact List.Sublist.refl _ | exact List.nil_sublist _ | apply List.Sublist.cons_cons | apply List.Sublist.cons))) ?_
  rintro k ⟨hkl, hgood⟩ ih
  (refine WK.seq ?_; refine WK.seq ?_; refine WK.region ?_; refine St.move ?_; refine St.fieldAddr ?_; refine St.load ?_)
  refine St.lenG rfl hm.mlen ?_
  (refine St.bin ?_; refine WO.nil ?_)
  refine St.splitC (fun hc => ?_) (fun hc => ?_)
  · have hlt : k < ms.length := by simp at hc; omega
    have hm' := hm
    have hx1' := hx1
    obtain ⟨b, off, c, rfl, hk⟩ := hm'.ne (by omega)
    obtain ⟨b3, off3, c3, rfl, hk3⟩ := hx1'.ne (by omega)
    have hf : fitM ms xs k = inB (nthE xs k) (nthE ms k).lo (nthE ms k).hi := rfl
    (refine WK.skip ?_; refine WK.seq ?_; refine WK.block ?_; refine WK.seq ?_; refine WK.regionD ?_; refine St.fieldAddr ?_; refine St.load ?_; refine St.move ?_)
    refine St.at ?_
    refine St.loadX (fun h2 hh2 => (Rds.headG ((hk3.vw hh2).at_ (z := (k : Int)) (n := k) (by omega) (by omega))).one rfl) ?_
    (refine St.fieldAddr ?_; refine St.load ?_; refine St.move ?_)
    refine St.at ?_
    (refine St.fieldAddr ?_)
    refine St.loadX (fun h2 hh2 => (Rds.two ((hk.vw hh2).at_ (z := (k : Int)) (n := k) (by omega) hlt).2.2.2).agg (by simp) rfl rfl rfl) ?_
    refine St.call (fun _ => rfl) (fun h2 hh2 => within2_con h2 hh2.gd (nthE xs k) (nthE ms k).lo (nthE ms k).hi) ?_
    generalize inB (nthE xs k) (nthE ms k).lo (nthE ms k).hi = A at hf ⊢
    cases A
    · (refine St.assign ?_; refine WO.nil ?_; refine WK.seq ?_; refine WK.region ?_; refine St.move ?_; refine St.un ?_; refine WO.nil ?_; refine WK.condT ?_; refine WK.seq ?_; refine WK.region ?_; refine St.assign ?_; refine WO.nil ?_)
      refine St.ret (by first | exact .tmp .nil | exact .cell .nil | exact .cell (.tmp .nil) | exact .tmp (.tmp .nil) | exact .cell (.cell .nil) | exact .tmp (.cell .nil) | exact .nil | exact .tmp (.cell (.tmp .nil)) | exact .cell (.tmp (.tmp .nil)) | exact .cell (.cell (.tmp .nil)) | exact .tmp (.tmp (.tmp .nil)) | exact .cell (.cell (.cell .nil))) ?_
      rw [fits_m hlt (by rw [hf])]
      rfl
    (refine St.assign ?_; refine WO.nil ?_; refine WK.seq ?_; refine WK.region ?_; refine St.move ?_; refine St.un ?_; refine WO.nil ?_; refine WK.condF ?_; refine WK.skip ?_; refine WK.blk ?_; refine WK.region ?_; refine St.move ?_; refine St.binI ?_; refine St.assign ?_; refine WO.nil ?_)
    refine WK.le ?_ (by (repeat (first | exact List.Sublist.refl _ | exact List.nil_sublist _ | apply List.Sublist.cons_cons | apply List.Sublist.cons))) (ih (k + 1) ⟨hlt, less_succ hgood hf⟩ (by omega))
    exact ⟨rfl, rfl, rfl, rfl, trivial⟩
  have : k = ms.length := by simp at hc; omega
  subst this
  have g2 := hgood
  clear ih hc hkl hgood
  have bx : ∀ k, k < ms.length → 0 ≤ atI xs k ∧ atI xs k ≤ 65536 := fun k hk => by
    have h1 := g2 k hk
    have h2 := hb2 _ (nthE_mem hk)
    unfold fitM inB at h1
    simp at h1
    unfold mvB at h2
    have h3 : (atM ms k) = nthE ms k := rfl
    rw [h3] at h1
    omega
  have bs : ∀ k, k < hs.length → 0 ≤ atI ss k ∧ atI ss k ≤ 65536 := fun k hk => by
    have h1 := g1 k hk
    have h2 := hb1 _ (nthE_mem hk)
    unfold fitI inB at h1
    simp at h1
    unfold hoB at h2
    have h3 : (atH hs k) = nthE hs k := rfl
    rw [h3] at h1
    omega
  (refine WK.exit ?_; refine WK.seq ?_; refine WK.seq ?_; refine WK.region ?_; refine St.assign ?_; refine WO.nil ?_; refine WK.block ?_)
  refine WK.inv (ι := Nat) (fun z => [(2, .ptr p2 0), (3, .ptr p3 0), (5, .int .i64 hs.length), (11, .int .i64 z)]) (fun _ => [(p3, .cells [sv, ev, xv] 28), (p2, .cells [hv, mv] 25)]) (fun z => z ≤ hs.length ∧ ∀ i, i < z → heldTo hs ms ss xs i ms.length = atI es i) (fun z => hs.length - z) 0 ⟨Nat.zero_le _, fun i hi => absurd hi (by omega)⟩ ⟨rfl, rfl, rfl, rfl, trivial⟩ (by (repeat (first | exact List.Sublist.refl _ | exact List.nil_sublist _ | apply List.Sublist.cons_cons | apply List.Sublist.cons))) ?_
  rintro i ⟨hil, hgood⟩ ih
  (refine WK.seq ?_; refine WK.seq ?_; refine WK.region ?_; refine St.move ?_; refine St.move ?_; refine St.bin ?_; refine WO.nil ?_)
  refine St.splitC (fun hc => ?_) (fun hc => ?_)
  · have hlt : i < hs.length := by simp at hc; omega
    have hh' := hh
    have hs1' := hs1
    have he1' := he1
    obtain ⟨b, off, c, rfl, hk⟩ := hh'.ne (by omega)
    obtain ⟨b3, off3, c3, rfl, hk3⟩ := hs1'.ne (by omega)
    obtain ⟨b4, off4, c4, rfl, hk4⟩ := he1'.ne (by omega)
    have h0 : heldTo hs ms ss xs i 0 = nthE ss i := by
      unfold heldTo
      simp [sumF]
      rfl
    (refine WK.skip ?_; refine WK.seq ?_; refine WK.block ?_; refine WK.seq ?_; refine WK.region ?_; refine St.fieldAddr ?_; refine St.load ?_; refine St.move ?_)
    refine St.at ?_
    refine St.loadX (fun h2 hh2 => (Rds.headG ((hk3.vw hh2).at_ (z := (i : Int)) (n := i) (by omega) (by omega))).one rfl) ?_
    (refine St.assign ?_; refine WO.nil ?_; refine WK.seq ?_; refine WK.seq ?_; refine WK.region ?_; refine St.assign ?_; refine WO.nil ?_; refine WK.block ?_)
    refine WK.inv (ι := Nat) (fun z => [(2, .ptr p2 0), (3, .ptr p3 0), (5, .int .i64 hs.length), (11, .int .i64 i), (12, .int .i64 (heldTo hs ms ss xs i z)), (13, .int .i64 z)]) (fun _ => [(p3, .cells [.slice b3 off3 ss.length c3, .slice b4 off4 es.length c4, xv] 28), (p2, .cells [.slice b off hs.length c, mv] 25)]) (fun z => z ≤ ms.length) (fun z => ms.length - z) 0 (Nat.zero_le _) ⟨rfl, rfl, rfl, rfl, by rw [h0]; rfl, rfl, trivial⟩ (by (repeat (first | exact List.Sublist.refl _ | exact List.nil_sublist _ | apply List.Sublist.cons_cons | apply List.Sublist.cons))) ?_
    rintro k hkl ih2
    (refine WK.seq ?_; refine WK.seq ?_; refine WK.region ?_; refine St.move ?_; refine St.fieldAddr ?_; refine St.load ?_)
    refine St.lenG rfl hm.mlen ?_
    (refine St.bin ?_; refine WO.nil ?_)
    refine St.splitC (fun hc2 => ?_) (fun hc2 => ?_)
    · have hlk : k < ms.length := by simp at hc2; omega
      have hm' := hm
      have hx1' := hx1
      obtain ⟨b5, off5, c5, rfl, hk5⟩ := hm'.ne (by omega)
      obtain ⟨b6, off6, c6, rfl, hk6⟩ := hx1'.ne (by omega)
      have ih' := ih2 (k + 1) hlk (by omega)
      rw [heldTo_succ] at ih'
      have hbs := bs i hlt
      have hbx := bx k hlk
      have hbd := sum_range_bd (f := mvd ms xs (atH hs i).id) (n := k) fun j hj => mvd_bd (bx j (by omega))
      have hS : -65536000 ≤ heldTo hs ms ss xs i k ∧ heldTo hs ms ss xs i k ≤ 65600000 := by unfold heldTo; omega
      have hmv : mvd ms xs (atH hs i).id k = (if (nthE ms k).to = (nthE hs i).id then nthE xs k else 0) - (if (nthE ms k).fr = (nthE hs i).id then nthE xs k else 0) := rfl
      rw [hmv] at ih'
      replace hbx : 0 ≤ nthE xs k ∧ nthE xs k ≤ 65536 := hbx
      clear hbd hmv ih ih2
      generalize heldTo hs ms ss xs i k = S at hS ih' ⊢
      (refine WK.skip ?_; refine WK.seq ?_; refine WK.block ?_; refine WK.seq ?_; refine WK.seq ?_; refine WK.regionD ?_; refine St.fieldAddr ?_; refine St.load ?_; refine St.move ?_)
      refine St.at ?_
      (refine St.fieldAddr ?_)
      refine St.loadX (fun h2 hh2 => (Rds.headG ((hk5.vw hh2).at_ (z := (k : Int)) (n := k) (by omega) hlk).2.2).one rfl) ?_
      (refine St.fieldAddr ?_; refine St.load ?_; refine St.move ?_)
      refine St.at ?_
      (refine St.fieldAddr ?_)
      refine St.loadX (fun h2 hh2 => (Rds.headG ((hk.vw hh2).at_ (z := (i : Int)) (n := i) (by omega) hlt)).one rfl) ?_
      (refine St.bin ?_; refine WO.nil ?_)
      refine St.splitC (fun qa => ?_) (fun qa => ?_)
      · have ha : (nthE ms k).to = (nthE hs i).id := by simpa using qa
        rw [if_pos ha] at ih'
        (refine WK.region ?_; refine St.move ?_; refine St.fieldAddr ?_; refine St.load ?_; refine St.move ?_)
        refine St.at ?_
        refine St.loadX (fun h2 hh2 => (Rds.headG ((hk6.vw hh2).at_ (z := (k : Int)) (n := k) (by omega) (by omega))).one rfl) ?_
        (refine St.binI ?_; refine St.assign ?_; refine WO.nil ?_; refine WK.seq ?_; refine WK.regionD ?_; refine St.fieldAddr ?_; refine St.load ?_; refine St.move ?_)
        refine St.at ?_
        (refine St.fieldAddr ?_)
        refine St.loadX (fun h2 hh2 => (Rds.headG ((hk5.vw hh2).at_ (z := (k : Int)) (n := k) (by omega) hlk).2).one rfl) ?_
        (refine St.fieldAddr ?_; refine St.load ?_; refine St.move ?_)
        refine St.at ?_
        (refine St.fieldAddr ?_)
        refine St.loadX (fun h2 hh2 => (Rds.headG ((hk.vw hh2).at_ (z := (i : Int)) (n := i) (by omega) hlt)).one rfl) ?_
        (refine St.bin ?_; refine WO.nil ?_)
        refine St.splitC (fun qb => ?_) (fun qb => ?_)
        · have hb : (nthE ms k).fr = (nthE hs i).id := by simpa using qb
          rw [if_pos hb, show S + (nthE xs k - nthE xs k) = S + nthE xs k - nthE xs k by omega] at ih'
          (refine WK.region ?_; refine St.move ?_; refine St.fieldAddr ?_; refine St.load ?_; refine St.move ?_)
          refine St.at ?_
          refine St.loadX (fun h2 hh2 => (Rds.headG ((hk6.vw hh2).at_ (z := (k : Int)) (n := k) (by omega) (by omega))).one rfl) ?_
          (refine St.binI ?_; refine St.assign ?_; refine WO.nil ?_; refine WK.blk ?_; refine WK.region ?_; refine St.move ?_; refine St.binI ?_; refine St.assign ?_; refine WO.nil ?_)
          refine WK.le ?_ (by (repeat (first | exact List.Sublist.refl _ | exact List.nil_sublist _ | apply List.Sublist.cons_cons | apply List.Sublist.cons))) ih'
          exact ⟨rfl, rfl, rfl, rfl, rfl, rfl, trivial⟩
        · have hb : ¬ (nthE ms k).fr = (nthE hs i).id := by simpa using qb
          rw [if_neg hb, show S + (nthE xs k - 0) = S + nthE xs k by omega] at ih'
          (refine WK.skip ?_; refine WK.blk ?_; refine WK.region ?_; refine St.move ?_; refine St.binI ?_; refine St.assign ?_; refine WO.nil ?_)
          refine WK.le ?_ (by (repeat (first | exact List.Sublist.refl _ | exact List.nil_sublist _ | apply List.Sublist.cons_cons | apply List.Sublist.cons))) ih'
          exact ⟨rfl, rfl, rfl, rfl, rfl, rfl, trivial⟩
      · have ha : ¬ (nthE ms k).to = (nthE hs i).id := by simpa using qa
        rw [if_neg ha] at ih'
        (refine WK.skip ?_; refine WK.seq ?_; refine WK.regionD ?_; refine St.fieldAddr ?_; refine St.load ?_; refine St.move ?_)
        refine St.at ?_
        (refine St.fieldAddr ?_)
        refine St.loadX (fun h2 hh2 => (Rds.headG ((hk5.vw hh2).at_ (z := (k : Int)) (n := k) (by omega) hlk).2).one rfl) ?_
        (refine St.fieldAddr ?_; refine St.load ?_; refine St.move ?_)
        refine St.at ?_
        (refine St.fieldAddr ?_)
        refine St.loadX (fun h2 hh2 => (Rds.headG ((hk.vw hh2).at_ (z := (i : Int)) (n := i) (by omega) hlt)).one rfl) ?_
        (refine St.bin ?_; refine WO.nil ?_)
        refine St.splitC (fun qb => ?_) (fun qb => ?_)
        · have hb : (nthE ms k).fr = (nthE hs i).id := by simpa using qb
          rw [if_pos hb, show S + (0 - nthE xs k) = S - nthE xs k by omega] at ih'
          (refine WK.region ?_; refine St.move ?_; refine St.fieldAddr ?_; refine St.load ?_; refine St.move ?_)
          refine St.at ?_
          refine St.loadX (fun h2 hh2 => (Rds.headG ((hk6.vw hh2).at_ (z := (k : Int)) (n := k) (by omega) (by omega))).one rfl) ?_
          (refine St.binI ?_; refine St.assign ?_; refine WO.nil ?_; refine WK.blk ?_; refine WK.region ?_; refine St.move ?_; refine St.binI ?_; refine St.assign ?_; refine WO.nil ?_)
          refine WK.le ?_ (by (repeat (first | exact List.Sublist.refl _ | exact List.nil_sublist _ | apply List.Sublist.cons_cons | apply List.Sublist.cons))) ih'
          exact ⟨rfl, rfl, rfl, rfl, rfl, rfl, trivial⟩
        · have hb : ¬ (nthE ms k).fr = (nthE hs i).id := by simpa using qb
          rw [if_neg hb, show S + ((0 : Int) - 0) = S by omega] at ih'
          (refine WK.skip ?_; refine WK.blk ?_; refine WK.region ?_; refine St.move ?_; refine St.binI ?_; refine St.assign ?_; refine WO.nil ?_)
          refine WK.le ?_ (by (repeat (first | exact List.Sublist.refl _ | exact List.nil_sublist _ | apply List.Sublist.cons_cons | apply List.Sublist.cons))) ih'
          exact ⟨rfl, rfl, rfl, rfl, rfl, rfl, trivial⟩
    · have : k = ms.length := by simp at hc2; omega
      subst this
      (refine WK.exit ?_; refine WK.seq ?_; refine WK.region ?_; refine St.move ?_; refine St.fieldAddr ?_; refine St.load ?_; refine St.move ?_)
      refine St.at ?_
      refine St.loadX (fun h2 hh2 => (Rds.headG ((hk4.vw hh2).at_ (z := (i : Int)) (n := i) (by omega) (by omega))).one rfl) ?_
      (refine St.bin ?_; refine WO.nil ?_)
      refine St.splitC (fun q => ?_) (fun q => ?_)
      · have hne : heldTo hs ms ss xs i ms.length ≠ nthE es i := by simpa using q
        (refine WK.seq ?_; refine WK.region ?_; refine St.assign ?_; refine WO.nil ?_)
        refine St.ret (by first | exact .tmp .nil | exact .cell .nil | exact .cell (.tmp .nil) | exact .tmp (.tmp .nil) | exact .cell (.cell .nil) | exact .tmp (.cell .nil) | exact .nil | exact .tmp (.cell (.tmp .nil)) | exact .cell (.tmp (.tmp .nil)) | exact .cell (.cell (.tmp .nil)) | exact .tmp (.tmp (.tmp .nil)) | exact .cell (.cell (.cell .nil))) ?_
        rw [fits_h hlt hne]
        rfl
      · have heq : heldTo hs ms ss xs i ms.length = nthE es i := by simpa using q
        (refine WK.skip ?_; refine WK.blk ?_; refine WK.region ?_; refine St.move ?_; refine St.binI ?_; refine St.assign ?_; refine WO.nil ?_)
        refine WK.le ?_ (by (repeat (first | exact List.Sublist.refl _ | exact List.nil_sublist _ | apply List.Sublist.cons_cons | apply List.Sublist.cons))) (ih (i + 1) ⟨hlt, less_succ hgood heq⟩ (by omega))
        exact ⟨rfl, rfl, rfl, rfl, trivial⟩
  have : i = hs.length := by simp at hc; omega
  subst this
  (refine WK.exit ?_; refine WK.seq ?_; refine WK.region ?_; refine St.assign ?_; refine WO.nil ?_)
  refine St.ret (by first | exact .tmp .nil | exact .cell .nil | exact .cell (.tmp .nil) | exact .tmp (.tmp .nil) | exact .cell (.cell .nil) | exact .tmp (.cell .nil) | exact .nil | exact .tmp (.cell (.tmp .nil)) | exact .cell (.tmp (.tmp .nil)) | exact .cell (.cell (.tmp .nil)) | exact .tmp (.tmp (.tmp .nil)) | exact .cell (.cell (.cell .nil))) ?_
  rw [fits_yes hlen g1 g2 hgood]
  rfl
end Go.Proofs.Ytjlpoomjgidgaaa
