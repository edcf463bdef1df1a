/- Layer 5: the specification's flows, through. -/
import Derived.Test.YtjlpoomjgidgaaaGg
import Derived.Test.YtjlpoomjgidgaaaNq
namespace Go.Proofs.Ytjlpoomjgidgaaa
open Go.Proofs.Ytjlpoomjgidgaaa.Ev

theorem olH_bd {l : List Int} {x : Ho} (h : hoB x) : (-65536 ≤ olH l x ∧ olH l x ≤ 65536) ∧ (-65536 ≤ ohH l x ∧ ohH l x ≤ 65536) ∧ (-65536 ≤ ilH l x ∧ ilH l x ≤ 65536) ∧ (-65536 ≤ ihH l x ∧ ihH l x ≤ 65536) := by
  unfold hoB at h
  unfold olH ohH ilH ihH
  by_cases q : x.id ∈ l
  · simp only [if_pos q]; omega
  · simp only [if_neg q]; omega
theorem olM_bd {l : List Int} {x : Mv} (h : mvB x) : (-65536 ≤ olM l x ∧ olM l x ≤ 65536) ∧ (-65536 ≤ ohM l x ∧ ohM l x ≤ 65536) ∧ (-65536 ≤ ilM l x ∧ ilM l x ≤ 65536) ∧ (-65536 ≤ ihM l x ∧ ihM l x ≤ 65536) := by
  unfold mvB at h
  unfold olM ohM ilM ihM
  by_cases a : x.fr ∈ l <;> by_cases b : x.to ∈ l <;> simp [a, b] <;> omega
set_option maxRecDepth 100000 in
set_option maxHeartbeats 32000000 in
theorem flows_con (h : Heap) (g : Gd h) (hv mv cv : AV) (hs : List Ho) (ms : List Mv) (l : List Int) (hh : HoV h hv hs) (hm : MvV h mv ms) (hc : InV h cv l) (hl1 : hs.length ≤ 1000) (hl2 : ms.length ≤ 1000) (hl3 : l.length ≤ 1000000) (hb1 : ∀ x ∈ hs, hoB x) (hb2 : ∀ x ∈ ms, mvB x) :
    Con Try.prog Bs 54 [.agg [hv, mv], cv] h [] (.agg [.int .i64 (sumF (olH l) hs + sumF (olM l) ms), .int .i64 (sumF (ohH l) hs + sumF (ohM l) ms), .int .i64 (sumF (ilH l) hs + sumF (ilM l) ms), .int .i64 (sumF (ihH l) hs + sumF (ihM l) ms)]) [] := by
  refine Con.start rfl Try.func54 rfl rfl Try.ntmps54 rfl rfl g ?_
  (refine WK.seq ?_; refine WK.region ?_; refine St.box fun _ _ => ?_; refine St.alloc fun _ _ => ?_; refine WO.nil ?_; refine WK.seq ?_; refine WK.region ?_; refine St.alloc fun _ _ => ?_; refine WO.nil ?_; refine WK.seq ?_; refine WK.seq ?_; refine WK.region ?_; refine St.assign ?_; refine WO.nil ?_; refine WK.block ?_)
  rename_i p2 hp2 p4 hp4 p5 hp5
  refine WK.inv (ι := Nat) (fun z => [(1, cv), (2, .ptr p2 0), (4, .ptr p4 0), (5, .ptr p5 0), (6, .int .i64 z)]) (fun z => [(p5, .cells [.int .i64 (sumF (olH l) (hs.take z)), .int .i64 (sumF (ohH l) (hs.take z)), .int .i64 (sumF (ilH l) (hs.take z)), .int .i64 (sumF (ihH l) (hs.take z))] 106), (p4, .cells [.int .i64 0, .int .i64 0, .int .i64 0, .int .i64 0] 106), (p2, .cells [hv, mv] 25)]) (fun z => z ≤ hs.length) (fun z => hs.length - z) 0 (Nat.zero_le _) ⟨rfl, rfl, rfl, rfl, rfl, trivial⟩ (by exact List.Sublist.refl _) ?_
  rintro k hkl ih
  (refine WK.seq ?_; refine WK.seq ?_; refine WK.region ?_; refine St.move ?_; refine St.fieldAddr ?_; refine St.load ?_)
  refine St.lenG rfl hh.hlen ?_
  (refine St.bin ?_; refine WO.nil ?_)
  refine St.splitC (fun hc1 => ?_) (fun hc1 => ?_)
  · have hlt : k < hs.length := by simp at hc1; omega
    have hh' := hh
    obtain ⟨b, off, c, rfl, hk⟩ := hh'.ne (by omega)
    have ih' := ih (k + 1) hlt (by omega)
    have hbx := hb1 _ (nthE_mem hlt)
    have hml : ∀ x ∈ hs.take k, hoB x := fun x hx => hb1 x (List.mem_of_mem_take hx)
    have s1 := sumF_bd (f := olH l) (xs := hs.take k) fun x hx => (olH_bd (hml x hx)).1
    have s2 := sumF_bd (f := ohH l) (xs := hs.take k) fun x hx => (olH_bd (hml x hx)).2.1
    have s3 := sumF_bd (f := ilH l) (xs := hs.take k) fun x hx => (olH_bd (hml x hx)).2.2.1
    have s4 := sumF_bd (f := ihH l) (xs := hs.take k) fun x hx => (olH_bd (hml x hx)).2.2.2
    rw [List.length_take, Nat.min_eq_left hkl] at s1 s2 s3 s4
    have e : ∀ f : Ho → Int, sumF f (hs.take (k + 1)) = sumF f (hs.take k) + f (nthE hs k) := fun f => by rw [take_succE hlt, sumF_snoc]
    simp only [e] at ih'
    have d1 : olH l (nthE hs k) = if (nthE hs k).id ∈ l then (nthE hs k).el else 0 := rfl
    have d2 : ohH l (nthE hs k) = if (nthE hs k).id ∈ l then (nthE hs k).eh else 0 := rfl
    have d3 : ilH l (nthE hs k) = if (nthE hs k).id ∈ l then (nthE hs k).sl else 0 := rfl
    have d4 : ihH l (nthE hs k) = if (nthE hs k).id ∈ l then (nthE hs k).sh else 0 := rfl
    simp only [d1, d2, d3, d4] at ih'
    unfold hoB at hbx
    clear ih e d1 d2 d3 d4 hml
    generalize sumF (olH l) (hs.take k) = S1 at s1 ih' ⊢
    generalize sumF (ohH l) (hs.take k) = S2 at s2 ih' ⊢
    generalize sumF (ilH l) (hs.take k) = S3 at s3 ih' ⊢
    generalize sumF (ihH l) (hs.take k) = S4 at s4 ih' ⊢
    (refine WK.skip ?_; refine WK.seq ?_; refine WK.block ?_; refine WK.seq ?_; refine WK.region ?_; refine St.fieldAddr ?_; refine St.load ?_; refine St.move ?_)
    refine St.at ?_
    refine St.loadX (fun h2 hh2 => ((hk.vw hh2).at_ (z := (k : Int)) (n := k) (by omega) hlt).agg (by simp [hoC]) rfl rfl rfl) ?_
    (refine St.alloc fun _ _ => ?_; refine St.store0 ?_; refine WO.nil ?_; refine WK.seq ?_; refine WK.region ?_; refine St.move ?_; refine St.fieldAddr ?_; refine St.load ?_)
    rename_i p7 hp7
    refine St.call (fun _ => rfl) (fun h2 hh2 => in_con h2 hh2.gd cv l (nthE hs k).id (hc.vw hh2) hl3) ?_
    by_cases hin : (nthE hs k).id ∈ l
    · simp only [if_pos hin] at ih'
      rw [decide_eq_true hin]
      (refine St.assign ?_; refine WO.nil ?_; refine WK.seq ?_; refine WK.region ?_; refine St.move ?_; refine WO.nil ?_; refine WK.condT ?_; refine WK.seq ?_; refine WK.region ?_; refine St.fieldAddr ?_; refine St.load ?_; refine St.fieldAddr ?_; refine St.fieldAddr ?_; refine St.load ?_; refine St.binI ?_; refine St.fieldAddr ?_; refine St.store1 ?_; refine WO.nil ?_; refine WK.seq ?_; refine WK.region ?_; refine St.fieldAddr ?_; refine St.load ?_; refine St.fieldAddr ?_; refine St.fieldAddr ?_; refine St.load ?_; refine St.binI ?_; refine St.fieldAddr ?_; refine St.store1 ?_; refine WO.nil ?_; refine WK.seq ?_; refine WK.region ?_; refine St.fieldAddr ?_; refine St.load ?_; refine St.fieldAddr ?_; refine St.fieldAddr ?_; refine St.load ?_; refine St.binI ?_; refine St.fieldAddr ?_; refine St.store1 ?_; refine WO.nil ?_; refine WK.region ?_; refine St.fieldAddr ?_; refine St.load ?_; refine St.fieldAddr ?_; refine St.fieldAddr ?_; refine St.load ?_; refine St.binI ?_; refine St.fieldAddr ?_; refine St.store1 ?_; refine WO.nil ?_; refine WK.blk ?_; refine WK.region ?_; refine St.move ?_; refine St.binI ?_; refine St.assign ?_; refine WO.nil ?_)
      refine WK.le ?_ (by (repeat (first | exact List.Sublist.refl _ | exact List.nil_sublist _ | apply List.Sublist.cons_cons | apply List.Sublist.cons))) ih'
      exact ⟨rfl, rfl, rfl, rfl, rfl, trivial⟩
    · simp only [if_neg hin, Int.add_zero] at ih'
      rw [decide_eq_false hin]
      (refine St.assign ?_; refine WO.nil ?_; refine WK.seq ?_; refine WK.region ?_; refine St.move ?_; refine WO.nil ?_; refine WK.condF ?_; refine WK.skip ?_; refine WK.blk ?_; refine WK.region ?_; refine St.move ?_; refine St.binI ?_; refine St.assign ?_; refine WO.nil ?_)
      refine WK.le ?_ (by (repeat (first | exact List.Sublist.refl _ | exact List.nil_sublist _ | apply List.Sublist.cons_cons | apply List.Sublist.cons))) ih'
      exact ⟨rfl, rfl, rfl, rfl, rfl, trivial⟩
  have : k = hs.length := by simp at hc1; omega
  subst this
  rw [List.take_length]
  have s1 := sumF_bd (f := olH l) (xs := hs) fun x hx => (olH_bd (hb1 x hx)).1
  have s2 := sumF_bd (f := ohH l) (xs := hs) fun x hx => (olH_bd (hb1 x hx)).2.1
  have s3 := sumF_bd (f := ilH l) (xs := hs) fun x hx => (olH_bd (hb1 x hx)).2.2.1
  have s4 := sumF_bd (f := ihH l) (xs := hs) fun x hx => (olH_bd (hb1 x hx)).2.2.2
  clear ih hc1 hkl
  generalize sumF (olH l) hs = R1 at s1 ⊢
  generalize sumF (ohH l) hs = R2 at s2 ⊢
  generalize sumF (ilH l) hs = R3 at s3 ⊢
  generalize sumF (ihH l) hs = R4 at s4 ⊢
  (refine WK.exit ?_; refine WK.seq ?_; refine WK.seq ?_; refine WK.region ?_; refine St.assign ?_; refine WO.nil ?_; refine WK.block ?_)
  refine WK.inv (ι := Nat) (fun z => [(1, cv), (2, .ptr p2 0), (4, .ptr p4 0), (5, .ptr p5 0), (9, .int .i64 z)]) (fun z => [(p5, .cells [.int .i64 (R1 + sumF (olM l) (ms.take z)), .int .i64 (R2 + sumF (ohM l) (ms.take z)), .int .i64 (R3 + sumF (ilM l) (ms.take z)), .int .i64 (R4 + sumF (ihM l) (ms.take z))] 106), (p4, .cells [.int .i64 0, .int .i64 0, .int .i64 0, .int .i64 0] 106), (p2, .cells [hv, mv] 25)]) (fun z => z ≤ ms.length) (fun z => ms.length - z) 0 (Nat.zero_le _) ⟨rfl, rfl, rfl, rfl, rfl, trivial⟩ (by simp only [List.take_zero, show ∀ f : Mv → Int, sumF f [] = 0 from fun _ => rfl, Int.add_zero]; exact List.Sublist.refl _) ?_
  rintro k hkl ih
  (refine WK.seq ?_; refine WK.seq ?_; refine WK.region ?_; refine St.move ?_; refine St.fieldAddr ?_; refine St.load ?_)
  refine St.lenG rfl hm.mlen ?_
  (refine St.bin ?_; refine WO.nil ?_)
  refine St.splitC (fun hc1 => ?_) (fun hc1 => ?_)
  · have hlt : k < ms.length := by simp at hc1; omega
    have hm' := hm
    obtain ⟨b, off, c, rfl, hk⟩ := hm'.ne (by omega)
    have ih' := ih (k + 1) hlt (by omega)
    have hbx := hb2 _ (nthE_mem hlt)
    have hml : ∀ x ∈ ms.take k, mvB x := fun x hx => hb2 x (List.mem_of_mem_take hx)
    have t1 := sumF_bd (f := olM l) (xs := ms.take k) fun x hx => (olM_bd (hml x hx)).1
    have t2 := sumF_bd (f := ohM l) (xs := ms.take k) fun x hx => (olM_bd (hml x hx)).2.1
    have t3 := sumF_bd (f := ilM l) (xs := ms.take k) fun x hx => (olM_bd (hml x hx)).2.2.1
    have t4 := sumF_bd (f := ihM l) (xs := ms.take k) fun x hx => (olM_bd (hml x hx)).2.2.2
    rw [List.length_take, Nat.min_eq_left hkl] at t1 t2 t3 t4
    have e : ∀ f : Mv → Int, sumF f (ms.take (k + 1)) = sumF f (ms.take k) + f (nthE ms k) := fun f => by rw [take_succE hlt, sumF_snoc]
    simp only [e, ← Int.add_assoc] at ih'
    have d1 : olM l (nthE ms k) = if (nthE ms k).fr ∈ l ∧ (nthE ms k).to ∉ l then (nthE ms k).lo else 0 := rfl
    have d2 : ohM l (nthE ms k) = if (nthE ms k).fr ∈ l ∧ (nthE ms k).to ∉ l then (nthE ms k).hi else 0 := rfl
    have d3 : ilM l (nthE ms k) = if (nthE ms k).to ∈ l ∧ (nthE ms k).fr ∉ l then (nthE ms k).lo else 0 := rfl
    have d4 : ihM l (nthE ms k) = if (nthE ms k).to ∈ l ∧ (nthE ms k).fr ∉ l then (nthE ms k).hi else 0 := rfl
    simp only [d1, d2, d3, d4] at ih'
    unfold mvB at hbx
    clear ih e d1 d2 d3 d4 hml
    have u1 : -131072000 ≤ R1 + sumF (olM l) (ms.take k) ∧ R1 + sumF (olM l) (ms.take k) ≤ 131072000 := by omega
    have u2 : -131072000 ≤ R2 + sumF (ohM l) (ms.take k) ∧ R2 + sumF (ohM l) (ms.take k) ≤ 131072000 := by omega
    have u3 : -131072000 ≤ R3 + sumF (ilM l) (ms.take k) ∧ R3 + sumF (ilM l) (ms.take k) ≤ 131072000 := by omega
    have u4 : -131072000 ≤ R4 + sumF (ihM l) (ms.take k) ∧ R4 + sumF (ihM l) (ms.take k) ≤ 131072000 := by omega
    generalize R1 + sumF (olM l) (ms.take k) = S1 at u1 ih' ⊢
    generalize R2 + sumF (ohM l) (ms.take k) = S2 at u2 ih' ⊢
    generalize R3 + sumF (ilM l) (ms.take k) = S3 at u3 ih' ⊢
    generalize R4 + sumF (ihM l) (ms.take k) = S4 at u4 ih' ⊢
    (refine WK.skip ?_; refine WK.seq ?_; refine WK.block ?_; refine WK.seq ?_; refine WK.region ?_; refine St.fieldAddr ?_; refine St.load ?_; refine St.move ?_)
    refine St.at ?_
    refine St.loadX (fun h2 hh2 => ((hk.vw hh2).at_ (z := (k : Int)) (n := k) (by omega) hlt).agg (by simp [mvC]) rfl rfl rfl) ?_
    (refine St.alloc fun _ _ => ?_; refine St.store0 ?_; refine WO.nil ?_; refine WK.seq ?_; refine WK.region ?_; refine St.move ?_; refine St.fieldAddr ?_; refine St.load ?_)
    rename_i p10 hp10
    refine St.call (fun _ => rfl) (fun h2 hh2 => in_con h2 hh2.gd cv l (nthE ms k).fr (hc.vw hh2) hl3) ?_
    (refine St.assign ?_; refine WO.nil ?_; refine WK.seq ?_; refine WK.region ?_; refine St.move ?_; refine St.fieldAddr ?_; refine St.load ?_)
    refine St.call (fun _ => rfl) (fun h2 hh2 => in_con h2 hh2.gd cv l (nthE ms k).to (hc.vw hh2) hl3) ?_
    by_cases a : (nthE ms k).fr ∈ l
    · rw [decide_eq_true a]
      by_cases b2 : (nthE ms k).to ∈ l
      · rw [decide_eq_true b2]
        simp only [a, b2, not_true_eq_false, and_false, if_false, Int.add_zero] at ih'
        (refine St.assign ?_; refine WO.nil ?_; refine WK.seq ?_; refine WK.seq ?_; refine WK.region ?_; refine St.move ?_; refine St.move ?_; refine St.move ?_; refine St.un ?_; refine St.pickT ?_; refine WO.nil ?_; refine WK.condF ?_; refine WK.skip ?_; refine WK.seq ?_; refine WK.region ?_; refine St.move ?_; refine St.move ?_; refine St.move ?_; refine St.un ?_; refine St.pickT ?_; refine WO.nil ?_; refine WK.condF ?_; refine WK.skip ?_; refine WK.blk ?_; refine WK.region ?_; refine St.move ?_; refine St.binI ?_; refine St.assign ?_; refine WO.nil ?_)
        refine WK.le ?_ (by (repeat (first | exact List.Sublist.refl _ | exact List.nil_sublist _ | apply List.Sublist.cons_cons | apply List.Sublist.cons))) ih'
        exact ⟨rfl, rfl, rfl, rfl, rfl, trivial⟩
      · rw [decide_eq_false b2]
        simp only [a, b2, not_true_eq_false, not_false_eq_true, and_true, true_and, false_and, if_true, if_false, Int.add_zero] at ih'
        (refine St.assign ?_; refine WO.nil ?_; refine WK.seq ?_; refine WK.seq ?_; refine WK.region ?_; refine St.move ?_; refine St.move ?_; refine St.move ?_; refine St.un ?_; refine St.pickT ?_; refine WO.nil ?_; refine WK.condT ?_; refine WK.seq ?_; refine WK.region ?_; refine St.fieldAddr ?_; refine St.load ?_; refine St.fieldAddr ?_; refine St.fieldAddr ?_; refine St.load ?_; refine St.binI ?_; refine St.fieldAddr ?_; refine St.store1 ?_; refine WO.nil ?_; refine WK.region ?_; refine St.fieldAddr ?_; refine St.load ?_; refine St.fieldAddr ?_; refine St.fieldAddr ?_; refine St.load ?_; refine St.binI ?_; refine St.fieldAddr ?_; refine St.store1 ?_; refine WO.nil ?_; refine WK.seq ?_; refine WK.region ?_; refine St.move ?_; refine St.move ?_; refine St.skip ?_; refine St.skip ?_; refine St.pickF ?_; refine WO.nil ?_; refine WK.condF ?_; refine WK.skip ?_; refine WK.blk ?_; refine WK.region ?_; refine St.move ?_; refine St.binI ?_; refine St.assign ?_; refine WO.nil ?_)
        refine WK.le ?_ (by (repeat (first | exact List.Sublist.refl _ | exact List.nil_sublist _ | apply List.Sublist.cons_cons | apply List.Sublist.cons))) ih'
        exact ⟨rfl, rfl, rfl, rfl, rfl, trivial⟩
    · rw [decide_eq_false a]
      by_cases b2 : (nthE ms k).to ∈ l
      · rw [decide_eq_true b2]
        simp only [a, b2, not_true_eq_false, not_false_eq_true, and_true, true_and, false_and, if_true, if_false, Int.add_zero] at ih'
        (refine St.assign ?_; refine WO.nil ?_; refine WK.seq ?_; refine WK.seq ?_; refine WK.region ?_; refine St.move ?_; refine St.move ?_; refine St.skip ?_; refine St.skip ?_; refine St.pickF ?_; refine WO.nil ?_; refine WK.condF ?_; refine WK.skip ?_; refine WK.seq ?_; refine WK.region ?_; refine St.move ?_; refine St.move ?_; refine St.move ?_; refine St.un ?_; refine St.pickT ?_; refine WO.nil ?_; refine WK.condT ?_; refine WK.seq ?_; refine WK.region ?_; refine St.fieldAddr ?_; refine St.load ?_; refine St.fieldAddr ?_; refine St.fieldAddr ?_; refine St.load ?_; refine St.binI ?_; refine St.fieldAddr ?_; refine St.store1 ?_; refine WO.nil ?_; refine WK.region ?_; refine St.fieldAddr ?_; refine St.load ?_; refine St.fieldAddr ?_; refine St.fieldAddr ?_; refine St.load ?_; refine St.binI ?_; refine St.fieldAddr ?_; refine St.store1 ?_; refine WO.nil ?_; refine WK.blk ?_; refine WK.region ?_; refine St.move ?_; refine St.binI ?_; refine St.assign ?_; refine WO.nil ?_)
        refine WK.le ?_ (by (repeat (first | exact List.Sublist.refl _ | exact List.nil_sublist _ | apply List.Sublist.cons_cons | apply List.Sublist.cons))) ih'
        exact ⟨rfl, rfl, rfl, rfl, rfl, trivial⟩
      · rw [decide_eq_false b2]
        simp only [a, b2, false_and, if_false, Int.add_zero] at ih'
        (refine St.assign ?_; refine WO.nil ?_; refine WK.seq ?_; refine WK.seq ?_; refine WK.region ?_; refine St.move ?_; refine St.move ?_; refine St.skip ?_; refine St.skip ?_; refine St.pickF ?_; refine WO.nil ?_; refine WK.condF ?_; refine WK.skip ?_; refine WK.seq ?_; refine WK.region ?_; refine St.move ?_; refine St.move ?_; refine St.skip ?_; refine St.skip ?_; refine St.pickF ?_; refine WO.nil ?_; refine WK.condF ?_; refine WK.skip ?_; refine WK.blk ?_; refine WK.region ?_; refine St.move ?_; refine St.binI ?_; refine St.assign ?_; refine WO.nil ?_)
        refine WK.le ?_ (by (repeat (first | exact List.Sublist.refl _ | exact List.nil_sublist _ | apply List.Sublist.cons_cons | apply List.Sublist.cons))) ih'
        exact ⟨rfl, rfl, rfl, rfl, rfl, trivial⟩
  have : k = ms.length := by simp at hc1; omega
  subst this
  rw [List.take_length]
  (refine WK.exit ?_; refine WK.seq ?_; refine WK.region ?_; refine St.load ?_; refine St.store1 ?_; refine WO.nil ?_)
  refine St.ret (by first | exact .tmp .nil | exact .cell .nil | exact .cell (.tmp .nil) | exact .tmp (.tmp .nil) | exact .cell (.cell .nil) | exact .tmp (.cell .nil) | exact .nil | exact .tmp (.cell (.tmp .nil)) | exact .cell (.tmp (.tmp .nil)) | exact .cell (.cell (.tmp .nil)) | exact .tmp (.tmp (.tmp .nil)) | exact .cell (.cell (.cell .nil))) ?_
  rfl
set_option maxRecDepth 100000 in
set_option maxHeartbeats 8000000 in
theorem rthrough_con (h : Heap) (g : Gd h) (hv mv cv : AV) (way : Int) (hs : List Ho) (ms : List Mv) (l : List Int) (hh : HoV h hv hs) (hm : MvV h mv ms) (hc : InV h cv l) (hl1 : hs.length ≤ 1000) (hl2 : ms.length ≤ 1000) (hl3 : l.length ≤ 1000000) (hb1 : ∀ x ∈ hs, hoB x) (hb2 : ∀ x ∈ ms, mvB x) :
    Con Try.prog Bs 31 [.agg [hv, mv], .agg [.int .i64 way, cv]] h [] (.int .i64 (thrR way hs ms l)) [] := by
  refine Con.start rfl Try.func31 rfl rfl Try.ntmps31 rfl rfl g ?_
  (refine WK.seq ?_; refine WK.region ?_; refine St.box fun _ _ => ?_; refine St.box fun _ _ => ?_; refine St.assign ?_; refine WO.nil ?_; refine WK.seq ?_; refine WK.region ?_; refine St.load ?_; refine St.fieldAddr ?_; refine St.load ?_)
  rename_i p2 hp2 p3 hp3
  refine St.call (fun _ => rfl) (fun h2 hh2 => flows_con h2 hh2.gd hv mv cv hs ms l (hh.vw hh2) (hm.vw hh2) (hc.vw hh2) hl1 hl2 hl3 hb1 hb2) ?_
  have s1 := sumF_bd (f := olH l) (xs := hs) fun x hx => (olH_bd (hb1 x hx)).1
  have s2 := sumF_bd (f := ohH l) (xs := hs) fun x hx => (olH_bd (hb1 x hx)).2.1
  have s3 := sumF_bd (f := ilH l) (xs := hs) fun x hx => (olH_bd (hb1 x hx)).2.2.1
  have s4 := sumF_bd (f := ihH l) (xs := hs) fun x hx => (olH_bd (hb1 x hx)).2.2.2
  have t1 := sumF_bd (f := olM l) (xs := ms) fun x hx => (olM_bd (hb2 x hx)).1
  have t2 := sumF_bd (f := ohM l) (xs := ms) fun x hx => (olM_bd (hb2 x hx)).2.1
  have t3 := sumF_bd (f := ilM l) (xs := ms) fun x hx => (olM_bd (hb2 x hx)).2.2.1
  have t4 := sumF_bd (f := ihM l) (xs := ms) fun x hx => (olM_bd (hb2 x hx)).2.2.2
  have hr : thrR way hs ms l = if way = 1 then (sumF (olH l) hs + sumF (olM l) ms) - (sumF (ihH l) hs + sumF (ihM l) ms) else (sumF (ilH l) hs + sumF (ilM l) ms) - (sumF (ohH l) hs + sumF (ohM l) ms) := rfl
  rw [hr]
  have u1 : -131072000 ≤ sumF (olH l) hs + sumF (olM l) ms ∧ sumF (olH l) hs + sumF (olM l) ms ≤ 131072000 := by omega
  have u2 : -131072000 ≤ sumF (ohH l) hs + sumF (ohM l) ms ∧ sumF (ohH l) hs + sumF (ohM l) ms ≤ 131072000 := by omega
  have u3 : -131072000 ≤ sumF (ilH l) hs + sumF (ilM l) ms ∧ sumF (ilH l) hs + sumF (ilM l) ms ≤ 131072000 := by omega
  have u4 : -131072000 ≤ sumF (ihH l) hs + sumF (ihM l) ms ∧ sumF (ihH l) hs + sumF (ihM l) ms ≤ 131072000 := by omega
  clear hr s1 s2 s3 s4 t1 t2 t3 t4
  generalize sumF (olH l) hs + sumF (olM l) ms = S1 at u1 ⊢
  generalize sumF (ohH l) hs + sumF (ohM l) ms = S2 at u2 ⊢
  generalize sumF (ilH l) hs + sumF (ilM l) ms = S3 at u3 ⊢
  generalize sumF (ihH l) hs + sumF (ihM l) ms = S4 at u4 ⊢
  (refine St.alloc fun _ _ => ?_; refine St.store0 ?_; refine WO.nil ?_; refine WK.seq ?_; refine WK.seq ?_; refine WK.region ?_; refine St.fieldAddr ?_; refine St.load ?_; refine St.bin ?_; refine WO.nil ?_)
  refine St.splitC (fun q => ?_) (fun q => ?_)
  · have hw : way = 1 := by simpa using q
    (refine WK.seq ?_; refine WK.region ?_; refine St.fieldAddr ?_; refine St.load ?_; refine St.fieldAddr ?_; refine St.load ?_; refine St.binI ?_; refine St.assign ?_; refine WO.nil ?_)
    refine St.ret (by first | exact .tmp .nil | exact .cell .nil | exact .cell (.tmp .nil) | exact .tmp (.tmp .nil) | exact .cell (.cell .nil) | exact .tmp (.cell .nil) | exact .nil | exact .tmp (.cell (.tmp .nil)) | exact .cell (.tmp (.tmp .nil)) | exact .cell (.cell (.tmp .nil)) | exact .tmp (.tmp (.tmp .nil)) | exact .cell (.cell (.cell .nil))) ?_
    rw [if_pos hw]
    rfl
  · have hw : ¬ way = 1 := by simpa using q
    (refine WK.skip ?_; refine WK.seq ?_; refine WK.region ?_; refine St.fieldAddr ?_; refine St.load ?_; refine St.fieldAddr ?_; refine St.load ?_; refine St.binI ?_; refine St.assign ?_; refine WO.nil ?_)
    refine St.ret (by first | exact .tmp .nil | exact .cell .nil | exact .cell (.tmp .nil) | exact .tmp (.tmp .nil) | exact .cell (.cell .nil) | exact .tmp (.cell .nil) | exact .nil | exact .tmp (.cell (.tmp .nil)) | exact .cell (.tmp (.tmp .nil)) | exact .cell (.cell (.tmp .nil)) | exact .tmp (.tmp (.tmp .nil)) | exact .cell (.cell (.cell .nil))) ?_
    rw [if_neg hw]
    rfl
end Go.Proofs.Ytjlpoomjgidgaaa
