/- The law CurveSums over the calculator's memory. -/
import Derived.Test.YtcaemeedmnpdjaaLiftA
import Derived.Test.YtcaemeedmnpdjaaSv
namespace Go.Proofs.Ytcaemeedmnpdjaa
open Go.RowKit Go.Proofs.Ytcaemeedmnpdjaa.Ev

theorem sumR_len {ka ea kb eb t} (h : ka.length ≤ 1000000) : (sumR ka ea kb eb t).1.length ≤ 1000000 := by
  unfold sumR
  split
  · simp
  split
  · simp
  split
  · simp
  · rw [sumK_len]; exact h
theorem subL1 (L1 L2 L3 L4 : Ob) : L1.Sublist (L1 ++ L2 ++ L3 ++ L4) := (List.sublist_append_left L1 L2).trans ((List.sublist_append_left _ L3).trans (List.sublist_append_left _ L4))
theorem subL2 (L1 L2 L3 L4 : Ob) : L2.Sublist (L1 ++ L2 ++ L3 ++ L4) := (List.sublist_append_right L1 L2).trans ((List.sublist_append_left _ L3).trans (List.sublist_append_left _ L4))
theorem subL3 (L1 L2 L3 L4 : Ob) : L3.Sublist (L1 ++ L2 ++ L3 ++ L4) := (List.sublist_append_right (L1 ++ L2) L3).trans (List.sublist_append_left _ L4)
theorem subL4 (L1 L2 L3 L4 : Ob) : L4.Sublist (L1 ++ L2 ++ L3 ++ L4) := List.sublist_append_right (L1 ++ L2 ++ L3) L4
set_option maxRecDepth 100000 in
set_option maxHeartbeats 8000000 in
theorem sums_con (h : Heap) (g : Gd h) (kva kvb : AV) (ka kb : List (Int × Int)) (ea eb : Int) (hka : KnV h kva ka) (hkb : KnV h kvb kb) : Con Try.prog Bs 8 [.agg [kva, .int .i64 ea], .agg [kvb, .int .i64 eb]] h [] (.bool true) [] := by
  refine Con.start rfl Try.func8 rfl rfl Try.ntmps8 rfl rfl g ?_
  (refine WK.seq ?_; refine WK.region ?_; refine St.box fun _ _ => ?_; refine St.box fun _ _ => ?_; refine St.assign ?_; refine WO.nil ?_; refine WK.seq ?_; refine WK.region ?_)
  rename_i p hp q hq
  refine St.call (fun _ => rfl) (fun h hh => headB_con h hh.gd) ?_
  (refine St.assign ?_; refine WO.nil ?_; refine WK.seq ?_; refine WK.seq ?_; refine WK.region ?_; refine St.load ?_)
  refine St.call (fun _ => rfl) (fun h hh => fewB_con h hh.gd kva ka ea (hka.vw hh)) ?_
  (refine St.un ?_; refine St.move ?_)
  refine St.split (fun hc => ?_) (fun hc => ?_)
  · (refine St.skip ?_; refine St.skip ?_; refine St.skip ?_; refine St.pickT ?_; refine WO.nil ?_; refine WK.condT ?_; refine WK.seq ?_; refine WK.region ?_; refine St.move ?_; refine St.assign ?_; refine WO.nil ?_)
    refine St.ret (by first | exact .tmp .nil | exact .cell .nil | exact .cell (.tmp .nil) | exact .tmp (.tmp .nil) | exact .cell (.cell .nil) | exact .tmp (.cell .nil) | exact .nil | exact .tmp (.cell (.tmp .nil)) | exact .cell (.tmp (.tmp .nil)) | exact .cell (.cell (.tmp .nil)) | exact .tmp (.tmp (.tmp .nil)) | exact .cell (.cell (.cell .nil))) ?_
    rfl
  have hna : ka.length ≤ 60 := by simpa using hc
  (refine St.load ?_)
  refine St.call (fun _ => rfl) (fun h hh => fewB_con h hh.gd kvb kb eb (hkb.vw hh)) ?_
  (refine St.un ?_; refine St.pickF ?_; refine WO.nil ?_)
  refine St.splitC (fun hc => ?_) (fun hc => ?_)
  · (refine WK.seq ?_; refine WK.region ?_; refine St.move ?_; refine St.assign ?_; refine WO.nil ?_)
    refine St.ret (by first | exact .tmp .nil | exact .cell .nil | exact .cell (.tmp .nil) | exact .tmp (.tmp .nil) | exact .cell (.cell .nil) | exact .tmp (.cell .nil) | exact .nil | exact .tmp (.cell (.tmp .nil)) | exact .cell (.tmp (.tmp .nil)) | exact .cell (.cell (.tmp .nil)) | exact .tmp (.tmp (.tmp .nil)) | exact .cell (.cell (.cell .nil))) ?_
    rfl
  have hnb : kb.length ≤ 60 := by simpa using hc
  have hr1 := sumR_len (ka := ka) (ea := ea) (kb := kb) (eb := eb) (t := 1) (by omega)
  have hr2 := sumR_len (ka := ka) (ea := ea) (kb := kb) (eb := eb) (t := -1) (by omega)
  have hA : ∀ (h2 : Heap) {V : Ob}, Vw h [] V h2 → ∃ v L, Con Try.prog Bs 40 [.agg [kva, .int .i64 ea], .agg [kvb, .int .i64 eb]] h2 [] v L ∧ SumOut (sumR ka ea kb eb 1) v L := fun h2 V hh => addP_con h2 hh.gd kva kvb ka kb ea eb (hka.vw hh) (hkb.vw hh) (by omega) (by omega)
  have hB : ∀ (h2 : Heap) {V : Ob}, Vw h [] V h2 → ∃ v L, Con Try.prog Bs 41 [.agg [kva, .int .i64 ea], .agg [kvb, .int .i64 eb]] h2 [] v L ∧ MixOut (sumR ka ea kb eb 1) v L := fun h2 V hh => addRef_con h2 hh.gd kva kvb ka kb ea eb (hka.vw hh) (hkb.vw hh) (by omega) (by omega)
  have hC : ∀ (h2 : Heap) {V : Ob}, Vw h [] V h2 → ∃ v L, Con Try.prog Bs 42 [.agg [kva, .int .i64 ea], .agg [kvb, .int .i64 eb]] h2 [] v L ∧ SumOut (sumR ka ea kb eb (-1)) v L := fun h2 V hh => minusP_con h2 hh.gd kva kvb ka kb ea eb (hka.vw hh) (hkb.vw hh) (by omega) (by omega)
  have hD : ∀ (h2 : Heap) {V : Ob}, Vw h [] V h2 → ∃ v L, Con Try.prog Bs 43 [.agg [kva, .int .i64 ea], .agg [kvb, .int .i64 eb]] h2 [] v L ∧ MixOut (sumR ka ea kb eb (-1)) v L := fun h2 V hh => minusRef_con h2 hh.gd kva kvb ka kb ea eb (hka.vw hh) (hkb.vw hh) (by omega) (by omega)
  generalize hR1 : sumR ka ea kb eb 1 = R1 at hr1 hA hB
  generalize hR2 : sumR ka ea kb eb (-1) = R2 at hr2 hC hD
  obtain ⟨k1, e1, n1⟩ := R1
  obtain ⟨k2, e2, n2⟩ := R2
  simp only at hr1 hr2
  clear hR1 hR2 hc
  (refine WK.skip ?_; refine WK.seq ?_; refine WK.region ?_; refine St.load ?_; refine St.load ?_)
  refine St.callR (fun _ => rfl) (fun h2 hh => hA h2 hh) ?_
  rintro v L1 ⟨v1, c1, rfl⟩
  refine WO.permF (L' := [(q, .cells [kvb, .int .i64 eb] 33), (p, .cells [kva, .int .i64 ea] 33)] ++ L1) List.perm_append_comm ?_
  (refine St.move ?_; refine St.extract ?_; refine St.extract ?_; refine St.alloc fun _ _ => ?_)
  refine St.store0 (hv := store2 rfl c1.ok rfl) ?_
  (refine St.assign ?_; refine WO.nil ?_; refine WK.seq ?_; refine WK.region ?_; refine St.load ?_; refine St.load ?_)
  rename_i a6 h6
  refine St.callR (fun _ => rfl) (fun h2 hh => hB h2 hh) ?_
  rintro v L2 ⟨v2, c2, rfl⟩
  simp only at c1 c2
  refine WO.permF (L' := [(a6, .cells [v1, .int .i64 e1] 33), (q, .cells [kvb, .int .i64 eb] 33), (p, .cells [kva, .int .i64 ea] 33)] ++ (L1 ++ L2)) (List.perm_append_comm (l₁ := [(a6, .cells [v1, .int .i64 e1] 33), (q, .cells [kvb, .int .i64 eb] 33), (p, .cells [kva, .int .i64 ea] 33)] ++ L1)) ?_
  (refine St.alloc fun _ _ => ?_)
  refine St.store0 (hv := store3 rfl c2.ok rfl rfl) ?_
  (refine WO.nil ?_; refine WK.seq ?_; refine WK.region ?_; refine St.load ?_; refine St.load ?_)
  rename_i a8 h8
  refine St.callR (fun _ => rfl) (fun h2 hh => hC h2 hh) ?_
  rintro v L3 ⟨v3, c3, rfl⟩
  simp only at c3
  refine WO.permF (L' := [(a8, .cells [v2, .int .i64 e1, .int .i64 n1] 63), (a6, .cells [v1, .int .i64 e1] 33), (q, .cells [kvb, .int .i64 eb] 33), (p, .cells [kva, .int .i64 ea] 33)] ++ ((L1 ++ L2) ++ L3)) (List.perm_append_comm (l₁ := [(a8, .cells [v2, .int .i64 e1, .int .i64 n1] 63), (a6, .cells [v1, .int .i64 e1] 33), (q, .cells [kvb, .int .i64 eb] 33), (p, .cells [kva, .int .i64 ea] 33)] ++ (L1 ++ L2))) ?_
  (refine St.move ?_; refine St.extract ?_; refine St.extract ?_; refine St.alloc fun _ _ => ?_)
  refine St.store0 (hv := store2 rfl c3.ok rfl) ?_
  (refine St.assign ?_; refine WO.nil ?_; refine WK.seq ?_; refine WK.region ?_; refine St.load ?_; refine St.load ?_)
  rename_i a9 h9
  refine St.callR (fun _ => rfl) (fun h2 hh => hD h2 hh) ?_
  rintro v L4 ⟨v4, c4, rfl⟩
  simp only at c4
  refine WO.permF (L' := [(a9, .cells [v3, .int .i64 e2] 33), (a8, .cells [v2, .int .i64 e1, .int .i64 n1] 63), (a6, .cells [v1, .int .i64 e1] 33), (q, .cells [kvb, .int .i64 eb] 33), (p, .cells [kva, .int .i64 ea] 33)] ++ (((L1 ++ L2) ++ L3) ++ L4)) (List.perm_append_comm (l₁ := [(a9, .cells [v3, .int .i64 e2] 33), (a8, .cells [v2, .int .i64 e1, .int .i64 n1] 63), (a6, .cells [v1, .int .i64 e1] 33), (q, .cells [kvb, .int .i64 eb] 33), (p, .cells [kva, .int .i64 ea] 33)] ++ ((L1 ++ L2) ++ L3))) ?_
  (refine St.alloc fun _ _ => ?_)
  refine St.store0 (hv := store3 rfl c4.ok rfl rfl) ?_
  (refine WO.nil ?_; refine WK.seq ?_; refine WK.region ?_; refine St.move ?_; refine St.move ?_; refine St.load ?_; refine St.fieldAddr ?_; refine St.load ?_)
  refine St.call (fun _ => rfl) (fun h2 hh => sameCurve_con h2 hh.gd v1 v2 k1 e1 (hh.twoKn c1 c2 (by (repeat apply List.Sublist.cons); exact subL1 L1 L2 L3 L4) (by (repeat apply List.Sublist.cons); exact subL2 L1 L2 L3 L4)) hr1) ?_
  (refine St.pickT ?_; refine St.move ?_; refine St.move ?_; refine St.fieldAddr ?_; refine St.load ?_; refine St.bin ?_; refine St.pickT ?_; refine St.move ?_)
  refine St.split (fun _ => ?_) (fun hb => ?_)
  rotate_left
  · simp at hb
  (refine St.load ?_; refine St.fieldAddr ?_; refine St.load ?_)
  refine St.call (fun _ => rfl) (fun h2 hh => sameCurve_con h2 hh.gd v3 v4 k2 e2 (hh.twoKn c3 c4 (by (repeat apply List.Sublist.cons); exact subL3 L1 L2 L3 L4) (by (repeat apply List.Sublist.cons); exact subL4 L1 L2 L3 L4)) hr2) ?_
  (refine St.pickT ?_; refine St.move ?_; refine St.move ?_; refine St.fieldAddr ?_; refine St.load ?_; refine St.bin ?_; refine St.pickT ?_; refine St.assign ?_; refine WO.nil ?_)
  refine St.ret (by first | exact .tmp .nil | exact .cell .nil | exact .cell (.tmp .nil) | exact .tmp (.tmp .nil) | exact .cell (.cell .nil) | exact .tmp (.cell .nil) | exact .nil | exact .tmp (.cell (.tmp .nil)) | exact .cell (.tmp (.tmp .nil)) | exact .cell (.cell (.tmp .nil)) | exact .tmp (.tmp (.tmp .nil)) | exact .cell (.cell (.cell .nil))) ?_
  simp [oneOf]
/-- the law, said of the model -/
theorem sums_of (w : World) (A1 A2 : Option Addr) (c1 c2 : Nat) (ka kb : List (Int × Int)) (ea eb : Int) (hA1 : SlOk w A1 ka.length c1) (hk1 : KnAt w A1 ka) (hA2 : SlOk w A2 kb.length c2) (hk2 : KnAt w A2 kb) :
    Calls Try.prog 8 #[.agg #[.slice A1 ka.length c1, .int .i64 ea], .agg #[.slice A2 kb.length c2, .int .i64 eb]] w fun e w' => e = .returned (.bool true) ∧ RowKit.Below w.heap.size w w' := by
  obtain ⟨kva, h1, h2⟩ := kn_abs hA1 hk1
  obtain ⟨kvb, h3, h4⟩ := kn_abs hA2 hk2
  refine (Con.calls (by kernel_rfl) Bs_sound (sums_con _ (absH_good w) kva kvb ka kb ea eb h1 h3) (vrs2 (vr_agg2 h2 vr_int) (vr_agg2 h4 vr_int))).mono ?_
  rintro e w' ⟨U, E, rfl, hU, hb⟩
  simp only [VR] at hU
  exact ⟨by rw [hU], hb⟩
end Go.Proofs.Ytcaemeedmnpdjaa
