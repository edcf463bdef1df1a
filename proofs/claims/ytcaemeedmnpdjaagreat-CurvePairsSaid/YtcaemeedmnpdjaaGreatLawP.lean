/- The law CurvePairs over the calculator's memory. -/
import Derived.Test.YtcaemeedmnpdjaaGreatLiftA
import Derived.Test.YtcaemeedmnpdjaaGreatBe
import Derived.Test.YtcaemeedmnpdjaaGreatRa
import Derived.Test.YtcaemeedmnpdjaaGreatCk
namespace Go.Proofs.YtcaemeedmnpdjaaGreat
open Go.RowKit Go.Proofs.YtcaemeedmnpdjaaGreat.Ev

theorem Ev.IsL.ok {e : TypeId} {sz len : Nat} {l : List AV} {v : AV} {Lv : Ob} (k : IsL e sz len l v Lv) : okCell v = true := by
  cases k <;> rfl
theorem crossL_len {ea eb : Int} (ka kb : List (Int × Int)) (va : Vd ka ea) (vb : Vd kb eb) : (crossL ka kb).length ≤ 1000000 := by
  have := crTo_len (sg := sgX ka kb) (lo := shLo ka kb) (shHi ka kb + 1 - shLo ka kb).toNat
  unfold crossL
  have q1 := va.pos
  have q2 := va.kx1 (i := ka.length - 1) (by omega)
  have q3 := va.kx0 va.pos
  have q4 : shHi ka kb ≤ 2000 := by unfold shHi; rw [dHi_kx]; omega
  have q5 : 0 ≤ shLo ka kb := by unfold shLo; rw [dLo_kx]; omega
  omega
set_option maxRecDepth 100000 in
set_option maxHeartbeats 16000000 in
theorem pairs_con (h : Heap) (g : Gd h) (kva kvb : AV) (ka kb : List (Int × Int)) (ea eb lo hi : Int) (hka : KnV h kva ka) (hkb : KnV h kvb kb) : Con Tryz.prog Bs 4 [.agg [kva, .int .i64 ea], .agg [kvb, .int .i64 eb], .agg [.int .i64 lo, .int .i64 hi]] h [] (.bool true) [] := by
  refine Con.start rfl Tryz.func4 rfl rfl Tryz.ntmps4 rfl rfl g ?_
  (refine WK.seq ?_; refine WK.region ?_; refine St.box fun _ _ => ?_; refine St.box fun _ _ => ?_; refine St.box fun _ _ => ?_; refine St.assign ?_; refine WO.nil ?_; refine WK.seq ?_; refine WK.region ?_)
  rename_i p hp q hq s hs
  refine St.call (fun _ => rfl) (fun h hh => headB_con h hh.gd) ?_
  (refine St.assign ?_; refine WO.nil ?_; refine WK.seq ?_; refine WK.seq ?_; refine WK.region ?_; refine St.load ?_)
  refine St.call (fun _ => rfl) (fun h hh => fewB_con h hh.gd kva ka ea (hka.vw hh)) ?_
  (refine St.un ?_; refine St.move ?_)
  refine St.split (fun hc => ?_) (fun hc => ?_)
  · (refine St.skip ?_; refine St.skip ?_; refine St.skip ?_; refine St.pickT ?_; refine WO.nil ?_; refine WK.condT ?_; refine WK.seq ?_; refine WK.region ?_; refine St.move ?_; refine St.assign ?_; refine WO.nil ?_)
    refine St.ret (by first | exact .tmp .nil | exact .cell .nil | exact .cell (.tmp .nil) | exact .tmp (.tmp .nil) | exact .cell (.cell .nil) | exact .tmp (.cell .nil) | exact .nil | exact .tmp (.cell (.tmp .nil)) | exact .cell (.tmp (.tmp .nil)) | exact .cell (.cell (.tmp .nil)) | exact .tmp (.tmp (.tmp .nil)) | exact .cell (.cell (.cell .nil))) ?_
    rfl
  have hna : ka.length ≤ 60 := by simpa using hc
  (refine St.load ?_)
  refine St.call (fun _ => rfl) (fun h hh => fewB_con h hh.gd kvb kb eb (hkb.vw hh)) ?_
  (refine St.un ?_; refine St.pickF ?_; refine WO.nil ?_)
  refine St.splitC (fun hc => ?_) (fun hc => ?_)
  · (refine WK.seq ?_; refine WK.region ?_; refine St.move ?_; refine St.assign ?_; refine WO.nil ?_)
    refine St.ret (by first | exact .tmp .nil | exact .cell .nil | exact .cell (.tmp .nil) | exact .tmp (.tmp .nil) | exact .cell (.cell .nil) | exact .tmp (.cell .nil) | exact .nil | exact .tmp (.cell (.tmp .nil)) | exact .cell (.tmp (.tmp .nil)) | exact .cell (.cell (.tmp .nil)) | exact .tmp (.tmp (.tmp .nil)) | exact .cell (.cell (.cell .nil))) ?_
    rfl
  have hnb : kb.length ≤ 60 := by simpa using hc
  have hA : ∀ (h2 : Heap) {V : Ob}, Vw h [] V h2 → Con Tryz.prog Bs 15 [.agg [kva, .int .i64 ea], .agg [kvb, .int .i64 eb], .agg [.int .i64 lo, .int .i64 hi]] h2 [] (avP (apartR ka ea kb eb lo hi)) [] := fun h2 V hh => apartP_con h2 hh.gd kva kvb ka kb ea eb lo hi (hka.vw hh) (hkb.vw hh) (by omega) (by omega)
  have hB : ∀ (h2 : Heap) {V : Ob}, Vw h [] V h2 → Con Tryz.prog Bs 16 [.agg [kva, .int .i64 ea], .agg [kvb, .int .i64 eb], .agg [.int .i64 lo, .int .i64 hi]] h2 [] (avP (apartR ka ea kb eb lo hi)) [] := fun h2 V hh => apartRef_con h2 hh.gd kva kvb ka kb ea eb lo hi (hka.vw hh) (hkb.vw hh) (by omega) (by omega)
  have hC : ∀ (h2 : Heap) {V : Ob}, Vw h [] V h2 → ∃ v L, Con Tryz.prog Bs 17 [.agg [kva, .int .i64 ea], .agg [kvb, .int .i64 eb]] h2 [] v L ∧ CrOut ka ea kb eb v L := fun h2 V hh => crossP_con h2 hh.gd kva kvb ka kb ea eb (hka.vw hh) (hkb.vw hh) (by omega) (by omega)
  have hD : ∀ (h2 : Heap) {V : Ob}, Vw h [] V h2 → ∃ v L, Con Tryz.prog Bs 18 [.agg [kva, .int .i64 ea], .agg [kvb, .int .i64 eb]] h2 [] v L ∧ ∃ w, IsSp (if chk2 ka ea kb eb = 0 then crossL ka kb else []) w L ∧ v = .agg [w, .int .i64 (chk2 ka ea kb eb)] := fun h2 V hh => crossRef_con h2 hh.gd kva kvb ka kb ea eb (hka.vw hh) (hkb.vw hh) (by omega) (by omega)
  have hE : ∀ (h2 : Heap) {V : Ob}, Vw h [] V h2 → Con Tryz.prog Bs 19 [.agg [kva, .int .i64 ea], .agg [kvb, .int .i64 eb]] h2 [] (.tup [.int .i64 (clashA ka ea kb eb).1, .bool (clashA ka ea kb eb).2, .int .i64 (chk2 ka ea kb eb)]) [] := fun h2 V hh => clashP_con h2 hh.gd kva kvb ka kb ea eb (hka.vw hh) (hkb.vw hh) (by omega) (by omega)
  have hF : ∀ (h2 : Heap) {V : Ob}, Vw h [] V h2 → Con Tryz.prog Bs 20 [.agg [kva, .int .i64 ea], .agg [kvb, .int .i64 eb]] h2 [] (.agg [.int .i64 (clashA ka ea kb eb).1, .bool (clashA ka ea kb eb).2, .int .i64 (chk2 ka ea kb eb)]) [] := fun h2 V hh => clashRef_con h2 hh.gd kva kvb ka kb ea eb (hka.vw hh) (hkb.vw hh) (by omega) (by omega)
  have hG : ∀ (h2 : Heap) {V : Ob}, Vw h [] V h2 → Con Tryz.prog Bs 21 [.agg [kva, .int .i64 ea], .agg [kvb, .int .i64 eb]] h2 [] (.tup [.bool (sameA ka ea kb eb), .int .i64 (chk2 ka ea kb eb)]) [] := fun h2 V hh => sameP_con h2 hh.gd kva kvb ka kb ea eb (hka.vw hh) (hkb.vw hh) (by omega) (by omega)
  have hH : ∀ (h2 : Heap) {V : Ob}, Vw h [] V h2 → Con Tryz.prog Bs 22 [.agg [kva, .int .i64 ea], .agg [kvb, .int .i64 eb]] h2 [] (.tup [.bool (sameA ka ea kb eb), .int .i64 (chk2 ka ea kb eb)]) [] := fun h2 V hh => sameRef_con h2 hh.gd kva kvb ka kb ea eb (hka.vw hh) (hkb.vw hh) (by omega) (by omega)
  have hlen : (if chk2 ka ea kb eb = 0 then crossL ka kb else []).length ≤ 1000000 := by
    split
    · rename_i h0
      exact crossL_len ka kb (vd_of_chk (chk2_zero h0).1) (vd_of_chk (chk2_zero h0).2)
    · simp
  unfold CrOut at hC
  generalize apartR ka ea kb eb lo hi = P at hA hB
  generalize (if chk2 ka ea kb eb = 0 then crossL ka kb else []) = XL at hC hD hlen
  generalize chk2 ka ea kb eb = ce at hC hD hE hF hG hH
  generalize clashA ka ea kb eb = cl at hE hF
  generalize sameA ka ea kb eb = sa at hG hH
  obtain ⟨⟨l1, l2, l3, l4, l5, l6⟩, pe⟩ := P
  obtain ⟨cx, ci⟩ := cl
  clear hc
  (refine WK.skip ?_; refine WK.seq ?_; refine WK.region ?_; refine St.load ?_; refine St.load ?_; refine St.load ?_)
  refine St.call (v := .tup [pkA ⟨l1, l2, l3, l4, l5, l6⟩, .int .i64 pe]) (fun _ => rfl) (fun h2 hh => hA h2 hh) ?_
  (refine St.move ?_; refine St.extract ?_; refine St.extract ?_; refine St.alloc fun _ _ => ?_; refine St.store0 ?_; refine St.assign ?_; refine WO.nil ?_; refine WK.seq ?_; refine WK.region ?_; refine St.load ?_; refine St.load ?_; refine St.load ?_)
  refine St.call (v := .tup [pkA ⟨l1, l2, l3, l4, l5, l6⟩, .int .i64 pe]) (fun _ => rfl) (fun h2 hh => hB h2 hh) ?_
  (refine St.move ?_; refine St.extract ?_; refine St.extract ?_; refine St.alloc fun _ _ => ?_; refine St.store0 ?_; refine St.assign ?_; refine WO.nil ?_; refine WK.seq ?_; refine WK.region ?_; refine St.load ?_; refine St.load ?_)
  rename_i a8 h8 a10 h10
  refine St.callR (fun _ => rfl) (fun h2 hh => hC h2 hh) ?_
  rintro v L1 ⟨w1, c1, rfl⟩
  refine WO.permF (L' := [(a10, .cells [.int .i64 l1, .int .i64 l2, .int .i64 l3, .int .i64 l4, .int .i64 l5, .int .i64 l6] 45), (a8, .cells [.int .i64 l1, .int .i64 l2, .int .i64 l3, .int .i64 l4, .int .i64 l5, .int .i64 l6] 45), (s, .cells [.int .i64 lo, .int .i64 hi] 27), (q, .cells [kvb, .int .i64 eb] 24), (p, .cells [kva, .int .i64 ea] 24)] ++ L1) List.perm_append_comm ?_
  (refine St.move ?_; refine St.extract ?_; refine St.extract ?_; refine St.assign ?_; refine St.assign ?_; refine WO.nil ?_; refine WK.seq ?_; refine WK.region ?_; refine St.load ?_; refine St.load ?_)
  refine St.callR (fun _ => rfl) (fun h2 hh => hD h2 hh) ?_
  rintro v L2 ⟨w2, c2, rfl⟩
  refine WO.permF (L' := [(a10, .cells [.int .i64 l1, .int .i64 l2, .int .i64 l3, .int .i64 l4, .int .i64 l5, .int .i64 l6] 45), (a8, .cells [.int .i64 l1, .int .i64 l2, .int .i64 l3, .int .i64 l4, .int .i64 l5, .int .i64 l6] 45), (s, .cells [.int .i64 lo, .int .i64 hi] 27), (q, .cells [kvb, .int .i64 eb] 24), (p, .cells [kva, .int .i64 ea] 24)] ++ (L1 ++ L2)) (List.perm_append_comm (l₁ := [(a10, .cells [.int .i64 l1, .int .i64 l2, .int .i64 l3, .int .i64 l4, .int .i64 l5, .int .i64 l6] 45), (a8, .cells [.int .i64 l1, .int .i64 l2, .int .i64 l3, .int .i64 l4, .int .i64 l5, .int .i64 l6] 45), (s, .cells [.int .i64 lo, .int .i64 hi] 27), (q, .cells [kvb, .int .i64 eb] 24), (p, .cells [kva, .int .i64 ea] 24)] ++ L1)) ?_
  (refine St.alloc fun _ _ => ?_)
  refine St.store0 (hv := store2 rfl c2.ok rfl) ?_
  (refine WO.nil ?_; refine WK.seq ?_; refine WK.region ?_; refine St.load ?_; refine St.load ?_)
  refine St.call (fun _ => rfl) (fun h2 hh => hE h2 hh) ?_
  (refine St.move ?_; refine St.extract ?_; refine St.extract ?_; refine St.extract ?_; refine St.assign ?_; refine St.assign ?_; refine St.assign ?_; refine WO.nil ?_; refine WK.seq ?_; refine WK.region ?_; refine St.load ?_; refine St.load ?_)
  refine St.call (fun _ => rfl) (fun h2 hh => hF h2 hh) ?_
  (refine St.alloc fun _ _ => ?_; refine St.store0 ?_; refine WO.nil ?_; refine WK.seq ?_; refine WK.region ?_; refine St.load ?_; refine St.load ?_)
  refine St.call (fun _ => rfl) (fun h2 hh => hG h2 hh) ?_
  (refine St.move ?_; refine St.extract ?_; refine St.extract ?_; refine St.assign ?_; refine St.assign ?_; refine WO.nil ?_; refine WK.seq ?_; refine WK.region ?_; refine St.load ?_; refine St.load ?_)
  refine St.call (fun _ => rfl) (fun h2 hh => hH h2 hh) ?_
  (refine St.move ?_; refine St.extract ?_; refine St.extract ?_; refine St.assign ?_; refine St.assign ?_; refine WO.nil ?_; refine WK.seq ?_; refine WK.region ?_; refine St.move ?_; refine St.move ?_; refine St.load ?_; refine St.load ?_)
  refine St.binX (r := .bool true) (by
    have := pk_eql ⟨l1, l2, l3, l4, l5, l6⟩ ⟨l1, l2, l3, l4, l5, l6⟩
    rw [pkEq_self] at this
    exact this) rfl rfl ?_
  (refine St.pickT ?_; refine St.move ?_; refine St.move ?_; refine St.move ?_; refine St.bin ?_; refine St.pickT ?_; refine St.move ?_)
  refine St.split (fun _ => ?_) (fun hb => ?_)
  rotate_left
  · simp at hb
  (refine St.move ?_; refine St.fieldAddr ?_; refine St.load ?_)
  refine St.call (v := .bool true) (fun _ => rfl) (fun h2 hh => by
    have := sameSpG_con h2 hh.gd w1 w2 XL XL (hh.prv c1 (by (repeat apply List.Sublist.cons); exact List.sublist_append_left _ _)) (hh.prv c2 (by (repeat apply List.Sublist.cons); exact List.sublist_append_right _ _)) hlen
    rw [decide_eq_true rfl] at this
    exact this) ?_
  (refine St.pickT ?_; refine St.move ?_; refine St.move ?_; refine St.fieldAddr ?_; refine St.load ?_; refine St.bin ?_; refine St.pickT ?_; refine St.move ?_)
  refine St.split (fun _ => ?_) (fun hb => ?_)
  rotate_left
  · simp at hb
  (refine St.move ?_; refine St.fieldAddr ?_; refine St.load ?_; refine St.bin ?_; refine St.pickT ?_; refine St.move ?_)
  refine St.split (fun _ => ?_) (fun hb => ?_)
  rotate_left
  · simp at hb
  (refine St.move ?_; refine St.fieldAddr ?_; refine St.load ?_; refine St.bin ?_; refine St.pickT ?_; refine St.move ?_)
  refine St.split (fun _ => ?_) (fun hb => ?_)
  rotate_left
  · simp at hb
  (refine St.move ?_; refine St.fieldAddr ?_; refine St.load ?_; refine St.bin ?_; refine St.pickT ?_; refine St.move ?_)
  refine St.split (fun _ => ?_) (fun hb => ?_)
  rotate_left
  · simp at hb
  (refine St.move ?_; refine St.move ?_; refine St.bin ?_; refine St.pickT ?_; refine St.move ?_)
  refine St.split (fun _ => ?_) (fun hb => ?_)
  rotate_left
  · simp at hb
  (refine St.move ?_; refine St.move ?_; refine St.bin ?_; refine St.pickT ?_; refine St.assign ?_; refine WO.nil ?_)
  refine St.ret (by first | exact .tmp .nil | exact .cell .nil | exact .cell (.tmp .nil) | exact .tmp (.tmp .nil) | exact .cell (.cell .nil) | exact .tmp (.cell .nil) | exact .nil | exact .tmp (.cell (.tmp .nil)) | exact .cell (.tmp (.tmp .nil)) | exact .cell (.cell (.tmp .nil)) | exact .tmp (.tmp (.tmp .nil)) | exact .cell (.cell (.cell .nil))) ?_
  simp [oneOf]
/-- the law, said of the model -/
theorem pairs_of (w : World) (A1 A2 : Option Addr) (c1 c2 : Nat) (ka kb : List (Int × Int)) (ea eb lo hi : Int) (hA1 : SlOk w A1 ka.length c1) (hk1 : KnAt w A1 ka) (hA2 : SlOk w A2 kb.length c2) (hk2 : KnAt w A2 kb) :
    Calls Tryz.prog 4 #[.agg #[.slice A1 ka.length c1, .int .i64 ea], .agg #[.slice A2 kb.length c2, .int .i64 eb], .agg #[.int .i64 lo, .int .i64 hi]] w fun e w' => e = .returned (.bool true) ∧ RowKit.Below w.heap.size w w' := by
  obtain ⟨kva, h1, h2⟩ := kn_abs hA1 hk1
  obtain ⟨kvb, h3, h4⟩ := kn_abs hA2 hk2
  refine (Con.calls (by kernel_rfl) Bs_sound (pairs_con _ (absH_good w) kva kvb ka kb ea eb lo hi h1 h3) (vrs3 (vr_agg2 h2 vr_int) (vr_agg2 h4 vr_int) (vr_agg2 vr_int vr_int))).mono ?_
  rintro e w' ⟨U, E, rfl, hU, hb⟩
  simp only [VR] at hU
  exact ⟨by rw [hU], hb⟩
end Go.Proofs.YtcaemeedmnpdjaaGreat
