/- The reference's Apart over the calculator's memory. -/
import Derived.Test.YtcaemeedmnpdjaaGreatRc
import Derived.Test.YtcaemeedmnpdjaaGreatRv
import Derived.Test.YtcaemeedmnpdjaaGreatAp
namespace Go.Proofs.YtcaemeedmnpdjaaGreat
open Go.Proofs.YtcaemeedmnpdjaaGreat.Ev

theorem apart_same {ka ea kb eb lo hi} (va : Vd ka ea) (vb : Vd kb eb) (hlh : lo ≤ hi) (hda : inDom ka lo hi = true) (hdb : inDom kb lo hi = true) : pkR lo ((intsX lo hi).map (difF ka kb)) = apartK ka kb lo hi := by
  obtain ⟨d1, d2⟩ := va.dom hda
  have hpos : ∀ y, lo ≤ y → y ≤ hi → 0 < valD ka y ∧ 0 < valD kb y := fun y h1 h2 => ⟨(va.fr (x := y) (by omega) (by omega)).d1, (vb.fr (x := y) (by omega) (by omega)).d1⟩
  refine peak_same hlh (cornX_sorted _ _ _) (fun x hx => cornX_mem hlh hx) (cornX_iff.2 (.inl rfl)) (cornX_iff.2 (.inr (.inl rfl))) (fun y h1 h2 => loD_pos' (by have := Int.mul_pos (hpos y h1 h2).1 (hpos y h1 h2).2; unfold difD; omega)) (fun x h1 h2 hx => ?_)
  obtain ⟨i, a, b, c⟩ := between va hda h1 h2 (fun k hk g1 g2 e => hx (cornX_iff.2 (.inr (.inr ⟨_, List.mem_cons_self, k, hk, g1, g2, e⟩))))
  obtain ⟨j, a', b', c'⟩ := between vb hdb h1 h2 (fun k hk g1 g2 e => hx (cornX_iff.2 (.inr (.inr ⟨_, List.mem_cons_of_mem _ List.mem_cons_self, k, hk, g1, g2, e⟩))))
  exact dif_col (val_col va a b c) (val_col vb a' b' c') (fun y g1 g2 => hpos y (by omega) (by omega))
theorem errL_two {ka kb : List (Int × Int)} {ea eb lo hi : Int} : errL [(⟨none, 0, ka, ea⟩ : Cur), ⟨none, 0, kb, eb⟩] lo hi = apartE ka ea kb eb lo hi := by
  unfold errL apartE
  rw [chk2_eq]
  by_cases h : chk2 ka ea kb eb = 0
  · rw [if_pos h, if_neg (by simp [h])]
    simp only [chkOn, covL, List.all_cons, List.all_nil, Bool.and_true, inDom]
    rfl
  · rw [if_neg h, if_pos h]
set_option maxRecDepth 100000 in
set_option maxHeartbeats 8000000 in
theorem apartRef_con (h : Heap) (g : Gd h) (kva kvb : AV) (ka kb : List (Int × Int)) (ea eb lo hi : Int) (hka : KnV h kva ka) (hkb : KnV h kvb kb) (hla : ka.length ≤ 1000000) (hlb : kb.length ≤ 1000000) :
    Con Tryz.prog Bs 16 [.agg [kva, .int .i64 ea], .agg [kvb, .int .i64 eb], .agg [.int .i64 lo, .int .i64 hi]] h [] (avP (apartR ka ea kb eb lo hi)) [] := by
  have hR : ∀ (h2 : Heap) {V : Ob} (i1 : Nat) (l : List AV) (t : TypeId), Vw h [] V h2 → (i1, AObj.cells l t) ∈ V → l = [kva, .int .i64 ea, kvb, .int .i64 eb] → Con Tryz.prog Bs 50 [.slice i1 0 2 (.k 2), .agg [.int .i64 lo, .int .i64 hi]] h2 [] (.int .i64 (apartE ka ea kb eb lo hi)) [] := fun h2 V i1 l t hh hm hl2 => by
    have := rover_con h2 hh.gd i1 0 (.k 2) [⟨kva, ka, ea⟩, ⟨kvb, kb, eb⟩] lo hi (by simp) (hh.cv2 hm hl2 (hka.vw hh) (hkb.vw hh) (by omega) (by omega))
    rw [show errL ([(⟨kva, ka, ea⟩ : Cv), ⟨kvb, kb, eb⟩].map Cv.c) lo hi = apartE ka ea kb eb lo hi from errL_two] at this
    exact this
  by_cases he : apartE ka ea kb eb lo hi = 0
  rotate_left
  · have hbad : apartR ka ea kb eb lo hi = ⟨⟨0, 0, 0, 0, 0, 0⟩, apartE ka ea kb eb lo hi⟩ := by unfold apartR; rw [if_neg he]
    rw [hbad]
    refine Con.start rfl Tryz.func16 rfl rfl Tryz.ntmps16 rfl rfl g ?_
    (refine WK.seq ?_; refine WK.region ?_; refine St.box fun _ _ => ?_; refine St.box fun _ _ => ?_; refine St.box fun _ _ => ?_; refine St.alloc fun _ _ => ?_; refine St.assign ?_; refine WO.nil ?_; refine WK.seq ?_; refine WK.region ?_; refine St.load ?_; refine St.load ?_; refine St.mkS fun _ _ => ?_; refine St.load ?_)
    rename_i i1 hi1
    refine St.call (fun _ => rfl) (fun h hh => hR h i1 _ _ hh (List.Mem.head _) rfl) ?_
    (refine St.assign ?_; refine WO.nil ?_; refine WK.seq ?_; refine WK.seq ?_; refine WK.region ?_; refine St.move ?_; refine St.bin ?_; refine WO.nil ?_)
    refine St.splitC (fun hc => ?_) (fun hc => ?_)
    · (refine WK.seq ?_; refine WK.region ?_; refine St.build ?_; refine St.move ?_; refine St.store1 ?_; refine St.assign ?_; refine WO.nil ?_)
      refine St.ret (by first | exact .tmp .nil | exact .cell .nil | exact .cell (.tmp .nil) | exact .tmp (.tmp .nil) | exact .cell (.cell .nil) | exact .tmp (.cell .nil) | exact .nil | exact .tmp (.cell (.tmp .nil)) | exact .cell (.tmp (.tmp .nil)) | exact .cell (.cell (.tmp .nil)) | exact .tmp (.tmp (.tmp .nil)) | exact .cell (.cell (.cell .nil))) ?_
      rfl
    · simp at hc; exact absurd hc he
  obtain ⟨hz1, hz2, hlh, hda, hdb⟩ := apartE_zero he
  have va := vd_of_chk hz1
  have vb := vd_of_chk hz2
  obtain ⟨d1, d2⟩ := va.dom hda
  obtain ⟨b, off, c, rfl, hk1⟩ := hka.ne va.ne
  obtain ⟨b2, off2, c2, rfl, hk2⟩ := hkb.ne vb.ne
  have hX := intsX_len lo hi
  have hsm : ∀ i, i < ((intsX lo hi).map (difF ka kb)).length → Small (kx ((intsX lo hi).map (difF ka kb)) i) (ky ((intsX lo hi).map (difF ka kb)) i) := fun i hi' => by
    have hi2 : i < (hi - lo + 1).toNat := by simpa [hX] using hi'
    have e : ((intsX lo hi).map (difF ka kb))[i]? = some (difF ka kb (lo + i)) := by simp [intsX_get hi2]
    have := isF_small (dif_ok va vb (inDom_at hda (show lo ≤ lo + i by omega) (by omega)) (inDom_at hdb (by omega) (by omega)))
    simpa [kx, ky, e] using this
  refine Con.start rfl Tryz.func16 rfl rfl Tryz.ntmps16 rfl rfl g ?_
  (refine WK.seq ?_; refine WK.region ?_; refine St.box fun _ _ => ?_; refine St.box fun _ _ => ?_; refine St.box fun _ _ => ?_; refine St.alloc fun _ _ => ?_; refine St.assign ?_; refine WO.nil ?_; refine WK.seq ?_; refine WK.region ?_; refine St.load ?_; refine St.load ?_; refine St.mkS fun _ _ => ?_; refine St.load ?_)
  rename_i p hp p4 hp4 q hq r hr i1 hi1
  refine St.call (fun _ => rfl) (fun h hh => hR h i1 _ _ hh (List.Mem.head _) rfl) ?_
  rw [he]
  (refine St.assign ?_; refine WO.nil ?_; refine WK.seq ?_; refine WK.seq ?_; refine WK.region ?_; refine St.move ?_; refine St.bin ?_; refine WO.nil ?_; refine WK.condF ?_; refine WK.skip ?_; refine WK.seq ?_; refine WK.region ?_; refine St.assign ?_; refine WO.nil ?_; refine WK.seq ?_; refine WK.seq ?_; refine WK.region ?_; refine St.fieldAddr ?_; refine St.load ?_; refine St.assign ?_; refine WO.nil ?_; refine WK.block ?_)
  refine WK.inv (ι := Nat × AV × Ob) (fun z => [(3, .ptr p 0), (4, .ptr p4 0), (5, .ptr q 0), (6, .ptr r 0), (9, z.2.1), (10, .int .i64 (lo + (z.1 : Int)))]) (fun z => (r, .cells [.int .i64 0, .int .i64 0, .int .i64 0, .int .i64 0, .int .i64 0, .int .i64 0] 45) :: (q, .cells [.int .i64 lo, .int .i64 hi] 27) :: (p4, .cells [.slice b2 off2 kb.length c2, .int .i64 eb] 24) :: (p, .cells [.slice b off ka.length c, .int .i64 ea] 24) :: z.2.2)
    (fun z => (z.1 : Int) ≤ hi - lo + 1 ∧ IsR 43 2 z.1 (flatA (((intsX lo hi).take z.1).map (difF ka kb))) z.2.1 z.2.2) (fun z => (hi - lo + 1).toNat - z.1) (0, .slice0, [])
    ⟨by simp only; omega, .nil rfl rfl⟩ ⟨rfl, rfl, rfl, rfl, rfl, congrArg (fun z => some (AV.int .i64 z)) (show lo = lo + ((0 : Nat) : Int) by simp), trivial⟩ (by (repeat (first | exact List.Sublist.refl _ | exact List.nil_sublist _ | apply List.Sublist.cons_cons | apply List.Sublist.cons))) ?_
  rintro ⟨k, w, Lw⟩ ⟨hkl, hw⟩ ih
  simp only at hkl hw ih ⊢
  (refine WK.seq ?_; refine WK.seq ?_; refine WK.region ?_; refine St.move ?_; refine St.fieldAddr ?_; refine St.load ?_; refine St.bin ?_; refine WO.nil ?_)
  refine St.splitC (fun hc => ?_) (fun hc => ?_)
  · have hx : lo + (k : Int) ≤ hi := by simpa using hc
    have hlt : k < (intsX lo hi).length := by rw [hX]; omega
    have e3 : flatA (((intsX lo hi).take (k + 1)).map (difF ka kb)) = flatA (((intsX lo hi).take k).map (difF ka kb)) ++ [.int .i64 (difF ka kb (lo + k)).1, .int .i64 (difF ka kb (lo + k)).2] := by
      have e4 : (intsX lo hi)[k] = lo + (k : Int) := by
        have := intsX_get (lo := lo) (hi := hi) (i := k) (by omega)
        rw [List.getElem?_eq_getElem hlt] at this
        exact Option.some.inj this
      rw [List.take_succ_eq_append_getElem hlt, List.map_append, e4]
      exact flatA_snoc _ _
    have hda' := inDom_at hda (show lo ≤ lo + k by omega) hx
    have hdb' := inDom_at hdb (show lo ≤ lo + k by omega) hx
    (refine WK.skip ?_; refine WK.seq ?_; refine WK.block ?_; refine WK.regionD ?_; refine St.move ?_; refine St.load ?_; refine St.move ?_)
    refine St.call (fun _ => rfl) (fun h hh => rat_con h hh.gd b off c ka ea (lo + k) (hk1.vw hh) va hda') ?_
    (refine St.load ?_; refine St.move ?_)
    refine St.call (fun _ => rfl) (fun h hh => rat_con h hh.gd b2 off2 c2 kb eb (lo + k) (hk2.vw hh) vb hdb') ?_
    skip
    refine St.call (fun _ => rfl) (fun h hh => rminus_con h hh.gd ka kb ea eb (lo + k) va vb hda' hdb') ?_
    (refine StD.mkS fun _ _ => ?_)
    rename_i i2 hi2
    refine StD.appL (new := [.int .i64 (difF ka kb (lo + k)).1, .int .i64 (difF ka kb (lo + k)).2]) (Lk := [(r, .cells [.int .i64 0, .int .i64 0, .int .i64 0, .int .i64 0, .int .i64 0, .int .i64 0] 45), (q, .cells [.int .i64 lo, .int .i64 hi] 27), (p4, .cells [.slice b2 off2 kb.length c2, .int .i64 eb] 24), (p, .cells [.slice b off ka.length c, .int .i64 ea] 24)]) hw List.perm_append_comm (fun j' hj' => ?_) ⟨rfl, rfl, rfl, rfl, rfl, rfl, rfl, rfl, rfl, rfl, rfl, rfl⟩ (List.Mem.head _) rfl (by omega) (by omega)
    (refine St.assign ?_; refine WO.nil2 ?_; refine WK.blk ?_; refine WK.region ?_; refine St.move ?_; refine St.binI ?_; refine St.assign ?_; refine WO.nil ?_)
    refine WK.perm (L' := [(r, .cells [.int .i64 0, .int .i64 0, .int .i64 0, .int .i64 0, .int .i64 0, .int .i64 0] 45), (q, .cells [.int .i64 lo, .int .i64 hi] 27), (p4, .cells [.slice b2 off2 kb.length c2, .int .i64 eb] 24), (p, .cells [.slice b off ka.length c, .int .i64 ea] 24), (j', .row (flatA (((intsX lo hi).take k).map (difF ka kb)) ++ [.int .i64 (difF ka kb (lo + k)).1, .int .i64 (difF ka kb (lo + k)).2]) 43 2), (i2, .cells [.int .i64 (difF ka kb (lo + k)).1, .int .i64 (difF ka kb (lo + k)).2] 43)]) (by (repeat (first | exact List.Perm.refl _ | refine perm_at 0 rfl ?_ | refine perm_at 1 rfl ?_ | refine perm_at 2 rfl ?_ | refine perm_at 3 rfl ?_ | refine perm_at 4 rfl ?_ | refine perm_at 5 rfl ?_ | refine perm_at 6 rfl ?_ | refine perm_at 7 rfl ?_ | refine perm_at 8 rfl ?_ | refine perm_at 9 rfl ?_))) ?_
    refine WK.le ?_ (by (repeat (first | exact List.Sublist.refl _ | exact List.nil_sublist _ | apply List.Sublist.cons_cons | apply List.Sublist.cons))) (ih (k + 1, .slice j' 0 (k + 1) (.m 0), [(j', .row (flatA (((intsX lo hi).take k).map (difF ka kb)) ++ [.int .i64 (difF ka kb (lo + k)).1, .int .i64 (difF ka kb (lo + k)).2]) 43 2)]) ⟨by simp only; omega, ?_⟩ (by simp only; omega))
    · exact ⟨rfl, rfl, rfl, rfl, rfl, congrArg (fun z => some (AV.int .i64 z)) (show lo + (k : Int) + 1 = lo + ((k + 1 : Nat) : Int) by omega), trivial⟩
    · simp only
      rw [e3]
      exact .row j' (by rw [← e3, flatA_len, List.length_map, List.length_take]; omega)
  · have hx : (k : Int) = hi - lo + 1 := by simp at hc; omega
    have hke : k = (intsX lo hi).length := by rw [hX]; omega
    rw [List.take_of_length_le (by omega)] at hw
    obtain ⟨i, c1, o, rfl, rfl, ho, -⟩ := hw.isL.ne (by omega)
    have hlen : ((intsX lo hi).map (difF ka kb)).length = k := by simp [hke]
    (refine WK.exit ?_; refine WK.seq ?_; refine WK.region ?_; refine St.fieldAddr ?_; refine St.load ?_; refine St.move ?_)
    refine St.call (v := pkA (pkR lo ((intsX lo hi).map (difF ka kb)))) (fun _ => rfl) (fun h2 hh => by
      have := rpeak_con h2 hh.gd i 0 c1 lo ((intsX lo hi).map (difF ka kb)) (by omega) (by omega) (hh.frs (j := i) (o := o) (by simp) ho) (by omega) (by omega) hsm
      rw [hlen] at this
      exact this) ?_
    (refine St.store0 ?_; refine St.assign ?_; refine WO.nil ?_)
    refine St.ret (by first | exact .tmp .nil | exact .cell .nil | exact .cell (.tmp .nil) | exact .tmp (.tmp .nil) | exact .cell (.cell .nil) | exact .tmp (.cell .nil) | exact .nil | exact .tmp (.cell (.tmp .nil)) | exact .cell (.tmp (.tmp .nil)) | exact .cell (.cell (.tmp .nil)) | exact .tmp (.tmp (.tmp .nil)) | exact .cell (.cell (.cell .nil))) ?_
    unfold apartR
    rw [if_pos he, ← apart_same va vb hlh hda hdb]
    rfl
end Go.Proofs.YtcaemeedmnpdjaaGreat
