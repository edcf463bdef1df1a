/- The reference's sums, SameCurve, over the calculator's memory. -/
import Derived.Test.YtcaemeedmnpdjaaSu
namespace Go.Proofs.Ytcaemeedmnpdjaa
open Go.Proofs.Ytcaemeedmnpdjaa.Ev

theorem store3 {P : Program} {t t' : TypeId} {a b c x y z : AV} (hs : sizeT P t = some 3) (ha : okCell a = true) (hb : okCell b = true) (hc : okCell c = true) : (AObj.cells [x, y, z] t').store P t 0 (.agg [a, b, c]) = some (.cells [a, b, c] t') := by
  simp [AObj.store, hs, AV.cells, ha, hb, hc, AObj.put, overN]
def MixOut (r : List (Int × Int) × Int × Int) (v : AV) (L : Ob) : Prop := ∃ kv, IsCv r.1 kv L ∧ v = .agg [kv, .int .i64 r.2.1, .int .i64 r.2.2]
set_option maxRecDepth 100000 in
set_option maxHeartbeats 16000000 in
theorem mixed_con (h : Heap) (g : Gd h) (kva kvb : AV) (ka kb : List (Int × Int)) (ea eb t : Int) (ht : t = 1 ∨ t = -1) (hka : KnV h kva ka) (hkb : KnV h kvb kb) (hla : ka.length ≤ 1000000) (hlb : kb.length ≤ 1000000) :
    ∃ v L, Con Try.prog Bs 89 [.agg [kva, .int .i64 ea], .agg [kvb, .int .i64 eb], .int .i64 t] h [] v L ∧ MixOut (sumR ka ea kb eb t) v L := by
  have hA : ∀ (h2 : Heap) {V : Ob}, Vw h [] V h2 → Con Try.prog Bs 27 [.agg [kva, .int .i64 ea]] h2 [] (.int .i64 (chk ka ea)) [] := fun h2 V hh => rcheck_con h2 hh.gd kva ka ea (hka.vw hh) (by omega)
  have hB : ∀ (h2 : Heap) {V : Ob}, Vw h [] V h2 → Con Try.prog Bs 27 [.agg [kvb, .int .i64 eb]] h2 [] (.int .i64 (chk kb eb)) [] := fun h2 V hh => rcheck_con h2 hh.gd kvb kb eb (hkb.vw hh) (by omega)
  by_cases h1 : chk ka ea = 0
  rotate_left
  · have e0 : chk2 ka ea kb eb = chk ka ea := by unfold chk2; rw [if_neg h1]
    have er : sumR ka ea kb eb t = ([], 0, chk ka ea) := by unfold sumR; rw [e0, if_pos h1]
    rw [er]
    refine Con.subR (Con.startR rfl Try.func89 rfl rfl Try.ntmps89 rfl rfl (SS.init g) ?_)
    (refine WK.seq ?_; refine WK.region ?_; refine St.box fun _ _ => ?_; refine St.box fun _ _ => ?_; refine St.alloc fun _ _ => ?_; refine WO.nil ?_; refine WK.seq ?_; refine WK.region ?_; refine St.load ?_)
    refine St.call (fun _ => rfl) (fun h2 hh => hA h2 hh) ?_
    (refine St.assign ?_; refine WO.nil ?_; refine WK.seq ?_; refine WK.seq ?_; refine WK.region ?_; refine St.move ?_; refine St.bin ?_; refine WO.nil ?_)
    refine St.splitC (fun hc => ?_) (fun hc => ?_)
    · simp at hc; exact absurd hc h1
    (refine WK.skip ?_; refine WK.seq ?_; refine WK.seq ?_; refine WK.region ?_; refine St.move ?_; refine St.bin ?_; refine WO.nil ?_)
    refine St.splitC (fun hc => ?_) (fun hc => ?_)
    · (refine WK.seq ?_; refine WK.region ?_; refine St.move ?_; refine St.build ?_; refine St.store0 ?_; refine WO.nil ?_)
      refine St.ret (by first | exact .tmp .nil | exact .cell .nil | exact .cell (.tmp .nil) | exact .tmp (.tmp .nil) | exact .cell (.cell .nil) | exact .tmp (.cell .nil) | exact .nil | exact .tmp (.cell (.tmp .nil)) | exact .cell (.tmp (.tmp .nil)) | exact .cell (.cell (.tmp .nil)) | exact .tmp (.tmp (.tmp .nil)) | exact .cell (.cell (.cell .nil))) ?_
      exact ⟨[], List.nil_sublist _, .slice0, .inl ⟨rfl, rfl, rfl⟩, rfl⟩
    · simp at hc; exact absurd hc h1
  rw [h1] at hA
  by_cases h2 : chk kb eb = 0
  rotate_left
  · have e0 : chk2 ka ea kb eb = chk kb eb := by unfold chk2; rw [if_pos h1]
    have er : sumR ka ea kb eb t = ([], 0, chk kb eb) := by unfold sumR; rw [e0, if_pos h2]
    rw [er]
    refine Con.subR (Con.startR rfl Try.func89 rfl rfl Try.ntmps89 rfl rfl (SS.init g) ?_)
    (refine WK.seq ?_; refine WK.region ?_; refine St.box fun _ _ => ?_; refine St.box fun _ _ => ?_; refine St.alloc fun _ _ => ?_; refine WO.nil ?_; refine WK.seq ?_; refine WK.region ?_; refine St.load ?_)
    refine St.call (fun _ => rfl) (fun h2 hh => hA h2 hh) ?_
    (refine St.assign ?_; refine WO.nil ?_; refine WK.seq ?_; refine WK.seq ?_; refine WK.region ?_; refine St.move ?_; refine St.bin ?_; refine WO.nil ?_; refine WK.condT ?_; refine WK.region ?_; refine St.load ?_)
    refine St.call (fun _ => rfl) (fun h2 hh => hB h2 hh) ?_
    (refine St.assign ?_; refine WO.nil ?_; refine WK.seq ?_; refine WK.seq ?_; refine WK.region ?_; refine St.move ?_; refine St.bin ?_; refine WO.nil ?_)
    refine St.splitC (fun hc => ?_) (fun hc => ?_)
    · (refine WK.seq ?_; refine WK.region ?_; refine St.move ?_; refine St.build ?_; refine St.store0 ?_; refine WO.nil ?_)
      refine St.ret (by first | exact .tmp .nil | exact .cell .nil | exact .cell (.tmp .nil) | exact .tmp (.tmp .nil) | exact .cell (.cell .nil) | exact .tmp (.cell .nil) | exact .nil | exact .tmp (.cell (.tmp .nil)) | exact .cell (.tmp (.tmp .nil)) | exact .cell (.cell (.tmp .nil)) | exact .tmp (.tmp (.tmp .nil)) | exact .cell (.cell (.cell .nil))) ?_
      exact ⟨[], List.nil_sublist _, .slice0, .inl ⟨rfl, rfl, rfl⟩, rfl⟩
    · simp at hc; exact absurd hc h2
  rw [h2] at hB
  have e0 : chk2 ka ea kb eb = 0 := by unfold chk2; rw [if_pos h1]; exact h2
  have va := vd_of_chk h1
  have vb := vd_of_chk h2
  obtain ⟨b, off, c, rfl, hk1⟩ := hka.ne va.ne
  obtain ⟨b2, off2, c2, rfl, hk2⟩ := hkb.ne vb.ne
  have hl40 : ka.length ≤ 40 := va.le
  have hpos := va.pos
  have ea0 := va.e0
  have ea1 := va.e1
  have eb0 := vb.e0
  have eb1 := vb.e1
  have er : sumR ka ea kb eb t = if sameX ka kb = false then ([], 0, 4) else if chk (sumK ka kb t ka.length) (ea + eb) ≠ 0 then ([], 0, 3) else (sumK ka kb t ka.length, ea + eb, 0) := by unfold sumR; rw [if_neg (by simp [e0])]
  rw [er]
  refine Con.subR (Con.startR rfl Try.func89 rfl rfl Try.ntmps89 rfl rfl (SS.init g) ?_)
  (refine WK.seq ?_; refine WK.region ?_; refine St.box fun _ _ => ?_; refine St.box fun _ _ => ?_; refine St.alloc fun _ _ => ?_; refine WO.nil ?_; refine WK.seq ?_; refine WK.region ?_; refine St.load ?_)
  refine St.call (fun _ => rfl) (fun h2 hh => hA h2 hh) ?_
  (refine St.assign ?_; refine WO.nil ?_; refine WK.seq ?_; refine WK.seq ?_; refine WK.region ?_; refine St.move ?_; refine St.bin ?_; refine WO.nil ?_; refine WK.condT ?_; refine WK.region ?_; refine St.load ?_)
  refine St.call (fun _ => rfl) (fun h2 hh => hB h2 hh) ?_
  (refine St.assign ?_; refine WO.nil ?_; refine WK.seq ?_; refine WK.seq ?_; refine WK.region ?_; refine St.move ?_; refine St.bin ?_; refine WO.nil ?_; refine WK.condF ?_; refine WK.skip ?_; refine WK.seq ?_; refine WK.seq ?_; refine WK.region ?_; refine St.fieldAddr ?_; refine St.load ?_; refine St.len ?_; refine St.fieldAddr ?_; refine St.load ?_; refine St.len ?_; refine St.bin ?_; refine WO.nil ?_)
  refine St.splitC (fun hc => ?_) (fun hc => ?_)
  · have hs : sameX ka kb = false := by
      have hne : ka.length ≠ kb.length := by simp at hc; omega
      cases e : sameX ka kb with
      | false => rfl
      | true => exact absurd (sameX_iff.1 e).1 hne
    (refine WK.seq ?_; refine WK.region ?_; refine St.build ?_; refine St.store0 ?_; refine WO.nil ?_)
    refine St.ret (by first | exact .tmp .nil | exact .cell .nil | exact .cell (.tmp .nil) | exact .tmp (.tmp .nil) | exact .cell (.cell .nil) | exact .tmp (.cell .nil) | exact .nil | exact .tmp (.cell (.tmp .nil)) | exact .cell (.tmp (.tmp .nil)) | exact .cell (.cell (.tmp .nil)) | exact .tmp (.tmp (.tmp .nil)) | exact .cell (.cell (.cell .nil))) ?_
    rw [if_pos hs]
    exact ⟨[], List.nil_sublist _, .slice0, .inl ⟨rfl, rfl, rfl⟩, rfl⟩
  have hlen : ka.length = kb.length := by simp at hc; omega
  (refine WK.skip ?_; refine WK.seq ?_; refine WK.region ?_; refine St.fieldAddr ?_; refine St.load ?_; refine St.fieldAddr ?_; refine St.load ?_; refine St.binI ?_; refine St.build ?_; refine St.alloc fun _ _ => ?_; refine St.store0 ?_; refine WO.nil ?_; refine WK.seq ?_; refine WK.seq ?_; refine WK.region ?_; refine St.assign ?_; refine WO.nil ?_; refine WK.block ?_)
  rename_i p hp q hq r hr u hu
  refine WK.inv (ι := Nat × AV × Ob) (fun z => [(2, .int .i64 t), (3, .ptr p 0), (4, .ptr q 0), (6, .ptr r 0), (8, .ptr u 0), (9, .int .i64 z.1)]) (fun z => (u, .cells [z.2.1, .int .i64 (ea + eb)] 33) :: (r, .cells [.slice0, .int .i64 0, .int .i64 0] 63) :: (q, .cells [.slice b2 off2 kb.length c2, .int .i64 eb] 33) :: (p, .cells [.slice b off ka.length c, .int .i64 ea] 33) :: z.2.2)
    (fun z => z.1 ≤ ka.length ∧ (∀ i, i < z.1 → kx ka i = kx kb i) ∧ IsR 98 2 z.1 (flatA (sumK ka kb t z.1)) z.2.1 z.2.2) (fun z => ka.length - z.1) (0, .slice0, [])
    ⟨by simp, fun i hi => absurd hi (by simp), .nil rfl rfl⟩ ⟨rfl, rfl, rfl, rfl, rfl, rfl, trivial⟩ (by (repeat (first | exact List.Sublist.refl _ | exact List.nil_sublist _ | apply List.Sublist.cons_cons | apply List.Sublist.cons))) ?_
  rintro ⟨k, w, Lw⟩ ⟨hkl, he, hw⟩ ih
  simp only at hkl he hw ih ⊢
  (refine WK.seq ?_; refine WK.seq ?_; refine WK.region ?_; refine St.move ?_; refine St.fieldAddr ?_; refine St.load ?_; refine St.len ?_; refine St.bin ?_; refine WO.nil ?_)
  refine St.splitC (fun hc => ?_) (fun hc => ?_)
  · have hlta : k < ka.length := by simp at hc; omega
    have hlt : k < kb.length := by omega
    have y0 := vb.ky0 hlt
    have y1 := vb.ky1 hlt
    have z0 := va.ky0 hlta
    have z1 := va.ky1 hlta
    have m0 : -65536 ≤ t * ky kb k ∧ t * ky kb k ≤ 65536 := by rcases ht with rfl | rfl <;> omega
    obtain ⟨m1, m2⟩ := m0
    (refine WK.skip ?_; refine WK.seq ?_; refine WK.block ?_; refine WK.seq ?_; refine WK.seq ?_; refine WK.regionD ?_; refine St.fieldAddr ?_; refine St.load ?_; refine St.move ?_)
    refine St.at ?_
    (refine St.fieldAddr ?_)
    refine St.loadX (fun h hh => ((hk1.vw hh).xAt (z := (k : Int)) (n := k) rfl hlta).one rfl) ?_
    (refine St.fieldAddr ?_; refine St.load ?_; refine St.move ?_)
    refine St.at ?_
    (refine St.fieldAddr ?_)
    refine St.loadX (fun h hh => ((hk2.vw hh).xAt (z := (k : Int)) (n := k) rfl hlt).one rfl) ?_
    (refine St.bin ?_; refine WO.nil ?_)
    refine St.splitC (fun hc2 => ?_) (fun hc2 => ?_)
    · have hs : sameX ka kb = false := by
        have hne : kx ka k ≠ kx kb k := by simpa using hc2
        cases e : sameX ka kb with
        | false => rfl
        | true => exact absurd ((sameX_iff.1 e).2 k hlta) hne
      (refine WK.seq ?_; refine WK.region ?_; refine St.build ?_; refine St.store1 ?_; refine WO.nil ?_)
      refine St.ret (by first | exact .tmp .nil | exact .cell .nil | exact .cell (.tmp .nil) | exact .tmp (.tmp .nil) | exact .cell (.cell .nil) | exact .tmp (.cell .nil) | exact .nil | exact .tmp (.cell (.tmp .nil)) | exact .cell (.tmp (.tmp .nil)) | exact .cell (.cell (.tmp .nil)) | exact .tmp (.tmp (.tmp .nil)) | exact .cell (.cell (.cell .nil))) ?_
      rw [if_pos hs]
      exact ⟨[], List.nil_sublist _, .slice0, .inl ⟨rfl, rfl, rfl⟩, rfl⟩
    have h0 : kx ka k = kx kb k := by simpa using hc2
    (refine WK.skip ?_; refine WK.regionD ?_; refine St.fieldAddr ?_; refine St.load ?_; refine St.fieldAddr ?_; refine St.load ?_; refine St.move ?_)
    refine St.at ?_
    (refine St.fieldAddr ?_)
    refine St.loadX (fun h hh => ((hk1.vw hh).xAt (z := (k : Int)) (n := k) rfl hlta).one rfl) ?_
    (refine St.fieldAddr ?_; refine St.load ?_; refine St.move ?_)
    refine St.at ?_
    (refine St.fieldAddr ?_)
    refine St.loadX (fun h hh => ((hk1.vw hh).yAt (z := (k : Int)) (n := k) rfl hlta).one rfl) ?_
    (refine St.move ?_; refine St.fieldAddr ?_; refine St.load ?_; refine St.move ?_)
    refine St.at ?_
    (refine St.fieldAddr ?_)
    refine St.loadX (fun h hh => ((hk2.vw hh).yAt (z := (k : Int)) (n := k) rfl hlt).one rfl) ?_
    (refine St.binI ?_; refine St.binI ?_; refine St.build ?_; refine StD.mkS fun _ _ => ?_)
    refine StD.appL (new := [.int .i64 (kx ka k), .int .i64 (ky ka k + t * ky kb k)]) (Lk := [(u, .cells [w, .int .i64 (ea + eb)] 33), (r, .cells [.slice0, .int .i64 0, .int .i64 0] 63), (q, .cells [.slice b2 off2 kb.length c2, .int .i64 eb] 33), (p, .cells [.slice b off ka.length c, .int .i64 ea] 33)]) hw List.perm_append_comm (fun j' hj' => ?_) ⟨rfl, rfl, rfl, rfl, rfl, rfl, rfl, rfl, rfl, rfl, rfl, rfl⟩ (List.Mem.head _) rfl (by omega) (by omega)
    (refine St.fieldAddr ?_; refine StD.store0 ?_; refine WO.nil2 ?_; refine WK.blk ?_; refine WK.region ?_; refine St.move ?_; refine St.binI ?_; refine St.assign ?_; refine WO.nil ?_)
    rename_i x hx
    have e3 : flatA (sumK ka kb t (k + 1)) = flatA (sumK ka kb t k) ++ [.int .i64 (kx ka k), .int .i64 (ky ka k + t * ky kb k)] := by rw [sumK_succ, flatA_snoc]
    refine WK.perm (L' := [(x, .cells [.int .i64 (kx ka k), .int .i64 (ky ka k + t * ky kb k)] 98), (u, .cells [.slice j' 0 (k + 1) (.m 0), .int .i64 (ea + eb)] 33), (r, .cells [.slice0, .int .i64 0, .int .i64 0] 63), (q, .cells [.slice b2 off2 kb.length c2, .int .i64 eb] 33), (p, .cells [.slice b off ka.length c, .int .i64 ea] 33), (j', .row (flatA (sumK ka kb t k) ++ [.int .i64 (kx ka k), .int .i64 (ky ka k + t * ky kb k)]) 98 2)]) (by (repeat (first | exact List.Perm.refl _ | refine perm_at 0 rfl ?_ | refine perm_at 1 rfl ?_ | refine perm_at 2 rfl ?_ | refine perm_at 3 rfl ?_ | refine perm_at 4 rfl ?_ | refine perm_at 5 rfl ?_ | refine perm_at 6 rfl ?_ | refine perm_at 7 rfl ?_ | refine perm_at 8 rfl ?_ | refine perm_at 9 rfl ?_))) ?_
    refine WK.le ?_ (by (repeat (first | exact List.Sublist.refl _ | exact List.nil_sublist _ | apply List.Sublist.cons_cons | apply List.Sublist.cons))) (ih (k + 1, .slice j' 0 (k + 1) (.m 0), [(j', .row (flatA (sumK ka kb t k) ++ [.int .i64 (kx ka k), .int .i64 (ky ka k + t * ky kb k)]) 98 2)]) ⟨hlta, fun i hi => ?_, ?_⟩ (by simp only; omega))
    · exact ⟨rfl, rfl, rfl, rfl, rfl, rfl, trivial⟩
    · rcases Nat.lt_succ_iff_lt_or_eq.1 hi with h1 | rfl
      · exact he i h1
      · exact h0
    · simp only
      rw [e3]
      exact .row j' (by rw [← e3, flatA_len, sumK_len])
  · have : k = ka.length := by simp at hc; omega
    subst this
    have hs : sameX ka kb = true := sameX_iff.2 ⟨hlen, he⟩
    obtain ⟨j, m, o, rfl, rfl, ho, -⟩ := hw.isL.ne (by omega)
    have hsl := sumK_len ka kb t ka.length
    have hP : ∀ (h2 : Heap) {V : Ob}, Vw h [] V h2 → (j, o) ∈ V → KnV h2 (.slice j 0 ka.length m) (sumK ka kb t ka.length) := fun h2 V hh hm =>
      IsCv.knV (L := [(j, o)]) (.inr ⟨j, m, _, by rw [hsl], rfl, ho, by omega⟩) hh (List.singleton_sublist.2 hm)
    clear ih
    rw [if_neg (by simp [hs])]
    (refine WK.exit ?_; refine WK.seq ?_; refine WK.seq ?_; refine WK.region ?_; refine St.load ?_)
    refine St.call (fun _ => rfl) (fun h hh => rcheck_con h hh.gd _ _ (ea + eb) (hP h hh (by simp)) (by omega)) ?_
    (refine St.bin ?_; refine WO.nil ?_)
    refine St.splitC (fun hc2 => ?_) (fun hc2 => ?_)
    · have hch : chk (sumK ka kb t ka.length) (ea + eb) ≠ 0 := by simpa using hc2
      (refine WK.seq ?_; refine WK.region ?_; refine St.build ?_; refine St.store1 ?_; refine WO.nil ?_)
      refine St.ret (by first | exact .tmp .nil | exact .cell .nil | exact .cell (.tmp .nil) | exact .tmp (.tmp .nil) | exact .cell (.cell .nil) | exact .tmp (.cell .nil) | exact .nil | exact .tmp (.cell (.tmp .nil)) | exact .cell (.tmp (.tmp .nil)) | exact .cell (.cell (.tmp .nil)) | exact .tmp (.tmp (.tmp .nil)) | exact .cell (.cell (.cell .nil))) ?_
      rw [if_pos hch]
      exact ⟨[], List.nil_sublist _, .slice0, .inl ⟨rfl, rfl, rfl⟩, rfl⟩
    · have hch : chk (sumK ka kb t ka.length) (ea + eb) = 0 := by simpa using hc2
      (refine WK.skip ?_; refine WK.seq ?_; refine WK.region ?_; refine St.load ?_; refine St.build ?_; refine St.store1 ?_; refine WO.nil ?_)
      refine St.ret (by first | exact .tmp .nil | exact .cell .nil | exact .cell (.tmp .nil) | exact .tmp (.tmp .nil) | exact .cell (.cell .nil) | exact .tmp (.cell .nil) | exact .nil | exact .tmp (.cell (.tmp .nil)) | exact .cell (.tmp (.tmp .nil)) | exact .cell (.cell (.tmp .nil)) | exact .tmp (.tmp (.tmp .nil)) | exact .cell (.cell (.cell .nil))) ?_
      rw [if_neg (by simp [hch])]
      exact ⟨[(j, o)], by (repeat (first | exact List.Sublist.refl _ | exact List.nil_sublist _ | apply List.Sublist.cons_cons | apply List.Sublist.cons)), .slice j 0 ka.length m, .inr ⟨j, m, o, by simp only [hsl], rfl, ho, by simp only [hsl]; omega⟩, rfl⟩
set_option maxRecDepth 100000 in
theorem addRef_con (h : Heap) (g : Gd h) (kva kvb : AV) (ka kb : List (Int × Int)) (ea eb : Int) (hka : KnV h kva ka) (hkb : KnV h kvb kb) (hla : ka.length ≤ 1000000) (hlb : kb.length ≤ 1000000) :
    ∃ v L, Con Try.prog Bs 41 [.agg [kva, .int .i64 ea], .agg [kvb, .int .i64 eb]] h [] v L ∧ MixOut (sumR ka ea kb eb (1)) v L := by
  refine Con.subR (Con.startR rfl Try.func41 rfl rfl Try.ntmps41 rfl rfl (SS.init g) ?_)
  (refine WK.seq ?_; refine WK.region ?_; refine St.box fun _ _ => ?_; refine St.box fun _ _ => ?_; refine St.alloc fun _ _ => ?_; refine WO.nil ?_; refine WK.seq ?_; refine WK.region ?_; refine St.load ?_; refine St.load ?_)
  refine St.callR (R := MixOut (sumR ka ea kb eb (1))) (fun _ => rfl) (fun h2 hh => mixed_con h2 hh.gd kva kvb ka kb ea eb (1) (.inl rfl) (hka.vw hh) (hkb.vw hh) hla hlb) ?_
  rintro v L' ⟨kv, hcv, rfl⟩
  rename_i p hp q hq r hr
  refine WO.permF (L' := [(r, .cells [.slice0, .int .i64 0, .int .i64 0] 63), (q, .cells [kvb, .int .i64 eb] 33), (p, .cells [kva, .int .i64 ea] 33)] ++ L') List.perm_append_comm ?_
  skip
  refine St.store0 (hv := store3 rfl hcv.ok rfl rfl) ?_
  (refine WO.nil ?_)
  refine St.ret (by first | exact .tmp .nil | exact .cell .nil | exact .cell (.tmp .nil) | exact .tmp (.tmp .nil) | exact .cell (.cell .nil) | exact .tmp (.cell .nil) | exact .nil | exact .tmp (.cell (.tmp .nil)) | exact .cell (.tmp (.tmp .nil)) | exact .cell (.cell (.tmp .nil)) | exact .tmp (.tmp (.tmp .nil)) | exact .cell (.cell (.cell .nil))) ?_
  exact ⟨L', by (repeat (first | exact List.Sublist.refl _ | exact List.nil_sublist _ | apply List.Sublist.cons_cons | apply List.Sublist.cons)), kv, hcv, rfl⟩
set_option maxRecDepth 100000 in
theorem minusRef_con (h : Heap) (g : Gd h) (kva kvb : AV) (ka kb : List (Int × Int)) (ea eb : Int) (hka : KnV h kva ka) (hkb : KnV h kvb kb) (hla : ka.length ≤ 1000000) (hlb : kb.length ≤ 1000000) :
    ∃ v L, Con Try.prog Bs 43 [.agg [kva, .int .i64 ea], .agg [kvb, .int .i64 eb]] h [] v L ∧ MixOut (sumR ka ea kb eb (-1)) v L := by
  refine Con.subR (Con.startR rfl Try.func43 rfl rfl Try.ntmps43 rfl rfl (SS.init g) ?_)
  (refine WK.seq ?_; refine WK.region ?_; refine St.box fun _ _ => ?_; refine St.box fun _ _ => ?_; refine St.alloc fun _ _ => ?_; refine WO.nil ?_; refine WK.seq ?_; refine WK.region ?_; refine St.load ?_; refine St.load ?_)
  refine St.callR (R := MixOut (sumR ka ea kb eb (-1))) (fun _ => rfl) (fun h2 hh => mixed_con h2 hh.gd kva kvb ka kb ea eb (-1) (.inr rfl) (hka.vw hh) (hkb.vw hh) hla hlb) ?_
  rintro v L' ⟨kv, hcv, rfl⟩
  rename_i p hp q hq r hr
  refine WO.permF (L' := [(r, .cells [.slice0, .int .i64 0, .int .i64 0] 63), (q, .cells [kvb, .int .i64 eb] 33), (p, .cells [kva, .int .i64 ea] 33)] ++ L') List.perm_append_comm ?_
  skip
  refine St.store0 (hv := store3 rfl hcv.ok rfl rfl) ?_
  (refine WO.nil ?_)
  refine St.ret (by first | exact .tmp .nil | exact .cell .nil | exact .cell (.tmp .nil) | exact .tmp (.tmp .nil) | exact .cell (.cell .nil) | exact .tmp (.cell .nil) | exact .nil | exact .tmp (.cell (.tmp .nil)) | exact .cell (.tmp (.tmp .nil)) | exact .cell (.cell (.tmp .nil)) | exact .tmp (.tmp (.tmp .nil)) | exact .cell (.cell (.cell .nil))) ?_
  exact ⟨L', by (repeat (first | exact List.Sublist.refl _ | exact List.nil_sublist _ | apply List.Sublist.cons_cons | apply List.Sublist.cons)), kv, hcv, rfl⟩
set_option maxRecDepth 100000 in
theorem sameKn_con (h : Heap) (g : Gd h) (b off : Nat) (c : ACap) (b2 off2 : Nat) (c2 : ACap) (ks : List (Int × Int)) (hk : KnH h b off ks) (hk2 : KnH h b2 off2 ks) (hl : ks.length ≤ 1000000) : Con Try.prog Bs 90 [.slice b off ks.length c, .slice b2 off2 ks.length c2] h [] (.bool true) [] := by
  refine Con.start rfl Try.func90 rfl rfl Try.ntmps90 rfl rfl g ?_
  (refine WK.seq ?_; refine WK.region ?_; refine St.assign ?_; refine WO.nil ?_; refine WK.seq ?_; refine WK.seq ?_; refine WK.region ?_; refine St.move ?_; refine St.len ?_; refine St.move ?_; refine St.len ?_; refine St.bin ?_; refine WO.nil ?_)
  refine St.splitC (fun hc => ?_) (fun hc => ?_)
  · simp at hc
  (refine WK.skip ?_; refine WK.seq ?_; refine WK.seq ?_; refine WK.region ?_; refine St.assign ?_; refine WO.nil ?_; refine WK.block ?_)
  refine WK.inv (ι := Nat) (fun k => [(0, .slice b off ks.length c), (1, .slice b2 off2 ks.length c2), (5, .int .i64 k)]) (fun _ => []) (fun k => k ≤ ks.length) (fun k => ks.length - k) 0 (by omega) ⟨rfl, rfl, rfl, trivial⟩ (by (repeat (first | exact List.Sublist.refl _ | exact List.nil_sublist _ | apply List.Sublist.cons_cons | apply List.Sublist.cons))) ?_
  intro k hkl ih
  (refine WK.seq ?_; refine WK.seq ?_; refine WK.region ?_; refine St.move ?_; refine St.move ?_; refine St.len ?_; refine St.bin ?_; refine WO.nil ?_)
  refine St.splitC (fun hc => ?_) (fun hc => ?_)
  · have hlt : k < ks.length := by simp at hc; omega
    (refine WK.skip ?_; refine WK.seq ?_; refine WK.block ?_; refine WK.seq ?_; refine WK.regionD ?_; refine St.move ?_; refine St.move ?_)
    refine St.at ?_
    skip
    refine St.loadX (fun h hh => ((hk.vw hh).knot hlt).agg (by simp) rfl rfl rfl) ?_
    (refine St.move ?_; refine St.move ?_)
    refine St.at ?_
    skip
    refine St.loadX (fun h hh => ((hk2.vw hh).knot hlt).agg (by simp) rfl rfl rfl) ?_
    skip
    refine St.binX (r := .bool false) (by simp [evBin, evEq, guardOk, eqT, eqFs, partE, isAggT, takeN, dropN, nthN]) rfl rfl ?_
    (refine WO.nil ?_; refine WK.condF ?_; refine WK.skip ?_; refine WK.blk ?_; refine WK.region ?_; refine St.move ?_; refine St.binI ?_; refine St.assign ?_; refine WO.nil ?_)
    refine WK.le ?_ (by (repeat (first | exact List.Sublist.refl _ | exact List.nil_sublist _ | apply List.Sublist.cons_cons | apply List.Sublist.cons))) (ih (k + 1) hlt (by omega))
    exact ⟨rfl, rfl, rfl, trivial⟩
  · (refine WK.exit ?_; refine WK.seq ?_; refine WK.region ?_; refine St.assign ?_; refine WO.nil ?_)
    refine St.ret (by first | exact .tmp .nil | exact .cell .nil | exact .cell (.tmp .nil) | exact .tmp (.tmp .nil) | exact .cell (.cell .nil) | exact .tmp (.cell .nil) | exact .nil | exact .tmp (.cell (.tmp .nil)) | exact .cell (.tmp (.tmp .nil)) | exact .cell (.cell (.tmp .nil)) | exact .tmp (.tmp (.tmp .nil)) | exact .cell (.cell (.cell .nil))) ?_
    rfl
set_option maxRecDepth 100000 in
theorem sameKn0_con (h : Heap) (g : Gd h) : Con Try.prog Bs 90 [.slice0, .slice0] h [] (.bool true) [] := by
  refine Con.start rfl Try.func90 rfl rfl Try.ntmps90 rfl rfl g ?_
  (refine WK.seq ?_; refine WK.region ?_; refine St.assign ?_; refine WO.nil ?_; refine WK.seq ?_; refine WK.seq ?_; refine WK.region ?_; refine St.move ?_; refine St.len0 ?_; refine St.move ?_; refine St.len0 ?_; refine St.bin ?_; refine WO.nil ?_; refine WK.condF ?_; refine WK.skip ?_; refine WK.seq ?_; refine WK.seq ?_; refine WK.region ?_; refine St.assign ?_; refine WO.nil ?_; refine WK.block ?_)
  refine WK.unroll ?_
  (refine WK.seq ?_; refine WK.seq ?_; refine WK.region ?_; refine St.move ?_; refine St.move ?_; refine St.len0 ?_; refine St.bin ?_; refine WO.nil ?_; refine WK.condF ?_; refine WK.exit ?_; refine WK.seq ?_; refine WK.region ?_; refine St.assign ?_; refine WO.nil ?_)
  refine St.ret (by first | exact .tmp .nil | exact .cell .nil | exact .cell (.tmp .nil) | exact .tmp (.tmp .nil) | exact .cell (.cell .nil) | exact .tmp (.cell .nil) | exact .nil | exact .tmp (.cell (.tmp .nil)) | exact .cell (.tmp (.tmp .nil)) | exact .cell (.cell (.tmp .nil)) | exact .tmp (.tmp (.tmp .nil)) | exact .cell (.cell (.cell .nil))) ?_
  rfl
/-- two lists of the same knots -/
def TwoKn (h : Heap) (ks : List (Int × Int)) (v1 v2 : AV) : Prop := (v1 = .slice0 ∧ v2 = .slice0) ∨ ∃ b off c b2 off2 c2, v1 = .slice b off ks.length c ∧ v2 = .slice b2 off2 ks.length c2 ∧ KnH h b off ks ∧ KnH h b2 off2 ks
theorem TwoKn.vw {h0 h : Heap} {V : Ob} {ks v1 v2} (k : TwoKn h0 ks v1 v2) (hh : Vw h0 [] V h) : TwoKn h ks v1 v2 := by
  rcases k with h1 | ⟨b, off, c, b2, off2, c2, h1, h2, h3, h4⟩
  · exact .inl h1
  · exact .inr ⟨b, off, c, b2, off2, c2, h1, h2, h3.vw hh, h4.vw hh⟩
theorem Ev.Vw.twoKn {h0 h : Heap} {W : List Nat} {V L1 L2 : Ob} {ks : List (Int × Int)} {v1 v2 : AV} (hh : Vw h0 W V h) (k1 : IsCv ks v1 L1) (k2 : IsCv ks v2 L2) (s1 : L1.Sublist V) (s2 : L2.Sublist V) : TwoKn h ks v1 v2 := by
  rcases k1 with ⟨rfl, rfl, rfl⟩ | ⟨i, c, o, rfl, rfl, ho, hp⟩
  · rcases k2 with ⟨rfl, rfl, _⟩ | ⟨i, c, o, rfl, rfl, ho, hp⟩
    · exact .inl ⟨rfl, rfl⟩
    · simp at hp
  · rcases k2 with ⟨rfl, rfl, rfl⟩ | ⟨i2, c2, o2, rfl, rfl, ho2, hp2⟩
    · simp at hp
    · exact .inr ⟨i, 0, c, i2, 0, c2, rfl, rfl, hh.frs (s1.subset (List.mem_singleton.2 rfl)) ho, hh.frs (s2.subset (List.mem_singleton.2 rfl)) ho2⟩
theorem sameKnots_con (h : Heap) (g : Gd h) (v1 v2 : AV) (ks : List (Int × Int)) (k : TwoKn h ks v1 v2) (hl : ks.length ≤ 1000000) : Con Try.prog Bs 90 [v1, v2] h [] (.bool true) [] := by
  rcases k with ⟨rfl, rfl⟩ | ⟨b, off, c, b2, off2, c2, rfl, rfl, h3, h4⟩
  · exact sameKn0_con h g
  · exact sameKn_con h g b off c b2 off2 c2 ks h3 h4 hl
set_option maxRecDepth 100000 in
theorem sameCurve_con (h : Heap) (g : Gd h) (v1 v2 : AV) (ks : List (Int × Int)) (err : Int) (k : TwoKn h ks v1 v2) (hl : ks.length ≤ 1000000) : Con Try.prog Bs 44 [.agg [v1, .int .i64 err], .agg [v2, .int .i64 err]] h [] (.bool true) [] := by
  refine Con.start rfl Try.func44 rfl rfl Try.ntmps44 rfl rfl g ?_
  (refine WK.seq ?_; refine WK.region ?_; refine St.box fun _ _ => ?_; refine St.box fun _ _ => ?_; refine St.assign ?_; refine WO.nil ?_; refine WK.seq ?_; refine WK.region ?_; refine St.fieldAddr ?_; refine St.load ?_; refine St.fieldAddr ?_; refine St.load ?_; refine St.bin ?_; refine St.move ?_)
  refine St.split (fun _ => ?_) (fun hb => ?_)
  rotate_left
  · simp at hb
  (refine St.fieldAddr ?_; refine St.load ?_; refine St.fieldAddr ?_; refine St.load ?_)
  refine St.call (fun _ => rfl) (fun h2 hh => sameKnots_con h2 hh.gd v1 v2 ks (k.vw hh) hl) ?_
  (refine St.pickT ?_; refine St.assign ?_; refine WO.nil ?_)
  refine St.ret (by first | exact .tmp .nil | exact .cell .nil | exact .cell (.tmp .nil) | exact .tmp (.tmp .nil) | exact .cell (.cell .nil) | exact .tmp (.cell .nil) | exact .nil | exact .tmp (.cell (.tmp .nil)) | exact .cell (.tmp (.tmp .nil)) | exact .cell (.cell (.tmp .nil)) | exact .tmp (.tmp (.tmp .nil)) | exact .cell (.cell (.cell .nil))) ?_
  rfl
end Go.Proofs.Ytcaemeedmnpdjaa
