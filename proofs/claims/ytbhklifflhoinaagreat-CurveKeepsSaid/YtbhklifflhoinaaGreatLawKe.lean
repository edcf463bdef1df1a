/- The law CurveKeeps over the calculator's memory. -/
import Derived.Test.YtbhklifflhoinaaGreatKp
import Derived.Test.YtbhklifflhoinaaGreatAp
import Derived.Test.YtbhklifflhoinaaGreatSu
namespace Go.Proofs.YtbhklifflhoinaaGreat
open Go.RowKit Go.Proofs.YtbhklifflhoinaaGreat.Ev

set_option maxRecDepth 100000 in
set_option maxHeartbeats 4000000 in
theorem domainK_con (h : Heap) (g : Gd h) (kv : AV) (ks : List (Int × Int)) (err : Int) (hk : KnV h kv ks) (hl : ks.length ≤ 1000000000000) : Con Tryz.prog Bs 26 [.agg [kv, .int .i64 err]] h [] (.tup [.agg [.int .i64 (if chk ks err = 0 then dLo ks else 0), .int .i64 (if chk ks err = 0 then dHi ks else 0)], .int .i64 (chk ks err)]) [] := by
  by_cases hch : chk ks err = 0
  · have v := vd_of_chk hch
    obtain ⟨b, off, c, rfl, hk'⟩ := hk.ne v.ne
    rw [if_pos hch, if_pos hch]
    refine Con.start rfl Tryz.func26 rfl rfl Tryz.ntmps26 rfl rfl g ?_
    (refine WK.seq ?_; refine WK.region ?_; refine St.box fun _ _ => ?_; refine St.alloc fun _ _ => ?_; refine St.assign ?_; refine WO.nil ?_; refine WK.seq ?_; refine WK.seq ?_; refine WK.region ?_; refine St.load ?_)
    refine St.call (fun _ => rfl) (fun h hh => check_con h hh.gd _ ks err (hk.vw hh) hl) ?_
    rw [hch]
    (refine St.assign ?_; refine WO.nil ?_; refine WK.seq ?_; refine WK.region ?_; refine St.move ?_; refine St.bin ?_; refine WO.nil ?_; refine WK.condF ?_; refine WK.skip ?_; refine WK.seq ?_; refine WK.region ?_; refine St.load ?_)
    refine St.call (fun _ => rfl) (fun h hh => domain_con h hh.gd b off c ks err (hk'.vw hh) v.ne hl) ?_
    (refine St.store0 ?_; refine St.assign ?_; refine WO.nil ?_)
    refine St.ret (by first | exact .tmp .nil | exact .cell .nil | exact .cell (.tmp .nil) | exact .tmp (.tmp .nil) | exact .cell (.cell .nil) | exact .tmp (.cell .nil) | exact .nil | exact .tmp (.cell (.tmp .nil)) | exact .cell (.tmp (.tmp .nil)) | exact .cell (.cell (.tmp .nil)) | exact .tmp (.tmp (.tmp .nil)) | exact .cell (.cell (.cell .nil))) ?_
    rfl
  · rw [if_neg hch, if_neg hch]
    refine Con.start rfl Tryz.func26 rfl rfl Tryz.ntmps26 rfl rfl g ?_
    (refine WK.seq ?_; refine WK.region ?_; refine St.box fun _ _ => ?_; refine St.alloc fun _ _ => ?_; refine St.assign ?_; refine WO.nil ?_; refine WK.seq ?_; refine WK.seq ?_; refine WK.region ?_; refine St.load ?_)
    refine St.call (fun _ => rfl) (fun h hh => check_con h hh.gd _ ks err (hk.vw hh) hl) ?_
    (refine St.assign ?_; refine WO.nil ?_; refine WK.seq ?_; refine WK.region ?_; refine St.move ?_; refine St.bin ?_; refine WO.nil ?_)
    refine St.splitC (fun hc => ?_) (fun hc => ?_)
    · (refine WK.seq ?_; refine WK.region ?_; refine St.build ?_; refine St.move ?_; refine St.store0 ?_; refine St.assign ?_; refine WO.nil ?_)
      refine St.ret (by first | exact .tmp .nil | exact .cell .nil | exact .cell (.tmp .nil) | exact .tmp (.tmp .nil) | exact .cell (.cell .nil) | exact .tmp (.cell .nil) | exact .nil | exact .tmp (.cell (.tmp .nil)) | exact .cell (.tmp (.tmp .nil)) | exact .cell (.cell (.tmp .nil)) | exact .tmp (.tmp (.tmp .nil)) | exact .cell (.cell (.cell .nil))) ?_
      rfl
    · simp at hc; exact absurd hc hch
set_option maxRecDepth 100000 in
set_option maxHeartbeats 8000000 in
/-- two curves with the same value where both are known -/
theorem valued_con (h : Heap) (g : Gd h) (kva kvb : AV) (ka kb : List (Int × Int)) (ea eb x : Int) (hka : KnV h kva ka) (hkb : KnV h kvb kb) (hla : ka.length ≤ 1000000) (hlb : kb.length ≤ 1000000) (hv : (valueR ka ea x).e = 0 → (valueR kb eb x).e = 0 → valueR ka ea x = valueR kb eb x) :
    Con Tryz.prog Bs 24 [.agg [kva, .int .i64 ea], .agg [kvb, .int .i64 eb], .int .i64 x] h [] (.bool true) [] := by
  have hA : ∀ (h2 : Heap) {V : Ob}, Vw h [] V h2 → Con Tryz.prog Bs 29 [.agg [kva, .int .i64 ea], .int .i64 x] h2 [] (avF (valueR ka ea x)) [] := fun h2 V hh => valueP_con h2 hh.gd kva ka ea x (hka.vw hh) (by omega)
  have hB : ∀ (h2 : Heap) {V : Ob}, Vw h [] V h2 → Con Tryz.prog Bs 29 [.agg [kvb, .int .i64 eb], .int .i64 x] h2 [] (avF (valueR kb eb x)) [] := fun h2 V hh => valueP_con h2 hh.gd kvb kb eb x (hkb.vw hh) (by omega)
  generalize valueR ka ea x = A at hA hv
  generalize valueR kb eb x = B at hB hv
  obtain ⟨n, d, e⟩ := A
  obtain ⟨m, f, e'⟩ := B
  unfold avF at hA hB
  simp only at hA hB hv
  refine Con.start rfl Tryz.func24 rfl rfl Tryz.ntmps24 rfl rfl g ?_
  (refine WK.seq ?_; refine WK.region ?_; refine St.box fun _ _ => ?_; refine St.box fun _ _ => ?_; refine St.assign ?_; refine WO.nil ?_; refine WK.seq ?_; refine WK.region ?_; refine St.load ?_; refine St.move ?_)
  refine St.call (fun _ => rfl) (fun h2 hh => hA h2 hh) ?_
  (refine St.move ?_; refine St.extract ?_; refine St.extract ?_; refine St.alloc fun _ _ => ?_; refine St.store0 ?_; refine St.assign ?_; refine WO.nil ?_; refine WK.seq ?_; refine WK.region ?_; refine St.load ?_; refine St.move ?_)
  refine St.call (fun _ => rfl) (fun h2 hh => hB h2 hh) ?_
  (refine St.move ?_; refine St.extract ?_; refine St.extract ?_; refine St.alloc fun _ _ => ?_; refine St.store0 ?_; refine St.assign ?_; refine WO.nil ?_; refine WK.seq ?_; refine WK.region ?_; refine St.move ?_; refine St.bin ?_; refine St.move ?_)
  refine St.split (fun hc => ?_) (fun hc => ?_)
  · (refine St.skip ?_; refine St.skip ?_; refine St.pickT ?_; refine St.move ?_; refine St.skip ?_; refine St.skip ?_; refine St.skip ?_; refine St.pickT ?_; refine St.assign ?_; refine WO.nil ?_)
    refine St.ret (by first | exact .tmp .nil | exact .cell .nil | exact .cell (.tmp .nil) | exact .tmp (.tmp .nil) | exact .cell (.cell .nil) | exact .tmp (.cell .nil) | exact .nil | exact .tmp (.cell (.tmp .nil)) | exact .cell (.tmp (.tmp .nil)) | exact .cell (.cell (.tmp .nil)) | exact .tmp (.tmp (.tmp .nil)) | exact .cell (.cell (.cell .nil))) ?_
    rfl
  have e0 : e = 0 := by simpa using hc
  (refine St.move ?_; refine St.bin ?_; refine St.pickF ?_; refine St.move ?_)
  refine St.split (fun hc2 => ?_) (fun hc2 => ?_)
  · (refine St.skip ?_; refine St.skip ?_; refine St.skip ?_; refine St.pickT ?_; refine St.assign ?_; refine WO.nil ?_)
    refine St.ret (by first | exact .tmp .nil | exact .cell .nil | exact .cell (.tmp .nil) | exact .tmp (.tmp .nil) | exact .cell (.cell .nil) | exact .tmp (.cell .nil) | exact .nil | exact .tmp (.cell (.tmp .nil)) | exact .cell (.tmp (.tmp .nil)) | exact .cell (.cell (.tmp .nil)) | exact .tmp (.tmp (.tmp .nil)) | exact .cell (.cell (.cell .nil))) ?_
    rfl
  have e1 : e' = 0 := by simpa using hc2
  have := hv e0 e1
  cases this
  (refine St.load ?_; refine St.load ?_)
  refine St.binX (r := .bool true) (by simp [evBin, evEq, guardOk, eqT, eqFs, partE, isAggT, szF, takeN, dropN, nthN]) rfl rfl ?_
  (refine St.pickF ?_; refine St.assign ?_; refine WO.nil ?_)
  refine St.ret (by first | exact .tmp .nil | exact .cell .nil | exact .cell (.tmp .nil) | exact .tmp (.tmp .nil) | exact .cell (.cell .nil) | exact .tmp (.cell .nil) | exact .nil | exact .tmp (.cell (.tmp .nil)) | exact .cell (.tmp (.tmp .nil)) | exact .cell (.cell (.tmp .nil)) | exact .tmp (.tmp (.tmp .nil)) | exact .cell (.cell (.cell .nil))) ?_
  simp [oneOf]
set_option maxRecDepth 100000 in
set_option maxHeartbeats 8000000 in
theorem matters_con (h : Heap) (g : Gd h) (kv : AV) (ks : List (Int × Int)) (err : Int) (v : Vd ks err) (hk : KnV h kv ks) (hb : ∀ i, i + 2 < ks.length → bendAt ks (i + 1) = true) :
    Con Tryz.prog Bs 25 [.agg [kv, .int .i64 err]] h [] (.bool true) [] := by
  obtain ⟨b, off, c, rfl, hk1⟩ := hk.ne v.ne
  have hpos := v.pos
  have hl40 : ks.length ≤ 40 := v.le
  refine Con.start rfl Tryz.func25 rfl rfl Tryz.ntmps25 rfl rfl g ?_
  (refine WK.seq ?_; refine WK.region ?_; refine St.box fun _ _ => ?_; refine St.assign ?_; refine WO.nil ?_; refine WK.seq ?_; refine WK.seq ?_; refine WK.region ?_; refine St.assign ?_; refine WO.nil ?_; refine WK.block ?_)
  rename_i p hp
  refine WK.inv (ι := Nat) (fun z => [(1, .ptr p 0), (2, .bool false), (3, .int .i64 z)]) (fun _ => [(p, .cells [.slice b off ks.length c, .int .i64 err] 24)]) (fun z => 1 ≤ z ∧ z ≤ ks.length) (fun z => ks.length - z) 1 ⟨by omega, by omega⟩ ⟨rfl, rfl, rfl, trivial⟩ (by (repeat (first | exact List.Sublist.refl _ | exact List.nil_sublist _ | apply List.Sublist.cons_cons | apply List.Sublist.cons))) ?_
  rintro k ⟨hk0, hkl⟩ ih
  (refine WK.seq ?_; refine WK.seq ?_; refine WK.region ?_; refine St.move ?_; refine St.binI ?_; refine St.fieldAddr ?_; refine St.load ?_; refine St.len ?_; refine St.bin ?_; refine WO.nil ?_)
  refine St.splitC (fun hc => ?_) (fun hc => ?_)
  · have h1 : k + 1 < ks.length := by simp at hc; omega
    have hlt : k < ks.length := by omega
    have hbd := hb (k - 1) (by omega)
    rw [show k - 1 + 1 = k by omega] at hbd
    have hbb := fun i (h : i < ks.length) => And.intro (And.intro (v.kx0 h) (v.kx1 h)) (And.intro (v.ky0 h) (v.ky1 h))
    obtain ⟨a1, a2⟩ := hbb (k - 1) (by omega)
    obtain ⟨a3, a4⟩ := hbb k hlt
    obtain ⟨a5, a6⟩ := hbb (k + 1) h1
    obtain ⟨m1, m2⟩ := mul_bd (a := ky ks k - ky ks (k - 1)) (b := kx ks (k + 1) - kx ks k) (A := 131072) (B := 2000) (by omega) (by omega) (by omega) (by omega)
    obtain ⟨m3, m4⟩ := mul_bd (a := ky ks (k + 1) - ky ks k) (b := kx ks k - kx ks (k - 1)) (A := 131072) (B := 2000) (by omega) (by omega) (by omega) (by omega)
    (refine WK.skip ?_; refine WK.seq ?_; refine WK.block ?_; refine WK.seq ?_; refine WK.region ?_; refine St.fieldAddr ?_; refine St.load ?_; refine St.move ?_; refine St.binI ?_)
    refine St.at ?_
    refine St.loadX (fun h hh => ((hk1.vw hh).at_ (z := (k : Int) - 1) (n := k - 1) (by omega) (by omega)).agg (by simp) rfl rfl rfl) ?_
    (refine St.alloc fun _ _ => ?_; refine St.store0 ?_; refine WO.nil ?_; refine WK.seq ?_; refine WK.region ?_; refine St.fieldAddr ?_; refine St.load ?_; refine St.move ?_)
    refine St.at ?_
    refine St.loadX (fun h hh => ((hk1.vw hh).knot hlt).agg (by simp) rfl rfl rfl) ?_
    (refine St.alloc fun _ _ => ?_; refine St.store0 ?_; refine WO.nil ?_; refine WK.seq ?_; refine WK.region ?_; refine St.fieldAddr ?_; refine St.load ?_; refine St.move ?_; refine St.binI ?_)
    refine St.at ?_
    refine St.loadX (fun h hh => ((hk1.vw hh).at_ (z := (k : Int) + 1) (n := k + 1) (by omega) (by omega)).agg (by simp) rfl rfl rfl) ?_
    (refine St.alloc fun _ _ => ?_; refine St.store0 ?_; refine WO.nil ?_; refine WK.seq ?_; refine WK.region ?_; refine St.fieldAddr ?_; refine St.load ?_; refine St.fieldAddr ?_; refine St.load ?_; refine St.binI ?_; refine St.fieldAddr ?_; refine St.load ?_; refine St.fieldAddr ?_; refine St.load ?_; refine St.binI ?_; refine St.binI ?_; refine St.fieldAddr ?_; refine St.load ?_; refine St.fieldAddr ?_; refine St.load ?_; refine St.binI ?_; refine St.fieldAddr ?_; refine St.load ?_; refine St.fieldAddr ?_; refine St.load ?_; refine St.binI ?_; refine St.binI ?_; refine St.bin ?_; refine WO.nil ?_)
    refine St.splitC (fun hc2 => ?_) (fun hc2 => ?_)
    · exfalso
      unfold bendAt at hbd
      simp at hbd hc2
      exact hbd hc2
    · (refine WK.skip ?_; refine WK.blk ?_; refine WK.region ?_; refine St.move ?_; refine St.binI ?_; refine St.assign ?_; refine WO.nil ?_)
      refine WK.le ?_ (by (repeat (first | exact List.Sublist.refl _ | exact List.nil_sublist _ | apply List.Sublist.cons_cons | apply List.Sublist.cons))) (ih (k + 1) ⟨by omega, by omega⟩ (by omega))
      exact ⟨rfl, rfl, rfl, trivial⟩
  · (refine WK.exit ?_; refine WK.seq ?_; refine WK.region ?_; refine St.assign ?_; refine WO.nil ?_)
    refine St.ret (by first | exact .tmp .nil | exact .cell .nil | exact .cell (.tmp .nil) | exact .tmp (.tmp .nil) | exact .cell (.cell .nil) | exact .tmp (.cell .nil) | exact .nil | exact .tmp (.cell (.tmp .nil)) | exact .cell (.tmp (.tmp .nil)) | exact .cell (.cell (.tmp .nil)) | exact .tmp (.tmp (.tmp .nil)) | exact .cell (.cell (.cell .nil))) ?_
    rfl
/-- values that Value tells are those of the lists -/
theorem valR_ok {ks : List (Int × Int)} {err x : Int} (h : (valueR ks err x).e = 0) : chk ks err = 0 ∧ inDom ks x x = true ∧ valueR ks err x = ⟨valN ks x, valD ks x, 0⟩ := by
  unfold valueR at h ⊢
  by_cases h1 : chk ks err = 0
  · rw [if_pos h1] at h ⊢
    by_cases h2 : inDom ks x x = true
    · rw [if_pos h2]; exact ⟨h1, h2, rfl⟩
    · rw [if_neg h2] at h; simp at h
  · rw [if_neg h1] at h
    exact absurd h h1
theorem valR_of {ks ms : List (Int × Int)} {e e' x : Int} (hd : inDom ms x x = true → inDom ks x x = true → valN ms x = valN ks x ∧ valD ms x = valD ks x) : (valueR ks e x).e = 0 → (valueR ms e' x).e = 0 → valueR ks e x = valueR ms e' x := by
  intro h1 h2
  obtain ⟨_, a, b⟩ := valR_ok h1
  obtain ⟨_, c, d⟩ := valR_ok h2
  obtain ⟨e1, e2⟩ := hd c a
  rw [b, d, e1, e2]
theorem thin_same {ks : List (Int × Int)} {e : Int} (v : Vd ks e) : sameA ks e (thinK ks) e = true ∧ chk2 ks e (thinK ks) e = 0 := by
  obtain ⟨w, _⟩ := thin_like v
  have h : chk2 ks e (thinK ks) e = 0 := by unfold chk2; rw [if_pos v.chk]; exact w.chk
  refine ⟨?_, h⟩
  unfold sameA
  rw [h, thin_thin v]
  simp
theorem merge_same {ks : List (Int × Int)} {xs : List Int} {e : Int} (v : Vd ks e) (h : ∀ x ∈ xs, hasKn ks x = true) (hl : (mergeK ks xs).length ≤ 40) : sameA ks e (mergeK ks xs) e = true ∧ chk2 ks e (mergeK ks xs) e = 0 := by
  have w := merge_vd v h hl
  have h0 : chk2 ks e (mergeK ks xs) e = 0 := by unfold chk2; rw [if_pos v.chk]; exact w.chk
  refine ⟨?_, h0⟩
  unfold sameA
  rw [h0, merge_thin v h]
  simp
set_option maxRecDepth 100000 in
set_option maxHeartbeats 16000000 in
theorem keeps_con (h : Heap) (g : Gd h) (kva kvb xv : AV) (ka kb : List (Int × Int)) (ea eb lo hi x : Int) (xs : List Int) (hka : KnV h kva ka) (hkb : KnV h kvb kb) (hx : XsH h xv xs) :
    Con Tryz.prog Bs 5 [.agg [kva, .int .i64 ea], .agg [kvb, .int .i64 eb], xv, .agg [.int .i64 lo, .int .i64 hi], .int .i64 x] h [] (.bool true) [] := by
  refine Con.start rfl Tryz.func5 rfl rfl Tryz.ntmps5 rfl rfl g ?_
  (refine WK.seq ?_; refine WK.region ?_; refine St.box fun _ _ => ?_; refine St.box fun _ _ => ?_; refine St.box fun _ _ => ?_; refine St.assign ?_; refine WO.nil ?_; refine WK.seq ?_; refine WK.region ?_)
  rename_i p hp q hq sp hsp
  refine St.call (fun _ => rfl) (fun h hh => headB_con h hh.gd) ?_
  (refine St.assign ?_; refine WO.nil ?_; refine WK.seq ?_; refine WK.seq ?_; refine WK.region ?_; refine St.load ?_)
  refine St.call (fun _ => rfl) (fun h hh => fewB_con h hh.gd kva ka ea (hka.vw hh)) ?_
  (refine St.un ?_; refine St.move ?_)
  refine St.split (fun hc => ?_) (fun hc => ?_)
  · (refine St.skip ?_; refine St.skip ?_; refine St.skip ?_; refine St.pickT ?_; refine St.move ?_; refine St.skip ?_; refine St.skip ?_; refine St.skip ?_; refine St.pickT ?_; refine WO.nil ?_; refine WK.condT ?_; refine WK.seq ?_; refine WK.region ?_; refine St.move ?_; refine St.assign ?_; refine WO.nil ?_)
    refine St.ret (by first | exact .tmp .nil | exact .cell .nil | exact .cell (.tmp .nil) | exact .tmp (.tmp .nil) | exact .cell (.cell .nil) | exact .tmp (.cell .nil) | exact .nil | exact .tmp (.cell (.tmp .nil)) | exact .cell (.tmp (.tmp .nil)) | exact .cell (.cell (.tmp .nil)) | exact .tmp (.tmp (.tmp .nil)) | exact .cell (.cell (.cell .nil))) ?_
    rfl
  have hna : ka.length ≤ 60 := by simpa using hc
  clear hc
  (refine St.load ?_)
  refine St.call (fun _ => rfl) (fun h hh => fewB_con h hh.gd kvb kb eb (hkb.vw hh)) ?_
  (refine St.un ?_; refine St.pickF ?_; refine St.move ?_)
  refine St.split (fun hc => ?_) (fun hc => ?_)
  · (refine St.skip ?_; refine St.skip ?_; refine St.skip ?_; refine St.pickT ?_; refine WO.nil ?_; refine WK.condT ?_; refine WK.seq ?_; refine WK.region ?_; refine St.move ?_; refine St.assign ?_; refine WO.nil ?_)
    refine St.ret (by first | exact .tmp .nil | exact .cell .nil | exact .cell (.tmp .nil) | exact .tmp (.tmp .nil) | exact .cell (.cell .nil) | exact .tmp (.cell .nil) | exact .nil | exact .tmp (.cell (.tmp .nil)) | exact .cell (.tmp (.tmp .nil)) | exact .cell (.cell (.tmp .nil)) | exact .tmp (.tmp (.tmp .nil)) | exact .cell (.cell (.cell .nil))) ?_
    rfl
  have hnb : kb.length ≤ 60 := by simpa using hc
  clear hc
  (refine St.move ?_)
  refine St.lenV rfl hx.len ?_
  (refine St.bin ?_; refine St.pickF ?_; refine WO.nil ?_)
  refine St.splitC (fun hc => ?_) (fun hc => ?_)
  · (refine WK.seq ?_; refine WK.region ?_; refine St.move ?_; refine St.assign ?_; refine WO.nil ?_)
    refine St.ret (by first | exact .tmp .nil | exact .cell .nil | exact .cell (.tmp .nil) | exact .tmp (.tmp .nil) | exact .cell (.cell .nil) | exact .tmp (.cell .nil) | exact .nil | exact .tmp (.cell (.tmp .nil)) | exact .cell (.tmp (.tmp .nil)) | exact .cell (.cell (.tmp .nil)) | exact .tmp (.tmp (.tmp .nil)) | exact .cell (.cell (.cell .nil))) ?_
    rfl
  have hnx : xs.length ≤ 80 := by simp at hc; omega
  clear hc
  by_cases hch : chk ka ea = 0
  rotate_left
  · have er : thinR ka ea = ([], 0, chk ka ea) := by unfold thinR; rw [if_neg hch]
    (refine WK.skip ?_; refine WK.seq ?_; refine WK.region ?_; refine St.load ?_)
    refine St.callR (fun _ => rfl) (fun h2 hh => thinP_con h2 hh.gd kva ka ea (hka.vw hh) (by omega)) ?_
    rintro v L1 ⟨v1, c1, rfl⟩
    rw [er] at c1 ⊢
    simp only at c1 ⊢
    refine WO.permF (L' := [(sp, .cells [.int .i64 lo, .int .i64 hi] 27), (q, .cells [kvb, .int .i64 eb] 24), (p, .cells [kva, .int .i64 ea] 24)] ++ L1) List.perm_append_comm ?_
    (refine St.move ?_; refine St.extract ?_; refine St.extract ?_; refine St.alloc fun _ _ => ?_)
    refine St.store0 (hv := store2 rfl c1.ok rfl) ?_
    (refine St.assign ?_; refine WO.nil ?_; refine WK.seq ?_; refine WK.seq ?_; refine WK.region ?_; refine St.move ?_; refine St.bin ?_; refine WO.nil ?_)
    refine St.splitC (fun hc => ?_) (fun hc => ?_)
    · (refine WK.seq ?_; refine WK.region ?_; refine St.move ?_; refine St.assign ?_; refine WO.nil ?_)
      refine St.ret (by first | exact .tmp .nil | exact .cell .nil | exact .cell (.tmp .nil) | exact .tmp (.tmp .nil) | exact .cell (.cell .nil) | exact .tmp (.cell .nil) | exact .nil | exact .tmp (.cell (.tmp .nil)) | exact .cell (.tmp (.tmp .nil)) | exact .cell (.cell (.tmp .nil)) | exact .tmp (.tmp (.tmp .nil)) | exact .cell (.cell (.cell .nil))) ?_
      rfl
    · simp at hc; exact absurd hc hch
  have va := vd_of_chk hch
  obtain ⟨wT, lT⟩ := thin_like va
  have er : thinR ka ea = (thinK ka, ea, 0) := by unfold thinR; rw [if_pos hch]
  have hTl : (thinK ka).length ≤ 40 := wT.le
  have hal : ka.length ≤ 40 := va.le
  have hTb := fun i (hi : i + 2 < (thinK ka).length) => all_bend _ i (thin_all va) hi
  obtain ⟨sT, cT⟩ := thin_same va
  have hTv : (valueR ka ea x).e = 0 → (valueR (thinK ka) ea x).e = 0 → valueR ka ea x = valueR (thinK ka) ea x := valR_of fun _ hd => lT.2.2 x hd
  (refine WK.skip ?_; refine WK.seq ?_; refine WK.region ?_; refine St.load ?_)
  refine St.callR (fun _ => rfl) (fun h2 hh => thinP_con h2 hh.gd kva ka ea (hka.vw hh) (by omega)) ?_
  rintro v L1 ⟨v1, c1, rfl⟩
  rw [er] at c1 ⊢
  simp only at c1 ⊢
  refine WO.permF (L' := [(sp, .cells [.int .i64 lo, .int .i64 hi] 27), (q, .cells [kvb, .int .i64 eb] 24), (p, .cells [kva, .int .i64 ea] 24)] ++ L1) List.perm_append_comm ?_
  (refine St.move ?_; refine St.extract ?_; refine St.extract ?_; refine St.alloc fun _ _ => ?_)
  refine St.store0 (hv := store2 rfl c1.ok rfl) ?_
  (refine St.assign ?_; refine WO.nil ?_; refine WK.seq ?_; refine WK.seq ?_; refine WK.region ?_; refine St.move ?_; refine St.bin ?_; refine WO.nil ?_; refine WK.condF ?_; refine WK.skip ?_; refine WK.seq ?_; refine WK.region ?_; refine St.load ?_; refine St.load ?_)
  rename_i a1 ha1
  refine St.call (v := .tup [.bool true, .int .i64 0]) (fun _ => rfl) (fun h2 hh => by
    have := sameP_con h2 hh.gd kva v1 ka (thinK ka) ea ea (hka.vw hh) (c1.knV hh (by (repeat apply List.Sublist.cons); exact List.Sublist.refl _)) (by omega) (by omega)
    rw [sT, cT] at this
    exact this) ?_
  (refine St.move ?_; refine St.extract ?_; refine St.extract ?_; refine St.assign ?_; refine St.assign ?_; refine WO.nil ?_; refine WK.seq ?_; refine WK.seq ?_; refine WK.region ?_; refine St.move ?_; refine St.bin ?_; refine St.move ?_; refine St.move ?_; refine St.un ?_; refine St.pickF ?_; refine St.move ?_; refine St.load ?_; refine St.load ?_; refine St.move ?_)
  refine St.call (fun _ => rfl) (fun h2 hh => valued_con h2 hh.gd kva v1 ka (thinK ka) ea ea x (hka.vw hh) (c1.knV hh (by (repeat apply List.Sublist.cons); exact List.Sublist.refl _)) (by omega) (by omega) hTv) ?_
  (refine St.un ?_; refine St.pickF ?_; refine St.move ?_; refine St.load ?_)
  refine St.call (fun _ => rfl) (fun h2 hh => matters_con h2 hh.gd v1 (thinK ka) ea wT (c1.knV hh (by (repeat apply List.Sublist.cons); exact List.Sublist.refl _)) hTb) ?_
  (refine St.un ?_; refine St.pickF ?_; refine WO.nil ?_; refine WK.condF ?_; refine WK.skip ?_; refine WK.seq ?_; refine WK.region ?_; refine St.load ?_; refine St.move ?_)
  have hrl := refineR_len ka ea xs
  refine St.callR (fun _ => rfl) (fun h2 hh => refineP_con h2 hh.gd kva xv ka ea xs (hka.vw hh) (hx.vw hh) (by omega) (by omega)) ?_
  rintro v L2 ⟨v2, c2, rfl⟩
  refine WO.permF (L' := ((a1, .cells [v1, .int .i64 ea] 24) :: [(sp, .cells [.int .i64 lo, .int .i64 hi] 27), (q, .cells [kvb, .int .i64 eb] 24), (p, .cells [kva, .int .i64 ea] 24)] ++ L1) ++ L2) List.perm_append_comm ?_
  (refine St.move ?_; refine St.extract ?_; refine St.extract ?_; refine St.alloc fun _ _ => ?_)
  refine St.store0 (hv := store2 rfl c2.ok rfl) ?_
  refine St.assign ?_
  refine WO.nil ?_
  refine WK.seq ?_
  refine WK.cut (ι := Unit) (fun _ => [(4, .int .i64 x), (5, .ptr p 0), (6, .ptr q 0), (8, .ptr sp 0), (11, .bool true)]) (fun _ => [(sp, .cells [.int .i64 lo, .int .i64 hi] 27), (q, .cells [kvb, .int .i64 eb] 24), (p, .cells [kva, .int .i64 ea] 24)]) (fun _ => ?_) (fun K' leave => ?_)
  rotate_left
  · have hs1 : [(sp, .cells [.int .i64 lo, .int .i64 hi] 27), (q, .cells [kvb, .int .i64 eb] 24), (p, .cells [kva, .int .i64 ea] 24)].Sublist (((a1, .cells [v1, .int .i64 ea] 24) :: [(sp, .cells [.int .i64 lo, .int .i64 hi] 27), (q, .cells [kvb, .int .i64 eb] 24), (p, .cells [kva, .int .i64 ea] 24)] ++ L1) ++ L2) := (((List.Sublist.refl _).cons _).trans (List.sublist_append_left _ L1)).trans (List.sublist_append_left _ L2)
    by_cases hall : allK ka xs = false
    · have e2 : refineR ka ea xs = ([], 0, 3) := by unfold refineR; rw [if_neg (by simp [hch]), if_pos hall]
      rw [e2]
      (refine WK.seq ?_; refine WK.region ?_; refine St.move ?_; refine St.bin ?_; refine WO.nil ?_; refine WK.condF ?_; refine WK.skip ?_)
      refine WK.le ?_ ?_ (leave ())
      · exact ⟨rfl, rfl, rfl, rfl, rfl, trivial⟩
      · exact hs1.cons _
    by_cases hml : (mergeK ka xs).length > 40
    · have e2 : refineR ka ea xs = ([], 0, 2) := by unfold refineR; rw [if_neg (by simp [hch]), if_neg hall, if_pos hml]
      rw [e2]
      (refine WK.seq ?_; refine WK.region ?_; refine St.move ?_; refine St.bin ?_; refine WO.nil ?_; refine WK.condF ?_; refine WK.skip ?_)
      refine WK.le ?_ ?_ (leave ())
      · exact ⟨rfl, rfl, rfl, rfl, rfl, trivial⟩
      · exact hs1.cons _
    have e2 : refineR ka ea xs = (mergeK ka xs, ea, 0) := by unfold refineR; rw [if_neg (by simp [hch]), if_neg hall, if_neg hml]
    have hall2 := all_of hall
    have hml2 : (mergeK ka xs).length ≤ 40 := by omega
    have wM := merge_vd va hall2 hml2
    obtain ⟨sM, cM⟩ := merge_same va hall2 hml2
    have hMv : (valueR ka ea x).e = 0 → (valueR (mergeK ka xs) ea x).e = 0 → valueR ka ea x = valueR (mergeK ka xs) ea x := valR_of fun hd _ => merge_val va hall2 hml2 hd
    have erM : thinR (mergeK ka xs) ea = (thinK ka, ea, 0) := by unfold thinR; rw [if_pos wM.chk, merge_thin va hall2]
    rw [e2] at c2 ⊢
    simp only at c2 ⊢
    clear e2 hall hall2 hml hrl
    generalize mergeK ka xs = M at c2 wM sM cM hMv erM hml2 ⊢
    (refine WK.seq ?_; refine WK.region ?_; refine St.move ?_; refine St.bin ?_; refine WO.nil ?_; refine WK.condT ?_; refine WK.seq ?_; refine WK.region ?_; refine St.load ?_; refine St.load ?_)
    refine St.call (v := .tup [.bool true, .int .i64 0]) (fun _ => rfl) (fun h2 hh => by
      have := sameP_con h2 hh.gd kva v2 ka M ea ea (hka.vw hh) (c2.knV hh (by (repeat apply List.Sublist.cons); exact List.sublist_append_right _ _)) (by omega) (by omega)
      rw [sM, cM] at this
      exact this) ?_
    (refine St.move ?_; refine St.extract ?_; refine St.extract ?_; refine St.assign ?_; refine St.assign ?_; refine WO.nil ?_; refine WK.seq ?_; refine WK.region ?_; refine St.load ?_)
    refine St.callR (fun _ => rfl) (fun h2 hh => thinP_con h2 hh.gd v2 M ea (c2.knV hh (by (repeat apply List.Sublist.cons); exact List.sublist_append_right _ _)) (by omega)) ?_
    rintro v L3 ⟨v3, c3, rfl⟩
    rw [erM] at c3 ⊢
    simp only at c3 ⊢
    refine WO.permF List.perm_append_comm ?_
    (refine St.move ?_; refine St.extract ?_; refine St.extract ?_; refine St.alloc fun _ _ => ?_)
    refine St.store0 (hv := store2 rfl c3.ok rfl) ?_
    (refine St.assign ?_; refine WO.nil ?_; refine WK.seq ?_; refine WK.region ?_; refine St.move ?_; refine St.bin ?_; refine St.move ?_; refine St.move ?_; refine St.un ?_; refine St.pickF ?_; refine St.move ?_; refine St.move ?_; refine St.bin ?_; refine St.pickF ?_; refine St.move ?_; refine St.load ?_; refine St.load ?_; refine St.move ?_)
    refine St.call (fun _ => rfl) (fun h2 hh => valued_con h2 hh.gd kva v2 ka M ea ea x (hka.vw hh) (c2.knV hh (by (repeat apply List.Sublist.cons); exact (List.sublist_append_right _ L2).trans (List.sublist_append_left _ L3))) (by omega) (by omega) hMv) ?_
    have hne := wT.pos
    rcases c1 with ⟨_, _, hn⟩ | ⟨i1, d1, o1, rfl, rfl, _⟩
    · rw [hn] at hne; cases hne
    rcases c3 with ⟨_, _, hn⟩ | ⟨i3, d3, o3, rfl, rfl, _⟩
    · rw [hn] at hne; cases hne
    (refine St.un ?_; refine St.pickF ?_; refine St.move ?_; refine St.fieldAddr ?_; refine St.load ?_; refine St.len ?_; refine St.fieldAddr ?_; refine St.load ?_; refine St.len ?_; refine St.bin ?_; refine St.pickF ?_; refine WO.nil ?_)
    refine St.splitC (fun hc => ?_) (fun hc => ?_)
    · simp at hc
    (refine WK.skip ?_)
    refine WK.le ?_ ?_ (leave ())
    · exact ⟨rfl, rfl, rfl, rfl, rfl, trivial⟩
    · exact ((hs1.cons _).trans (List.sublist_append_left _ _)).cons _
  clear hx hTv sT cT hTb er
  (refine WK.seq ?_; refine WK.region ?_; refine St.load ?_; refine St.load ?_)
  have hcl := cutR_len ka ea lo hi
  refine St.callR (fun _ => rfl) (fun h2 hh => cutP_con h2 hh.gd kva ka ea lo hi (hka.vw hh) (by omega)) ?_
  rintro v L4 ⟨v4, c4, rfl⟩
  refine WO.permF (L' := [(sp, .cells [.int .i64 lo, .int .i64 hi] 27), (q, .cells [kvb, .int .i64 eb] 24), (p, .cells [kva, .int .i64 ea] 24)] ++ L4) List.perm_append_comm ?_
  (refine St.move ?_; refine St.extract ?_; refine St.extract ?_; refine St.alloc fun _ _ => ?_)
  refine St.store0 (hv := store2 rfl c4.ok rfl) ?_
  refine St.assign ?_
  refine WO.nil ?_
  refine WK.seq ?_
  refine WK.cut (ι := Unit) (fun _ => [(4, .int .i64 x), (5, .ptr p 0), (6, .ptr q 0), (8, .ptr sp 0), (11, .bool true)]) (fun _ => [(sp, .cells [.int .i64 lo, .int .i64 hi] 27), (q, .cells [kvb, .int .i64 eb] 24), (p, .cells [kva, .int .i64 ea] 24)]) (fun _ => ?_) (fun K' leave => ?_)
  rotate_left
  · by_cases hon : errOn ka ea lo hi = 0
    rotate_left
    · have e4 : cutR ka ea lo hi = ([], 0, errOn ka ea lo hi) := by unfold cutR; rw [if_pos hon]
      rw [e4]
      (refine WK.seq ?_; refine WK.region ?_; refine St.move ?_; refine St.bin ?_; refine WO.nil ?_)
      refine St.splitC (fun hc => ?_) (fun hc => ?_)
      · simp at hc; exact absurd hc hon
      (refine WK.skip ?_)
      refine WK.le ?_ ?_ (leave ())
      · exact ⟨rfl, rfl, rfl, rfl, rfl, trivial⟩
      · exact (List.sublist_append_left _ L4).cons _
    obtain ⟨_, hlh, hdo⟩ := errOn_zero hon
    by_cases hall : allK ka (corX ka lo hi) = false
    · have e4 : cutR ka ea lo hi = ([], 0, 3) := by unfold cutR; rw [if_neg (by simp [hon]), if_pos hall]
      rw [e4]
      (refine WK.seq ?_; refine WK.region ?_; refine St.move ?_; refine St.bin ?_; refine WO.nil ?_; refine WK.condF ?_; refine WK.skip ?_)
      refine WK.le ?_ ?_ (leave ())
      · exact ⟨rfl, rfl, rfl, rfl, rfl, trivial⟩
      · exact (List.sublist_append_left _ L4).cons _
    have e4 : cutR ka ea lo hi = (newK ka (corX ka lo hi), ea, 0) := by unfold cutR; rw [if_neg (by simp [hon]), if_neg hall]
    have hall2 := all_of hall
    have hxl := corX_len va hlh hdo
    have wC := cut_vd va hlh hall2 hxl
    obtain ⟨dC, dC2, _, _⟩ := cut_ends (ks := ka) hlh
    have hCv : (valueR ka ea x).e = 0 → (valueR (newK ka (corX ka lo hi)) ea x).e = 0 → valueR ka ea x = valueR (newK ka (corX ka lo hi)) ea x := valR_of fun hd _ => cut_val va hlh hdo hall2 hxl hd
    rw [e4] at c4 ⊢
    simp only at c4 ⊢
    clear e4 hall hall2 hxl hcl
    generalize newK ka (corX ka lo hi) = M at c4 wC dC dC2 hCv ⊢
    have hCl := wC.le
    (refine WK.seq ?_; refine WK.region ?_; refine St.move ?_; refine St.bin ?_; refine WO.nil ?_; refine WK.condT ?_; refine WK.seq ?_; refine WK.region ?_; refine St.load ?_)
    refine St.call (v := .tup [.agg [.int .i64 lo, .int .i64 hi], .int .i64 0]) (fun _ => rfl) (fun h2 hh => by
      have := domainK_con h2 hh.gd v4 M ea (c4.knV hh (by (repeat apply List.Sublist.cons); exact List.sublist_append_right _ _)) (by omega)
      rw [wC.chk, if_pos rfl, if_pos rfl, dC, dC2] at this
      exact this) ?_
    (refine St.move ?_; refine St.extract ?_; refine St.extract ?_; refine St.alloc fun _ _ => ?_; refine St.store0 ?_; refine St.assign ?_; refine WO.nil ?_; refine WK.seq ?_; refine WK.region ?_; refine St.move ?_; refine St.bin ?_; refine St.move ?_; refine St.load ?_; refine St.load ?_)
    refine St.binX (r := .bool false) (by simp [evBin, evEq, guardOk, eqT, eqFs, partE, isAggT, szF, takeN, dropN, nthN]) rfl rfl ?_
    (refine St.pickF ?_; refine St.move ?_; refine St.load ?_; refine St.load ?_; refine St.move ?_)
    refine St.call (fun _ => rfl) (fun h2 hh => valued_con h2 hh.gd kva v4 ka M ea ea x (hka.vw hh) (c4.knV hh (by (repeat apply List.Sublist.cons); exact List.sublist_append_right _ _)) (by omega) (by omega) hCv) ?_
    (refine St.un ?_; refine St.pickF ?_; refine WO.nil ?_; refine WK.condF ?_; refine WK.skip ?_)
    refine WK.le ?_ ?_ (leave ())
    · exact ⟨rfl, rfl, rfl, rfl, rfl, trivial⟩
    · exact ((List.sublist_append_left _ L4).cons _).cons _
  clear hcl hrl c1 c2 c4
  have hA : ∀ (h2 : Heap) {V : Ob}, Vw h [] V h2 → ∃ v L, Con Tryz.prog Bs 27 [.agg [kva, .int .i64 ea], .agg [kvb, .int .i64 eb]] h2 [] v L ∧ SumOut (sumR ka ea kb eb 1) v L := fun h2 V hh => addP_con h2 hh.gd kva kvb ka kb ea eb (hka.vw hh) (hkb.vw hh) (by omega) (by omega)
  by_cases hsr : (sumR ka ea kb eb 1).2.2 = 0
  rotate_left
  · (refine WK.seq ?_; refine WK.region ?_; refine St.load ?_; refine St.load ?_)
    refine St.callR (fun _ => rfl) (fun h2 hh => hA h2 hh) ?_
    rintro v L5 ⟨v5, c5, rfl⟩
    refine WO.permF (L' := [(sp, .cells [.int .i64 lo, .int .i64 hi] 27), (q, .cells [kvb, .int .i64 eb] 24), (p, .cells [kva, .int .i64 ea] 24)] ++ L5) List.perm_append_comm ?_
    (refine St.move ?_; refine St.extract ?_; refine St.extract ?_; refine St.alloc fun _ _ => ?_)
    refine St.store0 (hv := store2 rfl c5.ok rfl) ?_
    (refine St.assign ?_; refine WO.nil ?_; refine WK.seq ?_; refine WK.seq ?_; refine WK.region ?_; refine St.move ?_; refine St.bin ?_; refine WO.nil ?_)
    refine St.splitC (fun hc => ?_) (fun hc => ?_)
    · (refine WK.seq ?_; refine WK.region ?_; refine St.move ?_; refine St.assign ?_; refine WO.nil ?_)
      refine St.ret (by first | exact .tmp .nil | exact .cell .nil | exact .cell (.tmp .nil) | exact .tmp (.tmp .nil) | exact .cell (.cell .nil) | exact .tmp (.cell .nil) | exact .nil | exact .tmp (.cell (.tmp .nil)) | exact .cell (.tmp (.tmp .nil)) | exact .cell (.cell (.tmp .nil)) | exact .tmp (.tmp (.tmp .nil)) | exact .cell (.cell (.cell .nil))) ?_
      rfl
    · simp at hc; exact absurd hc hsr
  obtain ⟨er5, hc2, hsx, hcs⟩ : sumR ka ea kb eb 1 = (sumK ka kb 1 ka.length, ea + eb, 0) ∧ chk2 ka ea kb eb = 0 ∧ sameX ka kb = true ∧ chk (sumK ka kb 1 ka.length) (ea + eb) = 0 := by
    unfold sumR at hsr ⊢
    by_cases h1 : chk2 ka ea kb eb = 0
    · by_cases h2 : sameX ka kb = false
      · rw [if_neg (by simp [h1]), if_pos h2] at hsr; simp at hsr
      · by_cases h3 : chk (sumK ka kb 1 ka.length) (ea + eb) = 0
        · rw [if_neg (by simp [h1]), if_neg h2, if_neg (by simp [h3])]
          exact ⟨rfl, h1, by simpa using h2, h3⟩
        · rw [if_neg (by simp [h1]), if_neg h2, if_pos h3] at hsr; simp at hsr
    · rw [if_pos h1] at hsr
      exact absurd hsr h1
  have vb := vd_of_chk (chk2_zero hc2).2
  have vs := vd_of_chk hcs
  have hbl : kb.length ≤ 40 := vb.le
  obtain ⟨hxl, hxe⟩ := sameX_iff.1 hsx
  have hpos := va.pos
  obtain ⟨d1, d2⟩ := sum_dom (kb := kb) (t := 1) hpos
  have d3 : dLo kb = dLo ka := (hxe 0 hpos).symm
  have d4 : dHi kb = dHi ka := by
    have := hxe (ka.length - 1) (by omega)
    unfold dHi
    rw [← hxl]
    exact this.symm
  have hback : ∀ e', sumR (sumK ka kb 1 ka.length) (ea + eb) kb eb (-1) = e' → e'.2.2 = 0 → e'.1 = ka := by
    rintro e' rfl he
    unfold sumR at he ⊢
    rw [sumK_len, sum_back] at he ⊢
    repeat' split
    all_goals simp_all
  have hvals : ((valueR ka ea x = ⟨0, 0, 3⟩ ∧ valueR kb eb x = ⟨0, 0, 3⟩ ∧ valueR (sumK ka kb 1 ka.length) (ea + eb) x = ⟨0, 0, 3⟩) ∨ (inDom ka x x = true ∧ valueR ka ea x = ⟨valN ka x, valD ka x, 0⟩ ∧ valueR kb eb x = ⟨valN kb x, valD kb x, 0⟩ ∧ valueR (sumK ka kb 1 ka.length) (ea + eb) x = ⟨valN (sumK ka kb 1 ka.length) x, valD (sumK ka kb 1 ka.length) x, 0⟩)) := by
    have i1 := inDom_like (ks := ka) (ms := kb) d3 d4 x
    have i2 := inDom_like (ks := ka) (ms := sumK ka kb 1 ka.length) d1 d2 x
    unfold valueR
    rw [if_pos va.chk, if_pos vb.chk, if_pos vs.chk, i1, i2]
    by_cases hd : inDom ka x x = true
    · right; rw [if_pos hd, if_pos hd, if_pos hd]; exact ⟨hd, rfl, rfl, rfl⟩
    · left; rw [if_neg hd, if_neg hd, if_neg hd]; exact ⟨rfl, rfl, rfl⟩
  have hsum := fun hd => sum_val (x := x) va vb vs hsx hd
  have hSl : (sumK ka kb 1 ka.length).length ≤ 40 := vs.le
  rw [er5] at hA
  clear hsr er5 hxe hcs d1 d2 d3 d4 hsx hc2
  generalize sumK ka kb 1 ka.length = Sm at hA vs hback hvals hsum hSl ⊢
  (refine WK.seq ?_; refine WK.region ?_; refine St.load ?_; refine St.load ?_)
  refine St.callR (fun _ => rfl) (fun h2 hh => hA h2 hh) ?_
  rintro v L5 ⟨v5, c5, rfl⟩
  simp only at c5 ⊢
  refine WO.permF (L' := [(sp, .cells [.int .i64 lo, .int .i64 hi] 27), (q, .cells [kvb, .int .i64 eb] 24), (p, .cells [kva, .int .i64 ea] 24)] ++ L5) List.perm_append_comm ?_
  (refine St.move ?_; refine St.extract ?_; refine St.extract ?_; refine St.alloc fun _ _ => ?_)
  refine St.store0 (hv := store2 rfl c5.ok rfl) ?_
  (refine St.assign ?_; refine WO.nil ?_; refine WK.seq ?_; refine WK.seq ?_; refine WK.region ?_; refine St.move ?_; refine St.bin ?_; refine WO.nil ?_; refine WK.condF ?_; refine WK.skip ?_; refine WK.seq ?_; refine WK.region ?_; refine St.load ?_; refine St.load ?_)
  rename_i a5 ha5
  refine St.callR (fun _ => rfl) (fun h2 hh => minusP_con h2 hh.gd v5 kvb Sm kb (ea + eb) eb (c5.knV hh (by (repeat apply List.Sublist.cons); exact List.sublist_append_right _ _)) (hkb.vw hh) (by omega) (by omega)) ?_
  rintro v L6 ⟨v6, c6, rfl⟩
  refine WO.permF (L' := ((a5, .cells [v5, .int .i64 (ea + eb)] 24) :: [(sp, .cells [.int .i64 lo, .int .i64 hi] 27), (q, .cells [kvb, .int .i64 eb] 24), (p, .cells [kva, .int .i64 ea] 24)] ++ L5) ++ L6) List.perm_append_comm ?_
  (refine St.move ?_; refine St.extract ?_; refine St.extract ?_; refine St.alloc fun _ _ => ?_)
  refine St.store0 (hv := store2 rfl c6.ok rfl) ?_
  (refine St.assign ?_; refine WO.nil ?_; refine WK.seq ?_; refine WK.region ?_; refine St.load ?_; refine St.move ?_)
  generalize hR6 : sumR Sm (ea + eb) kb eb (-1) = R6 at c6 ⊢
  have hb6 := hback R6 hR6
  obtain ⟨k6, e6, n6⟩ := R6
  simp only at c6 hb6 ⊢
  clear hR6 hback
  rcases hvals with ⟨w1, w2, w3⟩ | ⟨hd, w1, w2, w3⟩
  · refine St.call (v := .tup [.agg [.int .i64 0, .int .i64 0], .int .i64 3]) (fun _ => rfl) (fun h2 hh => by
      have := valueP_con h2 hh.gd kva ka ea x (hka.vw hh) (by omega)
      rw [w1] at this
      exact this) ?_
    (refine St.move ?_; refine St.extract ?_; refine St.extract ?_; refine St.alloc fun _ _ => ?_; refine St.store0 ?_; refine St.assign ?_; refine WO.nil ?_; refine WK.seq ?_; refine WK.region ?_; refine St.load ?_; refine St.move ?_)
    refine St.call (v := .tup [.agg [.int .i64 0, .int .i64 0], .int .i64 3]) (fun _ => rfl) (fun h2 hh => by
      have := valueP_con h2 hh.gd kvb kb eb x (hkb.vw hh) (by omega)
      rw [w2] at this
      exact this) ?_
    (refine St.move ?_; refine St.extract ?_; refine St.extract ?_; refine St.alloc fun _ _ => ?_; refine St.store0 ?_; refine St.assign ?_; refine WO.nil ?_; refine WK.seq ?_; refine WK.region ?_; refine St.load ?_; refine St.move ?_)
    refine St.call (v := .tup [.agg [.int .i64 0, .int .i64 0], .int .i64 3]) (fun _ => rfl) (fun h2 hh => by
      have := valueP_con h2 hh.gd v5 Sm (ea + eb) x (c5.knV hh (by (repeat apply List.Sublist.cons); exact (List.sublist_append_right _ L5).trans (List.sublist_append_left _ L6))) (by omega)
      rw [w3] at this
      exact this) ?_
    (refine St.move ?_; refine St.extract ?_; refine St.extract ?_; refine St.alloc fun _ _ => ?_; refine St.store0 ?_; refine St.assign ?_; refine WO.nil ?_; refine WK.seq ?_; refine WK.seq ?_; refine WK.region ?_; refine St.move ?_; refine St.bin ?_; refine St.move ?_)
    refine St.split (fun hc => ?_) (fun hc => ?_)
    · have h60 : k6 = ka := hb6 (by simpa using hc)
      (refine St.load ?_; refine St.load ?_; refine St.move ?_)
      refine St.call (fun _ => rfl) (fun h2 hh => valued_con h2 hh.gd kva v6 ka k6 ea e6 x (hka.vw hh) (c6.knV hh (by (repeat apply List.Sublist.cons); exact List.sublist_append_right _ _)) (by omega) (by rw [h60]; omega) (by rw [h60]; exact valR_of fun _ _ => ⟨rfl, rfl⟩)) ?_
      (refine St.un ?_; refine St.pickT ?_; refine St.move ?_; refine St.move ?_; refine St.move ?_; refine St.bin ?_; refine St.pickF ?_; refine St.move ?_; refine St.move ?_; refine St.move ?_; refine St.bin ?_; refine St.pickF ?_; refine WO.nil ?_; refine WK.condF ?_; refine WK.skip ?_; refine WK.seq ?_; refine WK.region ?_; refine St.move ?_; refine St.move ?_; refine St.move ?_; refine St.bin ?_; refine St.move ?_; refine St.skip ?_; refine St.skip ?_; refine St.skip ?_; refine St.skip ?_; refine St.skip ?_; refine St.skip ?_; refine St.skip ?_; refine St.skip ?_; refine St.skip ?_; refine St.skip ?_; refine St.skip ?_; refine St.skip ?_; refine St.skip ?_; refine St.skip ?_; refine St.skip ?_; refine St.skip ?_; refine St.skip ?_; refine St.skip ?_; refine St.skip ?_; refine St.skip ?_; refine St.skip ?_; refine St.skip ?_; refine St.skip ?_; refine St.pickT ?_; refine St.pickT ?_; refine St.assign ?_; refine WO.nil ?_)
      refine St.ret (by first | exact .tmp .nil | exact .cell .nil | exact .cell (.tmp .nil) | exact .tmp (.tmp .nil) | exact .cell (.cell .nil) | exact .tmp (.cell .nil) | exact .nil | exact .tmp (.cell (.tmp .nil)) | exact .cell (.tmp (.tmp .nil)) | exact .cell (.cell (.tmp .nil)) | exact .tmp (.tmp (.tmp .nil)) | exact .cell (.cell (.cell .nil))) ?_
      rfl
    · (refine St.skip ?_; refine St.skip ?_; refine St.skip ?_; refine St.skip ?_; refine St.skip ?_; refine St.pickF ?_; refine St.move ?_; refine St.move ?_; refine St.move ?_; refine St.bin ?_; refine St.pickF ?_; refine St.move ?_; refine St.move ?_; refine St.move ?_; refine St.bin ?_; refine St.pickF ?_; refine WO.nil ?_; refine WK.condF ?_; refine WK.skip ?_; refine WK.seq ?_; refine WK.region ?_; refine St.move ?_; refine St.move ?_; refine St.move ?_; refine St.bin ?_; refine St.move ?_; refine St.skip ?_; refine St.skip ?_; refine St.skip ?_; refine St.skip ?_; refine St.skip ?_; refine St.skip ?_; refine St.skip ?_; refine St.skip ?_; refine St.skip ?_; refine St.skip ?_; refine St.skip ?_; refine St.skip ?_; refine St.skip ?_; refine St.skip ?_; refine St.skip ?_; refine St.skip ?_; refine St.skip ?_; refine St.skip ?_; refine St.skip ?_; refine St.skip ?_; refine St.skip ?_; refine St.skip ?_; refine St.skip ?_; refine St.pickT ?_; refine St.pickT ?_; refine St.assign ?_; refine WO.nil ?_)
      refine St.ret (by first | exact .tmp .nil | exact .cell .nil | exact .cell (.tmp .nil) | exact .tmp (.tmp .nil) | exact .cell (.cell .nil) | exact .tmp (.cell .nil) | exact .nil | exact .tmp (.cell (.tmp .nil)) | exact .cell (.tmp (.tmp .nil)) | exact .cell (.cell (.tmp .nil)) | exact .tmp (.tmp (.tmp .nil)) | exact .cell (.cell (.cell .nil))) ?_
      rfl
  · refine St.call (v := .tup [.agg [.int .i64 (valN ka x), .int .i64 (valD ka x)], .int .i64 0]) (fun _ => rfl) (fun h2 hh => by
      have := valueP_con h2 hh.gd kva ka ea x (hka.vw hh) (by omega)
      rw [w1] at this
      exact this) ?_
    (refine St.move ?_; refine St.extract ?_; refine St.extract ?_; refine St.alloc fun _ _ => ?_; refine St.store0 ?_; refine St.assign ?_; refine WO.nil ?_; refine WK.seq ?_; refine WK.region ?_; refine St.load ?_; refine St.move ?_)
    refine St.call (v := .tup [.agg [.int .i64 (valN kb x), .int .i64 (valD kb x)], .int .i64 0]) (fun _ => rfl) (fun h2 hh => by
      have := valueP_con h2 hh.gd kvb kb eb x (hkb.vw hh) (by omega)
      rw [w2] at this
      exact this) ?_
    (refine St.move ?_; refine St.extract ?_; refine St.extract ?_; refine St.alloc fun _ _ => ?_; refine St.store0 ?_; refine St.assign ?_; refine WO.nil ?_; refine WK.seq ?_; refine WK.region ?_; refine St.load ?_; refine St.move ?_)
    refine St.call (v := .tup [.agg [.int .i64 (valN Sm x), .int .i64 (valD Sm x)], .int .i64 0]) (fun _ => rfl) (fun h2 hh => by
      have := valueP_con h2 hh.gd v5 Sm (ea + eb) x (c5.knV hh (by (repeat apply List.Sublist.cons); exact (List.sublist_append_right _ L5).trans (List.sublist_append_left _ L6))) (by omega)
      rw [w3] at this
      exact this) ?_
    (refine St.move ?_; refine St.extract ?_; refine St.extract ?_; refine St.alloc fun _ _ => ?_; refine St.store0 ?_; refine St.assign ?_; refine WO.nil ?_; refine WK.seq ?_; refine WK.seq ?_; refine WK.region ?_; refine St.move ?_; refine St.bin ?_; refine St.move ?_)
    have hsm := hsum hd
    obtain ⟨x0, x1⟩ := va.dom hd
    obtain ⟨a1', a2', a3', a4'⟩ := va.fr (x := x) (by omega) (by omega)
    obtain ⟨b1', b2', b3', b4'⟩ := vb.fr (x := x) (by omega) (by omega)
    obtain ⟨s1', s2', s3', s4'⟩ := vs.fr (x := x) (by omega) (by omega)
    clear w1 w2 w3 hsum
    generalize valN ka x = n at *
    generalize valD ka x = d at *
    generalize valN kb x = m at *
    generalize valD kb x = f at *
    generalize valN Sm x = u at *
    generalize valD Sm x = t at *
    obtain ⟨m1, m2⟩ := mul_bd s1' s2' (show -4000 ≤ d by omega) a4'
    obtain ⟨m3, m4⟩ := mul_bd m1 m2 (show -4000 ≤ f by omega) b4'
    obtain ⟨m5, m6⟩ := mul_bd a1' a2' (show -4000 ≤ f by omega) b4'
    obtain ⟨m7, m8⟩ := mul_bd b1' b2' (show -4000 ≤ d by omega) a4'
    obtain ⟨m9, m10⟩ := mul_bd (a := n * f + m * d) (b := t) (A := 20000000000000) (B := 4000) (by omega) (by omega) (by omega) s4'
    refine St.split (fun hc => ?_) (fun hc => ?_)
    · have h60 : k6 = ka := hb6 (by simpa using hc)
      (refine St.load ?_; refine St.load ?_; refine St.move ?_)
      refine St.call (fun _ => rfl) (fun h2 hh => valued_con h2 hh.gd kva v6 ka k6 ea e6 x (hka.vw hh) (c6.knV hh (by (repeat apply List.Sublist.cons); exact List.sublist_append_right _ _)) (by omega) (by rw [h60]; omega) (by rw [h60]; exact valR_of fun _ _ => ⟨rfl, rfl⟩)) ?_
      (refine St.un ?_; refine St.pickT ?_; refine St.move ?_; refine St.move ?_; refine St.move ?_; refine St.bin ?_; refine St.pickF ?_; refine St.move ?_; refine St.move ?_; refine St.move ?_; refine St.bin ?_; refine St.pickF ?_; refine WO.nil ?_; refine WK.condF ?_; refine WK.skip ?_; refine WK.seq ?_; refine WK.region ?_; refine St.move ?_; refine St.move ?_; refine St.move ?_; refine St.bin ?_; refine St.move ?_; refine St.fieldAddr ?_; refine St.load ?_; refine St.fieldAddr ?_; refine St.load ?_; refine St.binI ?_; refine St.fieldAddr ?_; refine St.load ?_; refine St.binI ?_; refine St.fieldAddr ?_; refine St.load ?_; refine St.fieldAddr ?_; refine St.load ?_; refine St.binI ?_; refine St.fieldAddr ?_; refine St.load ?_; refine St.fieldAddr ?_; refine St.load ?_; refine St.binI ?_; refine St.binI ?_; refine St.fieldAddr ?_; refine St.load ?_; refine St.binI ?_; refine St.bin ?_; refine St.pickF ?_; refine St.pickT ?_; refine St.assign ?_; refine WO.nil ?_)
      refine St.ret (by first | exact .tmp .nil | exact .cell .nil | exact .cell (.tmp .nil) | exact .tmp (.tmp .nil) | exact .cell (.cell .nil) | exact .tmp (.cell .nil) | exact .nil | exact .tmp (.cell (.tmp .nil)) | exact .cell (.tmp (.tmp .nil)) | exact .cell (.cell (.tmp .nil)) | exact .tmp (.tmp (.tmp .nil)) | exact .cell (.cell (.cell .nil))) ?_
      simp [oneOf, hsm]
    · (refine St.skip ?_; refine St.skip ?_; refine St.skip ?_; refine St.skip ?_; refine St.skip ?_; refine St.pickF ?_; refine St.move ?_; refine St.move ?_; refine St.move ?_; refine St.bin ?_; refine St.pickF ?_; refine St.move ?_; refine St.move ?_; refine St.move ?_; refine St.bin ?_; refine St.pickF ?_; refine WO.nil ?_; refine WK.condF ?_; refine WK.skip ?_; refine WK.seq ?_; refine WK.region ?_; refine St.move ?_; refine St.move ?_; refine St.move ?_; refine St.bin ?_; refine St.move ?_; refine St.fieldAddr ?_; refine St.load ?_; refine St.fieldAddr ?_; refine St.load ?_; refine St.binI ?_; refine St.fieldAddr ?_; refine St.load ?_; refine St.binI ?_; refine St.fieldAddr ?_; refine St.load ?_; refine St.fieldAddr ?_; refine St.load ?_; refine St.binI ?_; refine St.fieldAddr ?_; refine St.load ?_; refine St.fieldAddr ?_; refine St.load ?_; refine St.binI ?_; refine St.binI ?_; refine St.fieldAddr ?_; refine St.load ?_; refine St.binI ?_; refine St.bin ?_; refine St.pickF ?_; refine St.pickT ?_; refine St.assign ?_; refine WO.nil ?_)
      refine St.ret (by first | exact .tmp .nil | exact .cell .nil | exact .cell (.tmp .nil) | exact .tmp (.tmp .nil) | exact .cell (.cell .nil) | exact .tmp (.cell .nil) | exact .nil | exact .tmp (.cell (.tmp .nil)) | exact .cell (.tmp (.tmp .nil)) | exact .cell (.cell (.tmp .nil)) | exact .tmp (.tmp (.tmp .nil)) | exact .cell (.cell (.cell .nil))) ?_
      simp [oneOf, hsm]
/-- the law, said of the model -/
theorem keeps_of (w : World) (A1 A2 A3 : Option Addr) (c1 c2 c3 : Nat) (ka kb : List (Int × Int)) (ea eb lo hi x : Int) (xs : List Int) (hA1 : SlOk w A1 ka.length c1) (hk1 : KnAt w A1 ka) (hA2 : SlOk w A2 kb.length c2) (hk2 : KnAt w A2 kb) (hA3 : SlOk w A3 xs.length c3) (hk3 : ItAt w A3 xs) :
    Calls Tryz.prog 5 #[.agg #[.slice A1 ka.length c1, .int .i64 ea], .agg #[.slice A2 kb.length c2, .int .i64 eb], .slice A3 xs.length c3, .agg #[.int .i64 lo, .int .i64 hi], .int .i64 x] w fun e w' => e = .returned (.bool true) ∧ RowKit.Below w.heap.size w w' := by
  obtain ⟨kva, h1, h2⟩ := kn_abs hA1 hk1
  obtain ⟨kvb, h3, h4⟩ := kn_abs hA2 hk2
  obtain ⟨xv, h5, h6⟩ := it_abs hA3 hk3
  refine (Con.calls (by kernel_rfl) Bs_sound (keeps_con _ (absH_good w) kva kvb xv ka kb ea eb lo hi x xs h1 h3 h5) (VRs.cons (vr_agg2 h2 vr_int) (VRs.cons (vr_agg2 h4 vr_int) (vrs3 h6 (vr_agg2 vr_int vr_int) vr_int)))).mono ?_
  rintro e w' ⟨U, E, rfl, hU, hb⟩
  simp only [VR] at hU
  exact ⟨by rw [hU], hb⟩
end Go.Proofs.YtbhklifflhoinaaGreat
