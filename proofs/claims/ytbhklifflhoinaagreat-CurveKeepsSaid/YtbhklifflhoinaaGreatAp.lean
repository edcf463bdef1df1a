/- Value, Compare, Lowest, Apart, and the laws' helpers less and apart, over the calculator's memory. -/
import Derived.Test.YtbhklifflhoinaaGreatMd
import Derived.Test.YtbhklifflhoinaaGreatOv
import Derived.Test.YtbhklifflhoinaaGreatSu
namespace Go.Proofs.YtbhklifflhoinaaGreat
open Go.Proofs.YtbhklifflhoinaaGreat.Ev

set_option maxRecDepth 100000 in
set_option maxHeartbeats 4000000 in
theorem valueP_con (h : Heap) (g : Gd h) (kv : AV) (ks : List (Int × Int)) (err x : Int) (hk : KnV h kv ks) (hl : ks.length ≤ 1000000000000) : Con Tryz.prog Bs 29 [.agg [kv, .int .i64 err], .int .i64 x] h [] (avF (valueR ks err x)) [] := by
  by_cases hch : chk ks err = 0
  · have v := vd_of_chk hch
    obtain ⟨b, off, c, rfl, hk'⟩ := hk.ne v.ne
    refine Con.start rfl Tryz.func29 rfl rfl Tryz.ntmps29 rfl rfl g ?_
    (refine WK.seq ?_; refine WK.region ?_; refine St.box fun _ _ => ?_; refine St.alloc fun _ _ => ?_; refine St.assign ?_; refine WO.nil ?_; refine WK.seq ?_; refine WK.seq ?_; refine WK.region ?_; refine St.load ?_)
    refine St.call (fun _ => rfl) (fun h hh => check_con h hh.gd _ ks err (hk.vw hh) hl) ?_
    rw [hch]
    (refine St.assign ?_; refine WO.nil ?_; refine WK.seq ?_; refine WK.region ?_; refine St.move ?_; refine St.bin ?_; refine WO.nil ?_; refine WK.condF ?_; refine WK.skip ?_; refine WK.seq ?_; refine WK.seq ?_; refine WK.region ?_; refine St.move ?_; refine St.load ?_; refine St.mkS fun _ _ => ?_)
    rename_i i1 hi1
    refine St.call (v := .int .i64 (if inDom ks x x = true then 0 else 3)) (fun _ => rfl) (fun h hh => by
      have := checkAt_con h hh.gd i1 0 (.k 1) [⟨.slice b off ks.length c, ks, err⟩] x (by simp) (hh.cv1 (List.Mem.head _) rfl ((hk'.vw hh).v v.pos) (by omega)) (one_vd v)
      have e : chkOn ([(⟨.slice b off ks.length c, ks, err⟩ : Cv)].map Cv.c) x x = if inDom ks x x = true then 0 else 3 := by
        rw [show ([(⟨.slice b off ks.length c, ks, err⟩ : Cv)].map Cv.c) = [⟨none, 0, ks, err⟩] from rfl, chkOn_one, if_neg (by omega)]
      rw [e] at this
      exact this) ?_
    (refine St.assign ?_; refine WO.nil ?_; refine WK.seq ?_; refine WK.region ?_; refine St.move ?_; refine St.bin ?_; refine WO.nil ?_)
    by_cases hd : inDom ks x x = true
    · obtain ⟨d1, d2⟩ := v.dom hd
      rw [if_pos hd]
      (refine WK.condF ?_; refine WK.skip ?_; refine WK.seq ?_; refine WK.region ?_; refine St.load ?_; refine St.move ?_)
      refine St.call (fun _ => rfl) (fun h hh => value_con h hh.gd b off c ks err x v (hk'.vw hh) (by omega) (by omega)) ?_
      (refine St.store1 ?_; refine St.assign ?_; refine WO.nil ?_)
      refine St.ret (by first | exact .tmp .nil | exact .cell .nil | exact .cell (.tmp .nil) | exact .tmp (.tmp .nil) | exact .cell (.cell .nil) | exact .tmp (.cell .nil) | exact .nil | exact .tmp (.cell (.tmp .nil)) | exact .cell (.tmp (.tmp .nil)) | exact .cell (.cell (.tmp .nil)) | exact .tmp (.tmp (.tmp .nil)) | exact .cell (.cell (.cell .nil))) ?_
      unfold valueR
      rw [if_pos hch, if_pos hd]
      rfl
    · rw [if_neg hd]
      (refine WK.condT ?_; refine WK.seq ?_; refine WK.region ?_; refine St.build ?_; refine St.move ?_; refine St.store1 ?_; refine St.assign ?_; refine WO.nil ?_)
      refine St.ret (by first | exact .tmp .nil | exact .cell .nil | exact .cell (.tmp .nil) | exact .tmp (.tmp .nil) | exact .cell (.cell .nil) | exact .tmp (.cell .nil) | exact .nil | exact .tmp (.cell (.tmp .nil)) | exact .cell (.tmp (.tmp .nil)) | exact .cell (.cell (.tmp .nil)) | exact .tmp (.tmp (.tmp .nil)) | exact .cell (.cell (.cell .nil))) ?_
      unfold valueR
      rw [if_pos hch, if_neg hd]
      rfl
  · refine Con.start rfl Tryz.func29 rfl rfl Tryz.ntmps29 rfl rfl g ?_
    (refine WK.seq ?_; refine WK.region ?_; refine St.box fun _ _ => ?_; refine St.alloc fun _ _ => ?_; refine St.assign ?_; refine WO.nil ?_; refine WK.seq ?_; refine WK.seq ?_; refine WK.region ?_; refine St.load ?_)
    refine St.call (fun _ => rfl) (fun h hh => check_con h hh.gd _ ks err (hk.vw hh) hl) ?_
    (refine St.assign ?_; refine WO.nil ?_; refine WK.seq ?_; refine WK.region ?_; refine St.move ?_; refine St.bin ?_; refine WO.nil ?_)
    refine St.splitC (fun hc => ?_) (fun hc => ?_)
    · (refine WK.seq ?_; refine WK.region ?_; refine St.build ?_; refine St.move ?_; refine St.store0 ?_; refine St.assign ?_; refine WO.nil ?_)
      refine St.ret (by first | exact .tmp .nil | exact .cell .nil | exact .cell (.tmp .nil) | exact .tmp (.tmp .nil) | exact .cell (.cell .nil) | exact .tmp (.cell .nil) | exact .nil | exact .tmp (.cell (.tmp .nil)) | exact .cell (.tmp (.tmp .nil)) | exact .cell (.cell (.tmp .nil)) | exact .tmp (.tmp (.tmp .nil)) | exact .cell (.cell (.cell .nil))) ?_
      unfold valueR
      rw [if_neg hch]
      rfl
    · simp at hc; exact absurd hc hch
set_option maxRecDepth 100000 in
set_option maxHeartbeats 4000000 in
theorem difference_con (h : Heap) (g : Gd h) (ka kb : List (Int × Int)) (ea eb x : Int) (va : Vd ka ea) (vb : Vd kb eb) (hda : inDom ka x x = true) (hdb : inDom kb x x = true) : Con Tryz.prog Bs 56 [.agg [.int .i64 (valN ka x), .int .i64 (valD ka x)], .agg [.int .i64 (valN kb x), .int .i64 (valD kb x)]] h [] (.agg [.int .i64 (difF ka kb x).1, .int .i64 (difF ka kb x).2]) [] := by
  obtain ⟨a1, a2⟩ := va.dom hda
  obtain ⟨b1, b2⟩ := dif_bd va vb hda hdb
  obtain ⟨b3, b4, b5⟩ := b2
  unfold difN at b1 b3
  unfold difD at b4 b5
  have fa := (va.fr (x := x) (by omega) (by omega)).small
  have fb := (vb.fr (x := x) (by omega) (by omega)).small
  obtain ⟨m1, m2⟩ := fa.mul fb
  obtain ⟨m3, m4⟩ := fb.mul fa
  refine Con.start rfl Tryz.func56 rfl rfl Tryz.ntmps56 rfl rfl g ?_
  (refine WK.seq ?_; refine WK.region ?_; refine St.box fun _ _ => ?_; refine St.box fun _ _ => ?_; refine St.alloc fun _ _ => ?_; refine WO.nil ?_; refine WK.seq ?_; refine WK.region ?_; refine St.fieldAddr ?_; refine St.load ?_; refine St.fieldAddr ?_; refine St.load ?_; refine St.binI ?_; refine St.fieldAddr ?_; refine St.load ?_; refine St.fieldAddr ?_; refine St.load ?_; refine St.binI ?_; refine St.binI ?_; refine St.fieldAddr ?_; refine St.load ?_; refine St.fieldAddr ?_; refine St.load ?_; refine St.binI ?_)
  refine St.call (fun _ => rfl) (fun h hh => lowest_con h hh.gd (difN ka kb x) (difD ka kb x) (by unfold difN; omega) (by unfold difN; omega) (by unfold difD; omega) (by unfold difD; omega) (by unfold difD; omega)) ?_
  (refine St.store0 ?_; refine WO.nil ?_)
  refine St.ret (by first | exact .tmp .nil | exact .cell .nil | exact .cell (.tmp .nil) | exact .tmp (.tmp .nil) | exact .cell (.cell .nil) | exact .tmp (.cell .nil) | exact .nil | exact .tmp (.cell (.tmp .nil)) | exact .cell (.tmp (.tmp .nil)) | exact .cell (.cell (.tmp .nil)) | exact .tmp (.tmp (.tmp .nil)) | exact .cell (.cell (.cell .nil))) ?_
  rfl
set_option maxRecDepth 100000 in
set_option maxHeartbeats 4000000 in
theorem apart1_con (h : Heap) (g : Gd h) (b off : Nat) (c : ACap) (ka : List (Int × Int)) (b2 off2 : Nat) (c2 : ACap) (kb : List (Int × Int)) (ea eb x : Int) (j1 j2 : Nat) (hj1 : Rds h j1 0 [.slice b off ka.length c, .int .i64 ea]) (hj2 : Rds h j2 0 [.slice b2 off2 kb.length c2, .int .i64 eb]) (va : Vd ka ea) (vb : Vd kb eb) (hk1 : KnH h b off ka) (hk2 : KnH h b2 off2 kb) (hda : inDom ka x x = true) (hdb : inDom kb x x = true) :
    Con Tryz.prog Bs 55 [.int .i64 x, .ptr j1 0, .ptr j2 0] h [] (.agg [.int .i64 (difF ka kb x).1, .int .i64 (difF ka kb x).2]) [] := by
  obtain ⟨a1, a2⟩ := va.dom hda
  refine Con.start rfl Tryz.func55 rfl rfl Tryz.ntmps55 rfl rfl g ?_
  (refine WK.seq ?_; refine WK.region ?_; refine St.alloc fun _ _ => ?_; refine WO.nil ?_; refine WK.seq ?_; refine WK.regionD ?_)
  refine St.loadX (fun h hh => (hh.rds (by simp) hj1).agg (by simp) rfl rfl rfl) ?_
  (refine St.move ?_)
  refine St.call (fun _ => rfl) (fun h hh => value_con h hh.gd b off c ka ea x va (hk1.vw hh) (by omega) (by omega)) ?_
  skip
  refine St.loadX (fun h hh => (hh.rds (by simp) hj2).agg (by simp) rfl rfl rfl) ?_
  (refine St.move ?_)
  refine St.call (fun _ => rfl) (fun h hh => value_con h hh.gd b2 off2 c2 kb eb x vb (hk2.vw hh) (by omega) (by omega)) ?_
  skip
  refine St.call (fun _ => rfl) (fun h hh => difference_con h hh.gd ka kb ea eb x va vb hda hdb) ?_
  (refine StD.store0 ?_; refine WO.nil ?_)
  refine St.ret (by first | exact .tmp .nil | exact .cell .nil | exact .cell (.tmp .nil) | exact .tmp (.tmp .nil) | exact .cell (.cell .nil) | exact .tmp (.cell .nil) | exact .nil | exact .tmp (.cell (.tmp .nil)) | exact .cell (.tmp (.tmp .nil)) | exact .cell (.cell (.tmp .nil)) | exact .tmp (.tmp (.tmp .nil)) | exact .cell (.cell (.cell .nil))) ?_
  rfl
/-- what Apart returns -/
def apartE (ka : List (Int × Int)) (ea : Int) (kb : List (Int × Int)) (eb lo hi : Int) : Int := if chk2 ka ea kb eb ≠ 0 then chk2 ka ea kb eb else if hi < lo then 1 else if (inDom ka lo hi && inDom kb lo hi) = true then 0 else 3
def apartR (ka : List (Int × Int)) (ea : Int) (kb : List (Int × Int)) (eb lo hi : Int) : PE := if apartE ka ea kb eb lo hi = 0 then ⟨apartK ka kb lo hi, 0⟩ else ⟨⟨0, 0, 0, 0, 0, 0⟩, apartE ka ea kb eb lo hi⟩
theorem apartE_zero {ka ea kb eb lo hi} (h : apartE ka ea kb eb lo hi = 0) : chk ka ea = 0 ∧ chk kb eb = 0 ∧ lo ≤ hi ∧ inDom ka lo hi = true ∧ inDom kb lo hi = true := by
  unfold apartE at h
  split at h
  · contradiction
  rename_i h1
  obtain ⟨q1, q2⟩ := chk2_zero (show chk2 ka ea kb eb = 0 by simpa using h1)
  split at h
  · cases h
  split at h
  · rename_i h2 h3
    rw [Bool.and_eq_true] at h3
    exact ⟨q1, q2, by omega, h3.1, h3.2⟩
  · cases h
set_option maxRecDepth 100000 in
set_option maxHeartbeats 8000000 in
theorem apartP_con (h : Heap) (g : Gd h) (kva kvb : AV) (ka kb : List (Int × Int)) (ea eb lo hi : Int) (hka : KnV h kva ka) (hkb : KnV h kvb kb) (hla : ka.length ≤ 1000000) (hlb : kb.length ≤ 1000000) :
    Con Tryz.prog Bs 15 [.agg [kva, .int .i64 ea], .agg [kvb, .int .i64 eb], .agg [.int .i64 lo, .int .i64 hi]] h [] (avP (apartR ka ea kb eb lo hi)) [] := by
  have hC : ∀ (h2 : Heap) {V : Ob} (j : Nat) (l : List AV) (ty : TypeId), Vw h [] V h2 → (j, .cells l ty) ∈ V → l = [kva, .int .i64 ea, kvb, .int .i64 eb] → Con Tryz.prog Bs 53 [.slice j 0 2 (.k 2)] h2 [] (.int .i64 (chk2 ka ea kb eb)) [] := fun h2 V j l ty hh hm e => by
    have := checkL_con h2 hh.gd j 0 (.k 2) [⟨kva, ka, ea⟩, ⟨kvb, kb, eb⟩] (by simp) (hh.cv2 hm e (hka.vw hh) (hkb.vw hh) (by omega) (by omega))
    rw [← chk2_eq]
    exact this
  by_cases e0 : chk2 ka ea kb eb = 0
  rotate_left
  · have er : apartR ka ea kb eb lo hi = ⟨⟨0, 0, 0, 0, 0, 0⟩, chk2 ka ea kb eb⟩ := by
      have : apartE ka ea kb eb lo hi = chk2 ka ea kb eb := by unfold apartE; rw [if_pos e0]
      unfold apartR
      rw [this, if_neg e0]
    rw [er]
    refine Con.start rfl Tryz.func15 rfl rfl Tryz.ntmps15 rfl rfl g ?_
    (refine WK.seq ?_; refine WK.region ?_; refine St.box fun _ _ => ?_; refine St.box fun _ _ => ?_; refine St.box fun _ _ => ?_; refine St.alloc fun _ _ => ?_; refine St.assign ?_; refine WO.nil ?_; refine WK.seq ?_; refine WK.seq ?_; refine WK.region ?_; refine St.load ?_; refine St.load ?_; refine St.mkS fun _ _ => ?_)
    refine St.call (fun _ => rfl) (fun h2 hh => hC h2 _ _ _ hh (List.Mem.head _) rfl) ?_
    (refine St.assign ?_; refine WO.nil ?_; refine WK.seq ?_; refine WK.region ?_; refine St.move ?_; refine St.bin ?_; refine WO.nil ?_)
    refine St.splitC (fun hc => ?_) (fun hc => ?_)
    · (refine WK.seq ?_; refine WK.region ?_; refine St.build ?_; refine St.move ?_; refine St.store1 ?_; refine St.assign ?_; refine WO.nil ?_)
      refine St.ret (by first | exact .tmp .nil | exact .cell .nil | exact .cell (.tmp .nil) | exact .tmp (.tmp .nil) | exact .cell (.cell .nil) | exact .tmp (.cell .nil) | exact .nil | exact .tmp (.cell (.tmp .nil)) | exact .cell (.tmp (.tmp .nil)) | exact .cell (.cell (.tmp .nil)) | exact .tmp (.tmp (.tmp .nil)) | exact .cell (.cell (.cell .nil))) ?_
      rfl
    · simp at hc; exact absurd hc e0
  obtain ⟨h1, h2⟩ := chk2_zero e0
  have va := vd_of_chk h1
  have vb := vd_of_chk h2
  obtain ⟨b, off, c, rfl, hk1⟩ := hka.ne va.ne
  obtain ⟨b2, off2, c2, rfl, hk2⟩ := hkb.ne vb.ne
  have hl40 : ka.length ≤ 40 := va.le
  have hl41 : kb.length ≤ 40 := vb.le
  rw [e0] at hC
  have eE : apartE ka ea kb eb lo hi = chkOn ([(⟨.slice b off ka.length c, ka, ea⟩ : Cv), ⟨.slice b2 off2 kb.length c2, kb, eb⟩].map Cv.c) lo hi := by
    unfold apartE
    rw [if_neg (by simp [e0])]
    simp only [chkOn, covL, List.map_cons, List.map_nil, List.all_cons, List.all_nil, Bool.and_true, inDom]
    rfl
  refine Con.start rfl Tryz.func15 rfl rfl Tryz.ntmps15 rfl rfl g ?_
  (refine WK.seq ?_; refine WK.region ?_; refine St.box fun _ _ => ?_; refine St.box fun _ _ => ?_; refine St.box fun _ _ => ?_; refine St.alloc fun _ _ => ?_; refine St.assign ?_; refine WO.nil ?_; refine WK.seq ?_; refine WK.seq ?_; refine WK.region ?_; refine St.load ?_; refine St.load ?_; refine St.mkS fun _ _ => ?_)
  refine St.call (fun _ => rfl) (fun h2 hh => hC h2 _ _ _ hh (List.Mem.head _) rfl) ?_
  (refine St.assign ?_; refine WO.nil ?_; refine WK.seq ?_; refine WK.region ?_; refine St.move ?_; refine St.bin ?_; refine WO.nil ?_; refine WK.condF ?_; refine WK.skip ?_; refine WK.seq ?_; refine WK.seq ?_; refine WK.region ?_; refine St.load ?_; refine St.load ?_; refine St.load ?_; refine St.mkS fun _ _ => ?_)
  rename_i i1 hi1
  refine St.call (v := .int .i64 (apartE ka ea kb eb lo hi)) (fun _ => rfl) (fun h hh => by
    have := checkOn_con h hh.gd i1 0 (.k 2) [⟨.slice b off ka.length c, ka, ea⟩, ⟨.slice b2 off2 kb.length c2, kb, eb⟩] lo hi (by simp) (hh.cv2 (List.Mem.head _) rfl ((hk1.vw hh).v va.pos) ((hk2.vw hh).v vb.pos) (by omega) (by omega)) (two_vd va vb)
    rw [eE]
    exact this) ?_
  (refine St.assign ?_; refine WO.nil ?_; refine WK.seq ?_; refine WK.region ?_; refine St.move ?_; refine St.bin ?_; refine WO.nil ?_)
  refine St.splitC (fun hc => ?_) (fun hc => ?_)
  · have hne : apartE ka ea kb eb lo hi ≠ 0 := by simpa using hc
    (refine WK.seq ?_; refine WK.region ?_; refine St.build ?_; refine St.move ?_; refine St.store2 ?_; refine St.assign ?_; refine WO.nil ?_)
    refine St.ret (by first | exact .tmp .nil | exact .cell .nil | exact .cell (.tmp .nil) | exact .tmp (.tmp .nil) | exact .cell (.cell .nil) | exact .tmp (.cell .nil) | exact .nil | exact .tmp (.cell (.tmp .nil)) | exact .cell (.tmp (.tmp .nil)) | exact .cell (.cell (.tmp .nil)) | exact .tmp (.tmp (.tmp .nil)) | exact .cell (.cell (.cell .nil))) ?_
    unfold apartR
    rw [if_neg hne]
    rfl
  have hz : apartE ka ea kb eb lo hi = 0 := by simpa using hc
  obtain ⟨hz1, hz2, hlh, hda, hdb⟩ := apartE_zero hz
  obtain ⟨d1, d2⟩ := va.dom hda
  have hX : cornX lo hi ([(⟨.slice b off ka.length c, ka, ea⟩ : Cv), ⟨.slice b2 off2 kb.length c2, kb, eb⟩].map Cv.c) = cornX lo hi [⟨none, 0, ka, 0⟩, ⟨none, 0, kb, 0⟩] := cornX_ks rfl
  have hmem : ∀ x ∈ cornX lo hi [⟨none, 0, ka, 0⟩, ⟨none, 0, kb, 0⟩], inDom ka x x = true ∧ inDom kb x x = true := fun x hx => by
    have := cornX_mem hlh hx
    exact ⟨inDom_sub hda this.1 this.2, inDom_sub hdb this.1 this.2⟩
  have hcl := cornX_le2 (lo := lo) (hi := hi) (l := [⟨none, 0, ka, 0⟩, ⟨none, 0, kb, 0⟩]) (two_all (p := fun c : Cur => c.ks.length ≤ 40) hl40 hl41)
  simp at hcl
  (refine WK.skip ?_; refine WK.seq ?_; refine WK.region ?_; refine St.load ?_; refine St.load ?_; refine St.load ?_; refine St.mkS fun _ _ => ?_)
  rename_i p hp q hq sp hsp r hr l1 hl1 i2 hi2
  refine St.callR (R := fun v L => ∃ i m o, v = .slice i 0 (cornX lo hi [⟨none, 0, ka, 0⟩, ⟨none, 0, kb, 0⟩]).length m ∧ L = [(i, o)] ∧ o.has ((cornX lo hi [⟨none, 0, ka, 0⟩, ⟨none, 0, kb, 0⟩]).map (AV.int .i64))) (fun _ => rfl) (fun h hh => ?_) ?_
  · have := corners_con h hh.gd i2 0 (.k 2) [⟨.slice b off ka.length c, ka, ea⟩, ⟨.slice b2 off2 kb.length c2, kb, eb⟩] lo hi (by simp) (hh.cv2 (List.Mem.head _) rfl ((hk1.vw hh).v va.pos) ((hk2.vw hh).v vb.pos) (by omega) (by omega)) (two_vd va vb)
    rw [hX] at this
    exact this
  rintro w L' ⟨i, m, o, rfl, rfl, ho⟩
  (refine St.fn ?_)
  refine St.call (fun _ => rfl) (fun h hh => peak_con h hh.gd i 0 m (cornX lo hi [⟨none, 0, ka, 0⟩, ⟨none, 0, kb, 0⟩]) 55 [] [.ptr p 0, .ptr q 0] (difF ka kb) (cornX_pos _ _ _) (by omega) (hh.ins (by simp) ho) (fun x hx => isF_small (dif_ok va vb (hmem x hx).1 (hmem x hx).2)) (fun x hx h' V hv => apart1_con h' hv.gd b off c ka b2 off2 c2 kb ea eb x p q (hv.rds (by simp) (hh.rdsO (l := [.slice b off ka.length c, .int .i64 ea]) (t := 24) (by simp [AV.cells]) rfl)) (hv.rds (by simp) (hh.rdsO (l := [.slice b2 off2 kb.length c2, .int .i64 eb]) (t := 24) (by simp [AV.cells]) rfl)) va vb ((hk1.vw hh).vw hv) ((hk2.vw hh).vw hv) (hmem x hx).1 (hmem x hx).2)) ?_
  (refine St.store4 ?_; refine St.assign ?_; refine WO.nil ?_)
  refine St.ret (by first | exact .tmp .nil | exact .cell .nil | exact .cell (.tmp .nil) | exact .tmp (.tmp .nil) | exact .cell (.cell .nil) | exact .tmp (.cell .nil) | exact .nil | exact .tmp (.cell (.tmp .nil)) | exact .cell (.tmp (.tmp .nil)) | exact .cell (.cell (.tmp .nil)) | exact .tmp (.tmp (.tmp .nil)) | exact .cell (.cell (.cell .nil))) ?_
  unfold apartR
  rw [if_pos hz]
  rfl
end Go.Proofs.YtbhklifflhoinaaGreat
