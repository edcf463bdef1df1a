/- Cross and Clash over the calculator's memory: the reference's. -/
import Derived.Test.YtbhklifflhoinaaGreatCy
import Derived.Test.YtbhklifflhoinaaGreatCz
import Derived.Test.YtbhklifflhoinaaGreatAt
import Derived.Test.YtbhklifflhoinaaGreatSv
namespace Go.Proofs.YtbhklifflhoinaaGreat
open Go.Proofs.YtbhklifflhoinaaGreat.Ev

set_option maxRecDepth 100000 in
set_option maxHeartbeats 4000000 in
theorem rtwo_con (h : Heap) (g : Gd h) (kva kvb : AV) (ka kb : List (Int × Int)) (ea eb : Int) (hka : KnV h kva ka) (hkb : KnV h kvb kb) (hla : ka.length ≤ 1000000) (hlb : kb.length ≤ 1000000) : Con Tryz.prog Bs 63 [.agg [kva, .int .i64 ea], .agg [kvb, .int .i64 eb]] h [] (.int .i64 (chk2 ka ea kb eb)) [] := by
  refine Con.start rfl Tryz.func63 rfl rfl Tryz.ntmps63 rfl rfl g ?_
  (refine WK.seq ?_; refine WK.region ?_; refine St.box fun _ _ => ?_; refine St.box fun _ _ => ?_; refine St.assign ?_; refine WO.nil ?_; refine WK.seq ?_; refine WK.region ?_; refine St.load ?_)
  refine St.call (fun _ => rfl) (fun h hh => rcheck_con h hh.gd kva ka ea (hka.vw hh) (by omega)) ?_
  (refine St.assign ?_; refine WO.nil ?_; refine WK.seq ?_; refine WK.seq ?_; refine WK.region ?_; refine St.move ?_; refine St.bin ?_; refine WO.nil ?_)
  refine St.splitC (fun hc => ?_) (fun hc => ?_)
  · have hne : chk ka ea ≠ 0 := by simpa using hc
    (refine WK.seq ?_; refine WK.region ?_; refine St.move ?_; refine St.assign ?_; refine WO.nil ?_)
    refine St.ret (by first | exact .tmp .nil | exact .cell .nil | exact .cell (.tmp .nil) | exact .tmp (.tmp .nil) | exact .cell (.cell .nil) | exact .tmp (.cell .nil) | exact .nil | exact .tmp (.cell (.tmp .nil)) | exact .cell (.tmp (.tmp .nil)) | exact .cell (.cell (.tmp .nil)) | exact .tmp (.tmp (.tmp .nil)) | exact .cell (.cell (.cell .nil))) ?_
    unfold chk2
    rw [if_neg hne]
    rfl
  · have hz : chk ka ea = 0 := by simpa using hc
    (refine WK.skip ?_; refine WK.seq ?_; refine WK.region ?_; refine St.load ?_)
    refine St.call (fun _ => rfl) (fun h hh => rcheck_con h hh.gd kvb kb eb (hkb.vw hh) (by omega)) ?_
    (refine St.assign ?_; refine WO.nil ?_)
    refine St.ret (by first | exact .tmp .nil | exact .cell .nil | exact .cell (.tmp .nil) | exact .tmp (.tmp .nil) | exact .cell (.cell .nil) | exact .tmp (.cell .nil) | exact .nil | exact .tmp (.cell (.tmp .nil)) | exact .cell (.tmp (.tmp .nil)) | exact .cell (.cell (.tmp .nil)) | exact .tmp (.tmp (.tmp .nil)) | exact .cell (.cell (.cell .nil))) ?_
    unfold chk2
    rw [if_pos hz]
    rfl
set_option maxRecDepth 100000 in
set_option maxHeartbeats 4000000 in
theorem rshared_con (h : Heap) (g : Gd h) (b off : Nat) (c : ACap) (ka : List (Int × Int)) (b2 off2 : Nat) (c2 : ACap) (kb : List (Int × Int)) (ea eb : Int) (hk : KnH h b off ka) (hk2 : KnH h b2 off2 kb) (hna : ka ≠ []) (hnb : kb ≠ []) (hl : ka.length ≤ 1000000000000) (hl2 : kb.length ≤ 1000000000000) : Con Tryz.prog Bs 64 [.agg [.slice b off ka.length c, .int .i64 ea], .agg [.slice b2 off2 kb.length c2, .int .i64 eb]] h [] (.agg [.int .i64 (shLo ka kb), .int .i64 (shHi ka kb)]) [] := by
  refine Con.start rfl Tryz.func64 rfl rfl Tryz.ntmps64 rfl rfl g ?_
  (refine WK.seq ?_; refine WK.region ?_; refine St.box fun _ _ => ?_; refine St.box fun _ _ => ?_; refine St.alloc fun _ _ => ?_; refine WO.nil ?_; refine WK.seq ?_; refine WK.region ?_; refine St.load ?_)
  refine St.call (fun _ => rfl) (fun h hh => rdomain_con h hh.gd b off c ka ea (hk.vw hh) hna hl) ?_
  (refine St.alloc fun _ _ => ?_; refine St.store0 ?_; refine WO.nil ?_; refine WK.seq ?_; refine WK.region ?_; refine St.load ?_)
  refine St.call (fun _ => rfl) (fun h hh => rdomain_con h hh.gd b2 off2 c2 kb eb (hk2.vw hh) hnb hl2) ?_
  (refine St.alloc fun _ _ => ?_; refine St.store0 ?_; refine WO.nil ?_; refine WK.seq ?_; refine WK.region ?_; refine St.fieldAddr ?_; refine St.load ?_; refine St.fieldAddr ?_; refine St.load ?_; refine St.maxI ?_; refine St.fieldAddr ?_; refine St.load ?_; refine St.fieldAddr ?_; refine St.load ?_; refine St.minI ?_; refine St.build ?_; refine St.store2 ?_; refine WO.nil ?_)
  refine St.ret (by first | exact .tmp .nil | exact .cell .nil | exact .cell (.tmp .nil) | exact .tmp (.tmp .nil) | exact .cell (.cell .nil) | exact .tmp (.cell .nil) | exact .nil | exact .tmp (.cell (.tmp .nil)) | exact .cell (.tmp (.tmp .nil)) | exact .cell (.cell (.tmp .nil)) | exact .tmp (.tmp (.tmp .nil)) | exact .cell (.cell (.cell .nil))) ?_
  rfl
set_option maxRecDepth 100000 in
set_option maxHeartbeats 4000000 in
theorem rminus_con (h : Heap) (g : Gd h) (ka kb : List (Int × Int)) (ea eb x : Int) (va : Vd ka ea) (vb : Vd kb eb) (hda : inDom ka x x = true) (hdb : inDom kb x x = true) : Con Tryz.prog Bs 58 [.agg [.int .i64 (valN ka x), .int .i64 (valD ka x)], .agg [.int .i64 (valN kb x), .int .i64 (valD kb x)]] h [] (.agg [.int .i64 (difF ka kb x).1, .int .i64 (difF ka kb x).2]) [] := by
  obtain ⟨a1, a2⟩ := va.dom hda
  obtain ⟨b1, b2⟩ := dif_bd va vb hda hdb
  obtain ⟨b3, b4, b5⟩ := b2
  unfold difN at b1 b3
  unfold difD at b4 b5
  have fa := (va.fr (x := x) (by omega) (by omega)).small
  have fb := (vb.fr (x := x) (by omega) (by omega)).small
  obtain ⟨m1, m2⟩ := fa.mul fb
  obtain ⟨m3, m4⟩ := fb.mul fa
  refine Con.start rfl Tryz.func58 rfl rfl Tryz.ntmps58 rfl rfl g ?_
  (refine WK.seq ?_; refine WK.region ?_; refine St.box fun _ _ => ?_; refine St.box fun _ _ => ?_; refine St.alloc fun _ _ => ?_; refine WO.nil ?_; refine WK.seq ?_; refine WK.region ?_; refine St.fieldAddr ?_; refine St.load ?_; refine St.fieldAddr ?_; refine St.load ?_; refine St.binI ?_; refine St.fieldAddr ?_; refine St.load ?_; refine St.fieldAddr ?_; refine St.load ?_; refine St.binI ?_; refine St.binI ?_; refine St.fieldAddr ?_; refine St.load ?_; refine St.fieldAddr ?_; refine St.load ?_; refine St.binI ?_)
  refine St.call (fun _ => rfl) (fun h hh => rlow_con h hh.gd (difN ka kb x) (difD ka kb x) (by unfold difN; omega) (by unfold difN; omega) (by unfold difD; omega) (by unfold difD; omega)) ?_
  (refine St.store0 ?_; refine WO.nil ?_)
  refine St.ret (by first | exact .tmp .nil | exact .cell .nil | exact .cell (.tmp .nil) | exact .tmp (.tmp .nil) | exact .cell (.cell .nil) | exact .tmp (.cell .nil) | exact .nil | exact .tmp (.cell (.tmp .nil)) | exact .cell (.tmp (.tmp .nil)) | exact .cell (.cell (.tmp .nil)) | exact .tmp (.tmp (.tmp .nil)) | exact .cell (.cell (.cell .nil))) ?_
  rfl
set_option maxRecDepth 100000 in
set_option maxHeartbeats 4000000 in
theorem rmeets_con (h : Heap) (g : Gd h) (b off : Nat) (c : ACap) (ka : List (Int × Int)) (b2 off2 : Nat) (c2 : ACap) (kb : List (Int × Int)) (ea eb x : Int) (va : Vd ka ea) (vb : Vd kb eb) (hk1 : KnH h b off ka) (hk2 : KnH h b2 off2 kb) (hda : inDom ka x x = true) (hdb : inDom kb x x = true) :
    Con Tryz.prog Bs 68 [.agg [.slice b off ka.length c, .int .i64 ea], .agg [.slice b2 off2 kb.length c2, .int .i64 eb], .int .i64 x] h [] (.bool (meetX ka ea kb eb x)) [] := by
  obtain ⟨_, _, d3, d4⟩ := dif_bd va vb hda hdb
  have ea0 := va.e0
  have ea1 := va.e1
  have eb0 := vb.e0
  have eb1 := vb.e1
  obtain ⟨l1, l2⟩ := loD_pos (n := difN ka kb x) d3
  obtain ⟨n1, n2⟩ := isF_small (dif_ok va vb hda hdb)
  have hm := dif_meet (ea := ea) (eb := eb) d3
  obtain ⟨p1, p2⟩ := mul_bd (a := ea + eb) (b := (difF ka kb x).2) (A := 8000) (B := 4194304) (by omega) (by omega) (by unfold difF; simp only; omega) (by unfold difF; simp only; omega)
  refine Con.start rfl Tryz.func68 rfl rfl Tryz.ntmps68 rfl rfl g ?_
  (refine WK.seq ?_; refine WK.region ?_; refine St.box fun _ _ => ?_; refine St.box fun _ _ => ?_; refine St.assign ?_; refine WO.nil ?_; refine WK.seq ?_; refine WK.regionD ?_; refine St.load ?_; refine St.move ?_)
  refine St.call (fun _ => rfl) (fun h hh => rat_con h hh.gd b off c ka ea x (hk1.vw hh) va hda) ?_
  (refine St.load ?_; refine St.move ?_)
  refine St.call (fun _ => rfl) (fun h hh => rat_con h hh.gd b2 off2 c2 kb eb x (hk2.vw hh) vb hdb) ?_
  skip
  refine St.call (fun _ => rfl) (fun h hh => rminus_con h hh.gd ka kb ea eb x va vb hda hdb) ?_
  (refine StD.alloc fun _ _ => ?_; refine StD.storeT ?_; refine WO.nil1 ?_; refine WK.seq ?_; refine WK.region ?_; refine St.fieldAddr ?_; refine St.load ?_; refine St.fieldAddr ?_; refine St.load ?_; refine St.fieldAddr ?_; refine St.load ?_; refine St.binI ?_; refine St.fieldAddr ?_; refine St.load ?_; refine St.binI ?_; refine St.bin ?_; refine St.move ?_)
  refine St.split (fun hc => ?_) (fun hc => ?_)
  · have h1 := of_decide_eq_true hc
    (refine St.fieldAddr ?_; refine St.load ?_; refine St.unI ?_; refine St.fieldAddr ?_; refine St.load ?_; refine St.fieldAddr ?_; refine St.load ?_; refine St.binI ?_; refine St.fieldAddr ?_; refine St.load ?_; refine St.binI ?_; refine St.bin ?_; refine St.pickT ?_; refine St.assign ?_; refine WO.nil ?_)
    refine St.ret (by first | exact .tmp .nil | exact .cell .nil | exact .cell (.tmp .nil) | exact .tmp (.tmp .nil) | exact .cell (.cell .nil) | exact .tmp (.cell .nil) | exact .nil | exact .tmp (.cell (.tmp .nil)) | exact .cell (.tmp (.tmp .nil)) | exact .cell (.cell (.tmp .nil)) | exact .tmp (.tmp (.tmp .nil)) | exact .cell (.cell (.cell .nil))) ?_
    rw [hm, decide_eq_true h1, Int.zero_sub]
    rfl
  · have h1 := of_decide_eq_false hc
    (refine St.skip ?_; refine St.skip ?_; refine St.skip ?_; refine St.skip ?_; refine St.skip ?_; refine St.skip ?_; refine St.skip ?_; refine St.skip ?_; refine St.skip ?_; refine St.skip ?_; refine St.skip ?_; refine St.skip ?_; refine St.pickF ?_; refine St.assign ?_; refine WO.nil ?_)
    refine St.ret (by first | exact .tmp .nil | exact .cell .nil | exact .cell (.tmp .nil) | exact .tmp (.tmp .nil) | exact .cell (.cell .nil) | exact .tmp (.cell .nil) | exact .nil | exact .tmp (.cell (.tmp .nil)) | exact .cell (.tmp (.tmp .nil)) | exact .cell (.cell (.tmp .nil)) | exact .tmp (.tmp (.tmp .nil)) | exact .cell (.cell (.cell .nil))) ?_
    rw [hm, decide_eq_false h1]
    rfl
set_option maxRecDepth 100000 in
set_option maxHeartbeats 8000000 in
theorem clashRef_con (h : Heap) (g : Gd h) (kva kvb : AV) (ka kb : List (Int × Int)) (ea eb : Int) (hka : KnV h kva ka) (hkb : KnV h kvb kb) (hla : ka.length ≤ 1000000) (hlb : kb.length ≤ 1000000) :
    Con Tryz.prog Bs 20 [.agg [kva, .int .i64 ea], .agg [kvb, .int .i64 eb]] h [] (.agg [.int .i64 (clashA ka ea kb eb).1, .bool (clashA ka ea kb eb).2, .int .i64 (chk2 ka ea kb eb)]) [] := by
  by_cases e0 : chk2 ka ea kb eb = 0
  rotate_left
  · refine Con.start rfl Tryz.func20 rfl rfl Tryz.ntmps20 rfl rfl g ?_
    (refine WK.seq ?_; refine WK.region ?_; refine St.box fun _ _ => ?_; refine St.box fun _ _ => ?_; refine St.alloc fun _ _ => ?_; refine WO.nil ?_; refine WK.seq ?_; refine WK.region ?_; refine St.load ?_; refine St.load ?_)
    refine St.call (fun _ => rfl) (fun h2 hh => rtwo_con h2 hh.gd kva kvb ka kb ea eb (hka.vw hh) (hkb.vw hh) hla hlb) ?_
    (refine St.assign ?_; refine WO.nil ?_; refine WK.seq ?_; refine WK.seq ?_; refine WK.region ?_; refine St.move ?_; refine St.bin ?_; refine WO.nil ?_)
    refine St.splitC (fun hc => ?_) (fun hc => ?_)
    · (refine WK.seq ?_; refine WK.region ?_; refine St.move ?_; refine St.build ?_; refine St.store0 ?_; refine WO.nil ?_)
      refine St.ret (by first | exact .tmp .nil | exact .cell .nil | exact .cell (.tmp .nil) | exact .tmp (.tmp .nil) | exact .cell (.cell .nil) | exact .tmp (.cell .nil) | exact .nil | exact .tmp (.cell (.tmp .nil)) | exact .cell (.tmp (.tmp .nil)) | exact .cell (.cell (.tmp .nil)) | exact .tmp (.tmp (.tmp .nil)) | exact .cell (.cell (.cell .nil))) ?_
      unfold clashA
      rw [if_neg e0]
      rfl
    · simp at hc; exact absurd hc e0
  obtain ⟨h1, h2⟩ := chk2_zero e0
  have va := vd_of_chk h1
  have vb := vd_of_chk h2
  obtain ⟨b, off, c, rfl, hk1⟩ := hka.ne va.ne
  obtain ⟨b2, off2, c2, rfl, hk2⟩ := hkb.ne vb.ne
  have hA : clashA ka ea kb eb = clashK ka ea kb eb := by unfold clashA; rw [if_pos e0]
  rw [hA]
  refine Con.start rfl Tryz.func20 rfl rfl Tryz.ntmps20 rfl rfl g ?_
  (refine WK.seq ?_; refine WK.region ?_; refine St.box fun _ _ => ?_; refine St.box fun _ _ => ?_; refine St.alloc fun _ _ => ?_; refine WO.nil ?_; refine WK.seq ?_; refine WK.region ?_; refine St.load ?_; refine St.load ?_)
  refine St.call (fun _ => rfl) (fun h2 hh => rtwo_con h2 hh.gd _ _ ka kb ea eb (hka.vw hh) (hkb.vw hh) hla hlb) ?_
  rw [e0]
  (refine St.assign ?_; refine WO.nil ?_; refine WK.seq ?_; refine WK.seq ?_; refine WK.region ?_; refine St.move ?_; refine St.bin ?_; refine WO.nil ?_; refine WK.condF ?_; refine WK.skip ?_; refine WK.seq ?_; refine WK.region ?_; refine St.load ?_; refine St.load ?_)
  refine St.call (fun _ => rfl) (fun h2 hh => rshared_con h2 hh.gd b off c ka b2 off2 c2 kb ea eb (hk1.vw hh) (hk2.vw hh) va.ne vb.ne (by omega) (by omega)) ?_
  (refine St.alloc fun _ _ => ?_; refine St.store0 ?_; refine WO.nil ?_; refine WK.seq ?_; refine WK.seq ?_; refine WK.region ?_; refine St.fieldAddr ?_; refine St.load ?_; refine St.assign ?_; refine WO.nil ?_; refine WK.block ?_)
  rename_i p2 hp2 p3 hp3 p4 hp4 p6 hp6
  refine WK.inv (ι := Int) (fun z => [(2, .ptr p2 0), (3, .ptr p3 0), (4, .ptr p4 0), (6, .ptr p6 0), (7, .int .i64 z)]) (fun _ => [(p6, .cells [.int .i64 (shLo ka kb), .int .i64 (shHi ka kb)] 27), (p4, .cells [.int .i64 0, .bool false, .int .i64 0] 57), (p3, .cells [.slice b2 off2 kb.length c2, .int .i64 eb] 24), (p2, .cells [.slice b off ka.length c, .int .i64 ea] 24)])
    (fun z => shLo ka kb ≤ z ∧ (z ≤ shHi ka kb + 1 ∨ z = shLo ka kb) ∧ ∀ y, shLo ka kb ≤ y → y < z → meetX ka ea kb eb y = true) (fun z => (shHi ka kb + 1 - z).toNat) (shLo ka kb) ⟨Int.le_refl _, .inr rfl, fun y a b => by omega⟩ ⟨rfl, rfl, rfl, rfl, rfl, trivial⟩ (by (repeat (first | exact List.Sublist.refl _ | exact List.nil_sublist _ | apply List.Sublist.cons_cons | apply List.Sublist.cons))) ?_
  rintro z ⟨z1, z2, hz⟩ ih
  (refine WK.seq ?_; refine WK.seq ?_; refine WK.region ?_; refine St.move ?_; refine St.fieldAddr ?_; refine St.load ?_; refine St.bin ?_; refine WO.nil ?_)
  refine St.splitC (fun hc => ?_) (fun hc => ?_)
  · have hx : z ≤ shHi ka kb := by simpa using hc
    have hda : inDom ka z z = true := by
      unfold shLo at z1
      unfold shHi at hx
      simp only [inDom, Bool.and_eq_true, decide_eq_true_eq]
      omega
    have hdb : inDom kb z z = true := by
      unfold shLo at z1
      unfold shHi at hx
      simp only [inDom, Bool.and_eq_true, decide_eq_true_eq]
      omega
    obtain ⟨x0, x1⟩ := va.dom hda
    (refine WK.skip ?_; refine WK.seq ?_; refine WK.block ?_; refine WK.seq ?_; refine WK.region ?_; refine St.load ?_; refine St.load ?_; refine St.move ?_)
    refine St.call (fun _ => rfl) (fun h hh => rmeets_con h hh.gd b off c ka b2 off2 c2 kb ea eb z va vb (hk1.vw hh) (hk2.vw hh) hda hdb) ?_
    (refine St.un ?_; refine WO.nil ?_)
    refine St.splitC (fun hc2 => ?_) (fun hc2 => ?_)
    · have hm : meetX ka ea kb eb z = false := by simpa using hc2
      have hcl : clashK ka ea kb eb = (z, true) := clR_some z1 hx hm hz
      (refine WK.seq ?_; refine WK.region ?_; refine St.move ?_; refine St.build ?_; refine St.store1 ?_; refine WO.nil ?_)
      refine St.ret (by first | exact .tmp .nil | exact .cell .nil | exact .cell (.tmp .nil) | exact .tmp (.tmp .nil) | exact .cell (.cell .nil) | exact .tmp (.cell .nil) | exact .nil | exact .tmp (.cell (.tmp .nil)) | exact .cell (.tmp (.tmp .nil)) | exact .cell (.cell (.tmp .nil)) | exact .tmp (.tmp (.tmp .nil)) | exact .cell (.cell (.cell .nil))) ?_
      rw [hcl]
      rfl
    · have hm : meetX ka ea kb eb z = true := by simpa using hc2
      (refine WK.skip ?_; refine WK.blk ?_; refine WK.region ?_; refine St.move ?_; refine St.binI ?_; refine St.assign ?_; refine WO.nil ?_)
      refine WK.le ?_ (by (repeat (first | exact List.Sublist.refl _ | exact List.nil_sublist _ | apply List.Sublist.cons_cons | apply List.Sublist.cons))) (ih (z + 1) ⟨by omega, by omega, fun y a b => ?_⟩ (by omega))
      · exact ⟨rfl, rfl, rfl, rfl, rfl, trivial⟩
      · by_cases ey : y = z
        · rw [ey]; exact hm
        · exact hz y a (by omega)
  · have hx : ¬ z ≤ shHi ka kb := by simpa using hc
    have hcl : clashK ka ea kb eb = (0, false) := clR_none fun y a b => hz y a (by omega)
    (refine WK.exit ?_; refine WK.seq ?_; refine WK.region ?_; refine St.build ?_; refine St.store1 ?_; refine WO.nil ?_)
    refine St.ret (by first | exact .tmp .nil | exact .cell .nil | exact .cell (.tmp .nil) | exact .tmp (.tmp .nil) | exact .cell (.cell .nil) | exact .tmp (.cell .nil) | exact .nil | exact .tmp (.cell (.tmp .nil)) | exact .cell (.tmp (.tmp .nil)) | exact .cell (.cell (.tmp .nil)) | exact .tmp (.tmp (.tmp .nil)) | exact .cell (.cell (.cell .nil))) ?_
    rw [hcl]
    rfl
set_option maxRecDepth 100000 in
set_option maxHeartbeats 16000000 in
theorem crossRef_con (h : Heap) (g : Gd h) (kva kvb : AV) (ka kb : List (Int × Int)) (ea eb : Int) (hka : KnV h kva ka) (hkb : KnV h kvb kb) (hla : ka.length ≤ 1000000) (hlb : kb.length ≤ 1000000) :
    ∃ v L, Con Tryz.prog Bs 18 [.agg [kva, .int .i64 ea], .agg [kvb, .int .i64 eb]] h [] v L ∧ ∃ w, IsSp (if chk2 ka ea kb eb = 0 then crossL ka kb else []) w L ∧ v = .agg [w, .int .i64 (chk2 ka ea kb eb)] := by
  by_cases e0 : chk2 ka ea kb eb = 0
  rotate_left
  · refine Con.subR (Con.startR rfl Tryz.func18 rfl rfl Tryz.ntmps18 rfl rfl (SS.init g) ?_)
    (refine WK.seq ?_; refine WK.region ?_; refine St.box fun _ _ => ?_; refine St.box fun _ _ => ?_; refine St.alloc fun _ _ => ?_; refine WO.nil ?_; refine WK.seq ?_; refine WK.region ?_; refine St.load ?_; refine St.load ?_)
    refine St.call (fun _ => rfl) (fun h2 hh => rtwo_con h2 hh.gd kva kvb ka kb ea eb (hka.vw hh) (hkb.vw hh) hla hlb) ?_
    (refine St.assign ?_; refine WO.nil ?_; refine WK.seq ?_; refine WK.seq ?_; refine WK.region ?_; refine St.move ?_; refine St.bin ?_; refine WO.nil ?_)
    refine St.splitC (fun hc => ?_) (fun hc => ?_)
    · (refine WK.seq ?_; refine WK.region ?_; refine St.move ?_; refine St.build ?_; refine St.store0 ?_; refine WO.nil ?_)
      refine St.ret (by first | exact .tmp .nil | exact .cell .nil | exact .cell (.tmp .nil) | exact .tmp (.tmp .nil) | exact .cell (.cell .nil) | exact .tmp (.cell .nil) | exact .nil | exact .tmp (.cell (.tmp .nil)) | exact .cell (.tmp (.tmp .nil)) | exact .cell (.cell (.tmp .nil)) | exact .tmp (.tmp (.tmp .nil)) | exact .cell (.cell (.cell .nil))) ?_
      rw [if_neg e0]
      exact ⟨[], List.nil_sublist _, .slice0, .nil rfl rfl, rfl⟩
    · simp at hc; exact absurd hc e0
  obtain ⟨h1, h2⟩ := chk2_zero e0
  have va := vd_of_chk h1
  have vb := vd_of_chk h2
  obtain ⟨b, off, c, rfl, hk1⟩ := hka.ne va.ne
  obtain ⟨b2, off2, c2, rfl, hk2⟩ := hkb.ne vb.ne
  refine Con.subR (Con.startR rfl Tryz.func18 rfl rfl Tryz.ntmps18 rfl rfl (SS.init g) ?_)
  (refine WK.seq ?_; refine WK.region ?_; refine St.box fun _ _ => ?_; refine St.box fun _ _ => ?_; refine St.alloc fun _ _ => ?_; refine WO.nil ?_; refine WK.seq ?_; refine WK.region ?_; refine St.load ?_; refine St.load ?_)
  refine St.call (fun _ => rfl) (fun h2 hh => rtwo_con h2 hh.gd _ _ ka kb ea eb (hka.vw hh) (hkb.vw hh) hla hlb) ?_
  rw [if_pos e0, e0]
  (refine St.assign ?_; refine WO.nil ?_; refine WK.seq ?_; refine WK.seq ?_; refine WK.region ?_; refine St.move ?_; refine St.bin ?_; refine WO.nil ?_; refine WK.condF ?_; refine WK.skip ?_; refine WK.seq ?_; refine WK.region ?_; refine St.load ?_; refine St.load ?_)
  refine St.call (fun _ => rfl) (fun h2 hh => rshared_con h2 hh.gd b off c ka b2 off2 c2 kb ea eb (hk1.vw hh) (hk2.vw hh) va.ne vb.ne (by omega) (by omega)) ?_
  (refine St.alloc fun _ _ => ?_; refine St.store0 ?_; refine WO.nil ?_; refine WK.seq ?_; refine WK.region ?_; refine St.assign ?_; refine WO.nil ?_; refine WK.seq ?_; refine WK.seq ?_; refine WK.region ?_; refine St.fieldAddr ?_; refine St.load ?_; refine St.assign ?_; refine WO.nil ?_; refine WK.block ?_)
  rename_i p2 hp2 p3 hp3 p4 hp4 p6 hp6
  have hlo : 0 ≤ shLo ka kb ∧ shLo ka kb ≤ 2000 ∧ 0 ≤ shHi ka kb ∧ shHi ka kb ≤ 2000 := by
    have := va.kx0 va.pos
    have := vb.kx0 vb.pos
    have := va.kx1 va.pos
    have := vb.kx1 vb.pos
    have q1 := va.pos
    have q2 := vb.pos
    have := va.kx1 (i := ka.length - 1) (by omega)
    have := vb.kx1 (i := kb.length - 1) (by omega)
    have := va.kx0 (i := ka.length - 1) (by omega)
    have := vb.kx0 (i := kb.length - 1) (by omega)
    unfold shLo shHi
    rw [dLo_kx, dLo_kx, dHi_kx, dHi_kx]
    omega
  refine WK.inv (ι := Nat × AV × Ob) (fun z => [(2, .ptr p2 0), (3, .ptr p3 0), (4, .ptr p4 0), (6, .ptr p6 0), (7, z.2.1), (8, .int .i64 (shLo ka kb + z.1))]) (fun z => (p6, .cells [.int .i64 (shLo ka kb), .int .i64 (shHi ka kb)] 27) :: (p4, .cells [.slice0, .int .i64 0] 52) :: (p3, .cells [.slice b2 off2 kb.length c2, .int .i64 eb] 24) :: (p2, .cells [.slice b off ka.length c, .int .i64 ea] 24) :: z.2.2)
    (fun z => (shLo ka kb + z.1 ≤ shHi ka kb + 1 ∨ z.1 = 0) ∧ IsSp (crTo (sgX ka kb) (shLo ka kb) z.1) z.2.1 z.2.2) (fun z => (shHi ka kb + 1 - (shLo ka kb + z.1)).toNat) (0, .slice0, []) ⟨.inr rfl, .nil rfl rfl⟩ ⟨rfl, rfl, rfl, rfl, rfl, congrArg (fun z => some (AV.int .i64 z)) (by simp), trivial⟩ (by (repeat (first | exact List.Sublist.refl _ | exact List.nil_sublist _ | apply List.Sublist.cons_cons | apply List.Sublist.cons))) ?_
  rintro ⟨n, w, Lv⟩ ⟨hn2, hw1⟩ ih
  simp only at hn2 hw1 ih ⊢
  (refine WK.seq ?_; refine WK.seq ?_; refine WK.region ?_; refine St.move ?_; refine St.fieldAddr ?_; refine St.load ?_; refine St.bin ?_; refine WO.nil ?_)
  refine St.splitC (fun hc => ?_) (fun hc => ?_)
  · have hx : shLo ka kb + n ≤ shHi ka kb := by simpa using hc
    have hdom : ∀ z, shLo ka kb ≤ z → z ≤ shHi ka kb → inDom ka z z = true ∧ inDom kb z z = true := fun z z1 z2 => by
      unfold shLo at z1
      unfold shHi at z2
      simp only [inDom, Bool.and_eq_true, decide_eq_true_eq]
      omega
    have hcl := crTo_len (sg := sgX ka kb) (lo := shLo ka kb) n
    obtain ⟨hda, hdb⟩ := hdom (shLo ka kb + n) (by omega) hx
    refine WK.skip ?_
    refine WK.seq ?_
    refine WK.cut (ι := {z : AV × Ob // IsSp (crTo (sgX ka kb) (shLo ka kb) (n + 1)) z.1 z.2}) (fun z => [(2, .ptr p2 0), (3, .ptr p3 0), (4, .ptr p4 0), (6, .ptr p6 0), (7, z.1.1), (8, .int .i64 (shLo ka kb + n))]) (fun z => (p6, .cells [.int .i64 (shLo ka kb), .int .i64 (shHi ka kb)] 27) :: (p4, .cells [.slice0, .int .i64 0] 52) :: (p3, .cells [.slice b2 off2 kb.length c2, .int .i64 eb] 24) :: (p2, .cells [.slice b off ka.length c, .int .i64 ea] 24) :: z.1.2) (fun z => ?_) (fun K' leave => ?_)
    · obtain ⟨⟨w3, Lv3⟩, hw3⟩ := z
      simp only at hw3 ⊢
      (refine WK.region ?_; refine St.move ?_; refine St.binI ?_; refine St.assign ?_; refine WO.nil ?_)
      refine WK.le ?_ (by (repeat (first | exact List.Sublist.refl _ | exact List.nil_sublist _ | apply List.Sublist.cons_cons | apply List.Sublist.cons))) (ih (n + 1, w3, Lv3) ⟨by simp only; omega, hw3⟩ (by simp only; omega))
      exact ⟨rfl, rfl, rfl, rfl, rfl, congrArg (fun z => some (AV.int .i64 z)) (by simp only; omega), trivial⟩
    · obtain ⟨sx, hsx⟩ : ∃ sx, sgX ka kb (shLo ka kb + n) = sx := ⟨_, rfl⟩
      obtain ⟨bf, hbf⟩ : ∃ bf, bef (sgX ka kb) (shLo ka kb) n = bf := ⟨_, rfl⟩
      have hsv := sgX_vals ka kb (shLo ka kb + n)
      have hbv := bef_vals ka kb (shLo ka kb) n
      rw [hsx] at hsv
      rw [hbf] at hbv
      have fr : ∀ z, 0 ≤ z → z ≤ 2000 → Small (valN ka z) (valD ka z) ∧ Small (valN kb z) (valD kb z) := fun z z0 z1 => ⟨(va.fr (x := z) (by omega) (by omega)).small, (vb.fr (x := z) (by omega) (by omega)).small⟩
      obtain ⟨f1, f2⟩ := fr (shLo ka kb + n) (by omega) (by omega)
      (refine WK.block ?_; refine WK.seq ?_; refine WK.regionD ?_; refine St.load ?_; refine St.move ?_)
      refine St.call (fun _ => rfl) (fun h hh => rat_con h hh.gd b off c ka ea (shLo ka kb + n) (hk1.vw hh) va hda) ?_
      (refine St.load ?_; refine St.move ?_)
      refine St.call (fun _ => rfl) (fun h hh => rat_con h hh.gd b2 off2 c2 kb eb (shLo ka kb + n) (hk2.vw hh) vb hdb) ?_
      skip
      refine St.call (v := .int .i64 sx) (fun _ => rfl) (fun h hh => by
        have := rorder_con h hh.gd _ _ _ _ f1 f2
        rw [show ordF (valN ka (shLo ka kb + n)) (valD ka (shLo ka kb + n)) (valN kb (shLo ka kb + n)) (valD kb (shLo ka kb + n)) = sx from hsx] at this
        exact this) ?_
      (refine St.assign ?_; refine WO.nil ?_; refine WK.seq ?_; refine WK.region ?_; refine St.assign ?_; refine WO.nil ?_; refine WK.seq ?_; refine WK.seq ?_; refine WK.region ?_; refine St.move ?_; refine St.fieldAddr ?_; refine St.load ?_; refine St.bin ?_; refine WO.nil ?_)
      refine St.splitC (fun hc => ?_) (fun hc => ?_)
      · have hn : n ≠ 0 := by have := of_decide_eq_true hc; omega
        have hbs : sgX ka kb (shLo ka kb + n - 1) = bf := by unfold bef at hbf; rw [if_neg hn] at hbf; exact hbf
        obtain ⟨hda1, hdb1⟩ := hdom (shLo ka kb + n - 1) (by omega) (by omega)
        obtain ⟨f3, f4⟩ := fr (shLo ka kb + n - 1) (by omega) (by omega)
        (refine WK.regionD ?_; refine St.load ?_; refine St.move ?_; refine St.binI ?_)
        refine St.call (fun _ => rfl) (fun h hh => rat_con h hh.gd b off c ka ea (shLo ka kb + n - 1) (hk1.vw hh) va hda1) ?_
        (refine St.load ?_; refine St.move ?_; refine St.binI ?_)
        refine St.call (fun _ => rfl) (fun h hh => rat_con h hh.gd b2 off2 c2 kb eb (shLo ka kb + n - 1) (hk2.vw hh) vb hdb1) ?_
        skip
        refine St.call (v := .int .i64 bf) (fun _ => rfl) (fun h hh => by
          have := rorder_con h hh.gd _ _ _ _ f3 f4
          rw [show ordF (valN ka (shLo ka kb + n - 1)) (valD ka (shLo ka kb + n - 1)) (valN kb (shLo ka kb + n - 1)) (valD kb (shLo ka kb + n - 1)) = bf from hbs] at this
          exact this) ?_
        rcases hsv with rfl | rfl | rfl <;> rcases hbv with rfl | rfl | rfl
        · have hD := crD hsx hbf (by omega) (by omega)
          (refine St.assign ?_; refine WO.nil ?_; refine WK.seq ?_; refine WK.seq ?_; refine WK.region ?_; refine St.move ?_; refine St.bin ?_; refine St.move ?_; refine St.skip ?_; refine St.skip ?_; refine St.pickF ?_; refine WO.nil ?_; refine WK.condF ?_; refine WK.skip ?_; refine WK.seq ?_; refine WK.seq ?_; refine WK.region ?_; refine St.move ?_; refine St.bin ?_; refine St.move ?_; refine St.skip ?_; refine St.skip ?_; refine St.pickF ?_; refine WO.nil ?_; refine WK.condF ?_; refine WK.skip ?_; refine WK.seq ?_; refine WK.region ?_; refine St.move ?_; refine St.move ?_; refine St.binI ?_; refine St.bin ?_; refine WO.nil ?_; refine WK.condF ?_; refine WK.skip ?_; refine WK.blk ?_)
          refine WK.le ?_ (by (repeat (first | exact List.Sublist.refl _ | exact List.nil_sublist _ | apply List.Sublist.cons_cons | apply List.Sublist.cons))) (leave ⟨(w, Lv), by rw [hD]; exact hw1⟩)
          exact ⟨rfl, rfl, rfl, rfl, rfl, rfl, trivial⟩
        · have hD := crD hsx hbf (by omega) (by omega)
          (refine St.assign ?_; refine WO.nil ?_; refine WK.seq ?_; refine WK.seq ?_; refine WK.region ?_; refine St.move ?_; refine St.bin ?_; refine St.move ?_; refine St.skip ?_; refine St.skip ?_; refine St.pickF ?_; refine WO.nil ?_; refine WK.condF ?_; refine WK.skip ?_; refine WK.seq ?_; refine WK.seq ?_; refine WK.region ?_; refine St.move ?_; refine St.bin ?_; refine St.move ?_; refine St.skip ?_; refine St.skip ?_; refine St.pickF ?_; refine WO.nil ?_; refine WK.condF ?_; refine WK.skip ?_; refine WK.seq ?_; refine WK.region ?_; refine St.move ?_; refine St.move ?_; refine St.binI ?_; refine St.bin ?_; refine WO.nil ?_; refine WK.condF ?_; refine WK.skip ?_; refine WK.blk ?_)
          refine WK.le ?_ (by (repeat (first | exact List.Sublist.refl _ | exact List.nil_sublist _ | apply List.Sublist.cons_cons | apply List.Sublist.cons))) (leave ⟨(w, Lv), by rw [hD]; exact hw1⟩)
          exact ⟨rfl, rfl, rfl, rfl, rfl, rfl, trivial⟩
        · have hB := crC hsx hbf (by omega) (by omega)
          (refine St.assign ?_; refine WO.nil ?_; refine WK.seq ?_; refine WK.seq ?_; refine WK.region ?_; refine St.move ?_; refine St.bin ?_; refine St.move ?_; refine St.skip ?_; refine St.skip ?_; refine St.pickF ?_; refine WO.nil ?_; refine WK.condF ?_; refine WK.skip ?_; refine WK.seq ?_; refine WK.seq ?_; refine WK.region ?_; refine St.move ?_; refine St.bin ?_; refine St.move ?_; refine St.skip ?_; refine St.skip ?_; refine St.pickF ?_; refine WO.nil ?_; refine WK.condF ?_; refine WK.skip ?_; refine WK.seq ?_; refine WK.region ?_; refine St.move ?_; refine St.move ?_; refine St.binI ?_; refine St.bin ?_; refine WO.nil ?_; refine WK.condT ?_; refine WK.region ?_; refine St.move ?_; refine St.move ?_; refine St.binI ?_; refine St.move ?_; refine St.build ?_; refine St.mkS fun _ _ => ?_)
          rename_i i2 hi2
          refine St.appL (new := [.int .i64 (shLo ka kb + n - 1), .int .i64 (shLo ka kb + n)]) (Lk := [(i2, .cells [.int .i64 (shLo ka kb + n - 1), .int .i64 (shLo ka kb + n)] 27), (p6, .cells [.int .i64 (shLo ka kb), .int .i64 (shHi ka kb)] 27), (p4, .cells [.slice0, .int .i64 0] 52), (p3, .cells [.slice b2 off2 kb.length c2, .int .i64 eb] 24), (p2, .cells [.slice b off ka.length c, .int .i64 ea] 24)]) hw1 List.perm_append_comm (fun w3 Lv3 hw3 => ?_) ⟨rfl, rfl, rfl, rfl, rfl, rfl, rfl, rfl, rfl, rfl, rfl, rfl⟩ (List.Mem.head _) rfl (by omega) (by omega)
          refine WO.permF (L' := [(i2, .cells [.int .i64 (shLo ka kb + n - 1), .int .i64 (shLo ka kb + n)] 27), (p6, .cells [.int .i64 (shLo ka kb), .int .i64 (shHi ka kb)] 27), (p4, .cells [.slice0, .int .i64 0] 52), (p3, .cells [.slice b2 off2 kb.length c2, .int .i64 eb] 24), (p2, .cells [.slice b off ka.length c, .int .i64 ea] 24)] ++ Lv3) List.perm_append_comm ?_
          have hw4 : IsSp (crTo (sgX ka kb) (shLo ka kb) (n + 1)) w3 Lv3 := by
            rw [hB]
            unfold IsSp
            rw [flatA_snoc, List.length_append]
            exact hw3
          (refine St.assign ?_; refine WO.nil ?_; refine WK.blk ?_)
          refine WK.le ?_ (by (repeat (first | exact List.Sublist.refl _ | exact List.nil_sublist _ | apply List.Sublist.cons_cons | apply List.Sublist.cons))) (leave ⟨(w3, Lv3), hw4⟩)
          exact ⟨rfl, rfl, rfl, rfl, rfl, rfl, trivial⟩
        · have hB := crB hsx hbf (by omega)
          (refine St.assign ?_; refine WO.nil ?_; refine WK.seq ?_; refine WK.seq ?_; refine WK.region ?_; refine St.move ?_; refine St.bin ?_; refine St.move ?_; refine St.move ?_; refine St.bin ?_; refine St.pickT ?_; refine WO.nil ?_; refine WK.condF ?_; refine WK.skip ?_; refine WK.seq ?_; refine WK.seq ?_; refine WK.region ?_; refine St.move ?_; refine St.bin ?_; refine St.move ?_; refine St.move ?_; refine St.bin ?_; refine St.pickT ?_; refine WO.nil ?_; refine WK.condT ?_; refine WK.region ?_; refine St.move ?_; refine St.move ?_; refine St.move ?_; refine St.build ?_; refine St.mkS fun _ _ => ?_)
          rename_i i2 hi2
          refine St.appL (new := [.int .i64 (shLo ka kb + n), .int .i64 (shLo ka kb + n)]) (Lk := [(i2, .cells [.int .i64 (shLo ka kb + n), .int .i64 (shLo ka kb + n)] 27), (p6, .cells [.int .i64 (shLo ka kb), .int .i64 (shHi ka kb)] 27), (p4, .cells [.slice0, .int .i64 0] 52), (p3, .cells [.slice b2 off2 kb.length c2, .int .i64 eb] 24), (p2, .cells [.slice b off ka.length c, .int .i64 ea] 24)]) hw1 List.perm_append_comm (fun w3 Lv3 hw3 => ?_) ⟨rfl, rfl, rfl, rfl, rfl, rfl, rfl, rfl, rfl, rfl, rfl, rfl⟩ (List.Mem.head _) rfl (by omega) (by omega)
          refine WO.permF (L' := [(i2, .cells [.int .i64 (shLo ka kb + n), .int .i64 (shLo ka kb + n)] 27), (p6, .cells [.int .i64 (shLo ka kb), .int .i64 (shHi ka kb)] 27), (p4, .cells [.slice0, .int .i64 0] 52), (p3, .cells [.slice b2 off2 kb.length c2, .int .i64 eb] 24), (p2, .cells [.slice b off ka.length c, .int .i64 ea] 24)] ++ Lv3) List.perm_append_comm ?_
          have hw4 : IsSp (crTo (sgX ka kb) (shLo ka kb) (n + 1)) w3 Lv3 := by
            rw [hB]
            unfold IsSp
            rw [flatA_snoc, List.length_append]
            exact hw3
          (refine St.assign ?_; refine WO.nil ?_; refine WK.seq ?_; refine WK.region ?_; refine St.move ?_; refine St.move ?_; refine St.binI ?_; refine St.bin ?_; refine WO.nil ?_; refine WK.condF ?_; refine WK.skip ?_; refine WK.blk ?_)
          refine WK.le ?_ (by (repeat (first | exact List.Sublist.refl _ | exact List.nil_sublist _ | apply List.Sublist.cons_cons | apply List.Sublist.cons))) (leave ⟨(w3, Lv3), hw4⟩)
          exact ⟨rfl, rfl, rfl, rfl, rfl, rfl, trivial⟩
        · have hpos : 0 < (crTo (sgX ka kb) (shLo ka kb) n).length := crTo_pos hn (by unfold bef at hbf; rw [if_neg hn] at hbf; exact hbf)
          have hA := crA hsx hbf hn
          obtain ⟨i, c3, o, o', rfl, rfl, hst, hw5⟩ := IsL.setAt (off := 0 + (((crTo (sgX ka kb) (shLo ka kb) n).length : Int) - 1).toNat * 2 + 1) hw1 (by rw [flatA_len]; omega) (x := .int .i64 (shLo ka kb + n)) rfl rfl
          have hw4 : IsSp (crTo (sgX ka kb) (shLo ka kb) (n + 1)) (.slice i 0 (crTo (sgX ka kb) (shLo ka kb) n).length c3) [(i, o')] := by
            rw [hA]
            unfold IsSp
            rw [← flat_setHi _ hpos]
            rw [show 0 + (((crTo (sgX ka kb) (shLo ka kb) n).length : Int) - 1).toNat * 2 + 1 = ((crTo (sgX ka kb) (shLo ka kb) n).length - 1) * 2 + 1 by omega] at hw5
            simpa [setHi] using hw5
          (refine St.assign ?_; refine WO.nil ?_; refine WK.seq ?_; refine WK.seq ?_; refine WK.region ?_; refine St.move ?_; refine St.bin ?_; refine St.move ?_; refine St.move ?_; refine St.bin ?_; refine St.pickT ?_; refine WO.nil ?_; refine WK.condT ?_; refine WK.region ?_; refine St.move ?_; refine St.move ?_; refine St.len ?_; refine St.binI ?_; refine St.move ?_)
          refine St.at ?_
          (refine St.fieldAddr ?_)
          refine St.store4 ?_ rfl rfl rfl rfl (hst _ rfl)
          (refine WO.nil ?_; refine WK.seq ?_; refine WK.seq ?_; refine WK.region ?_; refine St.move ?_; refine St.bin ?_; refine St.move ?_; refine St.move ?_; refine St.bin ?_; refine St.pickT ?_; refine WO.nil ?_; refine WK.condF ?_; refine WK.skip ?_; refine WK.seq ?_; refine WK.region ?_; refine St.move ?_; refine St.move ?_; refine St.binI ?_; refine St.bin ?_; refine WO.nil ?_; refine WK.condF ?_; refine WK.skip ?_; refine WK.blk ?_)
          refine WK.le ?_ (by (repeat (first | exact List.Sublist.refl _ | exact List.nil_sublist _ | apply List.Sublist.cons_cons | apply List.Sublist.cons))) (leave ⟨(_, _), hw4⟩)
          exact ⟨rfl, rfl, rfl, rfl, rfl, rfl, trivial⟩
        · have hB := crB hsx hbf (by omega)
          (refine St.assign ?_; refine WO.nil ?_; refine WK.seq ?_; refine WK.seq ?_; refine WK.region ?_; refine St.move ?_; refine St.bin ?_; refine St.move ?_; refine St.move ?_; refine St.bin ?_; refine St.pickT ?_; refine WO.nil ?_; refine WK.condF ?_; refine WK.skip ?_; refine WK.seq ?_; refine WK.seq ?_; refine WK.region ?_; refine St.move ?_; refine St.bin ?_; refine St.move ?_; refine St.move ?_; refine St.bin ?_; refine St.pickT ?_; refine WO.nil ?_; refine WK.condT ?_; refine WK.region ?_; refine St.move ?_; refine St.move ?_; refine St.move ?_; refine St.build ?_; refine St.mkS fun _ _ => ?_)
          rename_i i2 hi2
          refine St.appL (new := [.int .i64 (shLo ka kb + n), .int .i64 (shLo ka kb + n)]) (Lk := [(i2, .cells [.int .i64 (shLo ka kb + n), .int .i64 (shLo ka kb + n)] 27), (p6, .cells [.int .i64 (shLo ka kb), .int .i64 (shHi ka kb)] 27), (p4, .cells [.slice0, .int .i64 0] 52), (p3, .cells [.slice b2 off2 kb.length c2, .int .i64 eb] 24), (p2, .cells [.slice b off ka.length c, .int .i64 ea] 24)]) hw1 List.perm_append_comm (fun w3 Lv3 hw3 => ?_) ⟨rfl, rfl, rfl, rfl, rfl, rfl, rfl, rfl, rfl, rfl, rfl, rfl⟩ (List.Mem.head _) rfl (by omega) (by omega)
          refine WO.permF (L' := [(i2, .cells [.int .i64 (shLo ka kb + n), .int .i64 (shLo ka kb + n)] 27), (p6, .cells [.int .i64 (shLo ka kb), .int .i64 (shHi ka kb)] 27), (p4, .cells [.slice0, .int .i64 0] 52), (p3, .cells [.slice b2 off2 kb.length c2, .int .i64 eb] 24), (p2, .cells [.slice b off ka.length c, .int .i64 ea] 24)] ++ Lv3) List.perm_append_comm ?_
          have hw4 : IsSp (crTo (sgX ka kb) (shLo ka kb) (n + 1)) w3 Lv3 := by
            rw [hB]
            unfold IsSp
            rw [flatA_snoc, List.length_append]
            exact hw3
          (refine St.assign ?_; refine WO.nil ?_; refine WK.seq ?_; refine WK.region ?_; refine St.move ?_; refine St.move ?_; refine St.binI ?_; refine St.bin ?_; refine WO.nil ?_; refine WK.condF ?_; refine WK.skip ?_; refine WK.blk ?_)
          refine WK.le ?_ (by (repeat (first | exact List.Sublist.refl _ | exact List.nil_sublist _ | apply List.Sublist.cons_cons | apply List.Sublist.cons))) (leave ⟨(w3, Lv3), hw4⟩)
          exact ⟨rfl, rfl, rfl, rfl, rfl, rfl, trivial⟩
        · have hB := crC hsx hbf (by omega) (by omega)
          (refine St.assign ?_; refine WO.nil ?_; refine WK.seq ?_; refine WK.seq ?_; refine WK.region ?_; refine St.move ?_; refine St.bin ?_; refine St.move ?_; refine St.skip ?_; refine St.skip ?_; refine St.pickF ?_; refine WO.nil ?_; refine WK.condF ?_; refine WK.skip ?_; refine WK.seq ?_; refine WK.seq ?_; refine WK.region ?_; refine St.move ?_; refine St.bin ?_; refine St.move ?_; refine St.skip ?_; refine St.skip ?_; refine St.pickF ?_; refine WO.nil ?_; refine WK.condF ?_; refine WK.skip ?_; refine WK.seq ?_; refine WK.region ?_; refine St.move ?_; refine St.move ?_; refine St.binI ?_; refine St.bin ?_; refine WO.nil ?_; refine WK.condT ?_; refine WK.region ?_; refine St.move ?_; refine St.move ?_; refine St.binI ?_; refine St.move ?_; refine St.build ?_; refine St.mkS fun _ _ => ?_)
          rename_i i2 hi2
          refine St.appL (new := [.int .i64 (shLo ka kb + n - 1), .int .i64 (shLo ka kb + n)]) (Lk := [(i2, .cells [.int .i64 (shLo ka kb + n - 1), .int .i64 (shLo ka kb + n)] 27), (p6, .cells [.int .i64 (shLo ka kb), .int .i64 (shHi ka kb)] 27), (p4, .cells [.slice0, .int .i64 0] 52), (p3, .cells [.slice b2 off2 kb.length c2, .int .i64 eb] 24), (p2, .cells [.slice b off ka.length c, .int .i64 ea] 24)]) hw1 List.perm_append_comm (fun w3 Lv3 hw3 => ?_) ⟨rfl, rfl, rfl, rfl, rfl, rfl, rfl, rfl, rfl, rfl, rfl, rfl⟩ (List.Mem.head _) rfl (by omega) (by omega)
          refine WO.permF (L' := [(i2, .cells [.int .i64 (shLo ka kb + n - 1), .int .i64 (shLo ka kb + n)] 27), (p6, .cells [.int .i64 (shLo ka kb), .int .i64 (shHi ka kb)] 27), (p4, .cells [.slice0, .int .i64 0] 52), (p3, .cells [.slice b2 off2 kb.length c2, .int .i64 eb] 24), (p2, .cells [.slice b off ka.length c, .int .i64 ea] 24)] ++ Lv3) List.perm_append_comm ?_
          have hw4 : IsSp (crTo (sgX ka kb) (shLo ka kb) (n + 1)) w3 Lv3 := by
            rw [hB]
            unfold IsSp
            rw [flatA_snoc, List.length_append]
            exact hw3
          (refine St.assign ?_; refine WO.nil ?_; refine WK.blk ?_)
          refine WK.le ?_ (by (repeat (first | exact List.Sublist.refl _ | exact List.nil_sublist _ | apply List.Sublist.cons_cons | apply List.Sublist.cons))) (leave ⟨(w3, Lv3), hw4⟩)
          exact ⟨rfl, rfl, rfl, rfl, rfl, rfl, trivial⟩
        · have hD := crD hsx hbf (by omega) (by omega)
          (refine St.assign ?_; refine WO.nil ?_; refine WK.seq ?_; refine WK.seq ?_; refine WK.region ?_; refine St.move ?_; refine St.bin ?_; refine St.move ?_; refine St.skip ?_; refine St.skip ?_; refine St.pickF ?_; refine WO.nil ?_; refine WK.condF ?_; refine WK.skip ?_; refine WK.seq ?_; refine WK.seq ?_; refine WK.region ?_; refine St.move ?_; refine St.bin ?_; refine St.move ?_; refine St.skip ?_; refine St.skip ?_; refine St.pickF ?_; refine WO.nil ?_; refine WK.condF ?_; refine WK.skip ?_; refine WK.seq ?_; refine WK.region ?_; refine St.move ?_; refine St.move ?_; refine St.binI ?_; refine St.bin ?_; refine WO.nil ?_; refine WK.condF ?_; refine WK.skip ?_; refine WK.blk ?_)
          refine WK.le ?_ (by (repeat (first | exact List.Sublist.refl _ | exact List.nil_sublist _ | apply List.Sublist.cons_cons | apply List.Sublist.cons))) (leave ⟨(w, Lv), by rw [hD]; exact hw1⟩)
          exact ⟨rfl, rfl, rfl, rfl, rfl, rfl, trivial⟩
        · have hD := crD hsx hbf (by omega) (by omega)
          (refine St.assign ?_; refine WO.nil ?_; refine WK.seq ?_; refine WK.seq ?_; refine WK.region ?_; refine St.move ?_; refine St.bin ?_; refine St.move ?_; refine St.skip ?_; refine St.skip ?_; refine St.pickF ?_; refine WO.nil ?_; refine WK.condF ?_; refine WK.skip ?_; refine WK.seq ?_; refine WK.seq ?_; refine WK.region ?_; refine St.move ?_; refine St.bin ?_; refine St.move ?_; refine St.skip ?_; refine St.skip ?_; refine St.pickF ?_; refine WO.nil ?_; refine WK.condF ?_; refine WK.skip ?_; refine WK.seq ?_; refine WK.region ?_; refine St.move ?_; refine St.move ?_; refine St.binI ?_; refine St.bin ?_; refine WO.nil ?_; refine WK.condF ?_; refine WK.skip ?_; refine WK.blk ?_)
          refine WK.le ?_ (by (repeat (first | exact List.Sublist.refl _ | exact List.nil_sublist _ | apply List.Sublist.cons_cons | apply List.Sublist.cons))) (leave ⟨(w, Lv), by rw [hD]; exact hw1⟩)
          exact ⟨rfl, rfl, rfl, rfl, rfl, rfl, trivial⟩
      · have hn : n = 0 := by have := of_decide_eq_false hc; omega
        have hb0 : bf = 0 := by rw [← hbf]; unfold bef; rw [if_pos hn]
        subst hb0
        rcases hsv with rfl | rfl | rfl
        · have hD := crD hsx hbf (by omega) (by omega)
          (refine WK.skip ?_; refine WK.seq ?_; refine WK.seq ?_; refine WK.region ?_; refine St.move ?_; refine St.bin ?_; refine St.move ?_; refine St.skip ?_; refine St.skip ?_; refine St.pickF ?_; refine WO.nil ?_; refine WK.condF ?_; refine WK.skip ?_; refine WK.seq ?_; refine WK.seq ?_; refine WK.region ?_; refine St.move ?_; refine St.bin ?_; refine St.move ?_; refine St.skip ?_; refine St.skip ?_; refine St.pickF ?_; refine WO.nil ?_; refine WK.condF ?_; refine WK.skip ?_; refine WK.seq ?_; refine WK.region ?_; refine St.move ?_; refine St.move ?_; refine St.binI ?_; refine St.bin ?_; refine WO.nil ?_; refine WK.condF ?_; refine WK.skip ?_; refine WK.blk ?_)
          refine WK.le ?_ (by (repeat (first | exact List.Sublist.refl _ | exact List.nil_sublist _ | apply List.Sublist.cons_cons | apply List.Sublist.cons))) (leave ⟨(w, Lv), by rw [hD]; exact hw1⟩)
          exact ⟨rfl, rfl, rfl, rfl, rfl, rfl, trivial⟩
        · have hB := crB hsx hbf (by omega)
          (refine WK.skip ?_; refine WK.seq ?_; refine WK.seq ?_; refine WK.region ?_; refine St.move ?_; refine St.bin ?_; refine St.move ?_; refine St.move ?_; refine St.bin ?_; refine St.pickT ?_; refine WO.nil ?_; refine WK.condF ?_; refine WK.skip ?_; refine WK.seq ?_; refine WK.seq ?_; refine WK.region ?_; refine St.move ?_; refine St.bin ?_; refine St.move ?_; refine St.move ?_; refine St.bin ?_; refine St.pickT ?_; refine WO.nil ?_; refine WK.condT ?_; refine WK.region ?_; refine St.move ?_; refine St.move ?_; refine St.move ?_; refine St.build ?_; refine St.mkS fun _ _ => ?_)
          rename_i i2 hi2
          refine St.appL (new := [.int .i64 (shLo ka kb + n), .int .i64 (shLo ka kb + n)]) (Lk := [(i2, .cells [.int .i64 (shLo ka kb + n), .int .i64 (shLo ka kb + n)] 27), (p6, .cells [.int .i64 (shLo ka kb), .int .i64 (shHi ka kb)] 27), (p4, .cells [.slice0, .int .i64 0] 52), (p3, .cells [.slice b2 off2 kb.length c2, .int .i64 eb] 24), (p2, .cells [.slice b off ka.length c, .int .i64 ea] 24)]) hw1 List.perm_append_comm (fun w3 Lv3 hw3 => ?_) ⟨rfl, rfl, rfl, rfl, rfl, rfl, rfl, rfl, rfl, rfl, rfl, rfl⟩ (List.Mem.head _) rfl (by omega) (by omega)
          refine WO.permF (L' := [(i2, .cells [.int .i64 (shLo ka kb + n), .int .i64 (shLo ka kb + n)] 27), (p6, .cells [.int .i64 (shLo ka kb), .int .i64 (shHi ka kb)] 27), (p4, .cells [.slice0, .int .i64 0] 52), (p3, .cells [.slice b2 off2 kb.length c2, .int .i64 eb] 24), (p2, .cells [.slice b off ka.length c, .int .i64 ea] 24)] ++ Lv3) List.perm_append_comm ?_
          have hw4 : IsSp (crTo (sgX ka kb) (shLo ka kb) (n + 1)) w3 Lv3 := by
            rw [hB]
            unfold IsSp
            rw [flatA_snoc, List.length_append]
            exact hw3
          (refine St.assign ?_; refine WO.nil ?_; refine WK.seq ?_; refine WK.region ?_; refine St.move ?_; refine St.move ?_; refine St.binI ?_; refine St.bin ?_; refine WO.nil ?_; refine WK.condF ?_; refine WK.skip ?_; refine WK.blk ?_)
          refine WK.le ?_ (by (repeat (first | exact List.Sublist.refl _ | exact List.nil_sublist _ | apply List.Sublist.cons_cons | apply List.Sublist.cons))) (leave ⟨(w3, Lv3), hw4⟩)
          exact ⟨rfl, rfl, rfl, rfl, rfl, rfl, trivial⟩
        · have hD := crD hsx hbf (by omega) (by omega)
          (refine WK.skip ?_; refine WK.seq ?_; refine WK.seq ?_; refine WK.region ?_; refine St.move ?_; refine St.bin ?_; refine St.move ?_; refine St.skip ?_; refine St.skip ?_; refine St.pickF ?_; refine WO.nil ?_; refine WK.condF ?_; refine WK.skip ?_; refine WK.seq ?_; refine WK.seq ?_; refine WK.region ?_; refine St.move ?_; refine St.bin ?_; refine St.move ?_; refine St.skip ?_; refine St.skip ?_; refine St.pickF ?_; refine WO.nil ?_; refine WK.condF ?_; refine WK.skip ?_; refine WK.seq ?_; refine WK.region ?_; refine St.move ?_; refine St.move ?_; refine St.binI ?_; refine St.bin ?_; refine WO.nil ?_; refine WK.condF ?_; refine WK.skip ?_; refine WK.blk ?_)
          refine WK.le ?_ (by (repeat (first | exact List.Sublist.refl _ | exact List.nil_sublist _ | apply List.Sublist.cons_cons | apply List.Sublist.cons))) (leave ⟨(w, Lv), by rw [hD]; exact hw1⟩)
          exact ⟨rfl, rfl, rfl, rfl, rfl, rfl, trivial⟩
  · have hn : n = (shHi ka kb + 1 - shLo ka kb).toNat := by
      have : ¬ shLo ka kb + n ≤ shHi ka kb := by simpa using hc
      omega
    have hw2 : IsSp (crossL ka kb) w Lv := by unfold crossL; rw [← hn]; exact hw1
    have hw3 := hw2
    rcases hw2.open_ with ⟨rfl, rfl, _⟩ | ⟨i, c3, o, rfl, rfl, _⟩
    · (refine WK.exit ?_; refine WK.seq ?_; refine WK.region ?_; refine St.move ?_; refine St.build ?_; refine St.store1 ?_; refine WO.nil ?_)
      refine St.ret (by first | exact .tmp .nil | exact .cell .nil | exact .cell (.tmp .nil) | exact .tmp (.tmp .nil) | exact .cell (.cell .nil) | exact .tmp (.cell .nil) | exact .nil | exact .tmp (.cell (.tmp .nil)) | exact .cell (.tmp (.tmp .nil)) | exact .cell (.cell (.tmp .nil)) | exact .tmp (.tmp (.tmp .nil)) | exact .cell (.cell (.cell .nil))) ?_
      exact ⟨[], List.nil_sublist _, _, hw3, rfl⟩
    · (refine WK.exit ?_; refine WK.seq ?_; refine WK.region ?_; refine St.move ?_; refine St.build ?_; refine St.store1 ?_; refine WO.nil ?_)
      refine St.ret (by first | exact .tmp .nil | exact .cell .nil | exact .cell (.tmp .nil) | exact .tmp (.tmp .nil) | exact .cell (.cell .nil) | exact .tmp (.cell .nil) | exact .nil | exact .tmp (.cell (.tmp .nil)) | exact .cell (.tmp (.tmp .nil)) | exact .cell (.cell (.tmp .nil)) | exact .tmp (.tmp (.tmp .nil)) | exact .cell (.cell (.cell .nil))) ?_
      exact ⟨[(i, o)], by (repeat (first | exact List.Sublist.refl _ | exact List.nil_sublist _ | apply List.Sublist.cons_cons | apply List.Sublist.cons)), _, hw3, rfl⟩
end Go.Proofs.YtbhklifflhoinaaGreat
