/- Clash over the calculator's memory: the program's. -/
import Derived.Test.YtbhklifflhoinaaGreatCx
namespace Go.Proofs.YtbhklifflhoinaaGreat
open Go.Proofs.YtbhklifflhoinaaGreat.Ev

/-- the first of the integers from lo to hi at which p does not hold -/
def clR (p : Int → Bool) (lo hi : Int) : Int × Bool := match (intsX lo hi).find? (fun x => !p x) with
  | some x => (x, true)
  | none => (0, false)
theorem clR_none {p : Int → Bool} {lo hi : Int} (h : ∀ y, lo ≤ y → y ≤ hi → p y = true) : clR p lo hi = (0, false) := by
  unfold clR
  rw [List.find?_eq_none.2]
  intro x hx
  have := intsX_mem.1 hx
  simp [h x this.1 this.2]
theorem clR_some {p : Int → Bool} {lo hi x : Int} (h1 : lo ≤ x) (h2 : x ≤ hi) (hp : p x = false) (h : ∀ y, lo ≤ y → y < x → p y = true) : clR p lo hi = (x, true) := by
  unfold clR
  have : (intsX lo hi).find? (fun x => !p x) = some x := by
    cases e : (intsX lo hi).find? (fun x => !p x) with
    | none =>
      have := List.find?_eq_none.1 e x (intsX_mem.2 ⟨h1, h2⟩)
      simp [hp] at this
    | some y =>
      have q1 := intsX_mem.1 (List.mem_of_find?_eq_some e)
      have q2 := List.find?_some e
      simp at q2
      have hle : x ≤ y := by
        rcases Int.lt_or_le y x with g | g
        · rw [h y q1.1 g] at q2; cases q2
        · exact g
      rcases Int.lt_or_eq_of_le hle with g | g
      · exfalso
        obtain ⟨_, l1, l2, e2, hno⟩ := List.find?_eq_some_iff_append.1 e
        have hx : x ∈ l1 ++ y :: l2 := by rw [← e2]; exact intsX_mem.2 ⟨h1, h2⟩
        have hs := intsX_sorted lo hi
        rw [e2] at hs
        rcases List.mem_append.1 hx with k | k
        · have := hno x k
          simp [hp] at this
        · rcases List.mem_cons.1 k with k | k
          · omega
          · have := (List.pairwise_cons.1 (List.pairwise_append.1 hs).2.1).1 x k
            omega
      · rw [g]
  rw [this]
def clashK (ka : List (Int × Int)) (ea : Int) (kb : List (Int × Int)) (eb : Int) : Int × Bool := clR (meetX ka ea kb eb) (shLo ka kb) (shHi ka kb)
set_option maxRecDepth 100000 in
set_option maxHeartbeats 4000000 in
theorem den_con (h : Heap) (g : Gd h) (a b c d e f' s t : Int) (s0 s1 : Int) (hl : LineOk a b c d) (hm : LineOk e f' s t) :
    Con Tryz.prog Bs 66 [.agg [.int .i64 s0, .int .i64 s1, .int .i64 a, .int .i64 b, .int .i64 c, .int .i64 d, .int .i64 e, .int .i64 f', .int .i64 s, .int .i64 t]] h [] (.int .i64 (d * t)) [] := by
  have d1 := hl.d1
  have d2 := hl.d2
  have d3 := hm.d1
  have d4 := hm.d2
  obtain ⟨m1, m2⟩ := mul_bd (show -4000 ≤ d by omega) d2 (show -4000 ≤ t by omega) d4
  refine Con.start rfl Tryz.func66 rfl rfl Tryz.ntmps66 rfl rfl g ?_
  (refine WK.seq ?_; refine WK.region ?_; refine St.box fun _ _ => ?_; refine St.assign ?_; refine WO.nil ?_; refine WK.seq ?_; refine WK.region ?_; refine St.fieldAddr ?_; refine St.fieldAddr ?_; refine St.load ?_; refine St.fieldAddr ?_; refine St.fieldAddr ?_; refine St.load ?_; refine St.binI ?_; refine St.assign ?_; refine WO.nil ?_)
  refine St.ret (by first | exact .tmp .nil | exact .cell .nil | exact .cell (.tmp .nil) | exact .tmp (.tmp .nil) | exact .cell (.cell .nil) | exact .tmp (.cell .nil) | exact .nil | exact .tmp (.cell (.tmp .nil)) | exact .cell (.tmp (.tmp .nil)) | exact .cell (.cell (.tmp .nil)) | exact .tmp (.tmp (.tmp .nil)) | exact .cell (.cell (.cell .nil))) ?_
  rfl
/-- what Clash returns -/
def clashA (ka : List (Int × Int)) (ea : Int) (kb : List (Int × Int)) (eb : Int) : Int × Bool := if chk2 ka ea kb eb = 0 then clashK ka ea kb eb else (0, false)
set_option maxRecDepth 100000 in
set_option maxHeartbeats 16000000 in
theorem clashP_con (h : Heap) (g : Gd h) (kva kvb : AV) (ka kb : List (Int × Int)) (ea eb : Int) (hka : KnV h kva ka) (hkb : KnV h kvb kb) (hla : ka.length ≤ 1000000) (hlb : kb.length ≤ 1000000) :
    Con Tryz.prog Bs 19 [.agg [kva, .int .i64 ea], .agg [kvb, .int .i64 eb]] h [] (.tup [.int .i64 (clashA ka ea kb eb).1, .bool (clashA ka ea kb eb).2, .int .i64 (chk2 ka ea kb eb)]) [] := by
  have hC : ∀ (h2 : Heap) {V : Ob} (j : Nat) (l : List AV) (ty : TypeId), Vw h [] V h2 → (j, .cells l ty) ∈ V → l = [kva, .int .i64 ea, kvb, .int .i64 eb] → Con Tryz.prog Bs 53 [.slice j 0 2 (.k 2)] h2 [] (.int .i64 (chk2 ka ea kb eb)) [] := fun h2 V j l ty hh hm e => by
    have := checkL_con h2 hh.gd j 0 (.k 2) [⟨kva, ka, ea⟩, ⟨kvb, kb, eb⟩] (by simp) (hh.cv2 hm e (hka.vw hh) (hkb.vw hh) (by omega) (by omega))
    rw [← chk2_eq]
    exact this
  by_cases e0 : chk2 ka ea kb eb = 0
  rotate_left
  · refine Con.start rfl Tryz.func19 rfl rfl Tryz.ntmps19 rfl rfl g ?_
    (refine WK.seq ?_; refine WK.region ?_; refine St.box fun _ _ => ?_; refine St.box fun _ _ => ?_; refine St.assign ?_; refine St.assign ?_; refine St.assign ?_; refine WO.nil ?_; refine WK.scope ?_; refine WK.seq ?_; refine WK.seq ?_; refine WK.region ?_; refine St.load ?_; refine St.load ?_; refine St.mkS fun _ _ => ?_)
    refine St.call (fun _ => rfl) (fun h2 hh => hC h2 _ _ _ hh (List.Mem.head _) rfl) ?_
    (refine St.assign ?_; refine WO.nil ?_; refine WK.seq ?_; refine WK.region ?_; refine St.move ?_; refine St.bin ?_; refine WO.nil ?_)
    refine St.splitC (fun hc => ?_) (fun hc => ?_)
    · (refine WK.seq ?_; refine WK.region ?_; refine St.move ?_; refine St.assign ?_; refine St.assign ?_; refine St.assign ?_; refine WO.nil ?_)
      refine St.ret (by first | exact .tmp .nil | exact .cell .nil | exact .cell (.tmp .nil) | exact .tmp (.tmp .nil) | exact .cell (.cell .nil) | exact .tmp (.cell .nil) | exact .nil | exact .tmp (.cell (.tmp .nil)) | exact .cell (.tmp (.tmp .nil)) | exact .cell (.cell (.tmp .nil)) | exact .tmp (.tmp (.tmp .nil)) | exact .cell (.cell (.cell .nil))) ?_
      unfold clashA
      rw [if_neg e0]
      rfl
    · simp at hc; exact absurd hc e0
  obtain ⟨h1, h2⟩ := chk2_zero e0
  have va := vd_of_chk h1
  have vb := vd_of_chk h2
  obtain ⟨b, off, c, rfl, hk1⟩ := hka.ne va.ne
  obtain ⟨b2, off2, c2, rfl, hk2⟩ := hkb.ne vb.ne
  have hb1 := (hk1.x va.pos).lt
  have hb2 := (hk2.x vb.pos).lt
  have ea0 := va.e0
  have ea1 := va.e1
  have eb0 := vb.e0
  have eb1 := vb.e1
  rw [e0] at hC
  have hA : clashA ka ea kb eb = clashK ka ea kb eb := by unfold clashA; rw [if_pos e0]
  rw [hA, e0]
  refine Con.start rfl Tryz.func19 rfl rfl Tryz.ntmps19 rfl rfl g ?_
  (refine WK.seq ?_; refine WK.region ?_; refine St.box fun _ _ => ?_; refine St.box fun _ _ => ?_; refine St.assign ?_; refine St.assign ?_; refine St.assign ?_; refine WO.nil ?_; refine WK.scope ?_; refine WK.seq ?_; refine WK.seq ?_; refine WK.region ?_; refine St.load ?_; refine St.load ?_; refine St.mkS fun _ _ => ?_)
  refine St.call (fun _ => rfl) (fun h2 hh => hC h2 _ _ _ hh (List.Mem.head _) rfl) ?_
  (refine St.assign ?_; refine WO.nil ?_; refine WK.seq ?_; refine WK.region ?_; refine St.move ?_; refine St.bin ?_; refine WO.nil ?_; refine WK.condF ?_; refine WK.skip ?_; refine WK.seq ?_; refine WK.region ?_; refine St.alloc fun _ _ => ?_; refine St.alloc fun _ _ => ?_; refine St.store1 ?_; refine St.store0 ?_; refine WO.nil ?_; refine WK.seq ?_; refine WK.label ?_; refine WK.seq ?_; refine WK.seq ?_; refine WK.region ?_; refine St.load ?_; refine St.load ?_)
  rename_i p2 hp2 p3 hp3 i1 hi1 u8 hu8 u9 hu9
  refine St.callR (fun _ => rfl) (fun h2 hh => stretches_con h2 hh.gd _ _ _ _) ?_
  rintro w L' ⟨ja, jb, rfl, rfl⟩
  (refine WO.nil ?_; refine WK.block ?_)
  refine WK.le (s' := [(2, .ptr p2 0), (3, .ptr p3 0), (8, .ptr u8 0), (9, .ptr u9 0), (22, .fn (.func 102) [] [.ptr ja 0, .ptr jb 0])]) (L' := [(jb, .cells [.slice b2 off2 kb.length c2, .int .i64 eb] 24), (ja, .cells [.slice b off ka.length c, .int .i64 ea] 24), (u9, .cells [.bool false] 4), (u8, .cells [.int .i64 0] 3), (p3, .cells [.slice b2 off2 kb.length c2, .int .i64 eb] 24), (p2, .cells [.slice b off ka.length c, .int .i64 ea] 24)]) ⟨rfl, rfl, rfl, rfl, rfl, trivial⟩ (by (repeat (first | exact List.Sublist.refl _ | exact List.nil_sublist _ | apply List.Sublist.cons_cons | apply List.Sublist.cons))) ?_
  refine WK.rangeX (Lw := [(u9, .cells [.bool false] 4), (u8, .cells [.int .i64 0] 3)]) (Lk := [(jb, .cells [.slice b2 off2 kb.length c2, .int .i64 eb] 24), (ja, .cells [.slice b off ka.length c, .int .i64 ea] 24), (p3, .cells [.slice b2 off2 kb.length c2, .int .i64 eb] 24), (p2, .cells [.slice b off ka.length c, .int .i64 ea] 24)])
    (R := fun pd L' => (pd = none ∨ pd = some (.exit 0)) ∧ L' = [(u9, .cells [.bool (clashK ka ea kb eb).2] 4), (u8, .cells [.int .i64 (clashK ka ea kb eb).1] 3)])
    rfl (by (repeat (first | exact List.Perm.refl _ | refine perm_at 0 rfl ?_ | refine perm_at 1 rfl ?_ | refine perm_at 2 rfl ?_ | refine perm_at 3 rfl ?_ | refine perm_at 4 rfl ?_ | refine perm_at 5 rfl ?_ | refine perm_at 6 rfl ?_ | refine perm_at 7 rfl ?_ | refine perm_at 8 rfl ?_ | refine perm_at 9 rfl ?_))) ?_ ?_ ?_
  · intro dq r lq h' hq' hs
    have hne : ja ∉ r :: [u9, u8] ∧ jb ∉ r :: [u9, u8] ∧ h.next ≤ r ∧ p2 ∉ r :: [u9, u8] ∧ p3 ∉ r :: [u9, u8] := by
      have h1 := hs.nodup
      simp at h1
      have h2 := (hs.own _ List.mem_cons_self).2.2.2
      simp at h2
      simp
      grind
    obtain ⟨hja, hjb, hr, hn2, hn3⟩ := hne
    have hold : ∀ x ∈ r :: [u9, u8], h.next ≤ x := by
      intro x hx
      simp only [List.mem_cons, List.not_mem_nil, or_false] at hx
      rcases hx with rfl | rfl | rfl
      · exact hr
      · assumption
      · assumption
    have hr2 := hs.vw.rdsO (j := p2) (l := [.slice b off ka.length c, .int .i64 ea]) (t := 24) (by simp) rfl
    have hr3 := hs.vw.rdsO (j := p3) (l := [.slice b2 off2 kb.length c2, .int .i64 eb]) (t := 24) (by simp) rfl
    have hY := stretchY h' r ja jb b off b2 off2 c c2 ka kb ea eb lq (lq.left (some (.exit 0))) [(u9, .cells [.bool false] 4), (u8, .cells [.int .i64 0] 3)] (fun k Lk => (∀ y, shLo ka kb ≤ y → y < stFrom ka kb k → meetX ka ea kb eb y = true) ∧ Lk = [(u9, .cells [.bool false] 4), (u8, .cells [.int .i64 0] 3)]) (fun Lk => Lk = [(u9, .cells [.bool (clashK ka ea kb eb).2] 4), (u8, .cells [.int .i64 (clashK ka ea kb eb).1] 3)]) va vb
      (hs.vw.rdsO (l := [.slice b off ka.length c, .int .i64 ea]) (t := 24) (by simp) rfl) (hs.vw.rdsO (l := [.slice b2 off2 kb.length c2, .int .i64 eb]) (t := 24) (by simp) rfl) hja hjb
      (fun i hi => hs.vw.rds (by simp) (hk1 i hi)) (fun hm => by have := hold b hm; omega) (fun i hi => hs.vw.rds (by simp) (hk2 i hi)) (fun hm => by have := hold b2 hm; omega)
      (hs.sub (L' := (r, _) :: [(u9, .cells [.bool false] 4), (u8, .cells [.int .i64 0] 3)]) (by (repeat (first | exact List.Sublist.refl _ | exact List.nil_sublist _ | apply List.Sublist.cons_cons | apply List.Sublist.cons)))).lend
      ⟨fun y a b => by simp [stFrom] at b; omega, rfl⟩ ?_
    · rcases hY with ⟨Ln, ⟨q1, rfl⟩, q2⟩ | ⟨Ln, rfl, q2⟩
      · have e : clashK ka ea kb eb = (0, false) := clR_none fun y a b => q1 y a (by rw [st_end]; split <;> omega)
        refine ⟨_, none, _, by rw [hq'.left]; exact q2, .inl rfl, by rw [e]⟩
      · exact ⟨_, some (.exit 0), _, q2, .inr rfl, rfl⟩
    · rintro k Lk ⟨hbef, rfl⟩ hk h'' hh
      have hWW := hh.ltW
      have st := st_is hk
      obtain ⟨s1, s2, s3, _⟩ := st
      have hd0 : ∀ x, stFrom ka kb k ≤ x → x ≤ stTo ka kb k → 0 ≤ x ∧ x ≤ 2000 := fun x a b => (stDom va vb hk a b).2.2.2
      have hb0 := hd0 _ (Int.le_refl _) s2
      have hb9 := hd0 _ s2 (Int.le_refl _)
      have la := va.lnOk (stFrom ka kb k) (stTo ka kb k)
      have lb := vb.lnOk (stFrom ka kb k) (stTo ka kb k)
      have r1 := la.d1
      have r2 := la.d2
      have r3 := lb.d1
      have r4 := lb.d2
      obtain ⟨m1, m2⟩ := mul_bd (show -4000 ≤ (lnOf ka (stFrom ka kb k) (stTo ka kb k)).ru by omega) r2 (show -4000 ≤ (lnOf kb (stFrom ka kb k) (stTo ka kb k)).ru by omega) r4
      obtain ⟨m3, m4⟩ := mul_bd (show -8000 ≤ ea + eb by omega) (show ea + eb ≤ 8000 by omega) m1 m2
      have m5 : 0 ≤ (ea + eb) * ((lnOf ka (stFrom ka kb k) (stTo ka kb k)).ru * (lnOf kb (stFrom ka kb k) (stTo ka kb k)).ru) := Int.mul_nonneg (by omega) (Int.mul_nonneg (by omega) (by omega))
      have e := ConR.enterQ (P := Tryz.prog) (B := Bs) (args := [.agg (stCells ka kb k)]) (R := fun v' L' => (v' = .bool true ∧ (∀ y, shLo ka kb ≤ y → y < stFrom ka kb (k + 1) → meetX ka ea kb eb y = true) ∧ L' = [(r, .loop lq), (u9, .cells [.bool false] 4), (u8, .cells [.int .i64 0] 3)]) ∨ (v' = .bool false ∧ L' = [(r, .loop (lq.left (some (.exit 0)))), (u9, .cells [.bool (clashK ka ea kb eb).2] 4), (u8, .cells [.int .i64 (clashK ka ea kb eb).1] 3)])) hq' hh.lend (hh.own _ List.mem_cons_self).1 rfl rfl rfl (by
        (refine WK.region ?_; refine St.alloc fun _ _ => ?_; refine St.store0 ?_; refine WO.nil ?_)
        rename_i p10 hp10
        refine WK.busyQ hq'.st (A := [(_, _)]) rfl ?_
        (refine WK.block ?_; refine WK.seq ?_; refine WK.regionD ?_; refine St.fieldAddr ?_)
        refine St.loadX (fun h hh2 => (hh2.rd (by simpa using hn2) (hh.vw.rd (by simpa using hn2) hr2.2.1)).one rfl) ?_
        (refine St.fieldAddr ?_)
        refine St.loadX (fun h hh2 => (hh2.rd (by simpa using hn3) (hh.vw.rd (by simpa using hn3) hr3.2.1)).one rfl) ?_
        (refine St.binI ?_; refine St.load ?_)
        refine St.call (fun _ => rfl) (fun h hh => den_con h hh.gd _ _ _ _ _ _ _ _ _ _ la lb) ?_
        (refine St.binI ?_; refine St.assign ?_; refine WO.nil ?_; refine WK.seq ?_; refine WK.region ?_; refine St.fieldAddr ?_; refine St.fieldAddr ?_; refine St.load ?_; refine St.assign ?_; refine WO.nil ?_; refine WK.block ?_)
        refine WK.inv (ι := Int) (fun z => [(8, .ptr u8 0), (9, .ptr u9 0), (10, .ptr p10 0), (11, .int .i64 ((ea + eb) * ((lnOf ka (stFrom ka kb k) (stTo ka kb k)).ru * (lnOf kb (stFrom ka kb k) (stTo ka kb k)).ru))), (12, .int .i64 z)]) (fun z => [(p10, .cells (stCells ka kb k) 109), (r, .loop lq.busy), (u9, .cells [.bool false] 4), (u8, .cells [.int .i64 0] 3)])
          (fun z => stFrom ka kb k ≤ z ∧ z ≤ stTo ka kb k + 1 ∧ ∀ y, shLo ka kb ≤ y → y < z → meetX ka ea kb eb y = true) (fun z => (stTo ka kb k + 1 - z).toNat) (stFrom ka kb k) ⟨Int.le_refl _, by omega, hbef⟩ ⟨rfl, rfl, rfl, rfl, rfl, trivial⟩ (by (repeat (first | exact List.Sublist.refl _ | exact List.nil_sublist _ | apply List.Sublist.cons_cons | apply List.Sublist.cons))) ?_
        rintro z ⟨z1, z2, hz⟩ ih
        (refine WK.seq ?_; refine WK.seq ?_; refine WK.region ?_; refine St.move ?_; refine St.fieldAddr ?_; refine St.fieldAddr ?_; refine St.load ?_; refine St.bin ?_; refine WO.nil ?_)
        refine St.splitC (fun hc => ?_) (fun hc => ?_)
        · have hx : z ≤ stTo ka kb k := by simpa using hc
          obtain ⟨ol1, ol2, odd, x0, x1⟩ := stDom va vb hk z1 hx
          have hg := gap_meet (ea := ea) (eb := eb) ol1 ol2 odd
          (refine WK.skip ?_; refine WK.seq ?_; refine WK.block ?_; refine WK.seq ?_; refine WK.region ?_; refine St.load ?_; refine St.move ?_)
          refine St.call (fun _ => rfl) (fun h hh => gapK_con va vb hk z1 hx h hh.gd) ?_
          (refine St.move ?_)
          refine St.call (v := .bool (meetX ka ea kb eb z)) (fun _ => rfl) (fun h hh => by
            have := within_con h hh.gd (gapL (lnOf ka (stFrom ka kb k) (stTo ka kb k)) (lnOf kb (stFrom ka kb k) (stTo ka kb k)) z) ((ea + eb) * ((lnOf ka (stFrom ka kb k) (stTo ka kb k)).ru * (lnOf kb (stFrom ka kb k) (stTo ka kb k)).ru)) m5 (by omega)
            rw [hg] at this
            exact this) ?_
          (refine St.un ?_; refine WO.nil ?_)
          refine St.splitC (fun hc2 => ?_) (fun hc2 => ?_)
          · have hm : meetX ka ea kb eb z = false := by simpa using hc2
            have hcl : clashK ka ea kb eb = (z, true) := clR_some (by omega) (by omega) hm hz
            (refine WK.seq ?_; refine WK.region ?_; refine St.move ?_; refine St.store3 ?_; refine St.store2 ?_; refine WO.nil ?_)
            refine WK.le (s' := []) (L' := [(r, .loop lq.busy), (u9, .cells [.bool true] 4), (u8, .cells [.int .i64 z] 3)]) trivial (by (repeat (first | exact List.Sublist.refl _ | exact List.nil_sublist _ | apply List.Sublist.cons_cons | apply List.Sublist.cons))) ?_
            exact WK.exitQ (A := []) (C := [(u9, .cells [.bool true] 4), (u8, .cells [.int .i64 z] 3)]) (List.Perm.refl _) (.inr ⟨rfl, by rw [hcl]; rfl⟩)
          · have hm : meetX ka ea kb eb z = true := by simpa using hc2
            (refine WK.skip ?_; refine WK.blk ?_; refine WK.region ?_; refine St.move ?_; refine St.binI ?_; refine St.assign ?_; refine WO.nil ?_)
            refine WK.le ?_ (by (repeat (first | exact List.Sublist.refl _ | exact List.nil_sublist _ | apply List.Sublist.cons_cons | apply List.Sublist.cons))) (ih (z + 1) ⟨by omega, by omega, fun y a b => ?_⟩ (by omega))
            · exact ⟨rfl, rfl, rfl, rfl, rfl, trivial⟩
            · by_cases ey : y = z
              · rw [ey]; exact hm
              · exact hz y a (by omega)
        · have hx : ¬ z ≤ stTo ka kb k := by simpa using hc
          (refine WK.exit ?_; refine WK.blk ?_)
          refine WK.le (s' := []) (L' := [(r, .loop lq.busy), (u9, .cells [.bool false] 4), (u8, .cells [.int .i64 0] 3)]) trivial (by (repeat (first | exact List.Sublist.refl _ | exact List.nil_sublist _ | apply List.Sublist.cons_cons | apply List.Sublist.cons))) ?_
          refine WK.endQ (A := []) (C := [(u9, .cells [.bool false] 4), (u8, .cells [.int .i64 0] 3)]) (List.Perm.refl _) (.inl ⟨rfl, fun y a b => hz y a (by rw [stFrom_succ] at b; omega), by rw [hq'.left]; rfl⟩))
      obtain ⟨v', L', q1, ⟨rfl, q2, rfl⟩ | ⟨rfl, rfl⟩⟩ := e
      · exact .inl ⟨_, ⟨q2, rfl⟩, q1⟩
      · exact .inr ⟨_, rfl, q1⟩
  · rintro dq L' ⟨_, rfl⟩
    (refine WK.blk ?_; refine WK.seq ?_; refine WK.regionD ?_; refine St.load ?_; refine St.load ?_; refine St.assign ?_; refine St.assign ?_; refine St.assign ?_; refine WO.nil ?_)
    refine St.ret1 (A := [(u9, .cells [.bool (clashK ka ea kb eb).2] 4), (u8, .cells [.int .i64 (clashK ka ea kb eb).1] 3)]) rfl (.tmp (.tmp (.tmp .nil))) ?_
    rfl
  · rintro dq cd L' ⟨hcd, rfl⟩
    obtain rfl : cd = .exit 0 := by simpa using hcd
    (refine WK.exit ?_; refine WK.seq ?_; refine WK.regionD ?_; refine St.load ?_; refine St.load ?_; refine St.assign ?_; refine St.assign ?_; refine St.assign ?_; refine WO.nil ?_)
    refine St.ret1 (A := [(u9, .cells [.bool (clashK ka ea kb eb).2] 4), (u8, .cells [.int .i64 (clashK ka ea kb eb).1] 3)]) rfl (.tmp (.tmp (.tmp .nil))) ?_
    rfl
end Go.Proofs.YtbhklifflhoinaaGreat
