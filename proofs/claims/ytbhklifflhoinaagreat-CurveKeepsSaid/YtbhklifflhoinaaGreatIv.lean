/- The program's rising, heights, lowest, inverse, Inverse over the calculator's memory. -/
import Derived.Test.YtbhklifflhoinaaGreatFd
import Derived.Test.YtbhklifflhoinaaGreatCl
namespace Go.Proofs.YtbhklifflhoinaaGreat
open Go.Proofs.YtbhklifflhoinaaGreat.Ev

theorem Ev.Vw.rdO {h0 h : Heap} {W : List Nat} {V : Ob} {j off : Nat} {l : List AV} {t : TypeId} {v : AV} (k : Vw h0 W V h) (hm : (j, .cells l t) ∈ V) (hv : nthN off l = some v) : Rd h j off v := ⟨(k.own _ hm).2, by unfold Heap.at1; rw [(k.own _ hm).1]; exact hv⟩
def pcF (ks : List (Int × Int)) : Option Nat → AV
  | none => pc0
  | some i => pcV ks i
theorem find_pc (h : Heap) (g : Gd h) (b off : Nat) (c : ACap) (ks : List (Int × Int)) (err : Int) (fw : Nat) (fs cs : List AV) (p : Nat → Bool) (hl : ks.length ≤ 1000000000000) (hpos : 0 < ks.length) (hk : KnH h b off ks)
    (hw : ∀ k, k + 1 < ks.length → ∀ h' V, Vw h [] V h' → Con Tryz.prog Bs fw (fs ++ [pcV ks k] ++ cs) h' [] (.bool (p k)) []) :
    Con Tryz.prog Bs 107 [.agg [.slice b off ks.length c, .int .i64 err], .fn (.func fw) fs cs] h [] (.tup [pcF ks (firstPc ks p), .bool (firstPc ks p).isSome]) [] := by
  cases hf : firstPc ks p with
  | none =>
    have := find_con h g b off c ks err fw fs cs ks.length hl hpos hk (fun k h1 h2 h' V hv => by
      have e := hw k h1 h' V hv
      rw [firstPc_no hf h1] at e
      rw [decide_eq_false (by omega)]; exact e)
    rw [if_neg (by omega), decide_eq_false (by omega)] at this
    exact this
  | some i =>
    have hf' := hf
    unfold firstPc at hf'
    obtain ⟨h1, h2, h3⟩ := List.find?_range_eq_some.1 hf'
    have hi : i + 1 < ks.length := by have := List.mem_range.1 h2; unfold pcN at this; omega
    have := find_con h g b off c ks err fw fs cs i hl hpos hk (fun k h4 h5 h' V hv => by
      have e := hw k h4 h' V hv
      by_cases ek : k = i
      · subst ek; rw [h1] at e; rw [decide_eq_true rfl]; exact e
      · have := h3 k (by omega)
        rw [show p k = false by simpa using this] at e
        rw [decide_eq_false ek]; exact e)
    rw [if_pos hi, decide_eq_true hi] at this
    exact this

set_option maxRecDepth 100000 in
theorem rise_con (h : Heap) (g : Gd h) (x0 y0 x1 y1 : Int) (h1 : -200000 ≤ y0) (h2 : y0 ≤ 200000) (h3 : -200000 ≤ y1) (h4 : y1 ≤ 200000) : Con Tryz.prog Bs 91 [.agg [.int .i64 x0, .int .i64 y0, .int .i64 x1, .int .i64 y1]] h [] (.int .i64 (y1 - y0)) [] := by
  refine Con.start rfl Tryz.func91 rfl rfl Tryz.ntmps91 rfl rfl g ?_
  (refine WK.seq ?_; refine WK.region ?_; refine St.box fun _ _ => ?_; refine St.assign ?_; refine WO.nil ?_; refine WK.seq ?_; refine WK.region ?_; refine St.fieldAddr ?_; refine St.fieldAddr ?_; refine St.load ?_; refine St.fieldAddr ?_; refine St.fieldAddr ?_; refine St.load ?_; refine St.binI ?_; refine St.assign ?_; refine WO.nil ?_)
  refine St.ret (by first | exact .tmp .nil | exact .cell .nil | exact .cell (.tmp .nil) | exact .tmp (.tmp .nil) | exact .cell (.cell .nil) | exact .tmp (.cell .nil) | exact .nil | exact .tmp (.cell (.tmp .nil)) | exact .cell (.tmp (.tmp .nil)) | exact .cell (.cell (.tmp .nil)) | exact .tmp (.tmp (.tmp .nil)) | exact .cell (.cell (.cell .nil))) ?_
  rfl
set_option maxRecDepth 100000 in
theorem run_con (h : Heap) (g : Gd h) (x0 y0 x1 y1 : Int) (h1 : -200000 ≤ x0) (h2 : x0 ≤ 200000) (h3 : -200000 ≤ x1) (h4 : x1 ≤ 200000) : Con Tryz.prog Bs 92 [.agg [.int .i64 x0, .int .i64 y0, .int .i64 x1, .int .i64 y1]] h [] (.int .i64 (x1 - x0)) [] := by
  refine Con.start rfl Tryz.func92 rfl rfl Tryz.ntmps92 rfl rfl g ?_
  (refine WK.seq ?_; refine WK.region ?_; refine St.box fun _ _ => ?_; refine St.assign ?_; refine WO.nil ?_; refine WK.seq ?_; refine WK.region ?_; refine St.fieldAddr ?_; refine St.fieldAddr ?_; refine St.load ?_; refine St.fieldAddr ?_; refine St.fieldAddr ?_; refine St.load ?_; refine St.binI ?_; refine St.assign ?_; refine WO.nil ?_)
  refine St.ret (by first | exact .tmp .nil | exact .cell .nil | exact .cell (.tmp .nil) | exact .tmp (.tmp .nil) | exact .cell (.cell .nil) | exact .tmp (.cell .nil) | exact .nil | exact .tmp (.cell (.tmp .nil)) | exact .cell (.tmp (.tmp .nil)) | exact .cell (.cell (.tmp .nil)) | exact .tmp (.tmp (.tmp .nil)) | exact .cell (.cell (.cell .nil))) ?_
  rfl
set_option maxRecDepth 100000 in
theorem rising1_con (h : Heap) (g : Gd h) (x0 y0 x1 y1 : Int) (h1 : -200000 ≤ y0) (h2 : y0 ≤ 200000) (h3 : -200000 ≤ y1) (h4 : y1 ≤ 200000) : Con Tryz.prog Bs 108 [.agg [.int .i64 x0, .int .i64 y0, .int .i64 x1, .int .i64 y1]] h [] (.bool (decide (y1 - y0 ≤ 0))) [] := by
  refine Con.start rfl Tryz.func108 rfl rfl Tryz.ntmps108 rfl rfl g ?_
  (refine WK.seq ?_; refine WK.region ?_; refine St.box fun _ _ => ?_; refine St.assign ?_; refine WO.nil ?_; refine WK.seq ?_; refine WK.region ?_; refine St.load ?_)
  refine St.call (fun _ => rfl) (fun h hh => rise_con h hh.gd x0 y0 x1 y1 h1 h2 h3 h4) ?_
  (refine St.bin ?_; refine St.assign ?_; refine WO.nil ?_)
  refine St.ret (by first | exact .tmp .nil | exact .cell .nil | exact .cell (.tmp .nil) | exact .tmp (.tmp .nil) | exact .cell (.cell .nil) | exact .tmp (.cell .nil) | exact .nil | exact .tmp (.cell (.tmp .nil)) | exact .cell (.tmp (.tmp .nil)) | exact .cell (.cell (.tmp .nil)) | exact .tmp (.tmp (.tmp .nil)) | exact .cell (.cell (.cell .nil))) ?_
  rfl
set_option maxRecDepth 100000 in
theorem rising2_con (h : Heap) (g : Gd h) (x0 y0 x1 y1 : Int) (h1 : -200000 ≤ y0) (h2 : y0 ≤ 200000) (h3 : -200000 ≤ y1) (h4 : y1 ≤ 200000) : Con Tryz.prog Bs 109 [.agg [.int .i64 x0, .int .i64 y0, .int .i64 x1, .int .i64 y1]] h [] (.bool (decide (0 ≤ y1 - y0))) [] := by
  refine Con.start rfl Tryz.func109 rfl rfl Tryz.ntmps109 rfl rfl g ?_
  (refine WK.seq ?_; refine WK.region ?_; refine St.box fun _ _ => ?_; refine St.assign ?_; refine WO.nil ?_; refine WK.seq ?_; refine WK.region ?_; refine St.load ?_)
  refine St.call (fun _ => rfl) (fun h hh => rise_con h hh.gd x0 y0 x1 y1 h1 h2 h3 h4) ?_
  (refine St.bin ?_; refine St.assign ?_; refine WO.nil ?_)
  refine St.ret (by first | exact .tmp .nil | exact .cell .nil | exact .cell (.tmp .nil) | exact .tmp (.tmp .nil) | exact .cell (.cell .nil) | exact .tmp (.cell .nil) | exact .nil | exact .tmp (.cell (.tmp .nil)) | exact .cell (.tmp (.tmp .nil)) | exact .cell (.cell (.tmp .nil)) | exact .tmp (.tmp (.tmp .nil)) | exact .cell (.cell (.cell .nil))) ?_
  rfl
set_option maxRecDepth 100000 in
set_option maxHeartbeats 4000000 in
theorem rising_con (h : Heap) (g : Gd h) (b off : Nat) (c : ACap) (ks : List (Int × Int)) (err : Int) (v : Vd ks err) (hk : KnH h b off ks) : Con Tryz.prog Bs 74 [.agg [.slice b off ks.length c, .int .i64 err]] h [] (.int .i64 (wayK ks)) [] := by
  have hpos := v.pos
  have hlen : ks.length ≤ 40 := v.le
  have F1 : ∀ (h : Heap) (_ : Gd h) (_ : KnH h b off ks), Con Tryz.prog Bs 107 [.agg [.slice b off ks.length c, .int .i64 err], .fn (.func 108) [] []] h [] (.tup [pcF ks (firstPc ks (notUp ks)), .bool (firstPc ks (notUp ks)).isSome]) [] := fun h g hk => find_pc h g b off c ks err 108 [] [] (notUp ks) (by omega) hpos hk (fun k hk1 h' V hv => by
    have := v.pc hk1
    exact rising1_con h' hv.gd _ _ _ _ (by omega) (by omega) (by omega) (by omega))
  have F2 : ∀ (h : Heap) (_ : Gd h) (_ : KnH h b off ks), Con Tryz.prog Bs 107 [.agg [.slice b off ks.length c, .int .i64 err], .fn (.func 109) [] []] h [] (.tup [pcF ks (firstPc ks (notDown ks)), .bool (firstPc ks (notDown ks)).isSome]) [] := fun h g hk => find_pc h g b off c ks err 109 [] [] (notDown ks) (by omega) hpos hk (fun k hk1 h' V hv => by
    have := v.pc hk1
    exact rising2_con h' hv.gd _ _ _ _ (by omega) (by omega) (by omega) (by omega))
  have hw : wayK ks = match firstPc ks (notUp ks) with
    | none => 1
    | some _ => match firstPc ks (notDown ks) with
      | none => -1
      | some _ => 0 := rfl
  cases e1 : firstPc ks (notUp ks) with
  | none =>
    rw [e1] at F1 hw
    rw [hw]
    refine Con.start rfl Tryz.func74 rfl rfl Tryz.ntmps74 rfl rfl g ?_
    (refine WK.seq ?_; refine WK.region ?_; refine St.box fun _ _ => ?_; refine St.assign ?_; refine WO.nil ?_; refine WK.seq ?_; refine WK.seq ?_; refine WK.region ?_; refine St.load ?_)
    refine St.call (fun _ => rfl) (fun h hh => F1 h hh.gd (hk.vw hh)) ?_
    (refine St.move ?_; refine St.extract ?_; refine St.extract ?_; refine St.alloc fun _ _ => ?_; refine St.store0 ?_; refine St.assign ?_; refine WO.nil ?_; refine WK.seq ?_; refine WK.region ?_; refine St.move ?_; refine St.un ?_; refine WO.nil ?_; refine WK.condT ?_; refine WK.seq ?_; refine WK.region ?_; refine St.assign ?_; refine WO.nil ?_)
    refine St.ret (by first | exact .tmp .nil | exact .cell .nil | exact .cell (.tmp .nil) | exact .tmp (.tmp .nil) | exact .cell (.cell .nil) | exact .tmp (.cell .nil) | exact .nil | exact .tmp (.cell (.tmp .nil)) | exact .cell (.tmp (.tmp .nil)) | exact .cell (.cell (.tmp .nil)) | exact .tmp (.tmp (.tmp .nil)) | exact .cell (.cell (.cell .nil))) ?_
    rfl
  | some i =>
    cases e2 : firstPc ks (notDown ks) with
    | none =>
      rw [e1] at F1 hw
      rw [e2] at F2 hw
      rw [hw]
      refine Con.start rfl Tryz.func74 rfl rfl Tryz.ntmps74 rfl rfl g ?_
      (refine WK.seq ?_; refine WK.region ?_; refine St.box fun _ _ => ?_; refine St.assign ?_; refine WO.nil ?_; refine WK.seq ?_; refine WK.seq ?_; refine WK.region ?_; refine St.load ?_)
      refine St.call (fun _ => rfl) (fun h hh => F1 h hh.gd (hk.vw hh)) ?_
      (refine St.move ?_; refine St.extract ?_; refine St.extract ?_; refine St.alloc fun _ _ => ?_; refine St.store0 ?_; refine St.assign ?_; refine WO.nil ?_; refine WK.seq ?_; refine WK.region ?_; refine St.move ?_; refine St.un ?_; refine WO.nil ?_; refine WK.condF ?_; refine WK.skip ?_; refine WK.seq ?_; refine WK.seq ?_; refine WK.region ?_; refine St.load ?_)
      refine St.call (fun _ => rfl) (fun h hh => F2 h hh.gd (hk.vw hh)) ?_
      (refine St.move ?_; refine St.extract ?_; refine St.extract ?_; refine St.alloc fun _ _ => ?_; refine St.store0 ?_; refine St.assign ?_; refine WO.nil ?_; refine WK.seq ?_; refine WK.region ?_; refine St.move ?_; refine St.un ?_; refine WO.nil ?_; refine WK.condT ?_; refine WK.seq ?_; refine WK.region ?_; refine St.assign ?_; refine WO.nil ?_)
      refine St.ret (by first | exact .tmp .nil | exact .cell .nil | exact .cell (.tmp .nil) | exact .tmp (.tmp .nil) | exact .cell (.cell .nil) | exact .tmp (.cell .nil) | exact .nil | exact .tmp (.cell (.tmp .nil)) | exact .cell (.tmp (.tmp .nil)) | exact .cell (.cell (.tmp .nil)) | exact .tmp (.tmp (.tmp .nil)) | exact .cell (.cell (.cell .nil))) ?_
      rfl
    | some j =>
      rw [e1] at F1 hw
      rw [e2] at F2 hw
      rw [hw]
      refine Con.start rfl Tryz.func74 rfl rfl Tryz.ntmps74 rfl rfl g ?_
      (refine WK.seq ?_; refine WK.region ?_; refine St.box fun _ _ => ?_; refine St.assign ?_; refine WO.nil ?_; refine WK.seq ?_; refine WK.seq ?_; refine WK.region ?_; refine St.load ?_)
      refine St.call (fun _ => rfl) (fun h hh => F1 h hh.gd (hk.vw hh)) ?_
      (refine St.move ?_; refine St.extract ?_; refine St.extract ?_; refine St.alloc fun _ _ => ?_; refine St.store0 ?_; refine St.assign ?_; refine WO.nil ?_; refine WK.seq ?_; refine WK.region ?_; refine St.move ?_; refine St.un ?_; refine WO.nil ?_; refine WK.condF ?_; refine WK.skip ?_; refine WK.seq ?_; refine WK.seq ?_; refine WK.region ?_; refine St.load ?_)
      refine St.call (fun _ => rfl) (fun h hh => F2 h hh.gd (hk.vw hh)) ?_
      (refine St.move ?_; refine St.extract ?_; refine St.extract ?_; refine St.alloc fun _ _ => ?_; refine St.store0 ?_; refine St.assign ?_; refine WO.nil ?_; refine WK.seq ?_; refine WK.region ?_; refine St.move ?_; refine St.un ?_; refine WO.nil ?_; refine WK.condF ?_; refine WK.skip ?_; refine WK.seq ?_; refine WK.region ?_; refine St.assign ?_; refine WO.nil ?_)
      refine St.ret (by first | exact .tmp .nil | exact .cell .nil | exact .cell (.tmp .nil) | exact .tmp (.tmp .nil) | exact .cell (.cell .nil) | exact .tmp (.cell .nil) | exact .nil | exact .tmp (.cell (.tmp .nil)) | exact .cell (.tmp (.tmp .nil)) | exact .cell (.cell (.tmp .nil)) | exact .tmp (.tmp (.tmp .nil)) | exact .cell (.cell (.cell .nil))) ?_
      rfl

set_option maxRecDepth 100000 in
set_option maxHeartbeats 4000000 in
theorem heights_con (h : Heap) (g : Gd h) (b off : Nat) (c : ACap) (ks : List (Int × Int)) (err : Int) (v : Vd ks err) (hk : KnH h b off ks) : Con Tryz.prog Bs 75 [.agg [.slice b off ks.length c, .int .i64 err]] h [] (.agg [.int .i64 (hLo ks), .int .i64 (hHi ks)]) [] := by
  have hpos := v.pos
  have hlen : ks.length ≤ 40 := v.le
  refine Con.start rfl Tryz.func75 rfl rfl Tryz.ntmps75 rfl rfl g ?_
  (refine WK.seq ?_; refine WK.region ?_; refine St.box fun _ _ => ?_; refine St.alloc fun _ _ => ?_; refine WO.nil ?_; refine WK.seq ?_; refine WK.regionD ?_; refine St.fieldAddr ?_; refine St.load ?_)
  refine St.at ?_
  (refine St.fieldAddr ?_)
  refine St.loadX (fun h hh => ((hk.vw hh).yAt (z := 0) (n := 0) (by omega) (by omega)).one rfl) ?_
  (refine St.fieldAddr ?_; refine St.load ?_; refine St.fieldAddr ?_; refine St.load ?_; refine St.len ?_; refine St.binI ?_)
  refine St.at ?_
  (refine St.fieldAddr ?_)
  refine St.loadX (fun h hh => ((hk.vw hh).yAt (z := (ks.length : Int) - 1) (n := ks.length - 1) (by omega) (by omega)).one rfl) ?_
  (refine St.assign ?_; refine St.assign ?_; refine WO.nil ?_; refine WK.seq ?_; refine WK.region ?_; refine St.move ?_; refine St.move ?_; refine St.minI ?_; refine St.move ?_; refine St.move ?_; refine St.maxI ?_; refine St.build ?_; refine St.store0 ?_; refine WO.nil ?_)
  refine St.ret (by first | exact .tmp .nil | exact .cell .nil | exact .cell (.tmp .nil) | exact .tmp (.tmp .nil) | exact .cell (.cell .nil) | exact .tmp (.cell .nil) | exact .nil | exact .tmp (.cell (.tmp .nil)) | exact .cell (.tmp (.tmp .nil)) | exact .cell (.cell (.tmp .nil)) | exact .tmp (.tmp (.tmp .nil)) | exact .cell (.cell (.cell .nil))) ?_
  rfl

set_option maxRecDepth 100000 in
set_option maxHeartbeats 4000000 in
theorem div_con (h : Heap) (g : Gd h) (a b : Int) (ha : -2305843009213693952 ≤ a) (ha2 : a ≤ 2305843009213693952) (hb : -2305843009213693952 ≤ b) (hb2 : b ≤ 2305843009213693952) : Con Tryz.prog Bs 125 [.int .i64 a, .int .i64 b] h [] (.int .i64 (Int.gcd a b)) [] := by
  refine Con.start rfl Tryz.func125 rfl rfl Tryz.ntmps125 rfl rfl g ?_
  (refine WK.seq ?_; refine WK.region ?_; refine St.assign ?_; refine WO.nil ?_; refine WK.seq ?_; refine WK.block ?_)
  refine WK.inv (ι := Int × Int) (fun z => [(0, .int .i64 z.1), (1, .int .i64 z.2)]) (fun _ => []) (fun z => -2305843009213693952 ≤ z.1 ∧ z.1 ≤ 2305843009213693952 ∧ -2305843009213693952 ≤ z.2 ∧ z.2 ≤ 2305843009213693952 ∧ Int.gcd z.1 z.2 = Int.gcd a b) (fun z => z.1.natAbs) (a, b) ⟨ha, ha2, hb, hb2, rfl⟩ ⟨rfl, rfl, trivial⟩ (by (repeat (first | exact List.Sublist.refl _ | exact List.nil_sublist _ | apply List.Sublist.cons_cons | apply List.Sublist.cons))) ?_
  rintro ⟨p, q⟩ ⟨h1, h2, h3, h4, hg⟩ ih
  simp only at h1 h2 h3 h4 hg ih ⊢
  (refine WK.seq ?_; refine WK.seq ?_; refine WK.region ?_; refine St.move ?_; refine St.bin ?_; refine WO.nil ?_)
  refine St.splitC (fun hq => ?_) (fun hq => ?_)
  · have hq : p ≠ 0 := by simpa using hq
    have k1 := Int.natAbs_tmod q p
    have k2 := Nat.mod_lt q.natAbs (show 0 < p.natAbs by omega)
    (refine WK.skip ?_; refine WK.block ?_; refine WK.region ?_; refine St.move ?_; refine St.move ?_)
    refine St.binX (r := .int .i64 (q.tmod p)) ?_ rfl rfl ?_
    · unfold evBin evInt; simp [hq]
    (refine St.move ?_; refine St.assign ?_; refine St.assign ?_; refine WO.nil ?_; refine WK.blk ?_)
    refine WK.le ?_ (by (repeat (first | exact List.Sublist.refl _ | exact List.nil_sublist _ | apply List.Sublist.cons_cons | apply List.Sublist.cons))) (ih (q.tmod p, p) ⟨by simp only; omega, by simp only; omega, by omega, by omega, ?_⟩ (by simp only; omega))
    · exact ⟨rfl, rfl, trivial⟩
    · show Int.gcd (q.tmod p) p = _
      rw [gcd_step]; exact hg
  · have : p = 0 := by simpa using hq
    subst this
    (refine WK.exit ?_; refine WK.seq ?_; refine WK.region ?_; refine St.move ?_; refine St.move ?_; refine St.unI ?_; refine St.maxI ?_; refine St.assign ?_; refine WO.nil ?_)
    refine St.ret (by first | exact .tmp .nil | exact .cell .nil | exact .cell (.tmp .nil) | exact .tmp (.tmp .nil) | exact .cell (.cell .nil) | exact .tmp (.cell .nil) | exact .nil | exact .tmp (.cell (.tmp .nil)) | exact .cell (.tmp (.tmp .nil)) | exact .cell (.cell (.tmp .nil)) | exact .tmp (.tmp (.tmp .nil)) | exact .cell (.cell (.cell .nil))) ?_
    show AV.int .i64 (max _ _) = _
    rw [← hg, Int.gcd_zero_left]
    congr 1
    omega

set_option maxRecDepth 100000 in
set_option maxHeartbeats 4000000 in
theorem lowest_con (h : Heap) (g : Gd h) (n d : Int) (hn : -2305843009213693952 ≤ n) (hn2 : n ≤ 2305843009213693952) (hd0 : d ≠ 0) (hd : -2305843009213693952 ≤ d) (hd2 : d ≤ 2305843009213693952) : Con Tryz.prog Bs 98 [.int .i64 n, .int .i64 d] h [] (.agg [.int .i64 (loN n d), .int .i64 (loD n d)]) [] := by
  obtain ⟨g1, g2⟩ := gcd_bd (n := n) hd0 hd hd2
  have hs : sg n d ≠ 0 := by unfold sg; split <;> omega
  have b1 := tdiv_bd (b := sg n d) hn hn2
  have b2 := tdiv_bd (b := sg n d) hd hd2
  refine Con.start rfl Tryz.func98 rfl rfl Tryz.ntmps98 rfl rfl g ?_
  (refine WK.seq ?_; refine WK.region ?_; refine St.alloc fun _ _ => ?_; refine WO.nil ?_; refine WK.seq ?_; refine WK.region ?_; refine St.move ?_; refine St.move ?_)
  refine St.call (fun _ => rfl) (fun h hh => div_con h hh.gd n d hn hn2 hd hd2) ?_
  (refine St.assign ?_; refine WO.nil ?_; refine WK.seq ?_; refine WK.seq ?_; refine WK.region ?_; refine St.move ?_; refine St.bin ?_; refine WO.nil ?_)
  refine St.splitC (fun hc => ?_) (fun hc => ?_)
  · have e : sg n d = 0 - (Int.gcd n d : Int) := by unfold sg; rw [if_pos (by simpa using hc)]; omega
    (refine WK.region ?_; refine St.move ?_; refine St.unI ?_; refine St.assign ?_; refine WO.nil ?_; refine WK.seq ?_; refine WK.regionD ?_; refine St.move ?_; refine St.move ?_)
    refine St.binX (r := .int .i64 (loN n d)) ?_ rfl rfl ?_
    · unfold evBin evInt; rw [← e]; simp [wrap_ok (n := n.tdiv (sg n d)) (by omega), hs]; rfl
    (refine St.move ?_; refine St.move ?_)
    refine St.binX (r := .int .i64 (loD n d)) ?_ rfl rfl ?_
    · unfold evBin evInt; rw [← e]; simp [wrap_ok (n := d.tdiv (sg n d)) (by omega), hs]; rfl
    (refine St.build ?_; refine StD.store0 ?_; refine WO.nil ?_)
    refine St.ret (by first | exact .tmp .nil | exact .cell .nil | exact .cell (.tmp .nil) | exact .tmp (.tmp .nil) | exact .cell (.cell .nil) | exact .tmp (.cell .nil) | exact .nil | exact .tmp (.cell (.tmp .nil)) | exact .cell (.tmp (.tmp .nil)) | exact .cell (.cell (.tmp .nil)) | exact .tmp (.tmp (.tmp .nil)) | exact .cell (.cell (.cell .nil))) ?_
    rfl
  · have e : sg n d = (Int.gcd n d : Int) := by unfold sg; rw [if_neg (by simpa using hc)]
    (refine WK.skip ?_; refine WK.seq ?_; refine WK.regionD ?_; refine St.move ?_; refine St.move ?_)
    refine St.binX (r := .int .i64 (loN n d)) ?_ rfl rfl ?_
    · unfold evBin evInt; rw [← e]; simp [wrap_ok (n := n.tdiv (sg n d)) (by omega), hs]; rfl
    (refine St.move ?_; refine St.move ?_)
    refine St.binX (r := .int .i64 (loD n d)) ?_ rfl rfl ?_
    · unfold evBin evInt; rw [← e]; simp [wrap_ok (n := d.tdiv (sg n d)) (by omega), hs]; rfl
    (refine St.build ?_; refine StD.store0 ?_; refine WO.nil ?_)
    refine St.ret (by first | exact .tmp .nil | exact .cell .nil | exact .cell (.tmp .nil) | exact .tmp (.tmp .nil) | exact .cell (.cell .nil) | exact .tmp (.cell .nil) | exact .nil | exact .tmp (.cell (.tmp .nil)) | exact .cell (.tmp (.tmp .nil)) | exact .cell (.cell (.tmp .nil)) | exact .tmp (.tmp (.tmp .nil)) | exact .cell (.cell (.cell .nil))) ?_
    rfl

set_option maxRecDepth 100000 in
set_option maxHeartbeats 4000000 in
theorem inverse1_con (h : Heap) (g : Gd h) (y x0 y0 x1 y1 : Int) (j : Nat) (hy : Rd h j 0 (.int .i64 y)) : Con Tryz.prog Bs 110 [.agg [.int .i64 x0, .int .i64 y0, .int .i64 x1, .int .i64 y1], .ptr j 0] h [] (.bool (decide (min y0 y1 ≤ y) && decide (y ≤ max y0 y1))) [] := by
  refine Con.start rfl Tryz.func110 rfl rfl Tryz.ntmps110 rfl rfl g ?_
  (refine WK.seq ?_; refine WK.region ?_; refine St.box fun _ _ => ?_; refine St.assign ?_; refine WO.nil ?_; refine WK.seq ?_; refine WK.region ?_; refine St.fieldAddr ?_; refine St.fieldAddr ?_; refine St.load ?_; refine St.fieldAddr ?_; refine St.fieldAddr ?_; refine St.load ?_; refine St.minI ?_)
  refine St.loadX (fun h hh => (hh.rd (by simp) hy).one rfl) ?_
  (refine St.bin ?_; refine St.move ?_)
  refine St.split (fun hc => ?_) (fun hc => ?_)
  · skip
    refine St.loadX (fun h hh => (hh.rd (by simp) hy).one rfl) ?_
    (refine St.fieldAddr ?_; refine St.fieldAddr ?_; refine St.load ?_; refine St.fieldAddr ?_; refine St.fieldAddr ?_; refine St.load ?_; refine St.maxI ?_; refine St.bin ?_; refine St.pickT ?_; refine St.assign ?_; refine WO.nil ?_)
    refine St.ret (by first | exact .tmp .nil | exact .cell .nil | exact .cell (.tmp .nil) | exact .tmp (.tmp .nil) | exact .cell (.cell .nil) | exact .tmp (.cell .nil) | exact .nil | exact .tmp (.cell (.tmp .nil)) | exact .cell (.tmp (.tmp .nil)) | exact .cell (.cell (.tmp .nil)) | exact .tmp (.tmp (.tmp .nil)) | exact .cell (.cell (.cell .nil))) ?_
    have hc' : min y0 y1 ≤ y := of_decide_eq_true hc
    show AV.bool (decide (y ≤ max _ _)) = _
    rw [decide_eq_true hc', Bool.true_and]
  · (refine St.skip ?_; refine St.skip ?_; refine St.skip ?_; refine St.skip ?_; refine St.skip ?_; refine St.skip ?_; refine St.skip ?_; refine St.skip ?_; refine St.skip ?_; refine St.pickF ?_; refine St.assign ?_; refine WO.nil ?_)
    refine St.ret (by first | exact .tmp .nil | exact .cell .nil | exact .cell (.tmp .nil) | exact .tmp (.tmp .nil) | exact .cell (.cell .nil) | exact .tmp (.cell .nil) | exact .nil | exact .tmp (.cell (.tmp .nil)) | exact .cell (.tmp (.tmp .nil)) | exact .cell (.cell (.tmp .nil)) | exact .tmp (.tmp (.tmp .nil)) | exact .cell (.cell (.cell .nil))) ?_
    have hc' : ¬ min y0 y1 ≤ y := of_decide_eq_false hc
    show AV.bool false = _
    rw [decide_eq_false hc', Bool.false_and]

theorem wrapMul {P : Program} {t : TypeId} {a b A B : Int} (h : -A ≤ a ∧ a ≤ A) (h2 : -B ≤ b ∧ b ≤ B) (hm : A * B ≤ 9223372036854775807) : evBin P .mul t (.int .i64 a) (.int .i64 b) = some (.int .i64 (a * b)) := by
  obtain ⟨m1, m2⟩ := mul_bd h.1 h.2 h2.1 h2.2
  unfold evBin evInt
  simp [wrap_ok (n := a * b) (by omega)]

set_option maxRecDepth 100000 in
set_option maxHeartbeats 4000000 in
theorem inverse_con (h : Heap) (g : Gd h) (b off : Nat) (c : ACap) (ks : List (Int × Int)) (err y : Int) (v : Vd ks err) (hw : wayK ks ≠ 0) (h0 : -200000 ≤ y) (h1 : y ≤ 200000) (hk : KnH h b off ks) : Con Tryz.prog Bs 76 [.agg [.slice b off ks.length c, .int .i64 err], .int .i64 y] h [] (.agg [.int .i64 (invOf ks y).1, .int .i64 (invOf ks y).2]) [] := by
  have hpos := v.pos
  have hlen : ks.length ≤ 40 := v.le
  have F : ∀ (h : Heap) (j : Nat) (_ : Gd h) (_ : KnH h b off ks) (_ : Rd h j 0 (.int .i64 y)), Con Tryz.prog Bs 107 [.agg [.slice b off ks.length c, .int .i64 err], .fn (.func 110) [] [.ptr j 0]] h [] (.tup [pcF ks (firstPc ks (atV ks y)), .bool (firstPc ks (atV ks y)).isSome]) [] := fun h j g hk hj => find_pc h g b off c ks err 110 [] [.ptr j 0] (atV ks y) (by omega) hpos hk (fun k hk1 h' V hv =>
    inverse1_con h' hv.gd y _ _ _ _ j (hv.rd (by simp) hj))
  cases e : firstPc ks (atV ks y) with
  | none =>
    have e1 : invOf ks y = (loN (kx ks 0) 1, loD (kx ks 0) 1) := by unfold invOf; rw [e]
    rw [e] at F
    rw [e1]
    have a0 := v.kx0 v.pos
    have a1 := v.kx1 v.pos
    refine Con.start rfl Tryz.func76 rfl rfl Tryz.ntmps76 rfl rfl g ?_
    (refine WK.seq ?_; refine WK.region ?_; refine St.box fun _ _ => ?_; refine St.box fun _ _ => ?_; refine St.alloc fun _ _ => ?_; refine WO.nil ?_; refine WK.seq ?_; refine WK.region ?_; refine St.load ?_; refine St.fn ?_)
    refine St.call (fun _ => rfl) (fun h hh => F h _ hh.gd (hk.vw hh) (hh.rdO (l := [.int .i64 y]) (t := 3) (.tail _ (.head _)) rfl)) ?_
    (refine St.move ?_; refine St.extract ?_; refine St.extract ?_; refine St.alloc fun _ _ => ?_; refine St.store0 ?_; refine St.assign ?_; refine WO.nil ?_; refine WK.seq ?_; refine WK.seq ?_; refine WK.region ?_; refine St.move ?_; refine St.un ?_; refine WO.nil ?_; refine WK.condT ?_; refine WK.seq ?_; refine WK.region ?_; refine St.fieldAddr ?_; refine St.load ?_)
    refine St.at ?_
    (refine St.fieldAddr ?_)
    refine St.loadX (fun h hh => ((hk.vw hh).xAt (z := 0) (n := 0) (by omega) (by omega)).one rfl) ?_
    skip
    refine St.call (fun _ => rfl) (fun h hh => lowest_con h hh.gd (kx ks 0) 1 (by omega) (by omega) (by omega) (by omega) (by omega)) ?_
    (refine St.store1 ?_; refine WO.nil ?_)
    refine St.ret (by first | exact .tmp .nil | exact .cell .nil | exact .cell (.tmp .nil) | exact .tmp (.tmp .nil) | exact .cell (.cell .nil) | exact .tmp (.cell .nil) | exact .nil | exact .tmp (.cell (.tmp .nil)) | exact .cell (.tmp (.tmp .nil)) | exact .cell (.cell (.tmp .nil)) | exact .tmp (.tmp (.tmp .nil)) | exact .cell (.cell (.cell .nil))) ?_
    rfl
  | some i =>
    have e1 : invOf ks y = (loN (invK ks y i) (riseK ks i), loD (invK ks y i) (riseK ks i)) := by unfold invOf; rw [e]
    have hi1 := firstPc_lt e
    have hi' : i < ks.length := by omega
    obtain ⟨⟨a2, a3⟩, ⟨a6, a7⟩, a0, a4, a5⟩ := v.pc hi1
    have hne : ky ks (i + 1) - ky ks i ≠ 0 := way_ne hw hi1
    obtain ⟨m1, m2⟩ := mul_bd (show -2000 ≤ (kx ks i) by omega) (show (kx ks i) ≤ 2000 by omega) (show -131072 ≤ (ky ks (i + 1)) - (ky ks i) by omega) (show (ky ks (i + 1)) - (ky ks i) ≤ 131072 by omega)
    obtain ⟨m3, m4⟩ := mul_bd (show -265536 ≤ y - (ky ks i) by omega) (show y - (ky ks i) ≤ 265536 by omega) (show -2000 ≤ (kx ks (i + 1)) - (kx ks i) by omega) (show (kx ks (i + 1)) - (kx ks i) ≤ 2000 by omega)
    rw [e] at F
    rw [e1]
    refine Con.start rfl Tryz.func76 rfl rfl Tryz.ntmps76 rfl rfl g ?_
    (refine WK.seq ?_; refine WK.region ?_; refine St.box fun _ _ => ?_; refine St.box fun _ _ => ?_; refine St.alloc fun _ _ => ?_; refine WO.nil ?_; refine WK.seq ?_; refine WK.region ?_; refine St.load ?_; refine St.fn ?_)
    refine St.call (fun _ => rfl) (fun h hh => F h _ hh.gd (hk.vw hh) (hh.rdO (l := [.int .i64 y]) (t := 3) (.tail _ (.head _)) rfl)) ?_
    (refine St.move ?_; refine St.extract ?_; refine St.extract ?_; refine St.alloc fun _ _ => ?_; refine St.store0 ?_; refine St.assign ?_; refine WO.nil ?_; refine WK.seq ?_; refine WK.seq ?_; refine WK.region ?_; refine St.move ?_; refine St.un ?_; refine WO.nil ?_; refine WK.condF ?_; refine WK.skip ?_; refine WK.seq ?_; refine WK.regionD ?_; refine St.fieldAddr ?_; refine St.fieldAddr ?_; refine St.load ?_; refine St.load ?_)
    refine St.call (fun _ => rfl) (fun h hh => rise_con h hh.gd (kx ks i) (ky ks i) (kx ks (i + 1)) (ky ks (i + 1)) (by omega) (by omega) (by omega) (by omega)) ?_
    (refine St.binI ?_; refine St.load ?_; refine St.fieldAddr ?_; refine St.fieldAddr ?_; refine St.load ?_; refine St.binI ?_; refine St.load ?_)
    refine St.call (fun _ => rfl) (fun h hh => run_con h hh.gd (kx ks i) (ky ks i) (kx ks (i + 1)) (ky ks (i + 1)) (by omega) (by omega) (by omega) (by omega)) ?_
    (refine St.binI ?_; refine St.binI ?_; refine St.load ?_)
    refine St.call (fun _ => rfl) (fun h hh => rise_con h hh.gd (kx ks i) (ky ks i) (kx ks (i + 1)) (ky ks (i + 1)) (by omega) (by omega) (by omega) (by omega)) ?_
    skip
    refine St.call (fun _ => rfl) (fun h hh => lowest_con h hh.gd (kx ks i * (ky ks (i + 1) - ky ks i) + (y - ky ks i) * (kx ks (i + 1) - kx ks i)) (ky ks (i + 1) - ky ks i) (by omega) (by omega) hne (by omega) (by omega)) ?_
    (refine StD.store1 ?_; refine WO.nil ?_)
    refine St.ret (by first | exact .tmp .nil | exact .cell .nil | exact .cell (.tmp .nil) | exact .tmp (.tmp .nil) | exact .cell (.cell .nil) | exact .tmp (.cell .nil) | exact .nil | exact .tmp (.cell (.tmp .nil)) | exact .cell (.tmp (.tmp .nil)) | exact .cell (.cell (.tmp .nil)) | exact .tmp (.tmp (.tmp .nil)) | exact .cell (.cell (.cell .nil))) ?_
    rfl
end Go.Proofs.YtbhklifflhoinaaGreat
