/- Sightings: without the only one; Suspects of the program. -/
import Derived.Test.YtgjkfmcjalcefaaGreatZa
namespace Go.Proofs.YtgjkfmcjalcefaaGreat
open Go.Proofs.YtgjkfmcjalcefaaGreat.Ev

set_option maxRecDepth 100000 in
set_option maxHeartbeats 8000000 in
theorem grow0_con (h : Heap) (g : Gd h) : Con Tryz.prog Bs 115 [.slice0, .int .i64 0] h [] .slice0 [] := by
  refine Con.start rfl Tryz.func115 rfl rfl Tryz.ntmps115 rfl rfl g ?_
  (refine WK.seq ?_; refine WK.region ?_; refine St.assign ?_; refine WO.nil ?_; refine WK.seq ?_; refine WK.seq ?_; refine WK.region ?_; refine St.move ?_; refine St.bin ?_; refine WO.nil ?_; refine WK.condF ?_; refine WK.skip ?_; refine WK.seq ?_; refine WK.seq ?_; refine WK.region ?_; refine St.move ?_; refine St.move ?_)
  refine St.any (v := .int .i64 0) ?_
  (refine St.move ?_; refine St.len0 ?_; refine St.binI ?_; refine St.binI ?_; refine St.assign ?_; refine WO.nil ?_; refine WK.seq ?_; refine WK.region ?_; refine St.move ?_; refine St.bin ?_; refine WO.nil ?_; refine WK.condF ?_; refine WK.skip ?_; refine WK.seq ?_; refine WK.region ?_; refine St.move ?_; refine St.assign ?_; refine WO.nil ?_)
  refine St.ret (by first | exact .tmp .nil | exact .cell .nil | exact .cell (.tmp .nil) | exact .tmp (.tmp .nil) | exact .cell (.cell .nil) | exact .tmp (.cell .nil) | exact .nil | exact .tmp (.cell (.tmp .nil)) | exact .cell (.tmp (.tmp .nil)) | exact .cell (.cell (.tmp .nil)) | exact .tmp (.tmp (.tmp .nil)) | exact .cell (.cell (.cell .nil))) ?_
  rfl
set_option maxRecDepth 100000 in
set_option maxHeartbeats 8000000 in
theorem concat0_con (h : Heap) (g : Gd h) (x : Nat) (v1 v2 : AV) (hx : Rds h x 0 [v1, v2]) (h1 : SeV h v1 [] [] []) (h2 : SeV h v2 [] [] []) (z1 : OkZ h v1) (z2 : OkZ h v2) :
    Con Tryz.prog Bs 83 [.slice x 0 2 (.k 2)] h [] .slice0 [] := by
  have n1 : lenOfA v1 = some 0 := by rcases h1 with ⟨rfl | rfl, _⟩ | ⟨b, off, c, rfl, _⟩ <;> rfl
  have n2 : lenOfA v2 = some 0 := by rcases h2 with ⟨rfl | rfl, _⟩ | ⟨b, off, c, rfl, _⟩ <;> rfl
  refine Con.start rfl Tryz.func83 rfl rfl Tryz.ntmps83 rfl rfl g ?_
  (refine WK.seq ?_; refine WK.region ?_; refine St.assign ?_; refine WO.nil ?_; refine WK.seq ?_; refine WK.region ?_; refine St.assign ?_; refine WO.nil ?_; refine WK.seq ?_; refine WK.seq ?_; refine WK.region ?_; refine St.move ?_; refine St.len ?_; refine St.move ?_; refine WO.nil ?_; refine WK.block ?_)
  refine WK.unroll ?_
  (refine WK.seq ?_; refine WK.region ?_; refine St.bin ?_; refine WO.nil ?_; refine WK.seq ?_; refine WK.condT ?_; refine WK.skip ?_; refine WK.seq ?_; refine WK.block ?_; refine WK.seq ?_; refine WK.region ?_)
  refine St.at ?_
  skip
  refine St.loadX (fun h hh => (hh.rd (by simp) hx.1).one rfl) ?_
  (refine St.assign ?_; refine WO.nil ?_; refine WK.seq ?_; refine WK.region ?_; refine St.move ?_; refine St.move ?_)
  refine St.lenV rfl h1.len ?_
  (refine St.bin ?_; refine St.assign ?_; refine WO.nil ?_; refine WK.seq ?_; refine WK.region ?_; refine St.move ?_; refine St.bin ?_; refine WO.nil ?_; refine WK.condF ?_; refine WK.skip ?_; refine WK.blk ?_; refine WK.region ?_; refine St.binI ?_; refine St.move ?_; refine WO.nil ?_)
  refine WK.unroll ?_
  (refine WK.seq ?_; refine WK.region ?_; refine St.bin ?_; refine WO.nil ?_; refine WK.seq ?_; refine WK.condT ?_; refine WK.skip ?_; refine WK.seq ?_; refine WK.block ?_; refine WK.seq ?_; refine WK.region ?_)
  refine St.at ?_
  skip
  refine St.loadX (fun h hh => (hh.rd (by simp) hx.2.1).one rfl) ?_
  (refine St.assign ?_; refine WO.nil ?_; refine WK.seq ?_; refine WK.region ?_; refine St.move ?_; refine St.move ?_)
  refine St.lenV rfl h2.len ?_
  (refine St.bin ?_; refine St.assign ?_; refine WO.nil ?_; refine WK.seq ?_; refine WK.region ?_; refine St.move ?_; refine St.bin ?_; refine WO.nil ?_; refine WK.condF ?_; refine WK.skip ?_; refine WK.blk ?_; refine WK.region ?_; refine St.binI ?_; refine St.move ?_; refine WO.nil ?_)
  refine WK.unroll ?_
  (refine WK.seq ?_; refine WK.region ?_; refine St.bin ?_; refine WO.nil ?_; refine WK.seq ?_; refine WK.condF ?_; refine WK.exit ?_; refine WK.seq ?_; refine WK.region ?_; refine St.move ?_)
  refine St.call (fun _ => rfl) (fun h2 hh => grow0_con h2 hh.gd) ?_
  (refine St.assign ?_; refine WO.nil ?_; refine WK.seq ?_; refine WK.seq ?_; refine WK.region ?_; refine St.move ?_; refine St.len ?_; refine St.move ?_; refine WO.nil ?_; refine WK.block ?_)
  refine WK.unroll ?_
  (refine WK.seq ?_; refine WK.region ?_; refine St.bin ?_; refine WO.nil ?_; refine WK.seq ?_; refine WK.condT ?_; refine WK.skip ?_; refine WK.seq ?_; refine WK.block ?_; refine WK.seq ?_; refine WK.region ?_)
  refine St.at ?_
  skip
  refine St.loadX (fun h hh => (hh.rd (by simp) hx.1).one rfl) ?_
  (refine St.assign ?_; refine WO.nil ?_; refine WK.region ?_; refine St.move ?_; refine St.move ?_)
  refine St.app0 (e := 87) (sz := 6) (len := 0) (old := []) (Lv := []) (Lk := []) (v := .slice0) (IsL.nil rfl rfl) (List.Perm.refl _) ?_ ⟨rfl, rfl, rfl, rfl, rfl, rfl, rfl, rfl, n1⟩ (fun h2 hh => z1.first hh)
  (refine St.assign ?_; refine WO.nil ?_; refine WK.blk ?_; refine WK.region ?_; refine St.binI ?_; refine St.move ?_; refine WO.nil ?_)
  refine WK.unroll ?_
  (refine WK.seq ?_; refine WK.region ?_; refine St.bin ?_; refine WO.nil ?_; refine WK.seq ?_; refine WK.condT ?_; refine WK.skip ?_; refine WK.seq ?_; refine WK.block ?_; refine WK.seq ?_; refine WK.region ?_)
  refine St.at ?_
  skip
  refine St.loadX (fun h hh => (hh.rd (by simp) hx.2.1).one rfl) ?_
  (refine St.assign ?_; refine WO.nil ?_; refine WK.region ?_; refine St.move ?_; refine St.move ?_)
  refine St.app0 (e := 87) (sz := 6) (len := 0) (old := []) (Lv := []) (Lk := []) (v := .slice0) (IsL.nil rfl rfl) (List.Perm.refl _) ?_ ⟨rfl, rfl, rfl, rfl, rfl, rfl, rfl, rfl, n2⟩ (fun h2 hh => z2.first hh)
  (refine St.assign ?_; refine WO.nil ?_; refine WK.blk ?_; refine WK.region ?_; refine St.binI ?_; refine St.move ?_; refine WO.nil ?_)
  refine WK.unroll ?_
  (refine WK.seq ?_; refine WK.region ?_; refine St.bin ?_; refine WO.nil ?_; refine WK.seq ?_; refine WK.condF ?_; refine WK.exit ?_; refine WK.seq ?_; refine WK.region ?_; refine St.move ?_; refine St.assign ?_; refine WO.nil ?_)
  refine St.ret (by first | exact .tmp .nil | exact .cell .nil | exact .cell (.tmp .nil) | exact .tmp (.tmp .nil) | exact .cell (.cell .nil) | exact .tmp (.cell .nil) | exact .nil | exact .tmp (.cell (.tmp .nil)) | exact .cell (.tmp (.tmp .nil)) | exact .cell (.cell (.tmp .nil)) | exact .tmp (.tmp (.tmp .nil)) | exact .cell (.cell (.cell .nil))) ?_
  rfl
theorem see_vL {h0 h : Heap} {W : List Nat} {V : Ob} {cs : List Cy} {ss : List Sh} {l : List Ga} {v : AV} {Lv : Ob} (hw : IsL 87 6 l.length (seeA cs ss l) v Lv) (k : Vw h0 W V h) (hm : ∀ x ∈ Lv, x ∈ V) : SeV h v cs ss l := by
  rcases hw.open_ with ⟨rfl, rfl, h1, _⟩ | ⟨i, c, o, rfl, rfl, h1, _⟩
  · exact .inl ⟨.inl rfl, List.length_eq_zero_iff.1 h1⟩
  · refine .inr ⟨i, 0, c, rfl, fun j hj => ?_⟩
    rw [Nat.zero_add]
    exact k.rdsD (hm _ (List.mem_cons_self ..)) h1 _ _ _ (seeA_drop cs ss l j hj)
set_option maxRecDepth 100000 in
set_option maxHeartbeats 8000000 in
theorem without1_con (h : Heap) (g : Gd h) (j : Nat) (cs : List Cy) (ss : List Sh) (l : List Ga) (hj : j < h.next) (hg : h.get j = some (.row (seeA cs ss l) 87 6)) (h1 : l.length = 1) :
    Con Tryz.prog Bs 47 [.slice j 0 1 (.m 0), .int .i64 0] h [] .slice0 [] := by
  have hkn : ∀ (h2 : Heap) {V : Ob}, Vw h [] V h2 → knownN h2 j 6 = 1 := fun h2 V hh => by
    unfold knownN
    rw [hh.old j hj (by simp), hg]
    simp only [if_true, seeA_len]
    omega
  have hz : ∀ (h2 : Heap) {V : Ob}, Vw h [] V h2 → h2.loadN j 0 0 = some [] := fun h2 V hh => by
    unfold Heap.loadN
    rw [hh.old j hj (by simp), hg]
    rfl
  refine Con.start rfl Tryz.func47 rfl rfl Tryz.ntmps47 rfl rfl g ?_
  (refine WK.seq ?_; refine WK.region ?_; refine St.assign ?_; refine WO.nil ?_; refine WK.seq ?_; refine WK.regionD ?_; refine St.move ?_; refine St.move ?_)
  refine St.sliceV (v := .slice j 0 0 (.m 0)) (fun h2 hh => ?_) ?_
  · show plainV (evSlice Tryz.prog h2 79 (.slice j 0 1 (.m 0)) none (some (.int .i64 0)) none) h2 = _
    have := sl_seeT (k := 0) (hkn h2 hh) (by omega)
    rw [show ((0 : Nat) : Int) = 0 from rfl] at this
    rw [this]
    rfl
  (refine St.move ?_; refine St.move ?_; refine St.binI ?_)
  refine St.sliceV (v := .sliceZ) (fun h2 hh => ?_) ?_
  · show plainV (evSlice Tryz.prog h2 79 (.slice j 0 1 (.m 0)) (some (.int .i64 (0 + 1))) none none) h2 = _
    have := sl_seeF (k := 1) (hkn h2 hh) (by omega) (by omega)
    rw [show ((1 : Nat) : Int) = 0 + 1 from rfl] at this
    rw [this]
    rfl
  (refine StD.mkS fun _ _ => ?_)
  rename_i x hx
  refine StD.callRT (R := fun u L => u = .slice0 ∧ L = []) [(7, (x, .cells [.slice j 0 0 (.m 0), .sliceZ] 79))] (fun _ => rfl) (fun y hy => by cases List.mem_singleton.1 hy; exact ⟨List.Mem.head _, by show maskAt _ _ 7 = true; decide +kernel⟩) (fun h2 hh => ?_) (fun u L hu => ?_)
  · refine ⟨_, _, concat0_con h2 hh.gd x (.slice j 0 0 (.m 0)) .sliceZ ?_ ?_ ?_ ?_ ?_, rfl, rfl⟩
    · exact ⟨hh.rdO (List.Mem.head _) rfl, hh.rdO (List.Mem.head _) rfl, trivial⟩
    · exact .inr ⟨j, 0, .m 0, rfl, fun i hi => by simp at hi⟩
    · exact .inl ⟨.inr rfl, rfl⟩
    · exact .inr (.inr ⟨j, 0, 0, _, rfl, Nat.lt_of_lt_of_le hj hh.nx, hz h2 hh⟩)
    · exact .inr (.inl rfl)
  obtain ⟨rfl, rfl⟩ := hu
  (refine St.assign ?_; refine WO.nil1 ?_)
  refine St.ret (by first | exact .tmp .nil | exact .cell .nil | exact .cell (.tmp .nil) | exact .tmp (.tmp .nil) | exact .cell (.cell .nil) | exact .tmp (.cell .nil) | exact .nil | exact .tmp (.cell (.tmp .nil)) | exact .cell (.tmp (.tmp .nil)) | exact .cell (.cell (.tmp .nil)) | exact .tmp (.tmp (.tmp .nil)) | exact .cell (.cell (.cell .nil))) ?_
  rfl
/-- the others than number i -/
theorem withoutA_con (h : Heap) (g : Gd h) (j i : Nat) (cs : List Cy) (ss : List Sh) (l : List Ga) (hj : j < h.next) (hg : h.get j = some (.row (seeA cs ss l) 87 6)) (hs : SeH h j 0 cs ss l) (hi : i < l.length) (hl : l.length ≤ 1000) :
    ∃ u L, Con Tryz.prog Bs 47 [.slice j 0 l.length (.m 0), .int .i64 i] h [] u L ∧ IsL 87 6 (l.eraseIdx i).length (seeA cs ss (l.eraseIdx i)) u L := by
  by_cases h1 : 1 < l.length
  · exact without_con h g j i cs ss l hj hg hs hi h1 hl
  · have e : l.length = 1 := by omega
    have e2 : i = 0 := by omega
    subst e2
    have e3 : l.eraseIdx 0 = [] := List.length_eq_zero_iff.1 (by rw [List.length_eraseIdx_of_lt hi]; omega)
    rw [e3, e]
    exact ⟨_, _, without1_con h g j cs ss l hj hg e, IsL.nil rfl rfl⟩
theorem perm_cnt {α : Type} {l1 l2 : List α} (h : ∀ (_ : DecidableEq α) (a : α), l1.count a = l2.count a) : l1.Perm l2 := by
  classical exact List.perm_iff_count.2 fun a => h _ a
/-! suspects -/
def susTo (cs : List Cy) (ss : List Sh) (l : List Ga) : Nat → List Int
  | 0 => []
  | k + 1 => susTo cs ss l k ++ if fitG cs ss (l.eraseIdx k) = true then [(nthG l k).id] else []
def susR (lv : Int) (cs : List Cy) (ss : List Sh) (l : List Ga) : List Int × Int :=
  if chkGs lv cs ss l ≠ 0 then ([], chkGs lv cs ss l) else if fitG cs ss l = true then ([], 0) else (sortX (susTo cs ss l l.length), 0)
theorem susTo_len (cs : List Cy) (ss : List Sh) (l : List Ga) : ∀ k, (susTo cs ss l k).length ≤ k
  | 0 => by simp [susTo]
  | k + 1 => by
    have := susTo_len cs ss l k
    simp only [susTo, List.length_append]
    split <;> simp <;> omega
theorem Bs_sort (i n : Nat) (c : ACap) (h : Heap) : Bs.ans 48 [.slice i 0 n c] h = inplA 48 sortX (fun _ _ _ => .tup []) 48 [.slice i 0 n c] h := (orB_right rfl).trans (orB_left rfl)
theorem Bs_sort0 (h : Heap) : Bs.ans 48 (nilArgs none) h = nilA 48 none 48 (nilArgs none) h := (orB_right rfl).trans ((orB_right rfl).trans ((orB_right rfl).trans ((orB_right rfl).trans (orB_left rfl))))
theorem see_at {h0 h : Heap} {W : List Nat} {V : Ob} {cs : List Cy} {ss : List Sh} {l : List Ga} {j n : Nat} {z : Int} {t : TypeId} (k : Vw h0 W V h) (hm : (j, .row (seeA cs ss l) t 6) ∈ V) (e : z.toNat = n) (hi : n < l.length) : Rds h j (0 + z.toNat * 6) [.int .i64 (nthG l n).id, .int .i64 (nthG l n).tk, .int .i64 (nthG l n).lo, .int .i64 (nthG l n).hi, .int .i64 (lvG cs ss (nthG l n)).1, .int .i64 (lvG cs ss (nthG l n)).2] := by
  subst e
  rw [Nat.zero_add]
  exact k.rdsD hm (AObj.has_row _ _ _) _ _ _ (seeA_drop cs ss l _ hi)
theorem see_seh {h0 h : Heap} {W : List Nat} {V : Ob} {cs : List Cy} {ss : List Sh} {l : List Ga} {j : Nat} {t : TypeId} (k : Vw h0 W V h) (hm : (j, .row (seeA cs ss l) t 6) ∈ V) : SeH h j 0 cs ss l := fun i hi => by
  have := see_at k hm (z := (i : Int)) (n := i) (by omega) hi
  rwa [Int.toNat_natCast] at this
set_option maxRecDepth 100000 in
set_option maxHeartbeats 16000000 in
theorem suspects_con (h : Heap) (g : Gd h) (lv : Int) (cv sv v : AV) (cl : List Cw) (ss : List Sh) (l : List Ga) (hc : CyV h cv cl) (hs : ShV h sv ss) (hv : GaV h v l) (hl : l.length ≤ 1000000) :
    ∃ u L, Con Tryz.prog Bs 13 [.agg [.int .i64 lv, cv, sv], v] h [] u L ∧ ∃ w, u = .tup [w, .int .i64 (susR lv (cys cl) ss l).2] ∧ IsL 3 1 (susR lv (cys cl) ss l).1.length ((susR lv (cys cl) ss l).1.map (AV.int .i64)) w L := by
  have hG : ∀ (h2 : Heap) {V : Ob}, Vw h [] V h2 → Con Tryz.prog Bs 33 [.agg [.int .i64 lv, cv, sv], v] h2 [] (.int .i64 (chkGs lv (cys cl) ss l)) [] := fun h2 V hh => checkGauges_con h2 hh.gd lv cv sv v cl ss l (hc.vw hh) (hs.vw hh) (hv.vw hh) hl
  by_cases h0 : chkGs lv (cys cl) ss l = 0
  rotate_left
  · have e : susR lv (cys cl) ss l = ([], chkGs lv (cys cl) ss l) := if_pos h0
    rw [e]
    refine Con.subR (Con.startR rfl Tryz.func13 rfl rfl Tryz.ntmps13 rfl rfl (SS.init g) ?_)
    (refine WK.seq ?_; refine WK.region ?_; refine St.box fun _ _ => ?_; refine St.assign ?_; refine St.assign ?_; refine WO.nil ?_; refine WK.seq ?_; refine WK.seq ?_; refine WK.region ?_; refine St.load ?_; refine St.move ?_)
    refine St.call (fun _ => rfl) (fun h2 hh => hG h2 hh) ?_
    (refine St.assign ?_; refine WO.nil ?_; refine WK.seq ?_; refine WK.region ?_; refine St.move ?_; refine St.bin ?_; refine WO.nil ?_)
    refine St.splitC (fun q => ?_) (fun q => ?_)
    · (refine WK.seq ?_; refine WK.region ?_; refine St.move ?_; refine St.assign ?_; refine St.assign ?_; refine WO.nil ?_)
      refine St.ret (by first | exact .tmp .nil | exact .cell .nil | exact .cell (.tmp .nil) | exact .tmp (.tmp .nil) | exact .cell (.cell .nil) | exact .tmp (.cell .nil) | exact .nil | exact .tmp (.cell (.tmp .nil)) | exact .cell (.tmp (.tmp .nil)) | exact .cell (.cell (.tmp .nil)) | exact .tmp (.tmp (.tmp .nil)) | exact .cell (.cell (.cell .nil))) ?_
      exact ⟨[], List.nil_sublist _, .slice0, rfl, .nil rfl rfl⟩
    · simp at q; exact absurd q h0
  obtain ⟨w, h40, hga⟩ := chkGs_w h0
  have e : susR lv (cys cl) ss l = if fitG (cys cl) ss l = true then ([], 0) else (sortX (susTo (cys cl) ss l l.length), 0) := if_neg (by simp [h0])
  rw [e]
  refine Con.subR (Con.startR rfl Tryz.func13 rfl rfl Tryz.ntmps13 rfl rfl (SS.init g) ?_)
  (refine WK.seq ?_; refine WK.region ?_; refine St.box fun _ _ => ?_; refine St.assign ?_; refine St.assign ?_; refine WO.nil ?_; refine WK.seq ?_; refine WK.seq ?_; refine WK.region ?_; refine St.load ?_; refine St.move ?_)
  rename_i p hp
  refine St.call (v := .int .i64 0) (fun _ => rfl) (fun h2 hh => by
    have := hG h2 hh
    rw [h0] at this
    exact this) ?_
  (refine St.assign ?_; refine WO.nil ?_; refine WK.seq ?_; refine WK.region ?_; refine St.move ?_; refine St.bin ?_; refine WO.nil ?_; refine WK.condF ?_; refine WK.skip ?_; refine WK.seq ?_; refine WK.region ?_; refine St.load ?_; refine St.move ?_)
  refine St.callR (fun _ => rfl) (fun h2 hh => see_con h2 hh.gd lv cv sv v cl ss l (hc.vw hh) (hs.vw hh) (hv.vw hh) (by omega) w hga) ?_
  rintro u L1 hu
  (refine St.assign ?_; refine WO.nil ?_; refine WK.seq ?_; refine WK.seq ?_; refine WK.region ?_; refine St.move ?_)
  refine St.call (fun _ => rfl) (fun h2 hh => fit_con h2 hh.gd u (cys cl) ss l (see_v hu hh (fun x hx => List.mem_append_left _ hx)) hl) ?_
  cases hf : fitG (cys cl) ss l
  rotate_left
  · (refine WO.nil ?_; refine WK.condT ?_; refine WK.seq ?_; refine WK.region ?_; refine St.assign ?_; refine St.assign ?_; refine WO.nil ?_)
    refine St.ret (by first | exact .tmp .nil | exact .cell .nil | exact .cell (.tmp .nil) | exact .tmp (.tmp .nil) | exact .cell (.cell .nil) | exact .tmp (.cell .nil) | exact .nil | exact .tmp (.cell (.tmp .nil)) | exact .cell (.tmp (.tmp .nil)) | exact .cell (.cell (.tmp .nil)) | exact .tmp (.tmp (.tmp .nil)) | exact .cell (.cell (.cell .nil))) ?_
    exact ⟨[], List.nil_sublist _, .slice0, rfl, .nil rfl rfl⟩
  rw [if_neg (by simp)]
  have hlp : 0 < l.length := by
    rcases Nat.eq_zero_or_pos l.length with h1 | h1
    · rw [List.length_eq_zero_iff.1 h1] at hf
      simp [fitG, comG] at hf
    · exact h1
  cases hu with
  | nil h1 h2 => omega
  | row j hj =>
  (refine WO.nil ?_; refine WK.condF ?_; refine WK.skip ?_; refine WK.seq ?_; refine WK.region ?_; refine St.assign ?_; refine WO.nil ?_; refine WK.seq ?_; refine WK.seq ?_; refine WK.region ?_; refine St.move ?_; refine St.len ?_; refine St.move ?_; refine WO.nil ?_; refine WK.block ?_)
  generalize hcs : cys cl = cs at *
  refine WK.inv (ι := Nat × AV × Ob) (fun z => [(7, .slice j 0 l.length (.m 0)), (8, z.2.1), (22, .slice j 0 l.length (.m 0)), (23, .int .i64 l.length), (24, .int .i64 z.1)]) (fun z => (j, .row (seeA cs ss l) 87 6) :: z.2.2) (fun z => z.1 ≤ l.length ∧ IsL 3 1 (susTo cs ss l z.1).length ((susTo cs ss l z.1).map (AV.int .i64)) z.2.1 z.2.2 ∧ ((susTo cs ss l z.1).length = 0 → z.2.1 = .slice0 ∧ z.2.2 = [])) (fun z => l.length - z.1) (0, .slice0, []) ⟨Nat.zero_le _, .nil rfl rfl, fun _ => ⟨rfl, rfl⟩⟩ ⟨rfl, rfl, rfl, rfl, rfl, trivial⟩ (by (repeat (first | exact List.Sublist.refl _ | exact List.nil_sublist _ | apply List.Sublist.cons_cons | apply List.Sublist.cons))) ?_
  rintro ⟨k, w1, Lw⟩ ⟨hkl, hw, hwz⟩ ih
  simp only at hkl hw hwz ih ⊢
  (refine WK.seq ?_; refine WK.region ?_; refine St.bin ?_; refine WO.nil ?_; refine WK.seq ?_)
  refine St.splitC (fun hc2 => ?_) (fun hc2 => ?_)
  · have hlt : k < l.length := by simp at hc2; omega
    (refine WK.skip ?_; refine WK.seq ?_; refine WK.block ?_; refine WK.seq ?_; refine WK.region ?_; refine St.move ?_)
    refine St.at ?_
    refine St.loadX (fun h2 hh => (see_at hh (List.Mem.head _) (z := (k : Int)) (n := k) (by omega) hlt).agg (by simp) rfl rfl rfl) ?_
    (refine St.alloc fun _ _ => ?_; refine St.assign ?_; refine St.store0 ?_; refine WO.nil ?_; refine WK.seq ?_; refine WK.region ?_; refine St.move ?_; refine St.move ?_)
    rename_i x hx
    refine St.callR (fun _ => rfl) (fun h2 hh => withoutA_con h2 hh.gd j k cs ss l (hh.own (j, .row (seeA cs ss l) 87 6) (List.Mem.tail _ (List.Mem.head _))).2 (hh.own (j, .row (seeA cs ss l) 87 6) (List.Mem.tail _ (List.Mem.head _))).1 (see_seh hh (List.Mem.tail _ (List.Mem.head _))) hlt (by omega)) ?_
    rintro u2 L2 hu2
    have hel : (l.eraseIdx k).length = l.length - 1 := List.length_eraseIdx_of_lt hlt
    skip
    refine St.call (fun _ => rfl) (fun h2 hh => fit_con h2 hh.gd u2 cs ss (l.eraseIdx k) (see_vL hu2 hh (fun y hy => List.mem_append_left _ hy)) (by omega)) ?_
    have est : susTo cs ss l (k + 1) = susTo cs ss l k ++ if fitG cs ss (l.eraseIdx k) = true then [(nthG l k).id] else [] := rfl
    cases hfk : fitG cs ss (l.eraseIdx k)
    · rw [hfk, if_neg (by simp), List.append_nil] at est
      (refine WO.nil ?_; refine WK.condF ?_; refine WK.skip ?_; refine WK.blk ?_; refine WK.region ?_; refine St.binI ?_; refine St.move ?_; refine WO.nil ?_)
      refine WK.le ?_ (List.sublist_append_of_sublist_right (List.sublist_cons_self _ _)) (ih (k + 1, w1, Lw) ⟨hlt, ?_⟩ (by simp only; omega))
      · exact ⟨rfl, rfl, rfl, rfl, rfl, trivial⟩
      · simp only
        rw [est]
        exact ⟨hw, hwz⟩
    · rw [hfk, if_pos rfl] at est
      refine WO.permF (L' := (x, .cells [.int .i64 (nthG l k).id, .int .i64 (nthG l k).tk, .int .i64 (nthG l k).lo, .int .i64 (nthG l k).hi, .int .i64 (lvG cs ss (nthG l k)).1, .int .i64 (lvG cs ss (nthG l k)).2] 87) :: (j, .row (seeA cs ss l) 87 6) :: (Lw ++ L2)) ?_ ?_
      · show List.Perm ((x, .cells [.int .i64 (nthG l k).id, .int .i64 (nthG l k).tk, .int .i64 (nthG l k).lo, .int .i64 (nthG l k).hi, .int .i64 (lvG cs ss (nthG l k)).1, .int .i64 (lvG cs ss (nthG l k)).2] 87) :: (j, .row (seeA cs ss l) 87 6) :: (Lw ++ L2) : Ob) (L2 ++ (x, .cells [.int .i64 (nthG l k).id, .int .i64 (nthG l k).tk, .int .i64 (nthG l k).lo, .int .i64 (nthG l k).hi, .int .i64 (lvG cs ss (nthG l k)).1, .int .i64 (lvG cs ss (nthG l k)).2] 87) :: (j, .row (seeA cs ss l) 87 6) :: Lw)
        (refine perm_cnt fun _ _ => ?_; simp only [List.append_eq, List.cons_append, List.nil_append, List.count_append, List.count_cons, List.count_nil, Nat.add_zero, Nat.zero_add]; try ac_rfl)
      (refine WO.nil ?_; refine WK.condT ?_; refine WK.region ?_; refine St.move ?_; refine St.fieldAddr ?_; refine St.fieldAddr ?_; refine St.load ?_; refine St.mkS fun _ _ => ?_)
      rename_i x3 hx3
      have hsl := susTo_len cs ss l k
      refine St.appL (e := 3) (sz := 1) (new := [.int .i64 (nthG l k).id]) (Lk := (x3, .cells [.int .i64 (nthG l k).id] 3) :: (x, .cells [.int .i64 (nthG l k).id, .int .i64 (nthG l k).tk, .int .i64 (nthG l k).lo, .int .i64 (nthG l k).hi, .int .i64 (lvG cs ss (nthG l k)).1, .int .i64 (lvG cs ss (nthG l k)).2] 87) :: (j, .row (seeA cs ss l) 87 6) :: L2) hw ?_ (fun v' Lv' hv' => ?_) ⟨rfl, rfl, rfl, rfl, rfl, rfl, rfl, rfl, rfl, rfl, rfl, rfl⟩ (List.Mem.head _) rfl (by omega) (by omega)
      · show List.Perm (Lw ++ (x3, .cells [.int .i64 (nthG l k).id] 3) :: (x, .cells [.int .i64 (nthG l k).id, .int .i64 (nthG l k).tk, .int .i64 (nthG l k).lo, .int .i64 (nthG l k).hi, .int .i64 (lvG cs ss (nthG l k)).1, .int .i64 (lvG cs ss (nthG l k)).2] 87) :: (j, .row (seeA cs ss l) 87 6) :: L2 : Ob) ((x3, .cells [.int .i64 (nthG l k).id] 3) :: (x, .cells [.int .i64 (nthG l k).id, .int .i64 (nthG l k).tk, .int .i64 (nthG l k).lo, .int .i64 (nthG l k).hi, .int .i64 (lvG cs ss (nthG l k)).1, .int .i64 (lvG cs ss (nthG l k)).2] 87) :: (j, .row (seeA cs ss l) 87 6) :: (Lw ++ L2))
        (refine perm_cnt fun _ _ => ?_; simp only [List.append_eq, List.cons_append, List.nil_append, List.count_append, List.count_cons, List.count_nil, Nat.add_zero, Nat.zero_add]; try ac_rfl)
      (refine St.assign ?_; refine WO.nil ?_; refine WK.blk ?_; refine WK.region ?_; refine St.binI ?_; refine St.move ?_; refine WO.nil ?_)
      refine WK.perm (L' := (j, .row (seeA cs ss l) 87 6) :: (Lv' ++ (x3, .cells [.int .i64 (nthG l k).id] 3) :: (x, .cells [.int .i64 (nthG l k).id, .int .i64 (nthG l k).tk, .int .i64 (nthG l k).lo, .int .i64 (nthG l k).hi, .int .i64 (lvG cs ss (nthG l k)).1, .int .i64 (lvG cs ss (nthG l k)).2] 87) :: L2)) ?_ ?_
      · show List.Perm ((j, .row (seeA cs ss l) 87 6) :: (Lv' ++ (x3, .cells [.int .i64 (nthG l k).id] 3) :: (x, .cells [.int .i64 (nthG l k).id, .int .i64 (nthG l k).tk, .int .i64 (nthG l k).lo, .int .i64 (nthG l k).hi, .int .i64 (lvG cs ss (nthG l k)).1, .int .i64 (lvG cs ss (nthG l k)).2] 87) :: L2) : Ob) (Lv' ++ (x3, .cells [.int .i64 (nthG l k).id] 3) :: (x, .cells [.int .i64 (nthG l k).id, .int .i64 (nthG l k).tk, .int .i64 (nthG l k).lo, .int .i64 (nthG l k).hi, .int .i64 (lvG cs ss (nthG l k)).1, .int .i64 (lvG cs ss (nthG l k)).2] 87) :: (j, .row (seeA cs ss l) 87 6) :: L2)
        (refine perm_cnt fun _ _ => ?_; simp only [List.append_eq, List.cons_append, List.nil_append, List.count_append, List.count_cons, List.count_nil, Nat.add_zero, Nat.zero_add]; try ac_rfl)
      refine WK.le ?_ (List.Sublist.cons_cons _ (List.sublist_append_left _ _)) (ih (k + 1, v', Lv') ⟨hlt, ?_⟩ (by simp only; omega))
      · exact ⟨rfl, rfl, rfl, rfl, rfl, trivial⟩
      · simp only
        rw [est]
        refine ⟨by rw [List.length_append, List.map_append]; exact hv', fun e => ?_⟩
        rw [List.length_append] at e
        simp at e
  · have e9 : k = l.length := by simp at hc2; omega
    subst e9
    have hsl := susTo_len cs ss l l.length
    by_cases hz : (susTo cs ss l l.length).length = 0
    · obtain ⟨rfl, rfl⟩ := hwz hz
      have e0 : susTo cs ss l l.length = [] := List.length_eq_zero_iff.1 hz
      (refine WK.exit ?_; refine WK.seq ?_; refine WK.region ?_; refine St.move ?_)
      refine St.call (v := .tup []) (fun _ => rfl) (fun h2 hh => Con.nil hh.gd (Bs_sort0 h2)) ?_
      (refine WO.nil ?_; refine WK.seq ?_; refine WK.region ?_; refine St.move ?_; refine St.assign ?_; refine St.assign ?_; refine WO.nil ?_)
      refine St.ret (by first | exact .tmp .nil | exact .cell .nil | exact .cell (.tmp .nil) | exact .tmp (.tmp .nil) | exact .cell (.cell .nil) | exact .tmp (.cell .nil) | exact .nil | exact .tmp (.cell (.tmp .nil)) | exact .cell (.tmp (.tmp .nil)) | exact .cell (.cell (.tmp .nil)) | exact .tmp (.tmp (.tmp .nil)) | exact .cell (.cell (.cell .nil))) ?_
      rw [e0, show sortX [] = [] by simp [sortX]]
      exact ⟨[], List.nil_sublist _, .slice0, rfl, .nil rfl rfl⟩
    · obtain ⟨i, m, o, o1, rfl, rfl, hw1, hs1⟩ := hw.inpl (P := Tryz.prog) (B := Bs) (f := 48) (F := sortX) (R := fun _ _ _ => .tup []) (fun i c h => Bs_sort i _ c h) (by omega) (by omega) (sortX_len _)
      (refine WK.exit ?_; refine WK.seq ?_; refine WK.region ?_; refine St.move ?_)
      refine St.callW (Lw := [(i, o)]) (Lk := [(j, .row (seeA cs ss l) 87 6)]) (fun _ => rfl) (fun h hh => hs1 h (hh.sub (L' := [(i, o)]) (by (repeat (first | exact List.Sublist.refl _ | exact List.nil_sublist _ | apply List.Sublist.cons_cons | apply List.Sublist.cons)))).lend) (by (repeat (first | exact List.Perm.refl _ | refine perm_at 0 rfl ?_ | refine perm_at 1 rfl ?_ | refine perm_at 2 rfl ?_ | refine perm_at 3 rfl ?_ | refine perm_at 4 rfl ?_ | refine perm_at 5 rfl ?_ | refine perm_at 6 rfl ?_ | refine perm_at 7 rfl ?_ | refine perm_at 8 rfl ?_ | refine perm_at 9 rfl ?_))) rfl ?_
      (refine WO.nil ?_; refine WK.seq ?_; refine WK.region ?_; refine St.move ?_; refine St.assign ?_; refine St.assign ?_; refine WO.nil ?_)
      refine St.ret (by first | exact .tmp .nil | exact .cell .nil | exact .cell (.tmp .nil) | exact .tmp (.tmp .nil) | exact .cell (.cell .nil) | exact .tmp (.cell .nil) | exact .nil | exact .tmp (.cell (.tmp .nil)) | exact .cell (.tmp (.tmp .nil)) | exact .cell (.cell (.tmp .nil)) | exact .tmp (.tmp (.tmp .nil)) | exact .cell (.cell (.cell .nil))) ?_
      refine ⟨[(i, o1)], by (repeat (first | exact List.Sublist.refl _ | exact List.nil_sublist _ | apply List.Sublist.cons_cons | apply List.Sublist.cons)), _, rfl, ?_⟩
      rw [sortX_len]
      exact hw1
end Go.Proofs.YtgjkfmcjalcefaaGreat
