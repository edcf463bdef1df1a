/- The program's comparison of two waters. -/
import Derived.Test.YtekpffjcffeanaaWe
namespace Go.Proofs.Ytekpffjcffeanaa
open Go.Proofs.Ytekpffjcffeanaa.Ev

theorem store_one {t ty : TypeId} {x v : AV} (hs : sizeT Try.prog t = some 1) (hv : v.cells = [v]) (ho : okCell v = true) : (AObj.cells [x] ty).store Try.prog t 0 v = some (.cells [v] ty) := by
  unfold AObj.store
  rw [hs]
  simp [hv, ho, AObj.put, overN]
namespace Ev
variable {P : Program} {B : Base} {Q : Post} {h0 : Heap} {W : List Nat} {N : Nat} {D : List Nat} {K : List Fr} {s : Sl} {L : Ob}
/-- the end of a function that has ranged twice -/
theorem St.ret2 {rnd : Option Nat} {fn R vs} {M : Ob} {d2 d1 : Nat} (hL : ((d2, AObj.deferred true) :: (d1, AObj.deferred true) :: M).Perm L) (hr : ResR P s M fn.results.toList vs) (hR : R (oneOf vs) M) (hK : plainK K = true := by exact rfl) : WK P B (Ret P fn h0 W R) h0 W N [d2, d1] (.job (.code rnd .ret) :: K) s L := by
  refine ⟨fun a h ha hh => KRun.ret (KRun.rets hK ?_)⟩
  have hh0 := hh.perm hL
  obtain ⟨h1, h2⟩ := (show SS h0 W ([] ++ (d2, AObj.deferred true) :: ((d1, AObj.deferred true) :: M)) h from hh0).store (o' := .deferred false)
  obtain ⟨h3, h4⟩ := (show SS h0 W ([(d2, AObj.deferred false)] ++ (d1, AObj.deferred true) :: M) _ from h2).store (o' := .deferred false)
  have h5 := h4.sub (L' := M) ((List.sublist_cons_self _ _).trans (List.sublist_cons_self _ _))
  refine ⟨fun _ e => by (cases e), _, vs, _, ?_, hr.eq ha h5, h5, hR⟩
  rw [ha.defers]
  simp only [shutAll]
  rw [(hh0.own (d2, _) List.mem_cons_self).1]
  simp only [h1]
  rw [(h2.own (d1, AObj.deferred true) (by simp)).1]
  simp only [h3]
end Ev
set_option maxRecDepth 100000 in
set_option maxHeartbeats 32000000 in
theorem same_con (h : Heap) (g : Gd h) (lva lvb lo hi : Int) (ca sa cb sb : AV) (la lb : List Cw) (ssa ssb : List Sh) (hca : CyV h ca la) (hsa : ShV h sa ssa) (hcb : CyV h cb lb) (hsb : ShV h sb ssb) :
    ∃ r, r = sameR (chkW lva (cys la) ssa) (minR lvb (cys lb) ssb lo hi) lo (fun k => lva + bareV (cys la) ssa (lo + k)) (fun k => lvb + bareV (cys lb) ssb (lo + k)) (hi - lo + 1).toNat ∧
    Con Try.prog Bs 58 [.agg [.int .i64 lva, ca, sa], .agg [.int .i64 lvb, cb, sb], .agg [.int .i64 lo, .int .i64 hi]] h [] (.tup [.int .i64 r.1, .bool r.2.1, .int .i64 r.2.2]) [] := by
  refine ⟨_, rfl, ?_⟩
  refine Con.start rfl Try.func58 rfl rfl Try.ntmps58 rfl rfl g ?_
  (refine WK.seq ?_; refine WK.region ?_; refine St.box fun _ _ => ?_; refine St.box fun _ _ => ?_; refine St.box fun _ _ => ?_; refine St.alloc fun _ _ => ?_; refine St.alloc fun _ _ => ?_; refine St.alloc fun _ _ => ?_; refine WO.nil ?_; refine WK.seq ?_; refine WK.seq ?_; refine WK.region ?_; refine St.load ?_)
  rename_i p3 hp3 p4 hp4 p5 hp5 p6 hp6 p7 hp7 p8 hp8
  refine St.call (fun _ => rfl) (fun h2 hh => check_con h2 hh.gd lva ca sa la ssa (hca.vw hh) (hsa.vw hh)) ?_
  (refine St.assign ?_; refine WO.nil ?_; refine WK.seq ?_; refine WK.region ?_; refine St.move ?_; refine St.bin ?_; refine WO.nil ?_)
  refine St.splitC (fun h0 => ?_) (fun h0 => ?_)
  · (refine WK.seq ?_; refine WK.region ?_; refine St.move ?_; refine St.store2 ?_; refine St.store1 ?_; refine St.store0 ?_; refine WO.nil ?_)
    refine St.ret (by first | exact .tmp .nil | exact .cell .nil | exact .cell (.tmp .nil) | exact .tmp (.tmp .nil) | exact .cell (.cell .nil) | exact .tmp (.cell .nil) | exact .nil | exact .tmp (.cell (.tmp .nil)) | exact .cell (.tmp (.tmp .nil)) | exact .cell (.cell (.tmp .nil)) | exact .tmp (.tmp (.tmp .nil)) | exact .cell (.cell (.cell .nil))) ?_
    unfold sameR
    rw [if_pos (by simpa using h0)]
    rfl
  have e0 : chkW lva (cys la) ssa = 0 := by simpa using h0
  (refine WK.skip ?_; refine WK.seq ?_; refine WK.seq ?_; refine WK.region ?_; refine St.load ?_; refine St.load ?_)
  refine St.call (fun _ => rfl) (fun h2 hh => checkMinutes_con h2 hh.gd lvb lo hi cb sb lb ssb (hcb.vw hh) (hsb.vw hh)) ?_
  (refine St.assign ?_; refine WO.nil ?_; refine WK.seq ?_; refine WK.region ?_; refine St.move ?_; refine St.bin ?_; refine WO.nil ?_)
  refine St.splitC (fun h1 => ?_) (fun h1 => ?_)
  · (refine WK.seq ?_; refine WK.region ?_; refine St.move ?_; refine St.store2 ?_; refine St.store1 ?_; refine St.store0 ?_; refine WO.nil ?_)
    refine St.ret (by first | exact .tmp .nil | exact .cell .nil | exact .cell (.tmp .nil) | exact .tmp (.tmp .nil) | exact .cell (.cell .nil) | exact .tmp (.cell .nil) | exact .nil | exact .tmp (.cell (.tmp .nil)) | exact .cell (.tmp (.tmp .nil)) | exact .cell (.cell (.tmp .nil)) | exact .tmp (.tmp (.tmp .nil)) | exact .cell (.cell (.cell .nil))) ?_
    unfold sameR
    rw [if_neg (by simp [e0]), if_pos (by simpa using h1)]
    rfl
  have e1 : minR lvb (cys lb) ssb lo hi = 0 := by simpa using h1
  have m := minR_ok e1
  have m1 := m.l1
  have m2 := m.le
  have m3 := m.h2
  have m4 := m.n
  have wa := chkW_ok e0
  have ma : MinOk lva (cys la) ssa lo hi := ⟨wa, m1, m2, m3, m4⟩
  have es : sameR (chkW lva (cys la) ssa) (minR lvb (cys lb) ssb lo hi) lo (fun k => lva + bareV (cys la) ssa (lo + k)) (fun k => lvb + bareV (cys lb) ssb (lo + k)) (hi - lo + 1).toNat = match diffK (fun k => lva + bareV (cys la) ssa (lo + k)) (fun k => lvb + bareV (cys lb) ssb (lo + k)) (hi - lo + 1).toNat with | some k => (lo + k, false, 0) | none => (0, true, 0) := by
    unfold sameR
    rw [if_neg (by simp [e0]), if_neg (by simp [e1])]
    rfl
  rw [es]
  clear es
  (refine WK.skip ?_; refine WK.seq ?_; refine WK.region ?_; refine St.alloc fun _ _ => ?_; refine WO.nil ?_; refine WK.seq ?_; refine WK.seq ?_; refine WK.region ?_; refine St.load ?_; refine St.load ?_)
  rename_i p11 hp11
  refine St.callR (fun _ => rfl) (fun h2 hh => heights_con h2 hh.gd lvb lo hi cb sb) ?_
  rintro u L' ⟨j1, j2, rfl, rfl⟩
  (refine WO.nil ?_; refine WK.block ?_)
  refine rangeY (hb := h) (j1 := j1) (j2 := j2) (L0 := [(p11, .cells [.slice0] 26), (p8, .cells [.int .i64 0] 31), (p7, .cells [.bool false] 4), (p6, .cells [.int .i64 0] 3), (p5, .cells [.int .i64 lo, .int .i64 hi] 37), (p4, .cells [.int .i64 lvb, cb, sb] 25), (p3, .cells [.int .i64 lva, ca, sa] 25)])
    (fun k Ln => ∃ w Lv, IsL 3 1 k (((List.range k).map fun (k : Nat) => lvb + bareV (cys lb) ssb (lo + k)).map (AV.int .i64)) w Lv ∧ Ln = (p11, .cells [w] 26) :: (p8, .cells [.int .i64 0] 31) :: (p7, .cells [.bool false] 4) :: (p6, .cells [.int .i64 0] 3) :: (p5, .cells [.int .i64 lo, .int .i64 hi] 37) :: (p4, .cells [.int .i64 lvb, cb, sb] 25) :: (p3, .cells [.int .i64 lva, ca, sa] 25) :: Lv)
    (fun _ _ => False) (heights_y h lvb lo hi cb sb lb ssb hcb hsb m) rfl (SS.init g).vw (fun _ h => by cases h) (by (repeat (first | exact List.Perm.refl _ | refine perm_at 0 rfl ?_ | refine perm_at 1 rfl ?_ | refine perm_at 2 rfl ?_ | refine perm_at 3 rfl ?_ | refine perm_at 4 rfl ?_ | refine perm_at 5 rfl ?_ | refine perm_at 6 rfl ?_ | refine perm_at 7 rfl ?_ | refine perm_at 8 rfl ?_ | refine perm_at 9 rfl ?_))) ⟨_, _, .nil rfl rfl, rfl⟩ (fun _ => rfl) rfl ?_ ?_ ?_
  · rintro r2 q2 hq2 k Lk h2 hk ⟨w, Lv, hw, rfl⟩ hl2
    have hW2 := hl2.ss.ltW
    (refine WK.region ?_; refine St.assign ?_; refine WO.nil ?_)
    refine WK.busyQ hq2.st (A := []) rfl ?_
    (refine WK.block ?_; refine WK.region ?_; refine St.load ?_; refine St.move ?_; refine St.mkS fun _ _ => ?_)
    rename_i i2 hi2
    refine St.appL (new := [.int .i64 (lvb + bareV (cys lb) ssb (lo + k))]) (Lk := [(i2, .cells [.int .i64 (lvb + bareV (cys lb) ssb (lo + k))] 3), (r2, .loop q2.busy), (p11, .cells [w] 26), (p8, .cells [.int .i64 0] 31), (p7, .cells [.bool false] 4), (p6, .cells [.int .i64 0] 3), (p5, .cells [.int .i64 lo, .int .i64 hi] 37), (p4, .cells [.int .i64 lvb, cb, sb] 25), (p3, .cells [.int .i64 lva, ca, sa] 25)]) hw List.perm_append_comm (fun w3 Lw3 hw3 => ?_) ⟨rfl, rfl, rfl, rfl, rfl, rfl, rfl, rfl, rfl, rfl, rfl, rfl⟩ (List.Mem.head _) rfl (by omega) (by omega)
    have hst := isl_ok hw3
    refine WO.permF (L' := (p11, .cells [w] 26) :: (r2, .loop q2.busy) :: (i2, .cells [.int .i64 (lvb + bareV (cys lb) ssb (lo + k))] 3) :: (p8, .cells [.int .i64 0] 31) :: (p7, .cells [.bool false] 4) :: (p6, .cells [.int .i64 0] 3) :: (p5, .cells [.int .i64 lo, .int .i64 hi] 37) :: (p4, .cells [.int .i64 lvb, cb, sb] 25) :: (p3, .cells [.int .i64 lva, ca, sa] 25) :: Lw3) (by (refine perm_cnt fun _ _ => ?_; simp only [List.append_eq, List.cons_append, List.nil_append, List.count_append, List.count_cons, List.count_nil, Nat.add_zero, Nat.zero_add]; try ac_rfl)) ?_
    refine St.store0 (hv := store_one rfl hst.2 hst.1) ?_
    (refine WO.nil ?_; refine WK.blk ?_)
    refine endY (Lk := (p11, .cells [w3] 26) :: (p8, .cells [.int .i64 0] 31) :: (p7, .cells [.bool false] 4) :: (p6, .cells [.int .i64 0] 3) :: (p5, .cells [.int .i64 lo, .int .i64 hi] 37) :: (p4, .cells [.int .i64 lvb, cb, sb] 25) :: (p3, .cells [.int .i64 lva, ca, sa] 25) :: Lw3) (X := [(i2, .cells [.int .i64 (lvb + bareV (cys lb) ssb (lo + k))] 3)]) (by (refine perm_cnt fun _ _ => ?_; simp only [List.append_eq, List.cons_append, List.nil_append, List.count_append, List.count_cons, List.count_nil, Nat.add_zero, Nat.zero_add]; try ac_rfl)) ⟨w3, Lw3, ?_, rfl⟩
    rw [List.range_succ, List.map_append, List.map_append]
    exact hw3
  rotate_left
  · rintro dq c L' hF
    exact hF.elim
  rintro dq L' ⟨w, Lv, hw, rfl⟩
  have hnp : 0 < (hi - lo + 1).toNat := by omega
  obtain ⟨jl, cl, ol, rfl, rfl, hol, hll⟩ := hw.ne hnp
  (refine WK.blk ?_; refine WK.seq ?_; refine WK.seq ?_; refine WK.region ?_; refine St.load ?_; refine St.load ?_)
  refine St.callR (fun _ => rfl) (fun h2 hh => heights_con h2 hh.gd lva lo hi ca sa) ?_
  rintro u L' ⟨j3, j4, rfl, rfl⟩
  (refine WO.nil ?_; refine WK.block ?_)
  refine rangeY (hb := h) (j1 := j3) (j2 := j4) (L0 := [(p11, .cells [.slice jl 0 (hi - lo + 1).toNat cl] 26), (p8, .cells [.int .i64 0] 31), (p7, .cells [.bool false] 4), (p6, .cells [.int .i64 0] 3), (p5, .cells [.int .i64 lo, .int .i64 hi] 37), (p4, .cells [.int .i64 lvb, cb, sb] 25), (p3, .cells [.int .i64 lva, ca, sa] 25), (jl, ol), (dq, .deferred true)])
    (fun k Ln => (∀ i, i < k → lva + bareV (cys la) ssa (lo + (i : Int)) = lvb + bareV (cys lb) ssb (lo + (i : Int))) ∧ Ln = [(p11, .cells [.slice jl 0 (hi - lo + 1).toNat cl] 26), (p8, .cells [.int .i64 0] 31), (p7, .cells [.bool false] 4), (p6, .cells [.int .i64 0] 3), (p5, .cells [.int .i64 lo, .int .i64 hi] 37), (p4, .cells [.int .i64 lvb, cb, sb] 25), (p3, .cells [.int .i64 lva, ca, sa] 25), (jl, ol), (dq, .deferred true)])
    (fun pd Ln => pd = some .ret ∧ ∃ k, diffK (fun k => lva + bareV (cys la) ssa (lo + k)) (fun k => lvb + bareV (cys lb) ssb (lo + k)) (hi - lo + 1).toNat = some k ∧ Ln = [(p11, .cells [.slice jl 0 (hi - lo + 1).toNat cl] 26), (p8, .cells [.int .i64 0] 31), (p7, .cells [.bool false] 4), (p6, .cells [.int .i64 (lo + (k : Int))] 3), (p5, .cells [.int .i64 lo, .int .i64 hi] 37), (p4, .cells [.int .i64 lvb, cb, sb] 25), (p3, .cells [.int .i64 lva, ca, sa] 25), (jl, ol), (dq, .deferred true)])
    (heights_y h lva lo hi ca sa la ssa hca hsa ma) rfl (SS.init g).vw (fun _ h => by cases h) (by (repeat (first | exact List.Perm.refl _ | refine perm_at 0 rfl ?_ | refine perm_at 1 rfl ?_ | refine perm_at 2 rfl ?_ | refine perm_at 3 rfl ?_ | refine perm_at 4 rfl ?_ | refine perm_at 5 rfl ?_ | refine perm_at 6 rfl ?_ | refine perm_at 7 rfl ?_ | refine perm_at 8 rfl ?_ | refine perm_at 9 rfl ?_))) ⟨fun i hi => by omega, rfl⟩ (fun _ => rfl) rfl ?_ ?_ ?_
  · rintro r2 q2 hq2 k Lk h2 hk ⟨hall, rfl⟩ hl2
    have hW2 := hl2.ss.ltW
    (refine WK.seq ?_; refine WK.region ?_; refine St.assign ?_; refine WO.nil ?_; refine WK.region ?_; refine St.assign ?_; refine WO.nil ?_)
    refine WK.busyQ hq2.st (A := []) rfl ?_
    (refine WK.block ?_; refine WK.seq ?_; refine WK.region ?_; refine St.move ?_; refine St.load ?_; refine St.move ?_; refine St.fieldAddr ?_; refine St.load ?_; refine St.binI ?_)
    refine St.at ?_
    refine St.loadX (fun h hh => ((hh.ins (j := jl) (o := ol) (by simp) hol).at_ (z := lo + (k : Int) - lo) (n := k) (by omega) (by simp; omega)).one rfl) ?_
    have enth : nth ((List.range (hi - lo + 1).toNat).map fun (k : Nat) => lvb + bareV (cys lb) ssb (lo + k)) k = lvb + bareV (cys lb) ssb (lo + k) := by
      rw [nth_eq (by simp; omega)]
      simp
    rw [enth]
    (refine St.bin ?_; refine WO.nil ?_)
    refine St.splitC (fun hc => ?_) (fun hc => ?_)
    · have hne : lva + bareV (cys la) ssa (lo + (k : Int)) ≠ lvb + bareV (cys lb) ssb (lo + (k : Int)) := by simpa using hc
      (refine WK.seq ?_; refine WK.region ?_; refine St.move ?_; refine St.store4 ?_; refine St.store3 ?_; refine St.store2 ?_; refine WO.nil ?_)
      refine retY (Lk := [(p11, .cells [.slice jl 0 (hi - lo + 1).toNat cl] 26), (p8, .cells [.int .i64 0] 31), (p7, .cells [.bool false] 4), (p6, .cells [.int .i64 (lo + (k : Int))] 3), (p5, .cells [.int .i64 lo, .int .i64 hi] 37), (p4, .cells [.int .i64 lvb, cb, sb] 25), (p3, .cells [.int .i64 lva, ca, sa] 25), (jl, ol), (dq, .deferred true)]) (X := []) (by (refine perm_cnt fun _ _ => ?_; simp only [List.append_eq, List.cons_append, List.nil_append, List.count_append, List.count_cons, List.count_nil, Nat.add_zero, Nat.zero_add]; try ac_rfl)) ⟨rfl, k, diffK_some hk hne hall, rfl⟩
    · have heq : lva + bareV (cys la) ssa (lo + (k : Int)) = lvb + bareV (cys lb) ssb (lo + (k : Int)) := by simpa using hc
      (refine WK.skip ?_; refine WK.blk ?_)
      refine endY (Lk := [(p11, .cells [.slice jl 0 (hi - lo + 1).toNat cl] 26), (p8, .cells [.int .i64 0] 31), (p7, .cells [.bool false] 4), (p6, .cells [.int .i64 0] 3), (p5, .cells [.int .i64 lo, .int .i64 hi] 37), (p4, .cells [.int .i64 lvb, cb, sb] 25), (p3, .cells [.int .i64 lva, ca, sa] 25), (jl, ol), (dq, .deferred true)]) (X := []) (by (refine perm_cnt fun _ _ => ?_; simp only [List.append_eq, List.cons_append, List.nil_append, List.count_append, List.count_cons, List.count_nil, Nat.add_zero, Nat.zero_add]; try ac_rfl)) ⟨fun i hi => ?_, rfl⟩
      rcases Nat.lt_succ_iff_lt_or_eq.1 hi with h3 | rfl
      · exact hall i h3
      · exact heq
  · rintro dq2 L' ⟨hall, rfl⟩
    (refine WK.blk ?_; refine WK.seq ?_; refine WK.region ?_; refine St.store3 ?_; refine St.store2 ?_; refine St.store1 ?_; refine WO.nil ?_)
    refine St.ret2 (M := [(p8, .cells [.int .i64 0] 31), (p7, .cells [.bool true] 4), (p6, .cells [.int .i64 0] 3), (p11, .cells [.slice jl 0 (hi - lo + 1).toNat cl] 26), (p5, .cells [.int .i64 lo, .int .i64 hi] 37), (p4, .cells [.int .i64 lvb, cb, sb] 25), (p3, .cells [.int .i64 lva, ca, sa] 25), (jl, ol)]) (by (refine perm_cnt fun _ _ => ?_; simp only [List.append_eq, List.cons_append, List.nil_append, List.count_append, List.count_cons, List.count_nil, Nat.add_zero, Nat.zero_add]; try ac_rfl)) (.cell (.cell (.cell .nil))) ?_
    rw [diffK_none hall]
    rfl
  · rintro dq2 c L' ⟨e, k, hd, rfl⟩
    cases e
    skip
    refine St.ret2 (M := [(p8, .cells [.int .i64 0] 31), (p7, .cells [.bool false] 4), (p6, .cells [.int .i64 (lo + (k : Int))] 3), (p11, .cells [.slice jl 0 (hi - lo + 1).toNat cl] 26), (p5, .cells [.int .i64 lo, .int .i64 hi] 37), (p4, .cells [.int .i64 lvb, cb, sb] 25), (p3, .cells [.int .i64 lva, ca, sa] 25), (jl, ol)]) (by (refine perm_cnt fun _ _ => ?_; simp only [List.append_eq, List.cons_append, List.nil_append, List.count_append, List.count_cons, List.count_nil, Nat.add_zero, Nat.zero_add]; try ac_rfl)) (.cell (.cell (.cell .nil))) ?_
    rw [hd]
    rfl
end Go.Proofs.Ytekpffjcffeanaa
