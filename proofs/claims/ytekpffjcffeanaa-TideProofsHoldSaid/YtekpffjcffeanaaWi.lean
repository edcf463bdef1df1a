/- The list of all stands: slices.Collect of the iterator; Stands. -/
import Derived.Test.YtekpffjcffeanaaWh
namespace Go.Proofs.Ytekpffjcffeanaa
open Go.Proofs.Ytekpffjcffeanaa.Ev

namespace Ev
theorem St.callWR {P : Program} {B : Base} {Q : Post} {h0 : Heap} {W : List Nat} {N : Nat} {D : List Nat} {K : List Fr} {s : Sl} {L : Ob} {ops : Array Oper} {d : Nat} {op : Op} {ty : TypeId} {pos : String} {af : Array Edge} {gd : Option (Nat × Bool)} {l : List Oper} {f : Nat} {args : List AV} {R : AV → Ob → Prop} {Lw Lk : Ob} {W' : List Nat} (he : ∀ h, evOp P h (evS s) ⟨some d, op, ty, pos, af, gd⟩ = some (.enter f args, h)) (hc : ∀ h, SS h0 W L h → ∃ v L', Con P B f args h W' v L' ∧ R v L') (hL : (Lw ++ Lk).Perm L) (hW : Lw.map (·.1) = W') (k : ∀ v L', R v L' → WO P B Q h0 W N D K false ops l ((d, v) :: s) (L' ++ Lk) []) (hw : wantS ops s N ⟨some d, op, ty, pos, af, gd⟩ = some true := by exact rfl) (hd : Nat.blt d N = true := by exact rfl) : WO P B Q h0 W N D K false ops (⟨some d, op, ty, pos, af, gd⟩ :: l) s L [] := by
  constructor
  · rintro - a h ha hh
    obtain ⟨v, L', ⟨g, h1, h2⟩, hR⟩ := hc h hh
    obtain ⟨a', h3, h4⟩ := ha.put (d := some d) hd v
    exact KRun.op (wantS_eq ha hw) (ROp.enter ha (he h) h1) h3 ((k v L' hR).seq rfl a' g h4 (hh.trans h2 hL hW))
  · intro e; cases e
end Ev
/-- stands, cell by cell -/
def sdF (l : List Sd) : List AV := (l.map sdC).flatten
theorem sdF_snoc (l : List Sd) (s : Sd) : sdF (l ++ [s]) = sdF l ++ sdC s := by
  unfold sdF
  simp
theorem sdF_len : ∀ l : List Sd, (sdF l).length = l.length * 3
  | [] => rfl
  | s :: r => by
    have := sdF_len r
    show (sdC s ++ sdF r).length = _
    rw [List.length_append, this, List.length_cons]
    show 3 + _ = _
    omega
theorem sdF_take {l : List Sd} {k : Nat} (h : k < l.length) : sdF (l.take (k + 1)) = sdF (l.take k) ++ sdC (nthD l k) := by
  rw [List.take_succ_eq_append_getElem h, sdF_snoc, nthD_eq h]
set_option maxRecDepth 100000 in
set_option maxHeartbeats 16000000 in
theorem appendSeq_con (hb h : Heap) (g j1 j2 : Nat) (o1 o2 : AObj) (l : List Sd) (hn : l.length ≤ 100000) (hl : Lent hb [(j1, o1), (j2, o2)] h) (hy : YieldsOf g hb o1 o2 l.length (fun j => [.agg (sdC (nthD l j))])) :
    ∃ v L, Con Try.prog Bs 110 [.slice0, .fn (.func g) [] [.ptr j1 0, .ptr j2 0]] h [j1, j2] v L ∧ IsL 51 3 l.length (sdF l) v L := by
  have hWW := hl.ss.ltW
  refine Con.pick (Con.startR rfl Try.func110 rfl rfl Try.ntmps110 rfl rfl hl.ss ?_)
  (refine WK.seq ?_; refine WK.region ?_; refine St.box fun _ _ => ?_; refine St.assign ?_; refine WO.nil ?_; refine WK.seq ?_; refine WK.seq ?_; refine WK.region ?_; refine St.move ?_; refine WO.nil ?_; refine WK.block ?_)
  rename_i p2 hp2
  refine rangeY (j1 := j1) (j2 := j2) (L0 := [(p2, .cells [.slice0] 47)])
    (fun k Ln => ∃ w Lv, IsL 51 3 k (sdF (l.take k)) w Lv ∧ Ln = (p2, .cells [w] 47) :: Lv) (fun _ _ => False)
    hy rfl hl.vw hl.hold (by (repeat (first | exact List.Perm.refl _ | refine perm_at 0 rfl ?_ | refine perm_at 1 rfl ?_ | refine perm_at 2 rfl ?_ | refine perm_at 3 rfl ?_ | refine perm_at 4 rfl ?_ | refine perm_at 5 rfl ?_ | refine perm_at 6 rfl ?_ | refine perm_at 7 rfl ?_ | refine perm_at 8 rfl ?_ | refine perm_at 9 rfl ?_))) ⟨_, _, .nil rfl rfl, rfl⟩ (fun _ => rfl) rfl ?_ ?_ ?_
  · rintro r2 q2 hq2 k Lk h2 hk ⟨w, Lv, hw, rfl⟩ hl2
    have hW2 := hl2.ss.ltW
    have e3 := sdF_take hk
    generalize hS : nthD l k = s at *
    obtain ⟨a, b, c⟩ := s
    (refine WK.region ?_; refine St.alloc fun _ _ => ?_; refine St.store0 ?_; refine WO.nil ?_)
    rename_i p5 hp5
    refine WK.busyQ hq2.st (A := [(_, _)]) rfl ?_
    (refine WK.block ?_; refine WK.region ?_; refine St.load ?_; refine St.load ?_; refine St.mkS fun _ _ => ?_)
    rename_i i2 hi2
    refine St.appL (new := sdC ⟨a, b, c⟩) (Lk := [(i2, .cells (sdC ⟨a, b, c⟩) 51), (p5, .cells (sdC ⟨a, b, c⟩) 51), (r2, .loop q2.busy), (p2, .cells [w] 47)]) hw List.perm_append_comm (fun w3 Lw3 hw3 => ?_) ⟨rfl, rfl, rfl, rfl, rfl, rfl, rfl, rfl, rfl, rfl, rfl, rfl⟩ (List.Mem.head _) rfl (by omega) (by omega)
    have hst := isl_ok hw3
    refine WO.permF (L' := (p2, .cells [w] 47) :: (r2, .loop q2.busy) :: (i2, .cells (sdC ⟨a, b, c⟩) 51) :: (p5, .cells (sdC ⟨a, b, c⟩) 51) :: Lw3) (by (refine perm_cnt fun _ _ => ?_; simp only [List.append_eq, List.cons_append, List.nil_append, List.count_append, List.count_cons, List.count_nil, Nat.add_zero, Nat.zero_add]; try ac_rfl)) ?_
    refine St.store0 (hv := store_one rfl hst.2 hst.1) ?_
    (refine WO.nil ?_; refine WK.blk ?_)
    refine endY (Lk := (p2, .cells [w3] 47) :: Lw3) (X := [(i2, .cells (sdC ⟨a, b, c⟩) 51), (p5, .cells (sdC ⟨a, b, c⟩) 51)]) (by (refine perm_cnt fun _ _ => ?_; simp only [List.append_eq, List.cons_append, List.nil_append, List.count_append, List.count_cons, List.count_nil, Nat.add_zero, Nat.zero_add]; try ac_rfl)) ⟨w3, Lw3, ?_, rfl⟩
    rw [e3]
    exact hw3
  · rintro dq L' ⟨w, Lv, hw, rfl⟩
    rw [List.take_length] at hw
    (refine WK.blk ?_; refine WK.seq ?_; refine WK.region ?_; refine St.load ?_; refine St.assign ?_; refine WO.nil ?_)
    refine WK.perm (L' := ((p2, .cells [w] 47) :: Lv) ++ [(dq, .deferred true)]) (by (refine perm_cnt fun _ _ => ?_; simp only [List.append_eq, List.cons_append, List.nil_append, List.count_append, List.count_cons, List.count_nil, Nat.add_zero, Nat.zero_add]; try ac_rfl)) ?_
    refine St.ret1 (C := []) rfl (.tmp .nil) ?_
    refine ⟨Lv, [(p2, .cells [w] 47)], ?_, hw⟩
    rw [List.append_nil]
    exact List.perm_append_comm
  · rintro dq c L' hF
    exact hF.elim
set_option maxRecDepth 100000 in
set_option maxHeartbeats 8000000 in
theorem collect_con (hb h : Heap) (g j1 j2 : Nat) (o1 o2 : AObj) (l : List Sd) (hn : l.length ≤ 100000) (hl : Lent hb [(j1, o1), (j2, o2)] h) (hy : YieldsOf g hb o1 o2 l.length (fun j => [.agg (sdC (nthD l j))])) :
    ∃ v L, Con Try.prog Bs 68 [.fn (.func g) [] [.ptr j1 0, .ptr j2 0]] h [j1, j2] v L ∧ IsL 51 3 l.length (sdF l) v L := by
  refine Con.pick (Con.startR rfl Try.func68 rfl rfl Try.ntmps68 rfl rfl hl.ss ?_)
  (refine WK.seq ?_; refine WK.region ?_; refine St.assign ?_; refine WO.nil ?_; refine WK.seq ?_; refine WK.region ?_; refine St.move ?_)
  refine St.callWR (Lw := [(j1, o1), (j2, o2)]) (Lk := []) (W' := [j1, j2]) (fun _ => rfl) (fun h2 hh => appendSeq_con hb h2 g j1 j2 o1 o2 l hn (hl.next (X := []) hh (List.Perm.refl _)) hy) (List.Perm.refl _) rfl ?_
  intro v L' hv
  (refine St.assign ?_; refine WO.nil ?_)
  refine St.ret (by first | exact .tmp .nil | exact .cell .nil | exact .cell (.tmp .nil) | exact .tmp (.tmp .nil) | exact .cell (.cell .nil) | exact .tmp (.cell .nil) | exact .nil | exact .tmp (.cell (.tmp .nil)) | exact .cell (.tmp (.tmp .nil)) | exact .cell (.cell (.tmp .nil)) | exact .tmp (.tmp (.tmp .nil)) | exact .cell (.cell (.cell .nil))) ?_
  exact ⟨L', [], List.Perm.refl _, hv⟩
/-- the stands of a span of minutes, if there is no error -/
def stdR (lv : Int) (cs : List Cy) (ss : List Sh) (lo hi : Int) : List Sd := if minR lv cs ss lo hi ≠ 0 then [] else allS (hgt lv cs ss lo) lo (hi - lo + 1).toNat
theorem stdR_no {lv : Int} {cs : List Cy} {ss : List Sh} {lo hi : Int} (h : minR lv cs ss lo hi ≠ 0) : stdR lv cs ss lo hi = [] := if_pos h
theorem stdR_ok {lv : Int} {cs : List Cy} {ss : List Sh} {lo hi : Int} (h : minR lv cs ss lo hi = 0) : stdR lv cs ss lo hi = allS (hgt lv cs ss lo) lo (hi - lo + 1).toNat := if_neg (by simp [h])
theorem stdR_len {lv : Int} {cs : List Cy} {ss : List Sh} {lo hi : Int} : (stdR lv cs ss lo hi).length ≤ 10080 := by
  by_cases h : minR lv cs ss lo hi = 0
  · rw [stdR_ok h]
    have := all_len (f := hgt lv cs ss lo) (lo := lo) (hi - lo + 1).toNat
    have := (minR_ok h).n
    omega
  · rw [stdR_no h]
    simp
set_option maxRecDepth 100000 in
set_option maxHeartbeats 8000000 in
theorem standsL_con (h : Heap) (g : Gd h) (lv lo hi : Int) (cv sv : AV) (cl : List Cw) (ss : List Sh) (hc : CyV h cv cl) (hs : ShV h sv ss) :
    ∃ v L, Con Try.prog Bs 26 [.agg [.int .i64 lv, cv, sv], .agg [.int .i64 lo, .int .i64 hi]] h [] v L ∧ ∃ u, v = .tup [u, .int .i64 (minR lv (cys cl) ss lo hi)] ∧ IsL 51 3 (stdR lv (cys cl) ss lo hi).length (sdF (stdR lv (cys cl) ss lo hi)) u L := by
  have hlen := stdR_len (lv := lv) (cs := cys cl) (ss := ss) (lo := lo) (hi := hi)
  refine Con.pick (Con.startR rfl Try.func26 rfl rfl Try.ntmps26 rfl rfl (SS.init g) ?_)
  (refine WK.seq ?_; refine WK.region ?_; refine St.box fun _ _ => ?_; refine St.box fun _ _ => ?_; refine St.assign ?_; refine St.assign ?_; refine WO.nil ?_; refine WK.seq ?_; refine WK.seq ?_; refine WK.region ?_; refine St.load ?_; refine St.load ?_)
  rename_i p3 hp3 p4 hp4
  refine St.call (fun _ => rfl) (fun h2 hh => checkMinutes_con h2 hh.gd lv lo hi cv sv cl ss (hc.vw hh) (hs.vw hh)) ?_
  (refine St.assign ?_; refine WO.nil ?_; refine WK.seq ?_; refine WK.region ?_; refine St.move ?_; refine St.bin ?_; refine WO.nil ?_)
  refine St.splitC (fun h1 => ?_) (fun h1 => ?_)
  · (refine WK.seq ?_; refine WK.region ?_; refine St.move ?_; refine St.assign ?_; refine St.assign ?_; refine WO.nil ?_)
    refine St.ret (by first | exact .tmp .nil | exact .cell .nil | exact .cell (.tmp .nil) | exact .tmp (.tmp .nil) | exact .cell (.cell .nil) | exact .tmp (.cell .nil) | exact .nil | exact .tmp (.cell (.tmp .nil)) | exact .cell (.tmp (.tmp .nil)) | exact .cell (.cell (.tmp .nil)) | exact .tmp (.tmp (.tmp .nil)) | exact .cell (.cell (.cell .nil))) ?_
    rw [stdR_no (by simpa using h1)]
    exact ⟨[], _, List.Perm.refl _, _, rfl, .nil rfl rfl⟩
  have e1 : minR lv (cys cl) ss lo hi = 0 := by simpa using h1
  have m := minR_ok e1
  have es := stdR_ok e1
  rw [es] at hlen ⊢
  have hy := stands_y h lv lo hi cv sv cl ss hc hs m
  (refine WK.skip ?_; refine WK.seq ?_; refine WK.region ?_; refine St.load ?_; refine St.load ?_)
  refine St.callR (fun _ => rfl) (fun h2 hh => stands_con h2 hh.gd lv lo hi cv sv) ?_
  rintro u L' ⟨j1, j2, rfl, rfl⟩
  skip
  refine St.callWR (Lw := [(j1, .cells [.int .i64 lv, cv, sv] 25), (j2, .cells [.int .i64 lo, .int .i64 hi] 37)]) (Lk := [(p4, .cells [.int .i64 lo, .int .i64 hi] 37), (p3, .cells [.int .i64 lv, cv, sv] 25)]) (W' := [j1, j2]) (fun _ => rfl) (fun h2 hh => collect_con h h2 111 j1 j2 _ _ _ (by omega) (Lent.of (X := [(p4, .cells [.int .i64 lo, .int .i64 hi] 37), (p3, .cells [.int .i64 lv, cv, sv] 25)]) (SS.init g).vw (fun _ h => by cases h) hh (by (repeat (first | exact List.Perm.refl _ | refine perm_at 0 rfl ?_ | refine perm_at 1 rfl ?_ | refine perm_at 2 rfl ?_ | refine perm_at 3 rfl ?_ | refine perm_at 4 rfl ?_ | refine perm_at 5 rfl ?_ | refine perm_at 6 rfl ?_ | refine perm_at 7 rfl ?_ | refine perm_at 8 rfl ?_ | refine perm_at 9 rfl ?_)))) hy) (by (repeat (first | exact List.Perm.refl _ | refine perm_at 0 rfl ?_ | refine perm_at 1 rfl ?_ | refine perm_at 2 rfl ?_ | refine perm_at 3 rfl ?_ | refine perm_at 4 rfl ?_ | refine perm_at 5 rfl ?_ | refine perm_at 6 rfl ?_ | refine perm_at 7 rfl ?_ | refine perm_at 8 rfl ?_ | refine perm_at 9 rfl ?_))) rfl ?_
  intro v L' hv
  (refine St.assign ?_; refine St.assign ?_; refine WO.nil ?_)
  refine St.ret (by first | exact .tmp .nil | exact .cell .nil | exact .cell (.tmp .nil) | exact .tmp (.tmp .nil) | exact .cell (.cell .nil) | exact .tmp (.cell .nil) | exact .nil | exact .tmp (.cell (.tmp .nil)) | exact .cell (.tmp (.tmp .nil)) | exact .cell (.cell (.tmp .nil)) | exact .tmp (.tmp (.tmp .nil)) | exact .cell (.cell (.cell .nil))) ?_
  rw [e1]
  exact ⟨L', _, List.Perm.refl _, v, rfl, hv⟩
end Go.Proofs.Ytekpffjcffeanaa
