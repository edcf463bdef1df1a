/- Ranging over an iterator that is known by its rounds; the heights of a water minute by minute. -/
import Derived.Test.YtekpffjcffeanaaWc
namespace Go.Proofs.Ytekpffjcffeanaa
open Go.Proofs.Ytekpffjcffeanaa.Ev

theorem perm_cnt {α : Type} {l1 l2 : List α} (h : ∀ (_ : DecidableEq α) (a : α), l1.count a = l2.count a) : l1.Perm l2 := by
  classical exact List.perm_iff_count.2 fun a => h _ a
/-- an iterator: it hands on args 0, args 1 .., n of them, until a round says that it is enough -/
def YieldsOf (g : Nat) (hb : Heap) (o1 o2 : AObj) (n : Nat) (args : Nat → List AV) : Prop :=
  ∀ (h : Heap) (r jw js : Nat) (q : ALoop) (L0 : Ob) (I : Nat → Ob → Prop) (F : ALoop → Ob → Prop), Lent hb ((r, .loop q) :: (jw, o1) :: (js, o2) :: L0) h → I 0 L0 → Rnd hb r q n args I F →
    ∃ v L, Con Try.prog Bs g ([] ++ [.fn (.yield r) [] []] ++ [.ptr jw 0, .ptr js 0]) h (r :: jw :: js :: L0.map (·.1)) v L ∧ ∃ q' Ln, v = .tup [] ∧ L = (r, .loop q') :: Ln ∧ ((q' = q ∧ I n Ln) ∨ F q' Ln)
/-- what a round hands back -/
def RR (r : Nat) (q : ALoop) (I : Nat → Ob → Prop) (F : Option Code → Ob → Prop) (k : Nat) : AV → Ob → Prop := fun v L' =>
  ∃ L0 X : Ob, (L0 ++ X).Perm L' ∧ ∃ b pd Lk, v = .bool b ∧ L0 = (r, .loop (q.left pd)) :: Lk ∧ (b = true → pd = none ∧ I (k + 1) Lk) ∧ (b = false → pd.isSome = true ∧ F pd Lk)
section
variable {Q : Post} {h0 : Heap} {W : List Nat} {N : Nat} {D : List Nat} {K : List Fr} {s : Sl} {L : Ob} {rnd : Option Nat} {r k : Nat} {q : ALoop} {I : Nat → Ob → Prop} {F : Option Code → Ob → Prop} {Lk X : Ob}
theorem endY (hL : ((r, .loop q.busy) :: (Lk ++ X)).Perm L) (hI : I (k + 1) Lk) : WK Try.prog Bs (RQ r h0 W (RR r q I F k)) h0 W N D [] s L :=
  WK.endQ (A := []) (C := Lk ++ X) hL.symm ⟨(r, .loop (q.left none)) :: Lk, X, List.Perm.refl _, true, none, Lk, rfl, rfl, fun _ => ⟨rfl, hI⟩, fun e => (by cases e)⟩
theorem retY (hL : ((r, .loop q.busy) :: (Lk ++ X)).Perm L) (hF : F (some .ret) Lk) (hK : plainK K = true := by exact rfl) : WK Try.prog Bs (RQ r h0 W (RR r q I F k)) h0 W N D (.job (.code rnd .ret) :: K) s L :=
  WK.retQ (A := []) (C := Lk ++ X) hL.symm ⟨(r, .loop (q.left (some .ret))) :: Lk, X, List.Perm.refl _, false, some .ret, Lk, rfl, rfl, fun e => (by cases e), fun _ => ⟨rfl, hF⟩⟩ hK
theorem exitY {i : Nat} (hL : ((r, .loop q.busy) :: (Lk ++ X)).Perm L) (hF : F (some (.exit i)) Lk) (hK : leaves K i = true := by exact rfl) : WK Try.prog Bs (RQ r h0 W (RR r q I F k)) h0 W N D (.job (.code rnd (.exit i)) :: K) s L :=
  WK.exitQ (A := []) (C := Lk ++ X) hL.symm ⟨(r, .loop (q.left (some (.exit i)))) :: Lk, X, List.Perm.refl _, false, some (.exit i), Lk, rfl, rfl, fun e => (by cases e), fun _ => ⟨rfl, hF⟩⟩ hK
end
theorem rangeY {Q : Post} {h0 hb : Heap} {W : List Nat} {N : Nat} {D : List Nat} {K : List Fr} {s : Sl} {L L0 : Ob} {f : Operand} {ps : Array Tmp} {ass bd : Code} {g n j1 j2 : Nat} {o1 o2 : AObj} {args : Nat → List AV} (I : Nat → Ob → Prop) (F : Option Code → Ob → Prop)
    (hy : YieldsOf g hb o1 o2 n args) (hf : evS s f = some (.fn (.func g) [] [.ptr j1 0, .ptr j2 0])) (hv : Vw hb [] [] h0) (hold : ∀ x ∈ W, hb.next ≤ x) (hL : ((j1, o1) :: (j2, o2) :: L0).Perm L) (hI : I 0 L0) (hn : ∀ k, (args k).length = ps.size) (hlt : allLt N ps.toList = true)
    (hround : ∀ r q, Rq N ps ass bd s q → ∀ k Lk h, k < n → I k Lk → Lent hb ((r, .loop q) :: Lk) h → WK Try.prog Bs (RQ r h (((r, AObj.loop q) :: Lk).map (·.1)) (RR r q I F k)) h (((r, AObj.loop q) :: Lk).map (·.1)) N [] [.job (.code (some r) ass), .busy r, .job (.code (some r) bd)] (setS ps.toList (args k) s) ((r, .loop q) :: Lk))
    (k : ∀ dq L', I n L' → WK Try.prog Bs Q h0 W N (dq :: D) K s (L' ++ [(dq, AObj.deferred true)])) (k' : ∀ dq c L', F (some c) L' → WK Try.prog Bs Q h0 W N (dq :: D) (.job (.code none c) :: K) s (L' ++ [(dq, AObj.deferred true)])) :
    WK Try.prog Bs Q h0 W N D (.job (.code none (.rangeFunc f ps ass bd)) :: K) s L := by
  refine WK.rangeX (Lw := (j1, o1) :: (j2, o2) :: L0) (Lk := []) (R := fun pd Ln => match pd with | none => I n Ln | some c => F (some c) Ln) hf (by rw [List.append_nil]; exact hL) (fun dq r q h hq hh => ?_) (fun dq L' h => k dq L' h) (fun dq c L' h => k' dq c L' h)
  have hp : (((r, AObj.loop q) :: (j1, o1) :: (j2, o2) :: L0) ++ [(dq, AObj.deferred true)]).Perm ((r, .loop q) :: (dq, AObj.deferred true) :: L) := by
    refine List.Perm.cons _ ?_
    refine (List.perm_append_singleton (dq, AObj.deferred true) ((j1, o1) :: (j2, o2) :: L0)).trans ?_
    exact List.Perm.cons _ hL
  have hlent := Lent.of hv hold hh hp
  obtain ⟨v, L1, hcon, q', Ln, rfl, rfl, hcase⟩ := hy h r j1 j2 q L0 I (fun q' Ln => ∃ pd, q' = q.left pd ∧ pd.isSome = true ∧ F pd Ln) hlent hI (fun k Lk h2 hk hIk hl2 => by
    have e := ConR.pick (ConR.enterQ hq hl2.ss (hl2.ss.own _ List.mem_cons_self).1 (hn k) hlt rfl (hround r q hq k Lk h2 hk hIk hl2))
    obtain ⟨v, L', hc, b, pd, Lk', rfl, rfl, g1, g2⟩ := e
    refine ⟨_, _, hc, b, q.left pd, Lk', rfl, rfl, fun hb => ?_, fun hb => ?_⟩
    · obtain ⟨rfl, h3⟩ := g1 hb
      exact ⟨hq.left, h3⟩
    · obtain ⟨h3, h4⟩ := g2 hb
      exact ⟨pd, rfl, h3, h4⟩)
  rcases hcase with ⟨rfl, h3⟩ | ⟨pd, rfl, h3, h4⟩
  · exact ⟨_, none, Ln, by rw [hq.left]; exact hcon, h3⟩
  · cases pd with
    | none => cases h3
    | some c => exact ⟨_, some c, Ln, hcon, h4⟩
/-! sums of what is added up -/
theorem fold_bd {l : List Int} (h : ∀ x ∈ l, -4000 ≤ x ∧ x ≤ 4000) : ∀ k, k ≤ l.length → -4000 * (k : Int) ≤ (l.take k).foldl (· + ·) 0 ∧ (l.take k).foldl (· + ·) 0 ≤ 4000 * (k : Int)
  | 0, _ => by simp
  | k + 1, hk => by
    obtain ⟨h1, h2⟩ := fold_bd h k (by omega)
    rw [foldl_take _ _ (show k < l.length by omega)]
    have := h (nth l k) (by rw [nth_eq (by omega)]; exact List.getElem_mem _)
    omega
theorem idx_arr {l : List Int} {k : Nat} (h : l.length = 7) (hk : k < 7) : evIndex Try.prog 148 (.agg (l.map (AV.int .i64))) (.int .i64 (k : Int)) = some (.int .i64 (nth l k)) := by
  have e1 : isAggT Try.prog 3 = some false := by kernel_rfl
  have e2 : sizeT Try.prog 3 = some 1 := by kernel_rfl
  unfold evIndex
  rw [Try.underlying148]
  simp only [e2, Option.bind_some]
  rw [if_pos (by omega)]
  unfold partA
  rw [e1, e2]
  simp only [nthN_eq, Int.toNat_natCast, Nat.mul_one]
  rw [List.getElem?_map, List.getElem?_eq_getElem (by omega), nth_eq (by omega)]
  rfl
set_option maxRecDepth 100000 in
set_option maxHeartbeats 4000000 in
theorem sum_con (h : Heap) (g : Gd h) (l : List Int) (hl : l.length = 7) (hb : ∀ x ∈ l, -4000 ≤ x ∧ x ≤ 4000) :
    Con Try.prog Bs 114 [.agg (l.map (AV.int .i64))] h [] (.int .i64 (l.foldl (· + ·) 0)) [] := by
  refine Con.start rfl Try.func114 rfl rfl Try.ntmps114 rfl rfl g ?_
  (refine WK.seq ?_; refine WK.region ?_; refine St.box fun _ _ => ?_; refine St.assign ?_; refine WO.nil ?_; refine WK.seq ?_; refine WK.region ?_; refine St.assign ?_; refine WO.nil ?_; refine WK.seq ?_; refine WK.seq ?_; refine WK.region ?_)
  refine St.load (hv := load_arr (by show (l.map (AV.int .i64)).length = 7; rw [List.length_map]; exact hl)) ?_
  (refine St.move ?_; refine WO.nil ?_; refine WK.block ?_)
  refine WK.inv (ι := Nat) (fun k => [(3, .int .i64 ((l.take k).foldl (· + ·) 0)), (6, .agg (l.map (AV.int .i64))), (7, .int .i64 k)]) (fun _ => []) (fun k => k ≤ 7) (fun k => 7 - k) 0 (by omega) ⟨rfl, rfl, rfl, trivial⟩ (by (repeat (first | exact List.Sublist.refl _ | exact List.nil_sublist _ | apply List.Sublist.cons_cons | apply List.Sublist.cons))) ?_
  intro k hk ih
  (refine WK.seq ?_; refine WK.region ?_; refine St.bin ?_; refine WO.nil ?_; refine WK.seq ?_)
  refine St.splitC (fun hc => ?_) (fun hc => ?_)
  · have hlt : k < 7 := by simp at hc; omega
    obtain ⟨s1, s2⟩ := fold_bd hb k (by omega)
    have s3 := hb (nth l k) (by rw [nth_eq (by omega)]; exact List.getElem_mem _)
    have e3 : (l.take k).foldl (· + ·) 0 + nth l k = (l.take (k + 1)).foldl (· + ·) 0 := (foldl_take _ _ (show k < l.length by omega)).symm
    (refine WK.skip ?_; refine WK.seq ?_; refine WK.block ?_; refine WK.seq ?_; refine WK.region ?_)
    refine St.any (v := .int .i64 (nth l k)) ?_ (he := fun h => ?_)
    rotate_left
    · show plainV (evIndex Try.prog 148 (.agg (l.map (AV.int .i64))) (.int .i64 (k : Int))) h = _
      rw [idx_arr hl hlt]
      rfl
    (refine St.assign ?_; refine WO.nil ?_; refine WK.region ?_; refine St.move ?_; refine St.move ?_; refine St.binI ?_; refine St.assign ?_; refine WO.nil ?_; refine WK.blk ?_; refine WK.region ?_; refine St.binI ?_; refine St.move ?_; refine WO.nil ?_)
    refine WK.le ?_ (by (repeat (first | exact List.Sublist.refl _ | exact List.nil_sublist _ | apply List.Sublist.cons_cons | apply List.Sublist.cons))) (ih (k + 1) hlt (by omega))
    exact ⟨congrArg (fun z => some (AV.int .i64 z)) e3, rfl, rfl, trivial⟩
  · have : k = 7 := by simp at hc; omega
    subst this
    (refine WK.exit ?_; refine WK.seq ?_; refine WK.region ?_; refine St.move ?_; refine St.assign ?_; refine WO.nil ?_)
    refine St.ret (by first | exact .tmp .nil | exact .cell .nil | exact .cell (.tmp .nil) | exact .tmp (.tmp .nil) | exact .cell (.cell .nil) | exact .tmp (.cell .nil) | exact .nil | exact .tmp (.cell (.tmp .nil)) | exact .cell (.tmp (.tmp .nil)) | exact .cell (.cell (.tmp .nil)) | exact .tmp (.tmp (.tmp .nil)) | exact .cell (.cell (.cell .nil))) ?_
    rw [List.take_of_length_le (by omega)]
    rfl
set_option maxRecDepth 100000 in
theorem moments_con (h : Heap) (g : Gd h) (lv lo hi : Int) (cv sv : AV) : ∃ v L, Con Try.prog Bs 112 [.agg [.int .i64 lv, cv, sv], .agg [.int .i64 lo, .int .i64 hi]] h [] v L ∧ ∃ j1 j2, v = .fn (.func 130) [] [.ptr j1 0, .ptr j2 0] ∧ L = [(j2, .cells [.int .i64 lo, .int .i64 hi] 37), (j1, .cells [.int .i64 lv, cv, sv] 25)] := by
  refine Con.startR rfl Try.func112 rfl rfl Try.ntmps112 rfl rfl (SS.init g) ?_
  (refine WK.seq ?_; refine WK.region ?_; refine St.box fun _ _ => ?_; refine St.box fun _ _ => ?_; refine St.assign ?_; refine WO.nil ?_; refine WK.seq ?_; refine WK.region ?_; refine St.fn ?_; refine St.assign ?_; refine WO.nil ?_)
  refine St.ret (by first | exact .tmp .nil | exact .cell .nil | exact .cell (.tmp .nil) | exact .tmp (.tmp .nil) | exact .cell (.cell .nil) | exact .tmp (.cell .nil) | exact .nil | exact .tmp (.cell (.tmp .nil)) | exact .cell (.tmp (.tmp .nil)) | exact .cell (.cell (.tmp .nil)) | exact .tmp (.tmp (.tmp .nil)) | exact .cell (.cell (.cell .nil))) ?_
  exact ⟨_, _, rfl, rfl⟩
theorem moments_y (hb : Heap) (lv lo hi : Int) (cv sv : AV) (cl : List Cw) (ss : List Sh) (hc : CyV hb cv cl) (hs : ShV hb sv ss) (m : MinOk lv (cys cl) ss lo hi) : YieldsOf 130 hb (.cells [.int .i64 lv, cv, sv] 25) (.cells [.int .i64 lo, .int .i64 hi] 37) (hi - lo + 1).toNat (fun k => [.int .i64 (lo + k), .agg ((addA (cys cl) ss (lo + k)).map (AV.int .i64))]) :=
  fun h r jw js q L0 I F hl hI hr => momentsY_con hb h lv lo hi cv sv cl ss hc hs m r jw js q L0 I F hl hI hr
theorem store_arr {l z : List AV} {ty : TypeId} (h : l.length = 7) (hz : z.length = 7) (ho : l.all okCell = true) : (AObj.cells z ty).store Try.prog 148 0 (.agg l) = some (.cells l ty) := by
  have e2 : sizeT Try.prog 148 = some 7 := by kernel_rfl
  unfold AObj.store
  rw [e2]
  have e3 := overN_mk (off := 0) (xs := l) (l := z) (by omega)
  rw [List.take_zero, List.nil_append, List.drop_eq_nil_of_le (by omega), List.append_nil] at e3
  simp [AV.cells, AObj.put, h, e3]
  simpa using ho
theorem bare_bd {lv : Int} {cs : List Cy} {ss : List Sh} (w : WOk lv cs ss) (t : Int) : -28000 ≤ bareV cs ss t ∧ bareV cs ss t ≤ 28000 := by
  have hcb := corD_bd (day := t / 1440) (chkS_all w.ss)
  have hsb := sumV_bd (t := t) (chkC_all w.cs) _ (Nat.le_refl _)
  have hl := w.n1
  unfold bareV
  omega
end Go.Proofs.Ytekpffjcffeanaa
