/- Ranging over functions, with the loop's record by a name. -/
import Derived.Test.YtcaemeedmnpdjaaEvO
namespace Go.Proofs.Ytcaemeedmnpdjaa.Ev
variable {P : Program} {B : Base}

/-! ranging over a function, with the loop's record by a name -/
structure Rq (N : Nat) (ps : Array Tmp) (as bd : Code) (s : Sl) (q : ALoop) : Prop where
  st : q.state = .ready
  pd : q.pending = none
  tm : Sat ⟨q.tmps, N, []⟩ N s []
  size : q.size = N
  params : q.params = ps
  assign : q.assign = as
  body : q.body = bd
theorem ConR.enterQ {N : Nat} {ps : Array Tmp} {as bd : Code} {l : Nat} {args : List AV} {h : Heap} {W : List Nat} {L0 : Ob} {q : ALoop} {R : AV → Ob → Prop} {s0 s : Sl} (hq : Rq N ps as bd s0 q) (h0 : SS h W L0 h) (hl : h.get l = some (.loop q)) (hn : args.length = ps.size) (hlt : allLt N ps.toList = true) (hs : setS ps.toList args s0 = s)
    (hw : WK P B (RQ l h W R) h W N [] [.job (.code (some l) as), .busy l, .job (.code (some l) bd)] s L0) : ∃ v L, ConR P B l args h W v L ∧ R v L := by
  obtain ⟨st, pd, tm, n, ps', as', bd', dq⟩ := q
  obtain ⟨h1, h2, h3, h4, h5, h6, h7⟩ := hq
  simp only at h1 h2 h3 h4 h5 h6 h7
  subst h1 h2 h4 h5 h6 h7
  exact ConR.enter h0 hl rfl hn hlt h3 hs hw
section
variable {Q : Post} {h0 : Heap} {W : List Nat} {N : Nat} {D : List Nat} {K : List Fr} {s : Sl} {L : Ob} {rnd : Option Nat}
def ALoop.busy (q : ALoop) : ALoop := { q with state := .busy }
/-- a loop that was left -/
def ALoop.left (q : ALoop) (pd : Option Code) : ALoop := { q with state := if pd.isSome then .done else .ready, pending := pd }
theorem Rq.left {ps as bd q} (hq : Rq N ps as bd s q) : q.left none = q := by
  obtain ⟨st, pd, tm, n, ps', as', bd', dq⟩ := q
  obtain ⟨h1, h2, _⟩ := hq
  simp only at h1 h2
  subst h1 h2
  rfl
theorem WK.busyQ {A C : Ob} {l : Nat} {q : ALoop} (hq : q.state = .ready) (hL : L = A ++ (l, .loop q) :: C) (k : WK P B Q h0 W N D K s (A ++ (l, .loop q.busy) :: C)) : WK P B Q h0 W N D (.busy l :: K) s L := by
  obtain ⟨st, pd, tm, n, ps', as', bd', dq⟩ := q
  simp only at hq
  subst hq
  exact WK.busy hL k
theorem WK.endQ {A C : Ob} {l : Nat} {q : ALoop} {R : AV → Ob → Prop} (hL : L.Perm (A ++ (l, .loop q.busy) :: C)) (hR : R (.bool true) (A ++ (l, .loop (q.left none)) :: C)) : WK P B (RQ l h0 W R) h0 W N D [] s L :=
  WK.perm hL.symm ⟨fun _ _ _ hh => RQ.end_ (ex := .normal) hh hR⟩
theorem WK.retQ {A C : Ob} {l : Nat} {q : ALoop} {R : AV → Ob → Prop} (hL : L.Perm (A ++ (l, .loop q.busy) :: C)) (hR : R (.bool false) (A ++ (l, .loop (q.left (some .ret))) :: C)) (hK : plainK K = true := by exact rfl) : WK P B (RQ l h0 W R) h0 W N D (.job (.code rnd .ret) :: K) s L :=
  WK.perm hL.symm ⟨fun _ _ _ hh => KRun.ret (KRun.rets hK (RQ.end_ (ex := .ret) hh hR))⟩
theorem WK.exitQ {A C : Ob} {l i : Nat} {q : ALoop} {R : AV → Ob → Prop} (hL : L.Perm (A ++ (l, .loop q.busy) :: C)) (hR : R (.bool false) (A ++ (l, .loop (q.left (some (.exit i)))) :: C)) (hK : leaves K i = true := by exact rfl) : WK P B (RQ l h0 W R) h0 W N D (.job (.code rnd (.exit i)) :: K) s L :=
  WK.perm hL.symm ⟨fun _ _ _ hh => KRun.exit (KRun.leaves hK (RQ.end_ (ex := .exit i) hh hR))⟩
theorem WK.rangeX {f : Operand} {ps : Array Tmp} {as bd : Code} {g : Nat} {fs cs : List AV} {Lw Lk : Ob} {R : Option Code → Ob → Prop} (hf : evS s f = some (.fn (.func g) fs cs)) (hL : (Lw ++ Lk).Perm L)
    (hc : ∀ dq r q h, Rq N ps as bd s q → SS h0 W ((r, .loop q) :: (dq, .deferred true) :: L) h → ∃ v pd Ln, Con P B g (fs ++ [.fn (.yield r) [] []] ++ cs) h (r :: Lw.map (·.1)) v ((r, .loop (q.left pd)) :: Ln) ∧ R pd Ln)
    (k : ∀ dq L', R none L' → WK P B Q h0 W N (dq :: D) K s (L' ++ (dq, .deferred true) :: Lk)) (k' : ∀ dq c L', R (some c) L' → WK P B Q h0 W N (dq :: D) (.job (.code none c) :: K) s (L' ++ (dq, .deferred true) :: Lk)) :
    WK P B Q h0 W N D (.job (.code none (.rangeFunc f ps as bd)) :: K) s L := by
  refine WK.range (R := R) hf hL (fun dq r tm h hT hh => ?_) k k'
  obtain ⟨v, pd, Ln, h1, h2⟩ := hc dq r ⟨.ready, none, tm, N, ps, as, bd, dq⟩ h ⟨rfl, rfl, hT, rfl, rfl, rfl, rfl⟩ hh
  exact ⟨v, pd, _, Ln, by cases pd <;> simp, h1, h2⟩
/-- no round leaves the loop -/
theorem WK.rangeQ {f : Operand} {ps : Array Tmp} {as bd : Code} {g : Nat} {fs cs : List AV} {Lw Lk : Ob} {R : Ob → Prop} (hf : evS s f = some (.fn (.func g) fs cs)) (hL : (Lw ++ Lk).Perm L)
    (hc : ∀ dq r q h, Rq N ps as bd s q → SS h0 W ((r, .loop q) :: (dq, .deferred true) :: L) h → ∃ v Ln, Con P B g (fs ++ [.fn (.yield r) [] []] ++ cs) h (r :: Lw.map (·.1)) v ((r, .loop q) :: Ln) ∧ R Ln)
    (k : ∀ dq L', R L' → WK P B Q h0 W N (dq :: D) K s (L' ++ (dq, .deferred true) :: Lk)) :
    WK P B Q h0 W N D (.job (.code none (.rangeFunc f ps as bd)) :: K) s L := by
  refine WK.rangeX (R := fun pd Ln => pd = none ∧ R Ln) hf hL (fun dq r q h hq hh => ?_) (fun dq L' h => k dq L' h.2) (fun dq c L' h => by cases h.1)
  obtain ⟨v, Ln, h1, h2⟩ := hc dq r q h hq hh
  exact ⟨v, none, Ln, by rw [hq.left]; exact h1, rfl, h2⟩
end
section
variable {Q : Post} {h0 : Heap} {W : List Nat} {N : Nat} {D : List Nat} {K : List Fr} {s : Sl} {L : Ob} {T : Tg} {ops : Array Oper} {d : Nat} {ty : TypeId} {pos : String} {af : Array Edge} {gd : Option (Nat × Bool)} {l : List Oper}
/-- a slice that is written out -/
theorem St.mkS {t n ps lv c e} (k : ∀ j, h0.next ≤ j → WO P B Q h0 W N D K false ops l ((d, .slice j 0 n (.k n)) :: s) ((j, .cells c e) :: L) []) (hw : wantS ops s N ⟨some d, .buildSlice t n ps, ty, pos, af, gd⟩ = some true := by exact rfl) (hd : Nat.blt d N = true := by exact rfl) (hx : mapP (evS s) ps.toList = some lv := by exact rfl) (hb : evBuildSlice P t n lv = some (c, e) := by exact rfl) : WO P B Q h0 W N D K false ops (⟨some d, .buildSlice t n ps, ty, pos, af, gd⟩ :: l) s L [] :=
  St.make k hw hd (fun h => by unfold evOp; simp only [oBuildSlice, hx, hb])
theorem StD.mkS {t n ps lv c e i} (k : ∀ j, h0.next ≤ j → WO P B Q h0 W N D K true ops l ((d, .slice j 0 n (.k n)) :: s) L ((i, j, .cells c e) :: T)) (hw : wantS ops s N ⟨some d, .buildSlice t n ps, ty, pos, af, gd⟩ = some true := by exact rfl) (hd : Nat.blt d N = true := by exact rfl) (hi : ops.toList.length - (⟨some d, .buildSlice t n ps, ty, pos, af, gd⟩ :: l : List Oper).length = i := by exact rfl) (hx : mapP (evS s) ps.toList = some lv := by exact rfl) (hb : evBuildSlice P t n lv = some (c, e) := by exact rfl) : WO P B Q h0 W N D K true ops (⟨some d, .buildSlice t n ps, ty, pos, af, gd⟩ :: l) s L T :=
  StD.make k hw hd hi (fun h => by unfold evOp; simp only [oBuildSlice, hx, hb])
end
theorem perm_at {α : Type} {x : α} : ∀ {l m : List α} (i : Nat), l[i]? = some x → (l.eraseIdx i).Perm m → l.Perm (x :: m)
  | [], _, _, h, _ => by simp at h
  | y :: l, m, 0, h, k => by simp at h; subst h; exact List.Perm.cons _ k
  | y :: l, m, i + 1, h, k => by
    have h1 := perm_at (l := l) (m := l.eraseIdx i) i (by simpa using h) (List.Perm.refl _)
    exact ((h1.cons y).trans (List.Perm.swap _ _ _)).trans (List.Perm.cons _ (by simpa using k))
theorem SS.ltW {h0 h : Heap} {W : List Nat} {L : Ob} (k : SS h0 W L h) : ∀ i ∈ L.map (·.1), i < h.next := fun i hi => by
  obtain ⟨p, hp, rfl⟩ := List.mem_map.1 hi
  exact (k.own p hp).2.2.1
/-- a call that writes a list of ints in place -/
theorem IsL.inpl {B : Base} {f : Nat} {F : List Int → List Int} {R : Nat → List Int → ACap → AV} {e n : Nat} {v : AV} {Lv : Ob} {zs : List Int} (hv : IsL e 1 n (zs.map (AV.int .i64)) v Lv) (hB : ∀ i c h, B.ans f [.slice i 0 n c] h = inplA f F R f [.slice i 0 n c] h) (h4 : n < 1000000) (h5 : 0 < n) (hF : (F zs).length = zs.length) :
    ∃ i c o o', v = .slice i 0 n c ∧ Lv = [(i, o)] ∧ IsL e 1 n ((F zs).map (AV.int .i64)) (.slice i 0 n c) [(i, o')] ∧ ∀ h, SS h [i] [(i, o)] h → Con P B f [.slice i 0 n c] h [i] (R i zs c) [(i, o')] := by
  have fin : ∀ (i : Nat) (c : ACap) (o o' : AObj) (r : List AV) (h : Heap), SS h [i] [(i, o)] h → h.row i = some (zs.map (AV.int .i64) ++ r) → zs.length = n → capOk h i n c = true → (∀ g, h.set i o' = some g → h.setRow i ((F zs).map (AV.int .i64) ++ r) = some g) → Con P B f [.slice i 0 n c] h [i] (R i zs c) [(i, o')] := fun i c o o' r h k q3 q4 q5 q6 => by
    obtain ⟨e1, e2⟩ := (show SS h [i] ([] ++ (i, o) :: []) h from k).store (o' := o')
    refine ⟨{ h with t := h.t.set i o' }, ⟨noA, fun a => ⟨1, ?_⟩⟩, e2⟩
    have hans : B.ans f [.slice i 0 n c] h = some (R i zs c, { h with t := h.t.set i o' }) := by
      rw [hB]
      exact inplA_is q3 (by rw [← q4]; exact intsTo_mk zs r) h4 h5 q5 (q6 _ e1)
    show orR (asR B) _ _ _ _ = _
    unfold orR
    rw [show asR B (.call f [.slice i 0 n c]) a h = some ⟨.normal, R i zs c, noA, { h with t := h.t.set i o' }⟩ from by unfold asR; simp only [hans, Option.map_some]]
  cases hv with
  | nil h1 _ => omega
  | cells i c rest t h1 h2 h3 =>
    refine ⟨i, .k c, _, .cells ((F zs).map (AV.int .i64) ++ rest) t, rfl, rfl, .cells i c rest t (by rw [List.length_map, hF]; simpa using h1) (by rw [← h2]; simp [hF]) h3, fun h k => ?_⟩
    have hg := (k.own (i, .cells (zs.map (AV.int .i64) ++ rest) t) (by simp)).1
    exact fin i (.k c) _ _ rest h k (by unfold Heap.row; rw [hg]) (by simpa using h1) (by simp only [capOk, hg]; exact Nat.ble_eq_true_of_le h3) (fun g hs => by unfold Heap.setRow; rw [hg]; exact hs)
  | row i h1 =>
    refine ⟨i, .m 0, _, .row ((F zs).map (AV.int .i64)) e 1, rfl, rfl, .row i (by rw [List.length_map, hF]; simpa using h1), fun h k => ?_⟩
    have hg := (k.own (i, .row (zs.map (AV.int .i64)) e 1) (by simp)).1
    exact fin i (.m 0) _ _ [] h k (by unfold Heap.row; rw [hg]; simp) (by simpa using h1) (by simp only [capOk, hg]; rfl) (fun g hs => by unfold Heap.setRow; rw [hg]; simpa using hs)
theorem orB_right {B C : Base} {f : Nat} {args : List AV} {h : Heap} (hb : B.ans f args h = none) : (orB B C).ans f args h = C.ans f args h := by
  show orA B C f args h = _
  unfold orA
  rw [hb]
theorem orB_left {B C : Base} {f : Nat} {args : List AV} {h : Heap} (hc : C.ans f args h = none) : (orB B C).ans f args h = B.ans f args h := by
  show orA B C f args h = _
  unfold orA
  cases hb : B.ans f args h with
  | none => exact hc
  | some x => rfl
theorem rep_len {α : Type} (l : List α) : ∀ n, (rep l n).length = n * l.length
  | 0 => by simp [rep]
  | n + 1 => by simp [rep, rep_len l n, Nat.add_mul]; omega
section
variable {Q : Post} {h0 : Heap} {W : List Nat} {N : Nat} {D : List Nat} {K : List Fr} {s : Sl} {L : Ob} {ops : Array Oper} {d : Nat} {ty : TypeId} {pos : String} {af : Array Edge} {gd : Option (Nat × Bool)} {l : List Oper}
/-- an empty list with room -/
theorem St.mkE {t lo co m e sz z by_} (k : ∀ v Lv, IsL e sz 0 [] v Lv → WO P B Q h0 W N D K false ops l ((d, v) :: s) (Lv ++ L) []) (hm : 0 ≤ m ∧ m ≤ 65536) (hw : wantS ops s N ⟨some d, .makeSlice t lo co, ty, pos, af, gd⟩ = some true := by exact rfl) (hd : Nat.blt d N = true := by exact rfl) (hl : evS s lo = some (.int .i64 0) := by exact rfl) (hc : evS s co = some (.int .i64 m) := by exact rfl) (ht : P.underlying t = some (.slice e) := by exact rfl) (hs : sizeT P e = some sz := by exact rfl) (hz : zeroT P e = some z := by exact rfl) (hb : bytesT P e = some by_ := by exact rfl) (h1 : Nat.beq z.cells.length sz && (Nat.blt 0 sz && Nat.ble by_ 1000000) := by exact rfl) : WO P B Q h0 W N D K false ops (⟨some d, .makeSlice t lo co, ty, pos, af, gd⟩ :: l) s L [] := by
  simp only [Bool.and_eq_true] at h1
  have q1 := Nat.eq_of_beq_eq_true h1.1
  have q2 : 0 < sz := by simpa [Nat.blt_eq] using h1.2.1
  have q3 := Nat.le_of_ble_eq_true h1.2.2
  refine St.make (f := fun j => .slice j 0 0 (.k m.toNat)) (ob := .cells (rep z.cells m.toNat) e) (fun j hj => k _ [(j, .cells (rep z.cells m.toNat) e)] ?_) hw hd (fun h => ?_)
  · have := IsL.cells (e := e) (sz := sz) (len := 0) (l := []) j m.toNat (rep z.cells m.toNat) e (by simp) (by rw [List.nil_append, rep_len, q1]) (Nat.zero_le _)
    simpa using this
  · unfold evOp
    simp only [oMakeSlice, hl, hc, ht, hs, hz, hb]
    rw [if_pos ⟨by omega, by omega, hm.2, q1, q2, q3⟩]
    rfl
end
/-- what comes behind a piece of code is shown once, for all ways out of it -/
theorem WK.cut {P : Program} {B : Base} {Q : Post} {h0 : Heap} {W : List Nat} {N : Nat} {D : List Nat} {K : List Fr} {s : Sl} {L : Ob} {f : Fr} {ι : Sort _} (S : ι → Sl) (O : ι → Ob) (h2 : ∀ i, WK P B Q h0 W N D K (S i) (O i)) (h1 : ∀ K', (∀ i, WK P B Q h0 W N D K' (S i) (O i)) → WK P B Q h0 W N D (f :: K') s L) : WK P B Q h0 W N D (f :: K) s L := h1 K h2
theorem WK.unroll {P : Program} {B : Base} {Q : Post} {h0 : Heap} {W : List Nat} {N : Nat} {D : List Nat} {K : List Fr} {s : Sl} {L : Ob} {rnd : Option Nat} {b : Code} (k : WK P B Q h0 W N D (.job (.code rnd b) :: .job (.code rnd (.loop b)) :: K) s L) : WK P B Q h0 W N D (.job (.code rnd (.loop b)) :: K) s L := ⟨WR.loop k.run⟩
end Go.Proofs.Ytcaemeedmnpdjaa.Ev
