/- Ranging over functions, with the loop's record by a name. -/
import Derived.Test.YtkebbdpfjhhdhaaGreatEvO
namespace Go.Proofs.YtkebbdpfjhhdhaaGreat.Ev
variable {P : Program} {B : Base}

/-! ranging over a function, with the loop's record by a name -/
structure Rq (N : Nat) (ps : Array Tmp) (as bd : Code) (s : Sl) (q : ALoop) : Prop where
  st : q.state = .ready
  pd : q.pending = none
  tm : Sat ⟨q.tmps, N, []⟩ N s []
  size : q.size = N
  params : q.params = ps
  assign : q.assign = as
  body : q.body = bd
section
variable {Q : Post} {h0 : Heap} {W : List Nat} {N : Nat} {D : List Nat} {K : List Fr} {s : Sl} {L : Ob} {rnd : Option Nat}
def ALoop.busy (q : ALoop) : ALoop := { q with state := .busy }
/-- a loop that was left -/
def ALoop.left (q : ALoop) (pd : Option Code) : ALoop := { q with state := if pd.isSome then .done else .ready, pending := pd }
theorem Rq.left {ps as bd q} (hq : Rq N ps as bd s q) : q.left none = q := by
  obtain ⟨st, pd, tm, n, ps', as', bd', dq⟩ := q
  obtain ⟨h1, h2, _⟩ := hq
  simp only at h1 h2
  subst h1 h2
  rfl
theorem WK.endQ {A C : Ob} {l : Nat} {q : ALoop} {R : AV → Ob → Prop} (hL : L.Perm (A ++ (l, .loop q.busy) :: C)) (hR : R (.bool true) (A ++ (l, .loop (q.left none)) :: C)) : WK P B (RQ l h0 W R) h0 W N D [] s L :=
  WK.perm hL.symm ⟨fun _ _ _ hh => RQ.end_ (ex := .normal) hh hR⟩
end
section
variable {Q : Post} {h0 : Heap} {W : List Nat} {N : Nat} {D : List Nat} {K : List Fr} {s : Sl} {L : Ob} {T : Tg} {ops : Array Oper} {d : Nat} {ty : TypeId} {pos : String} {af : Array Edge} {gd : Option (Nat × Bool)} {l : List Oper}
/-- a slice that is written out -/
theorem St.mkS {t n ps lv c e} (k : ∀ j, h0.next ≤ j → WO P B Q h0 W N D K false ops l ((d, .slice j 0 n (.k n)) :: s) ((j, .cells c e) :: L) []) (hw : wantS ops s N ⟨some d, .buildSlice t n ps, ty, pos, af, gd⟩ = some true := by exact rfl) (hd : Nat.blt d N = true := by exact rfl) (hx : mapP (evS s) ps.toList = some lv := by exact rfl) (hb : evBuildSlice P t n lv = some (c, e) := by exact rfl) : WO P B Q h0 W N D K false ops (⟨some d, .buildSlice t n ps, ty, pos, af, gd⟩ :: l) s L [] :=
  St.make k hw hd (fun h => by unfold evOp; simp only [oBuildSlice, hx, hb])
theorem StD.mkS {t n ps lv c e i} (k : ∀ j, h0.next ≤ j → WO P B Q h0 W N D K true ops l ((d, .slice j 0 n (.k n)) :: s) L ((i, j, .cells c e) :: T)) (hw : wantS ops s N ⟨some d, .buildSlice t n ps, ty, pos, af, gd⟩ = some true := by exact rfl) (hd : Nat.blt d N = true := by exact rfl) (hi : ops.toList.length - (⟨some d, .buildSlice t n ps, ty, pos, af, gd⟩ :: l : List Oper).length = i := by exact rfl) (hx : mapP (evS s) ps.toList = some lv := by exact rfl) (hb : evBuildSlice P t n lv = some (c, e) := by exact rfl) : WO P B Q h0 W N D K true ops (⟨some d, .buildSlice t n ps, ty, pos, af, gd⟩ :: l) s L T :=
  StD.make k hw hd hi (fun h => by unfold evOp; simp only [oBuildSlice, hx, hb])
end
theorem perm_at {α : Type} {x : α} : ∀ {l m : List α} (i : Nat), l[i]? = some x → (l.eraseIdx i).Perm m → l.Perm (x :: m)
  | [], _, _, h, _ => by simp at h
  | y :: l, m, 0, h, k => by simp at h; subst h; exact List.Perm.cons _ k
  | y :: l, m, i + 1, h, k => by
    have h1 := perm_at (l := l) (m := l.eraseIdx i) i (by simpa using h) (List.Perm.refl _)
    exact ((h1.cons y).trans (List.Perm.swap _ _ _)).trans (List.Perm.cons _ (by simpa using k))
theorem SS.ltW {h0 h : Heap} {W : List Nat} {L : Ob} (k : SS h0 W L h) : ∀ i ∈ L.map (·.1), i < h.next := fun i hi => by
  obtain ⟨p, hp, rfl⟩ := List.mem_map.1 hi
  exact (k.own p hp).2.2.1
/-- a call that writes a list of ints in place -/
theorem IsL.inpl {B : Base} {f : Nat} {F : List Int → List Int} {R : Nat → List Int → ACap → AV} {e n : Nat} {v : AV} {Lv : Ob} {zs : List Int} (hv : IsL e 1 n (zs.map (AV.int .i64)) v Lv) (hB : ∀ i c h, B.ans f [.slice i 0 n c] h = inplA f F R f [.slice i 0 n c] h) (h4 : n < 1000000) (h5 : 0 < n) (hF : (F zs).length = zs.length) :
    ∃ i c o o', v = .slice i 0 n c ∧ Lv = [(i, o)] ∧ IsL e 1 n ((F zs).map (AV.int .i64)) (.slice i 0 n c) [(i, o')] ∧ ∀ h, SS h [i] [(i, o)] h → Con P B f [.slice i 0 n c] h [i] (R i zs c) [(i, o')] := by
  have fin : ∀ (i : Nat) (c : ACap) (o o' : AObj) (r : List AV) (h : Heap), SS h [i] [(i, o)] h → h.row i = some (zs.map (AV.int .i64) ++ r) → zs.length = n → capOk h i n c = true → (∀ g, h.set i o' = some g → h.setRow i ((F zs).map (AV.int .i64) ++ r) = some g) → Con P B f [.slice i 0 n c] h [i] (R i zs c) [(i, o')] := fun i c o o' r h k q3 q4 q5 q6 => by
    obtain ⟨e1, e2⟩ := (show SS h [i] ([] ++ (i, o) :: []) h from k).store (o' := o')
    refine ⟨{ h with t := h.t.set i o' }, ⟨noA, fun a => ⟨1, ?_⟩⟩, e2⟩
    have hans : B.ans f [.slice i 0 n c] h = some (R i zs c, { h with t := h.t.set i o' }) := by
      rw [hB]
      exact inplA_is q3 (by rw [← q4]; exact intsTo_mk zs r) h4 h5 q5 (q6 _ e1)
    show orR (asR B) _ _ _ _ = _
    unfold orR
    rw [show asR B (.call f [.slice i 0 n c]) a h = some ⟨.normal, R i zs c, noA, { h with t := h.t.set i o' }⟩ from by unfold asR; simp only [hans, Option.map_some]]
  cases hv with
  | nil h1 _ => omega
  | cells i c rest t h1 h2 h3 =>
    refine ⟨i, .k c, _, .cells ((F zs).map (AV.int .i64) ++ rest) t, rfl, rfl, .cells i c rest t (by rw [List.length_map, hF]; simpa using h1) (by rw [← h2]; simp [hF]) h3, fun h k => ?_⟩
    have hg := (k.own (i, .cells (zs.map (AV.int .i64) ++ rest) t) (by simp)).1
    exact fin i (.k c) _ _ rest h k (by unfold Heap.row; rw [hg]) (by simpa using h1) (by simp only [capOk, hg]; exact Nat.ble_eq_true_of_le h3) (fun g hs => by unfold Heap.setRow; rw [hg]; exact hs)
  | row i h1 =>
    refine ⟨i, .m 0, _, .row ((F zs).map (AV.int .i64)) e 1, rfl, rfl, .row i (by rw [List.length_map, hF]; simpa using h1), fun h k => ?_⟩
    have hg := (k.own (i, .row (zs.map (AV.int .i64)) e 1) (by simp)).1
    exact fin i (.m 0) _ _ [] h k (by unfold Heap.row; rw [hg]; simp) (by simpa using h1) (by simp only [capOk, hg]; rfl) (fun g hs => by unfold Heap.setRow; rw [hg]; simpa using hs)
theorem orB_right {B C : Base} {f : Nat} {args : List AV} {h : Heap} (hb : B.ans f args h = none) : (orB B C).ans f args h = C.ans f args h := by
  show orA B C f args h = _
  unfold orA
  rw [hb]
theorem orB_left {B C : Base} {f : Nat} {args : List AV} {h : Heap} (hc : C.ans f args h = none) : (orB B C).ans f args h = B.ans f args h := by
  show orA B C f args h = _
  unfold orA
  cases hb : B.ans f args h with
  | none => exact hc
  | some x => rfl
section
variable {Q : Post} {h0 : Heap} {W : List Nat} {N : Nat} {D : List Nat} {K : List Fr} {s : Sl} {L : Ob} {ops : Array Oper} {d : Nat} {ty : TypeId} {pos : String} {af : Array Edge} {gd : Option (Nat × Bool)} {l : List Oper}
end
/-- what comes behind a piece of code is shown once, for all ways out of it -/
theorem WK.cut {P : Program} {B : Base} {Q : Post} {h0 : Heap} {W : List Nat} {N : Nat} {D : List Nat} {K : List Fr} {s : Sl} {L : Ob} {f : Fr} {ι : Sort _} (S : ι → Sl) (O : ι → Ob) (h2 : ∀ i, WK P B Q h0 W N D K (S i) (O i)) (h1 : ∀ K', (∀ i, WK P B Q h0 W N D K' (S i) (O i)) → WK P B Q h0 W N D (f :: K') s L) : WK P B Q h0 W N D (f :: K) s L := h1 K h2
theorem WK.unroll {P : Program} {B : Base} {Q : Post} {h0 : Heap} {W : List Nat} {N : Nat} {D : List Nat} {K : List Fr} {s : Sl} {L : Ob} {rnd : Option Nat} {b : Code} (k : WK P B Q h0 W N D (.job (.code rnd b) :: .job (.code rnd (.loop b)) :: K) s L) : WK P B Q h0 W N D (.job (.code rnd (.loop b)) :: K) s L := ⟨WR.loop k.run⟩
end Go.Proofs.YtkebbdpfjhhdhaaGreat.Ev

/- Appending what lies in old memory; storing one element of a list. -/
namespace Go.Proofs.YtkebbdpfjhhdhaaGreat.Ev
variable {P : Program} {B : Base}
section
variable {Q : Post} {h0 : Heap} {W : List Nat} {N : Nat} {D : List Nat} {K : List Fr} {s : Sl} {L : Ob} {T : Tg} {md : Bool} {ops : Array Oper} {d : Nat} {ty : TypeId} {pos : String} {af : Array Edge} {gd : Option (Nat × Bool)} {l : List Oper}
variable {x y : Operand} {t tx e : TypeId} {u : AV} {sz n : Nat} {new : List AV} {i2 off2 : Nat} {c2 : ACap} {ob2 : AObj}
/-- append what lies anywhere in memory to a list that the call has made, in a region in order -/
theorem St.appLV {Lv Lk : Ob} {v : AV} {len : Nat} {old : List AV} (hv : IsL e sz len old v Lv) (hp : (Lv ++ Lk).Perm L) (k : ∀ v' Lv', IsL e sz (len + n) (old ++ new) v' Lv' → WO P B Q h0 W N D K false ops l ((d, v') :: s) (Lv' ++ Lk) []) (q : AppQ P s x y t tx v u e sz n new i2 off2 c2) (hrd : ∀ h, Vw h0 W L h → h.loadN i2 off2 (n * sz) = some new) (h1 : 0 < n) (h2 : len + n ≤ 1000000)
    (hw : wantS ops s N ⟨some d, .call ⟨.builtin .append, #[x, y], #[t, tx]⟩, ty, pos, af, gd⟩ = some true := by exact rfl) (hd : Nat.blt d N = true := by exact rfl) : WO P B Q h0 W N D K false ops (⟨some d, .call ⟨.builtin .append, #[x, y], #[t, tx]⟩, ty, pos, af, gd⟩ :: l) s L [] := by
  have hsz : 0 < sz := by have := q.h0; simpa [Nat.blt_eq] using this
  have hnl : new.length = n * sz := by simpa using q.hl
  have hnx : 0 < new.length := by rw [hnl]; exact Nat.mul_pos h1 hsz
  constructor
  · rintro - a h ha hh
    have hh' := hh.perm hp
    have hld := hrd h hh.vw
    have fin : ∀ (v' : AV) (g : Heap) (Lv' : Ob), evOnto h e sz v n new = some (v', g) → h.next ≤ g.next → SS h0 W (Lv' ++ Lk) g → IsL e sz (len + n) (old ++ new) v' Lv' → KRun P B Q (.job (.ops ops (⟨some d, .call ⟨.builtin .append, #[x, y], #[t, tx]⟩, ty, pos, af, gd⟩ :: l)) :: K) .normal a h := fun v' g Lv' e1 e2 e3 e4 => by
      obtain ⟨a', h3, h4⟩ := ha.put (d := some d) hd v'
      exact KRun.op (wantS_eq ha hw) (ROp.value ha (v := v') (g := g) (by rw [q.ev rfl hld, e1]; rfl) e2) h3 ((k v' Lv' e4).seq rfl a' g h4 e3)
    cases hv with
    | nil g1 g2 =>
      subst g1 g2
      refine fin (.slice h.next 0 (0 + n) (.m 0)) (h.new (.row new e sz)).2 [(h.next, .row new e sz)] ?_ (Nat.le_succ _) (hh'.new _) ?_
      · simp only [evOnto, show ¬ n = 0 from by omega, if_false, evGrow]
        rw [Nat.zero_add]
      · rw [List.nil_append]
        have := IsL.row (e := e) (sz := sz) (len := 0 + n) (l := new) h.next (by rw [hnl, Nat.zero_add])
        rw [Nat.zero_add] at this ⊢
        exact this
    | cells i c rest t' g1 g2 g3 =>
      have hg := (hh'.own (i, .cells (old ++ rest) t') (by simp)).1
      have hrow : h.row i = some (old ++ rest) := by unfold Heap.row; rw [hg]
      by_cases hc : len + n ≤ c
      · have hle : len * sz + n * sz ≤ c * sz := by rw [← Nat.add_mul]; exact Nat.mul_le_mul_right _ hc
        have ho := overN_mk (off := len * sz) (xs := new) (l := old ++ rest) (by rw [hnl, g2]; omega)
        rw [List.take_left' g1, List.drop_append, List.drop_eq_nil_of_le (by omega), List.nil_append] at ho
        obtain ⟨e1, e2⟩ := (show SS h0 W ([] ++ (i, .cells (old ++ rest) t') :: Lk) h from hh').store (o' := .cells (old ++ new ++ rest.drop (len * sz + new.length - old.length)) t')
        refine fin (.slice i 0 (len + n) (.k c)) { h with t := h.t.set i (.cells (old ++ new ++ rest.drop (len * sz + new.length - old.length)) t') } [(i, .cells (old ++ new ++ rest.drop (len * sz + new.length - old.length)) t')] ?_ (Nat.le_refl _) e2 ?_
        · simp only [evOnto]
          rw [if_pos hc]
          simp only [Heap.storeN, Nat.zero_add, Option.bind_eq_bind, hrow, Option.bind_some, ho, Heap.setRow, hg, e1, Option.map_some]
        · refine .cells i c _ t' ?_ ?_ hc
          · rw [List.length_append, g1, hnl, Nat.add_mul]
          · rw [List.length_append] at g2
            rw [List.length_append, List.length_append, List.length_drop, hnl]
            omega
      · have hl : h.loadN i 0 (len * sz) = some old := readN_load hg (by
          simp only [AObj.readN, dropN_eq, List.drop_zero]
          rw [← g1]
          exact takeN_left old rest)
        refine fin (.slice h.next 0 (len + n) (.m 0)) (h.new (.row (old ++ new) e sz)).2 [(h.next, .row (old ++ new) e sz)] ?_ (Nat.le_succ _) ((hh'.sub (L' := Lk) (List.sublist_cons_self _ _)).new _) (.row _ (by rw [List.length_append, g1, hnl, Nat.add_mul]))
        simp only [evOnto]
        rw [if_neg hc, if_pos h2, hl]
        rfl
    | row i g1 =>
      obtain ⟨g, e1, e2, _, _, e3⟩ := (show SS h0 W ([] ++ (i, .row old e sz) :: Lk) h from hh').take (o' := .row (old ++ new) e sz)
      have hg := (hh'.own (i, .row old e sz) (by simp)).1
      have hk : knownN h i sz = len := by
        unfold knownN
        rw [hg]
        simp only [if_true]
        rw [g1, Nat.mul_div_cancel _ hsz]
      have hl : h.loadN i 0 (len * sz) = some old := readN_load hg (by
        simp only [AObj.readN, dropN_eq, List.drop_zero]
        rw [← g1]
        exact takeN_all old)
      refine fin (.slice h.next 0 (len + n) (.m 0)) g [(h.next, .row (old ++ new) e sz)] ?_ (by rw [e2]; exact Nat.le_succ _) e3 (.row _ (by rw [List.length_append, g1, hnl, Nat.add_mul]))
      simp only [evOnto, hk, Nat.add_zero]
      rw [if_neg (by omega), if_pos ⟨h2, trivial, trivial⟩, hg, hl]
      simp only [if_true, true_and, e1, Option.map_some]
  · intro e; cases e
end
end Go.Proofs.YtkebbdpfjhhdhaaGreat.Ev

/- Calls in regions that draw their order: those that hand back lists, and those that read what the region has made. -/
namespace Go.Proofs.YtkebbdpfjhhdhaaGreat.Ev
variable {P : Program} {B : Base}
section
variable {Q : Post} {h0 : Heap} {W : List Nat} {N : Nat} {D : List Nat} {K : List Fr} {s : Sl} {L : Ob} {T : Tg} {ops : Array Oper} {d : Nat} {op : Op} {ty : TypeId} {pos : String} {af : Array Edge} {gd : Option (Nat × Bool)} {l : List Oper} {o : Oper}
end
end Go.Proofs.YtkebbdpfjhhdhaaGreat.Ev

/- A call that is known otherwise and rewrites a row of elements of some ints each in place, handed a function that captures nothing (slices.SortFunc). -/
namespace Go.Proofs.YtkebbdpfjhhdhaaGreat.Ev
variable {P : Program}
open Go.Sort Go.RowKit

/-- the call of f with a row and the function g0: F says what the row holds behind it, cell by cell -/
def inpzA (f g0 z : Nat) (ok : List Int → Bool) (F : List Int → List Int) : Nat → List AV → Heap → Option (AV × Heap) := fun g args h => bif Nat.beq g f then (match args with
  | [.slice i 0 n (.m 0), .fn (.func g1) [] []] => match h.get i with
    | some (.row l e sz) => match intsTo (n * z) l with
      | some (zs, []) => if n < 500000 ∧ 0 < n ∧ sz = z ∧ g1 = g0 ∧ ok zs = true then (h.set i (.row ((F zs).map (AV.int .i64)) e sz)).map fun g => (.tup [], g) else none
      | _ => none
    | _ => none
  | _ => none) else none
theorem inpzA_eq {f g0 z g : Nat} {ok : List Int → Bool} {F} {args : List AV} {h h' : Heap} {v : AV} (e : inpzA f g0 z ok F g args h = some (v, h')) : ∃ i n t zs, args = [.slice i 0 n (.m 0), .fn (.func g0) [] []] ∧ h.get i = some (.row (zs.map (AV.int .i64)) t z) ∧ zs.length = n * z ∧ g = f ∧ n < 500000 ∧ 0 < n ∧ ok zs = true ∧ h.set i (.row ((F zs).map (AV.int .i64)) t z) = some h' ∧ v = .tup [] := by
  unfold inpzA at e
  cases hg : Nat.beq g f with
  | false => rw [hg] at e; cases e
  | true =>
  rw [hg] at e
  have hg := Nat.eq_of_beq_eq_true hg
  simp only [cond_true] at e
  split at e
  · rename_i i n g1
    split at e
    · rename_i l t sz hl
      split at e
      · rename_i zs hz
        split at e
        · rename_i hc
          obtain ⟨c1, c2, rfl, rfl, c3⟩ := hc
          simp only [Option.map_eq_some_iff] at e
          obtain ⟨q, h1, h2⟩ := e
          cases h2
          obtain ⟨z1, z2⟩ := intsTo_eq hz
          rw [List.append_nil] at z1
          subst z1
          exact ⟨i, n, t, zs, rfl, hl, z2, hg, c1, c2, c3, h1, rfl⟩
        · cases e
      · cases e
    · cases e
  · cases e
def inpzB (f g0 z : Nat) (ok : List Int → Bool) (F : List Int → List Int) : Base := ⟨inpzA f g0 z ok F, fun e => by
  obtain ⟨i, n, t, zs, _, _, _, _, _, _, _, h1, _⟩ := inpzA_eq e
  exact (Abs.set h1).1⟩
theorem inpzB_sound {f g0 z : Nat} {fn : Func} {ok : List Int → Bool} {F : List Int → List Int} (hf : enters P f = some fn) (hF : ∀ zs, (F zs).length = zs.length)
    (hc : ∀ (b o cap n : Nat) (zs : List Int) (Z X : List Value) (t : TypeId) (w : World), w.heap[b]? = some (.cells (Z ++ (zs.map (Value.int .i64) ++ X)).toArray t (0, 0)) → Z.length = o → zs.length = n * z → n < 500000 → ok zs = true → Calls P f #[.slice (some ⟨b, o, none⟩) n cap, .func (.func g0) #[] #[]] w fun e w' => e = .returned (.tuple #[]) ∧ ∃ n os, w' = grow (putRow (Value.int .i64) (Go.Sort.ahead w n) b o (F zs).toArray) os) : SoundC P (inpzB f g0 z ok F) := by
  intro g args h v h' e top E W Args k ht hv
  obtain ⟨i, n, t, zs, rfl, hl, hz, rfl, hn2, hn0, hok, hs, rfl⟩ := inpzA_eq e
  simp only [VRs, VR] at hv
  obtain ⟨_, _, rfl, ⟨b, c, hE, rfl⟩, _, _, rfl, ⟨fn', As, Cs, rfl, rfl, rfl, rfl⟩, rfl⟩ := hv
  refine ⟨fun args w => (enter_run hf args w).1, fun q => ?_⟩
  obtain ⟨b', c', O, e1, e2, Z, L, X, b2, c2, e4, rfl, e5, e6, e7, e8⟩ := k.obj i _ hl
  rw [hE] at e1 e5
  cases e1
  cases e5
  obtain rfl := VRs.ints_eq e4
  have hrow : h.row i = some (zs.map (AV.int .i64) ++ []) := by unfold Heap.row; rw [hl, List.append_nil]
  have hset : h.setRow i ((F zs).map (AV.int .i64) ++ []) = some h' := by unfold Heap.setRow; rw [hl, List.append_nil]; exact hs
  rw [Nat.zero_add]
  refine (callsIn_wide.2 (hc b _ _ n zs _ _ _ W e2 e8 hz hn2 hok)).mono ?_
  rintro e w' ⟨rfl, m, os, rfl⟩
  obtain ⟨k1, k2⟩ := k.ints hrow rfl hset (hF zs) ht hE m os
  exact ⟨_, E, rfl, k2, k1, by simp [VR, VRs]⟩
theorem inpzA_is {f g0 z : Nat} {ok : List Int → Bool} {F} {h : Heap} {i n : Nat} {t : TypeId} {zs : List Int} {g : Heap} (h1 : h.get i = some (.row (zs.map (AV.int .i64)) t z)) (h2 : zs.length = n * z) (h4 : n < 500000) (h5 : 0 < n) (h6 : ok zs = true) (h7 : h.set i (.row ((F zs).map (AV.int .i64)) t z) = some g) : inpzA f g0 z ok F f [.slice i 0 n (.m 0), .fn (.func g0) [] []] h = some (.tup [], g) := by
  have hz := intsTo_mk zs []
  rw [List.append_nil, h2] at hz
  unfold inpzA
  rw [show Nat.beq f f = true from Nat.beq_refl f]
  simp only [cond_true, h1, hz, h7, Option.map_some]
  simp only [h4, h5, h6, if_true, and_self]
/-- such a call, as a contract -/
theorem Con.inpz {B : Base} {f g0 z : Nat} {ok : List Int → Bool} {F : List Int → List Int} {h : Heap} {e : TypeId} {i n : Nat} {zs : List Int} (hB : B.ans f [.slice i 0 n (.m 0), .fn (.func g0) [] []] h = inpzA f g0 z ok F f [.slice i 0 n (.m 0), .fn (.func g0) [] []] h) (k : SS h [i] [(i, .row (zs.map (AV.int .i64)) e z)] h) (h2 : zs.length = n * z) (h4 : n < 500000) (h5 : 0 < n) (h6 : ok zs = true) :
    Con P B f [.slice i 0 n (.m 0), .fn (.func g0) [] []] h [i] (.tup []) [(i, .row ((F zs).map (AV.int .i64)) e z)] := by
  obtain ⟨e1, e2⟩ := (show SS h [i] ([] ++ (i, .row (zs.map (AV.int .i64)) e z) :: []) h from k).store (o' := .row ((F zs).map (AV.int .i64)) e z)
  refine ⟨{ h with t := h.t.set i (.row ((F zs).map (AV.int .i64)) e z) }, ⟨noA, fun a => ⟨1, ?_⟩⟩, e2⟩
  have hg := (k.own (i, .row (zs.map (AV.int .i64)) e z) (by simp)).1
  have hans : B.ans f [.slice i 0 n (.m 0), .fn (.func g0) [] []] h = some (.tup [], { h with t := h.t.set i (.row ((F zs).map (AV.int .i64)) e z) }) := by
    rw [hB]
    exact inpzA_is hg h2 h4 h5 h6 e1
  show orR (asR B) _ _ _ _ = _
  unfold orR
  rw [show asR B (.call f [.slice i 0 n (.m 0), .fn (.func g0) [] []]) a h = some ⟨.normal, .tup [], noA, { h with t := h.t.set i (.row ((F zs).map (AV.int .i64)) e z) }⟩ from by unfold asR; simp only [hans, Option.map_some]]
end Go.Proofs.YtkebbdpfjhhdhaaGreat.Ev

/- A call that is known otherwise: slices.Grow of a list that is nil, by more than nothing. -/
namespace Go.Proofs.YtkebbdpfjhhdhaaGreat.Ev
variable {P : Program}
open Go.Sort Go.RowKit

def growA (f sz : Nat) (e : TypeId) : Nat → List AV → Heap → Option (AV × Heap) := fun g args h => bif Nat.beq g f then (match args with
  | [.slice0, .int .i64 n] => if 0 < n ∧ n ≤ 100000 then some (.slice h.next 0 0 (.m 0), (h.new (.row [] e sz)).2) else none
  | _ => none) else none
theorem growA_eq {f sz g : Nat} {e : TypeId} {args : List AV} {h h' : Heap} {v : AV} (k : growA f sz e g args h = some (v, h')) : ∃ n : Nat, args = [.slice0, .int .i64 n] ∧ 0 < n ∧ n ≤ 100000 ∧ g = f ∧ v = .slice h.next 0 0 (.m 0) ∧ h' = (h.new (.row [] e sz)).2 := by
  unfold growA at k
  cases hg : Nat.beq g f with
  | false => rw [hg] at k; cases k
  | true =>
  rw [hg] at k
  have hg := Nat.eq_of_beq_eq_true hg
  simp only [cond_true] at k
  split at k
  · rename_i n
    split at k
    · rename_i hc
      cases k
      exact ⟨n.toNat, by rw [Int.toNat_of_nonneg (by omega)], by omega, by omega, hg, rfl, rfl⟩
    · cases k
  · cases k
def growB (f sz : Nat) (e : TypeId) : Base := ⟨growA f sz e, fun k => by
  obtain ⟨n, _, _, _, _, _, rfl⟩ := growA_eq k
  exact Abs.new _ _⟩
theorem growB_sound {f sz : Nat} {e : TypeId} {fn : Func} (hf : enters P f = some fn) (hsz : 0 < sz)
    (hc : ∀ (n : Nat) (w : World), 0 < n → n ≤ 100000 → Calls P f #[.slice none 0 0, .int .i64 n] w fun ex w' => ∃ X c, ex = .returned (.slice (some ⟨w.heap.size, 0, none⟩) 0 c) ∧ w' = w.drew.alloc (.cells (X : List Value).toArray e (0, 0)) ∧ X.length = c * sz) : SoundC P (growB f sz e) := by
  intro g args h v h' ev top E W Args k ht hv
  obtain ⟨n, rfl, h0, h1, rfl, rfl, rfl⟩ := growA_eq ev
  simp only [VRs, VR] at hv
  obtain ⟨_, _, rfl, rfl, _, _, rfl, rfl, rfl⟩ := hv
  refine ⟨fun args w => (enter_run hf args w).1, fun q => ?_⟩
  refine (callsIn_wide.2 (hc n W h0 h1)).mono ?_
  rintro ex w' ⟨X, c, rfl, rfl, hX⟩
  have hk : HR top E h W.drew := k.of_heap rfl
  obtain ⟨g1, g2, g3⟩ := hk.new ht (.row [] e sz) (.cells X.toArray e (0, 0)) (c, 0) ⟨[], [], X, W.heap.size, (c, 0), VRs.nil, rfl, if_pos rfl, hX, hsz, rfl⟩
  exact ⟨_, _, rfl, g2.of_drew, g1, by simp only [VR]; exact ⟨W.heap.size, (c, 0), g3, rfl⟩⟩
/-- such a call, as a contract -/
theorem Con.grow {B : Base} {f sz : Nat} {e : TypeId} {h : Heap} {n : Nat} (g : Gd h) (hB : B.ans f [.slice0, .int .i64 n] h = growA f sz e f [.slice0, .int .i64 n] h) (h0 : 0 < n) (h1 : n ≤ 100000) :
    Con P B f [.slice0, .int .i64 n] h [] (.slice h.next 0 0 (.m 0)) [(h.next, .row [] e sz)] := by
  refine ⟨(h.new (.row [] e sz)).2, ⟨noA, fun a => ⟨1, ?_⟩⟩, (SS.init g).new _⟩
  have hans : B.ans f [.slice0, .int .i64 n] h = some (.slice h.next 0 0 (.m 0), (h.new (.row [] e sz)).2) := by
    rw [hB]
    unfold growA
    rw [show Nat.beq f f = true from Nat.beq_refl f]
    simp only [cond_true]
    rw [if_pos (by omega)]
  show orR (asR B) _ _ _ _ = _
  unfold orR
  rw [show asR B (.call f [.slice0, .int .i64 n]) a h = some ⟨.normal, .slice h.next 0 0 (.m 0), noA, (h.new (.row [] e sz)).2⟩ from by unfold asR; simp only [hans, Option.map_some]]
/-- sorting nothing: a call with a list that is nil, and perhaps a function that captures nothing -/
def nilA (f : Nat) (r : Option Nat) : Nat → List AV → Heap → Option (AV × Heap) := fun g args h => bif Nat.beq g f then (match args, r with
  | [.slice0], none => some (.tup [], h)
  | [.slice0, .fn (.func g1) [] []], some g0 => if g1 = g0 then some (.tup [], h) else none
  | _, _ => none) else none
def nilArgs : Option Nat → List AV
  | none => [.slice0]
  | some g0 => [.slice0, .fn (.func g0) [] []]
def nilVals : Option Nat → List Value
  | none => [.slice none 0 0]
  | some g0 => [.slice none 0 0, .func (.func g0) #[] #[]]
theorem nilA_eq {f g : Nat} {r : Option Nat} {args : List AV} {h h' : Heap} {v : AV} (k : nilA f r g args h = some (v, h')) : g = f ∧ args = nilArgs r ∧ v = .tup [] ∧ h' = h := by
  unfold nilA at k
  cases hg : Nat.beq g f with
  | false => rw [hg] at k; cases k
  | true =>
  rw [hg] at k
  have hg := Nat.eq_of_beq_eq_true hg
  simp only [cond_true] at k
  split at k
  · cases k; exact ⟨hg, rfl, rfl, rfl⟩
  · split at k
    · rename_i hc; cases k; subst hc; exact ⟨hg, rfl, rfl, rfl⟩
    · cases k
  · cases k
def nilB (f : Nat) (r : Option Nat) : Base := ⟨nilA f r, fun k => by obtain ⟨_, _, _, rfl⟩ := nilA_eq k; exact Abs.refl _⟩
theorem Con.nil {B : Base} {f : Nat} {r : Option Nat} {h : Heap} (g : Gd h) (hB : B.ans f (nilArgs r) h = nilA f r f (nilArgs r) h) : Con P B f (nilArgs r) h [] (.tup []) [] := by
  refine ⟨h, ⟨noA, fun a => ⟨1, ?_⟩⟩, SS.init g⟩
  have hans : B.ans f (nilArgs r) h = some (.tup [], h) := by
    rw [hB]
    unfold nilA
    rw [show Nat.beq f f = true from Nat.beq_refl f]
    cases r <;> simp [nilArgs]
  show orR (asR B) _ _ _ _ = _
  unfold orR
  rw [show asR B (.call f (nilArgs r)) a h = some ⟨.normal, .tup [], noA, h⟩ from by unfold asR; simp only [hans, Option.map_some]]
end Go.Proofs.YtkebbdpfjhhdhaaGreat.Ev
