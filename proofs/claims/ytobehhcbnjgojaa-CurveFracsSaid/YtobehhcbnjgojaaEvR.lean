/- The calculator's memory and the model's. -/
import Derived.Test.YtobehhcbnjgojaaEvC
import Derived.LoopNIn
import Derived.OrdersIn
import Derived.Below
namespace Go.Proofs.Ytobehhcbnjgojaa.Ev

def TR (E : Env) (t : T AV) (size : Nat) (A : Array Value) : Prop := A.size = size ∧ ∀ i, VR E ((t.get i).getD aundef) (A.getD i undef)
theorem VR.undef {E : Env} : VR E aundef undef := by unfold aundef; simp only [VR]; exact ⟨[], rfl, VRs.nil⟩
theorem TR.mono {E E' : Env} (h : E.le E') {t size A} (k : TR E t size A) : TR E' t size A := ⟨k.1, fun i => (k.2 i).mono h⟩
theorem TR.set {E : Env} {t size A} (k : TR E t size A) {d : Nat} (hd : d < size) {v V} (hv : VR E v V) : TR E (t.set d v) size (A.setIfInBounds d V) := by
  refine ⟨by simp [k.1], fun i => ?_⟩
  rw [T.get_set]
  by_cases e : i = d
  · subst e
    have : i < A.size := by rw [k.1]; exact hd
    simpa [Array.getD, this] using hv
  · rw [if_neg e]
    have := k.2 i
    simpa [Array.getElem?_setIfInBounds_ne (Ne.symm e)] using this

structure LR (E : Env) (r : ALoop) (R : Loop) : Prop where
  state : R.state = r.state
  pending : R.pending = r.pending
  tm : TR E r.tmps r.size R.tmps
  params : R.params = r.params
  assign : R.assign = r.assign
  body : R.body = r.body
  defers : ∃ c, E r.defers = some (R.defers, c)
theorem LR.mono {E E' : Env} (h : E.le E') {r R} (k : LR E r R) : LR E' r R :=
  ⟨k.state, k.pending, k.tm.mono h, k.params, k.assign, k.body, k.defers.elim fun c hc => ⟨c, h _ _ hc⟩⟩

structure ER (E : Env) (e : AV × AV × Nat) (F : MapEntry) : Prop where
  key : VR E e.1 F.key
  val : VR E e.2.1 F.val
  born : F.born = e.2.2
def ERs (E : Env) : List (AV × AV × Nat) → List MapEntry → Prop
  | [], L => L = []
  | e :: l, L => ∃ F L', L = F :: L' ∧ ER E e F ∧ ERs E l L'
theorem ERs.mono {E E' : Env} (h : E.le E') : ∀ {l L}, ERs E l L → ERs E' l L
  | [], _, k => k
  | _ :: _, _, ⟨F, L, e, k, k'⟩ => ⟨F, L, e, ⟨k.key.mono h, k.val.mono h, k.born⟩, ERs.mono h k'⟩

def OR (E : Env) (i : Nat) : AObj → Obj → Prop
  | .cells l t, O => ∃ L, VRs E l L ∧ O = .cells L.toArray t (0, 0)
  | .row l t sz, O => ∃ L X b c, VRs E l L ∧ O = .cells (L ++ X).toArray t (0, 0) ∧ E i = some (b, c) ∧ (L ++ X).length = c * sz ∧ 0 < sz
  | .map es ck, O => ∃ Es, ERs E es Es ∧ O = .map Es.toArray ck
  | .loop r, O => ∃ R, LR E r R ∧ O = .loop R
  | .deferred b, O => O = .deferred (if b then some [] else none)
theorem OR.mono {E E' : Env} (h : E.le E') {i} : ∀ {o O}, OR E i o O → OR E' i o O
  | .cells _ _, _, ⟨L, k, e⟩ => ⟨L, k.mono h, e⟩
  | .row _ _ _, _, ⟨L, X, b, c, k, e, k2, k3⟩ => ⟨L, X, b, c, k.mono h, e, h _ _ k2, k3⟩
  | .map _ _, _, ⟨L, k, e⟩ => ⟨L, k.mono h, e⟩
  | .loop _, _, ⟨L, k, e⟩ => ⟨L, k.mono h, e⟩
  | .deferred _, _, e => e

/-- memory: what is seen is there; the numbers from 'next' up to 'top' are free -/
structure HR (top : Nat) (E : Env) (h : Heap) (W : World) : Prop where
  obj : ∀ i o, h.get i = some o → ∃ b c O, E i = some (b, c) ∧ W.heap[b]? = some O ∧ OR E i o O
  inj : ∀ i k b c d, (h.get i).isSome → (h.get k).isSome → E i = some (b, c) → E k = some (b, d) → i = k
  lt : ∀ i, h.next ≤ i → i < top → E i = none
  hid : ∀ r ∈ h.hid, r.2 ≤ h.next
  clean : ∀ i, h.next ≤ i → h.t.get i = none

structure Ext (E E' : Env) (h h' : Heap) (W W' : World) : Prop where
  le : E.le E'
  nx : h.next ≤ h'.next
  hid : h'.hid = h.hid
  lo : h'.lo = h.lo
  keepA : ∀ i, i < h.next → i < h.lo ∨ h.hidden i = true → h'.t.get i = h.t.get i
  dead : ∀ i, i < h.next → (h'.get i).isSome → (h.get i).isSome
  fresh : ∀ i b c, E i = none → E' i = some (b, c) → h.next ≤ i ∧ i < h'.next ∧ (W.heap.size ≤ b ∨ ∃ k d, h.lo ≤ k ∧ (h.get k).isSome ∧ E k = some (b, d))
  size : W.heap.size ≤ W'.heap.size
  keepC : ∀ b, b < W.heap.size → (∀ k d, h.lo ≤ k → (h.get k).isSome → E k ≠ some (b, d)) → W'.heap[b]? = W.heap[b]?
  os : W'.os = W.os
  tape : W'.tape = W.tape
  output : W'.output = W.output

theorem Ext.refl (E : Env) (h : Heap) (W : World) : Ext E E h h W W :=
  ⟨E.le_refl, Nat.le_refl _, rfl, rfl, fun _ _ _ => rfl, fun _ _ k => k, fun i b c h1 h2 => (by rw [h1] at h2; cases h2), Nat.le_refl _, fun _ _ _ => rfl, rfl, rfl, rfl⟩
theorem Heap.hidden_eq {h h' : Heap} (e : h'.hid = h.hid) (i : Nat) : h'.hidden i = h.hidden i := by unfold Heap.hidden; rw [e]
theorem Heap.get_some {h : Heap} {i : Nat} (k : (h.get i).isSome) : h.hidden i = false ∧ h.get i = h.t.get i := by
  unfold Heap.get at k ⊢
  cases hh : h.hidden i
  · simp
  · rw [hh] at k; simp at k
theorem Heap.get_lt {top E h W} (k : HR top E h W) {i : Nat} (hs : (h.get i).isSome) : i < h.next := by
  rcases Nat.lt_or_ge i h.next with g | g
  · exact g
  · rw [(Heap.get_some hs).2, k.clean i g] at hs; cases hs
/-- what is seen and known behind a step was so before, or the step made it -/
theorem Ext.back {E E' : Env} {h h' : Heap} {W W' : World} {top : Nat} (hr : HR top E h W) (hr' : HR top E' h' W') (ht : h'.next ≤ top) (k : Ext E E' h h' W W') {q b d : Nat} (hq : (h'.get q).isSome) (hE : E q = some (b, d)) : (h.get q).isSome := by
  have g := Heap.get_lt hr' hq
  rcases Nat.lt_or_ge q h.next with g2 | g2
  · exact k.dead q g2 hq
  · rw [hr.lt q g2 (Nat.lt_of_lt_of_le g ht)] at hE; cases hE
theorem Ext.trans {E E' E'' : Env} {h h' h'' : Heap} {W W' W'' : World} {top : Nat} (hr : HR top E h W) (hr' : HR top E' h' W') (ht : h'.next ≤ top) (k : Ext E E' h h' W W') (k' : Ext E' E'' h' h'' W' W'') : Ext E E'' h h'' W W'' := by
  refine ⟨E.le_trans k.le k'.le, Nat.le_trans k.nx k'.nx, k'.hid.trans k.hid, k'.lo.trans k.lo, fun i hi hx => ?_, fun i hi hs => k.dead i hi (k'.dead i (Nat.lt_of_lt_of_le hi k.nx) hs), fun i b c h1 h2 => ?_, Nat.le_trans k.size k'.size, fun b hb hk => ?_, k'.os.trans k.os, k'.tape.trans k.tape, k'.output.trans k.output⟩
  · rw [k'.keepA i (Nat.lt_of_lt_of_le hi k.nx) (by rw [k.lo, Heap.hidden_eq k.hid]; exact hx), k.keepA i hi hx]
  · cases h3 : E' i with
    | some x =>
      have := k'.le i x h3
      rw [this] at h2
      cases h2
      obtain ⟨g1, g2, g3⟩ := k.fresh i b c h1 h3
      exact ⟨g1, Nat.lt_of_lt_of_le g2 k'.nx, g3⟩
    | none =>
      obtain ⟨g1, g2, g3⟩ := k'.fresh i b c h3 h2
      refine ⟨Nat.le_trans k.nx g1, g2, ?_⟩
      rcases g3 with g3 | ⟨q, d, q1, q2, q3⟩
      · exact .inl (Nat.le_trans k.size g3)
      · cases h4 : E q with
        | some x =>
          have h5 := k.le q x h4
          rw [h5] at q3
          cases q3
          exact .inr ⟨q, d, by rw [k.lo] at q1; exact q1, k.back hr hr' ht q2 h4, h4⟩
        | none => exact (k.fresh q b d h4 q3).2.2
  · have h1 := k.keepC b hb hk
    refine (k'.keepC b (Nat.lt_of_lt_of_le hb k.size) fun q d q1 q2 q3 => ?_).trans h1
    cases h4 : E q with
    | some x =>
      have h5 := k.le q x h4
      rw [h5] at q3
      cases q3
      exact hk q d (by rw [k.lo] at q1; exact q1) (k.back hr hr' ht q2 h4) h4
    | none =>
      rcases (k.fresh q b d h4 q3).2.2 with g | ⟨q', d', g1, g2, g3⟩
      · omega
      · exact hk q' d' g1 g2 g3

/-! the two ways in which memory changes -/
theorem HR.block_lt {top E h W} (k : HR top E h W) {i o b c} (hs : h.get i = some o) (hE : E i = some (b, c)) : b < W.heap.size := by
  obtain ⟨b', c', O, e1, e2, _⟩ := k.obj i o hs
  rw [hE] at e1
  cases e1
  exact (Array.getElem?_eq_some_iff.1 e2).1
def Env.put (E : Env) (i : Nat) (x : Nat × Nat) : Env := fun k => if k = i then some x else E k
theorem Env.put_le {E : Env} {i x} (h : E i = none) : E.le (E.put i x) := fun k y hy => by
  unfold Env.put
  rw [if_neg (fun e => by rw [e, h] at hy; cases hy)]
  exact hy
theorem HR.newHid {h : Heap} {top E W} (k : HR top E h W) : h.hidden h.next = false := by
  unfold Heap.hidden
  rw [List.any_eq_false]
  intro r hr
  have := k.hid r hr
  simp only [Bool.and_eq_true, not_and, Bool.not_eq_true]
  intro _
  cases hb : Nat.blt h.next r.2
  · rfl
  · have : h.next < r.2 := by simpa [Nat.blt_eq] using hb
    omega
theorem Heap.get_new (h : Heap) (o : AObj) (hn : h.hidden h.next = false) (i : Nat) : (h.new o).2.get i = if i = h.next then some o else h.get i := by
  unfold Heap.get
  have e : (h.new o).2.hidden i = h.hidden i := rfl
  rw [e]
  show (if h.hidden i = true then none else (h.t.set h.next o).get i) = _
  rw [T.get_set]
  by_cases hi : i = h.next
  · subst hi; rw [hn]; simp
  · simp [hi]

/-- a new block -/
theorem HR.new {top : Nat} {E : Env} {h : Heap} {W : World} (k : HR top E h W) (ht : h.next + 1 ≤ top) (o : AObj) (O : Obj) (c : Nat) (ho : OR (E.put h.next (W.heap.size, c)) h.next o O) :
    HR top (E.put h.next (W.heap.size, c)) (h.new o).2 (W.alloc O) ∧ Ext E (E.put h.next (W.heap.size, c)) h (h.new o).2 W (W.alloc O) ∧ (E.put h.next (W.heap.size, c)) h.next = some (W.heap.size, c) := by
  have hE : E h.next = none := k.lt _ (Nat.le_refl _) (by omega)
  have hle := Env.put_le (x := (W.heap.size, c)) hE
  have hn := k.newHid
  have hg := h.get_new o hn
  have hold : ∀ i, (h.get i).isSome → i ≠ h.next := fun i hi e => by have := Heap.get_lt k hi; omega
  have hput : ∀ i, i ≠ h.next → (E.put h.next (W.heap.size, c)) i = E i := fun i hi => if_neg hi
  have hself : (E.put h.next (W.heap.size, c)) h.next = some (W.heap.size, c) := if_pos rfl
  have hsz : ∀ i b d, (h.get i).isSome → E i = some (b, d) → b < W.heap.size := fun i b d hi he => by
    obtain ⟨oo, hoo⟩ := Option.isSome_iff_exists.1 hi
    exact k.block_lt hoo he
  refine ⟨⟨fun i o' hi => ?_, fun i q b d d' hi hq ei eq => ?_, fun i h1 h2 => ?_, fun r hr => ?_, fun i hi => ?_⟩, ⟨hle, Nat.le_succ _, rfl, rfl, fun i hi _ => ?_, fun i hi hs => ?_, fun i b d h1 h2 => ?_, by simp, fun b hb _ => ?_, rfl, rfl, rfl⟩, hself⟩
  · rw [hg] at hi
    by_cases e : i = h.next
    · subst e
      simp at hi
      subst hi
      exact ⟨W.heap.size, c, O, hself, World.alloc_heap_new W O, ho⟩
    · rw [if_neg e] at hi
      obtain ⟨b, d, O', e1, e2, e3⟩ := k.obj i o' hi
      exact ⟨b, d, O', hle _ _ e1, (RowKit.Below.heap_alloc W O b (Array.getElem?_eq_some_iff.1 e2).1).trans e2, e3.mono hle⟩
  · rw [hg] at hi hq
    by_cases e : i = h.next <;> by_cases e' : q = h.next
    · omega
    · subst e
      rw [if_neg e'] at hq
      rw [hself] at ei
      rw [hput q e'] at eq
      cases ei
      have := hsz q _ _ hq eq
      omega
    · subst e'
      rw [if_neg e] at hi
      rw [hself] at eq
      rw [hput i e] at ei
      cases eq
      have := hsz i _ _ hi ei
      omega
    · rw [if_neg e] at hi
      rw [if_neg e'] at hq
      rw [hput i e] at ei
      rw [hput q e'] at eq
      exact k.inj i q b d d' hi hq ei eq
  · have h1' : h.next + 1 ≤ i := h1
    rw [hput i (by omega)]
    exact k.lt i (by omega) h2
  · exact Nat.le_succ_of_le (k.hid r hr)
  · have hi' : h.next + 1 ≤ i := hi
    show (h.t.set h.next o).get i = none
    rw [T.get_set, if_neg (by omega)]
    exact k.clean i (by omega)
  · show (h.t.set h.next o).get i = _
    rw [T.get_set, if_neg (by omega)]
  · rw [hg, if_neg (by omega)] at hs
    exact hs
  · by_cases e : i = h.next
    · subst e
      rw [hself] at h2
      cases h2
      exact ⟨Nat.le_refl _, Nat.lt_succ_self _, .inl (Nat.le_refl _)⟩
    · rw [hput i e, h1] at h2; cases h2
  · exact RowKit.Below.heap_alloc W O b hb

theorem Heap.set_eq {h g : Heap} {i : Nat} {o : AObj} (e : h.set i o = some g) : h.lo ≤ i ∧ (h.get i).isSome ∧ g = { h with t := h.t.set i o } := by
  unfold Heap.set at e
  split at e
  · rename_i hl
    split at e
    · rename_i hs
      cases e
      exact ⟨by simpa using hl, by rw [hs]; rfl, rfl⟩
    · cases e
  · cases e
theorem Heap.get_set {h : Heap} {i : Nat} {o : AObj} (hs : (h.get i).isSome) (q : Nat) : ({ h with t := h.t.set i o } : Heap).get q = if q = i then some o else h.get q := by
  have hh := (Heap.get_some hs).1
  unfold Heap.get
  have e : ({ h with t := h.t.set i o } : Heap).hidden q = h.hidden q := rfl
  rw [e]
  show (if h.hidden q = true then none else (h.t.set i o).get q) = _
  rw [T.get_set]
  by_cases hq : q = i
  · subst hq; rw [hh]; simp
  · simp [hq]

/-- a block that is written over -/
theorem HR.set {top : Nat} {E : Env} {h g : Heap} {W : World} (k : HR top E h W) {i : Nat} {o : AObj} (e : h.set i o = some g) {b c : Nat} (hE : E i = some (b, c)) (W' : World) (O : Obj)
    (hO : W'.heap[b]? = some O) (ho : OR E i o O) (hW : ∀ q, q ≠ b → W'.heap[q]? = W.heap[q]?) (hz : W'.heap.size = W.heap.size) (h1 : W'.os = W.os) (h2 : W'.tape = W.tape) (h3 : W'.output = W.output) :
    HR top E g W' ∧ Ext E E h g W W' := by
  obtain ⟨hl, hs, rfl⟩ := Heap.set_eq e
  have hg := Heap.get_set (o := o) hs
  have hi := Heap.get_lt k hs
  have hsome : ∀ q, (({ h with t := h.t.set i o } : Heap).get q).isSome → (h.get q).isSome := fun q hq => by
    rw [hg] at hq
    by_cases e : q = i
    · subst e; exact hs
    · rwa [if_neg e] at hq
  refine ⟨⟨fun q o' hq => ?_, fun q r b' d d' hq hr eq er => k.inj q r b' d d' (hsome q hq) (hsome r hr) eq er, k.lt, k.hid, fun q hq => ?_⟩, ⟨E.le_refl, Nat.le_refl _, rfl, rfl, fun q hq hx => ?_, fun q _ hq => hsome q hq, fun q b' d e1 e2 => (by rw [e1] at e2; cases e2), by omega, fun q hq hk => ?_, h1, h2, h3⟩⟩
  · rw [hg] at hq
    by_cases eq : q = i
    · subst eq
      simp at hq
      subst hq
      exact ⟨b, c, O, hE, hO, ho⟩
    · rw [if_neg eq] at hq
      obtain ⟨b', d, O', e1, e2, e3⟩ := k.obj q o' hq
      refine ⟨b', d, O', e1, ?_, e3⟩
      rw [hW b' (fun hb => by subst hb; exact eq (k.inj q i _ _ _ (by rw [hq]; rfl) hs e1 hE))]
      exact e2
  · show (h.t.set i o).get q = none
    rw [T.get_set, if_neg (by have : h.next ≤ q := hq; omega)]
    exact k.clean q hq
  · show (h.t.set i o).get q = _
    rw [T.get_set, if_neg]
    rintro rfl
    rcases hx with hx | hx
    · omega
    · rw [(Heap.get_some hs).1] at hx; cases hx
  · exact hW q (fun hb => by subst hb; exact hk i c hl hs hE)
end Go.Proofs.Ytobehhcbnjgojaa.Ev
