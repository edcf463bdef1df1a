/- The contract of find: the first piece that is wanted. -/
import Derived.Test.YtcmjmdjhpmlomaaPieces
namespace Go.Proofs.Ytcmjmdjhpmlomaa
open Go.RowKit Go.Shelf
attribute [local go_sem] Oper.semAt_some

def pcVal (ks : List (Int × Int)) (i : Nat) : Value := .agg #[.int .i64 (kx ks i), .int .i64 (ky ks i), .int .i64 (kx ks (i + 1)), .int .i64 (ky ks (i + 1))]
/-- the first piece with p -/
def firstPc (ks : List (Int × Int)) (p : Nat → Bool) : Option Nat := (List.range (pcN ks)).find? p

def findVal (ks : List (Int × Int)) : Option Nat → Value
  | some i => .tuple #[pcVal ks i, .bool true]
  | none => .tuple #[.agg #[.int .i64 0, .int .i64 0, .int .i64 0, .int .i64 0], .bool false]

theorem uptoPc_map (ks : List (Int × Int)) : ∀ {k : Nat}, k ≤ pcN ks → (uptoPc ks k).map (·.1) = List.range k
  | 0, _ => by simp [uptoPc]
  | k + 1, h => by
    have h' : k + 1 < ks.length := by unfold pcN at h; omega
    rw [uptoPc_succ ks h', List.map_append, uptoPc_map ks (by omega), List.range_succ]; rfl

/-- none of those that came is wanted -/
def NoneOf {ks : List (Int × Int)} (p : Nat → Bool) (pre : List (Pc ks)) : Prop := ∀ x ∈ pre, p x.1 = false
theorem firstPc_none {ks : List (Int × Int)} {p : Nat → Bool} (h : NoneOf p (uptoPc ks (pcN ks))) : firstPc ks p = none := by
  unfold firstPc
  rw [List.find?_eq_none, ← uptoPc_map ks (Nat.le_refl _)]
  intro i hi
  obtain ⟨x, hx, rfl⟩ := List.mem_map.1 hi
  simp [h x hx]
theorem firstPc_some {ks : List (Int × Int)} {p : Nat → Bool} {k : Nat} {pre : List (Pc ks)} {x : Pc ks} (hk : k ≤ pcN ks) (he : pre ++ [x] = uptoPc ks k) (h : NoneOf p pre) (hx : p x.1 = true) : firstPc ks p = some x.1 := by
  have h1 := uptoPc_map ks hk
  rw [← he, List.map_append] at h1
  have h2 : List.range (pcN ks) = List.range k ++ (List.range (pcN ks)).drop k := by
    have h3 := List.take_append_drop k (List.range (pcN ks))
    rw [List.take_range, Nat.min_eq_left hk] at h3
    exact h3.symm
  unfold firstPc
  rw [h2, ← h1, List.find?_append, List.find?_append]
  have h3 : (pre.map (·.1)).find? p = none := by
    rw [List.find?_eq_none]
    intro i hi
    obtain ⟨y, hy, rfl⟩ := List.mem_map.1 hi
    simp [h y hy]
  rw [h3]
  simp [hx]

/-- block g is just these cells -/
def Blk (w : World) (g : Nat) (t : TypeId) (cs : Array Value) : Prop := w.heap[g]? = some (.cells cs t (0, 0))
theorem Blk.new (w : World) (t : TypeId) (cs : Array Value) : Blk (w.alloc (.cells cs t)) w.heap.size t cs := World.alloc_heap_new w _
theorem Blk.below {w w' : World} {g : Nat} {t : TypeId} {cs : Array Value} {B : Nat} (h : Blk w g t cs) (hb : Below B w w') (hg : g < B) : Blk w' g t cs := (hb.block g hg).trans h
theorem Blk.cell {w : World} {g : Nat} {t : TypeId} {cs : Array Value} (h : Blk w g t cs) (i : Nat) : w.cell? ⟨g, i, none⟩ = cs[i]? := by
  unfold Blk at h
  simp [World.cell?, h]
theorem Blk.frozen {w : World} {g : Nat} {t : TypeId} {cs : Array Value} (h : Blk w g t cs) (i : Nat) : w.frozen? ⟨g, i, none⟩ = false := by
  unfold Blk at h
  simp [World.frozen?, h]
theorem Blk.lt {w : World} {g : Nat} {t : TypeId} {cs : Array Value} (h : Blk w g t cs) : g < w.heap.size := (Array.getElem?_eq_some_iff.1 h).1
theorem Blk.set_ {w : World} {g : Nat} {t : TypeId} {cs : Array Value} (h : Blk w g t cs) (i : Nat) (u : Value) : Blk (w.setCell ⟨g, i, none⟩ u) g t (cs.setIfInBounds i u) := by
  unfold Blk at h ⊢
  simp [World.setCell, Array.getElem?_modify, h]
theorem Blk.far {w : World} {g : Nat} {t : TypeId} {cs : Array Value} (h : Blk w g t cs) {p : Addr} (hp : g ≠ p.block) (u : Value) : Blk (w.setCell p u) g t cs := (Below.heap_setCell w p u g hp).trans h
theorem Blk.alloc {w : World} {g : Nat} {t : TypeId} {cs : Array Value} (h : Blk w g t cs) (o : Obj) : Blk (w.alloc o) g t cs := (Below.heap_alloc w o g h.lt).trans h
theorem Blk.kept {w w' : World} {g : Nat} {t : TypeId} {cs : Array Value} {row : Option Nat} (h : Blk w g t cs) (hg : w.grownBy w' row) (hne : some g ≠ row) : Blk w' g t cs := (hg.block g h.lt hne).trans h
/-- what is turned is no cells -/
theorem Blk.own {w w' : World} {g : Nat} {t : TypeId} {cs : Array Value} {row : Option Nat} (h : Blk w g t cs) (hg : w.grownBy w' row) (hr : ∀ r, row = some r → ∃ o : Obj, w.heap[r]? = some o ∧ o.isCells = false) : Blk w' g t cs :=
  h.kept hg (fun e => by
    obtain ⟨o, ho, hc⟩ := hr g e.symm
    rw [show w.heap[g]? = _ from h] at ho
    cases ho
    cases hc)
theorem keepsOthers_of_below {W W' : World} (h : Below W.heap.size W W') : KeepsOthers W W' :=
  ⟨h.size, fun k o hk _ => (h.block k (Array.getElem?_eq_some_iff.1 hk).1).trans hk⟩

/-- what is found -/
def Found {ks : List (Int × Int)} (p : Nat → Bool) (B : Nat) (w : World) (pre : List (Pc ks)) (W : World) : Prop :=
  (∃ pre' x, pre = pre' ++ [x] ∧ NoneOf p pre' ∧ p x.1 = true ∧ Blk W (B + 1 + 1) 109 #[.int .i64 (kx ks x.1), .int .i64 (ky ks x.1), .int .i64 (kx ks (x.1 + 1)), .int .i64 (ky ks (x.1 + 1))] ∧ Blk W (B + 1 + 1 + 1) 4 #[.bool true]) ∧ Below B w W

theorem find_end {w Wf : World} {D : Nat} {ks : List (Int × Int)} {p : Nat → Bool} {v0 v1 v2 v3 : Value} {bb : Bool} (hf : findVal ks (firstPc ks p) = .tuple #[.agg #[v0, v1, v2, v3], .bool bb]) (hKd : Wf.heap[D]? = some (.deferred (some [])))
    (b2 : Blk Wf (w.heap.size + 1 + 1) 109 #[v0, v1, v2, v3]) (b3 : Blk Wf (w.heap.size + 1 + 1 + 1) 4 #[.bool bb]) (hb : Below w.heap.size w Wf) (hD : w.heap.size + 5 ≤ D) (tmps : Array Value)
    (h4 : tmps.getD 4 undef = .pointer (some ⟨w.heap.size + 1 + 1, 0, none⟩)) (h5 : tmps.getD 5 undef = .pointer (some ⟨w.heap.size + 1 + 1 + 1, 0, none⟩)) {ds : List Deferred} (hds : ds = [{ target := Target.collected D, args := #[] }]) :
    bodyPostM Fence.wide 5 Try.prog Try.f114 (fun e w' => e = Ending.returned (findVal ks (firstPc ks p)) ∧ Below w.heap.size w w') Exit.ret { tmps := tmps, defers := ds } Wf := by
  subst hds
  have c2 := b2.kept (grownBy_putObj' Wf D (.deferred none)) (by simp; omega)
  have c3 := b3.kept (grownBy_putObj' Wf D (.deferred none)) (by simp; omega)
  have g0 := c2.cell 0
  have g1 := c2.cell 1
  have g2 := c2.cell 2
  have g3 := c2.cell 3
  have g4 := c3.cell 0
  simp at g0 g1 g2 g3 g4
  rw [Array.getD_eq_getD_getElem?] at h4 h5
  refine ⟨by simp, .inl ⟨_, _, rfl, run_takeDeferred hKd, ?_⟩⟩
  refine ⟨_, ?_, by rw [hf], hb.grown (grownBy_putObj' Wf D (.deferred none)) hb.size (fun k e => by cases e; omega)⟩
  simp [results, Try.results114, go_sem, h4, h5, g0, g1, g2, g3, g4]

set_option maxRecDepth 100000 in
set_option maxHeartbeats 2000000 in
theorem find_in (w : World) (A : Option Addr) (c : Nat) (ks : List (Int × Int)) (err : Int) (hlen : ks.length ≤ 1000000000000) (hne : ks ≠ []) (hk : KnAt w A ks) (g : Nat) (cap : Array Value) (p : Nat → Bool)
    (eg : ∀ args w, (callFunc g args).run Try.prog w = .ok (.enter g args) w)
    (hw : ∀ (W : World) (i : Nat), i + 1 < ks.length → Below w.heap.size w W → Calls Try.prog g (#[pcVal ks i] ++ cap) W fun e W' => e = .returned (.bool (p i)) ∧ Below W.heap.size W W') :
    CallsIn Fence.wide 5 Try.prog 114 #[.agg #[.slice A ks.length c, .int .i64 err], .func (.func g) #[] cap] w fun e w' => e = .returned (findVal ks (firstPc ks p)) ∧ Below w.heap.size w w' := by
  refine callsIn_of_wp_marks Try.func114 rfl trivial ?_ rfl
  simp only [Try.ntmps114, List.size_toArray, List.length_cons, List.length_nil, Nat.reduceAdd, Nat.reduceSub, Array.replicate_succ, Array.replicate_zero, List.push_toArray, List.append_toArray, List.nil_append, List.cons_append]
  gi_wp2_with (refine ⟨trivial, ?_⟩; gi_at_call 79; refine (pieces_in Fence.wide _ (fun _ => trivial) rfl _ _ _ _ _).mono ?_; rintro e w' ⟨rfl, rfl⟩)
  obtain ⟨W0, hW0⟩ : ∃ W0, W0 = ((((w.alloc (.cells #[.slice A ks.length c, .int .i64 err] 33)).alloc (.cells #[.func (.func g) #[] cap] 145)).alloc (.cells #[.int .i64 0, .int .i64 0, .int .i64 0, .int .i64 0] 109)).alloc (.cells #[.bool false] 4)).alloc (.cells #[.slice A ks.length c, .int .i64 err] 33) := ⟨_, rfl⟩
  have hsz : W0.heap.size = w.heap.size + 5 := by rw [hW0]; simp
  have hB0 : Below w.heap.size w W0 := by rw [hW0]; (repeat' (first | with_reducible exact Below.refl _ _ | with_reducible assumption | (with_reducible refine Below.setCell ?_ (by first | omega | (simp; done) | (simp; omega)) _) | (with_reducible refine Below.alloc ?_ (by first | omega | (simp; done) | (simp; omega)) _) | (with_reducible refine Below.drew ?_) | (with_reducible refine Below.trans ?_ (Below.mono (by with_reducible assumption) (by first | omega | (simp; done) | (simp; omega))))))
  have b1 : Blk W0 (w.heap.size + 1) 145 #[.func (.func g) #[] cap] := by rw [hW0]; have := Blk.new (w.alloc (.cells #[.slice A ks.length c, .int .i64 err] 33)) 145 #[.func (.func g) #[] cap]; rw [World.size_alloc] at this; exact (((this.alloc _).alloc _).alloc _)
  have b2 : Blk W0 (w.heap.size + 1 + 1) 109 #[.int .i64 0, .int .i64 0, .int .i64 0, .int .i64 0] := by rw [hW0]; have := Blk.new ((w.alloc (.cells #[.slice A ks.length c, .int .i64 err] 33)).alloc (.cells #[.func (.func g) #[] cap] 145)) 109 #[.int .i64 0, .int .i64 0, .int .i64 0, .int .i64 0]; rw [World.size_alloc, World.size_alloc] at this; exact ((this.alloc _).alloc _)
  have b3 : Blk W0 (w.heap.size + 1 + 1 + 1) 4 #[.bool false] := by rw [hW0]; have := Blk.new (((w.alloc (.cells #[.slice A ks.length c, .int .i64 err] 33)).alloc (.cells #[.func (.func g) #[] cap] 145)).alloc (.cells #[.int .i64 0, .int .i64 0, .int .i64 0, .int .i64 0] 109)) 4 #[.bool false]; rw [World.size_alloc, World.size_alloc, World.size_alloc] at this; exact (this.alloc _)
  have b4 : Blk W0 (w.heap.size + 1 + 1 + 1 + 1) 33 #[.slice A ks.length c, .int .i64 err] := by rw [hW0]; have := Blk.new ((((w.alloc (.cells #[.slice A ks.length c, .int .i64 err] 33)).alloc (.cells #[.func (.func g) #[] cap] 145)).alloc (.cells #[.int .i64 0, .int .i64 0, .int .i64 0, .int .i64 0] 109)).alloc (.cells #[.bool false] 4)) 33 #[.slice A ks.length c, .int .i64 err]; rw [World.size_alloc, World.size_alloc, World.size_alloc, World.size_alloc] at this; exact this
  have c4 : W0.cell? ⟨w.heap.size + 1 + 1 + 1 + 1, 0, none⟩ = some (.slice A ks.length c) := b4.cell 0
  have hk0 := hk.below hB0
  rw [← hW0]
  clear hW0
  refine wpIn_rangeFunc_ownH rfl (by omega) (gf := 117) (lb := #[.pointer (some ⟨w.heap.size + 1 + 1 + 1 + 1, 0, none⟩)]) rfl trivial (enters_of Try.func117 (by kernel_rfl) rfl)
    (pieces_stops Fence.wide _ (fun _ => trivial) rfl (by omega) (w.heap.size + 1 + 1 + 1 + 1) (w.heap.size + 5) c A ks err hlen hne W0 (by omega) (by omega) c4 hk0 (fun a ha => by
      obtain ⟨b, off, rfl, hb, _⟩ := hk hne
      cases ha
      show b < _
      omega)) belowK_t (belowK_b (by omega)) (Below.refl _ _) (fun _ => rfl)
    (fun pre W => NoneOf p pre ∧ Below (w.heap.size + 5) W0 W)
    (fun cd pre W => cd = .ret ∧ Found p w.heap.size w pre W)
    (fun s X Y row hs hg hr => ⟨hs.1, hs.2.grown hg (by have := hs.2.size; omega) (fun k e => by have := (hr k e).1; omega)⟩)
    (fun cd s X Y row hs hg hr => by
      obtain ⟨hc, ⟨pre', x, h1, h2, h3, h4, h5⟩, h6⟩ := hs
      exact ⟨hc, ⟨pre', x, h1, h2, h3, h4.own hg (fun r e => (hr r e).2), h5.own hg (fun r e => (hr r e).2)⟩, h6.grown hg h6.size (fun k e => by have := (hr k e).1; omega)⟩)
    ⟨(fun _ h => by cases h), Below.refl _ _⟩
    (fun x a' W => ∃ Bx, w.heap.size + 5 ≤ Bx ∧ Blk W Bx 109 #[.int .i64 (kx ks x.1), .int .i64 (ky ks x.1), .int .i64 (kx ks (x.1 + 1)), .int .i64 (ky ks (x.1 + 1))] ∧ a' = { tmps := #[.agg #[.slice A ks.length c, .int .i64 err], .func (.func g) #[] cap, .pointer (some ⟨w.heap.size, 0, none⟩), .pointer (some ⟨w.heap.size + 1, 0, none⟩), .pointer (some ⟨w.heap.size + 1 + 1, 0, none⟩), .pointer (some ⟨w.heap.size + 1 + 1 + 1, 0, none⟩), undef, .pointer (some ⟨Bx, 0, none⟩), .agg #[.slice A ks.length c, .int .i64 err], .func (.func 117) #[] #[.pointer (some ⟨w.heap.size + 1 + 1 + 1 + 1, 0, none⟩)], .int .i64 (x.1 : Int), pcVal ks x.1, undef, undef, undef, undef, undef], defers := [] })
    (fun x a' _ X Y row hs hg hr => by obtain ⟨Bx, h1, h2, h3⟩ := hs; exact ⟨Bx, h1, h2.own hg (fun r e => (hr r e).2), h3⟩)
    ?assign ?body ?done ?stop
  case assign =>
    rintro l pre x W K ⟨hn1, hB1⟩ hK
    have hs1 := hB1.size
    clear b1 b2 b3 b4 c4 hk0 hk hw
    dsimp only [encPc]
    gi_wp2
    exact hK _ _ ((KeepsOthers.alloc _ _).from _) ((Below.refl _ W).alloc (by omega) _) ⟨hn1, hB1.alloc (by omega) _⟩ ⟨W.heap.size, by omega, Blk.new W _ _, rfl⟩
  case body =>
    rintro l pre x a' W hl ⟨r, hr⟩ ⟨hn1, hB1⟩ ⟨Bx, hBx, bX, rfl⟩ hlt
    have hs1 := hB1.size
    have c1 : W.cell? ⟨w.heap.size + 1, 0, none⟩ = some (.func (.func g) #[] cap) := (b1.below hB1 (by omega)).cell 0
    have d2 := b2.below hB1 (by omega)
    have d3 := b3.below hB1 (by omega)
    have e0 := bX.cell 0
    have e1 := bX.cell 1
    have e2 := bX.cell 2
    have e3 := bX.cell 3
    simp at e0 e1 e2 e3
    have hww := hw W x.1 x.2 (hB0.trans (hB1.mono (by omega)))
    clear b1 b2 b3 b4 c4 hk0 hk hw
    unfold pcVal at hww
    cases hp : p x.1
    · rw [hp] at hww
      gi_wp2_with (refine ⟨trivial, ?_⟩; refine (CallsIn.inRound l (callsIn_wide.2 hww)).mono ?_; rintro e W3 ⟨rfl, hb3⟩)
      refine ⟨(keepsOthers_of_below hb3).from _, hb3.mono (by omega), ?_, hB1.trans (hb3.mono (by omega))⟩
      intro y hy
      rcases List.mem_append.1 hy with h | h
      · exact hn1 y h
      · obtain rfl : y = x := by simpa using h
        exact hp
    · rw [hp] at hww
      refine Code.wpIn_mono (Q := fun e a' W' => e = .ret ∧ KeepsFrom W0.heap.size W W' ∧ Found p w.heap.size w (pre ++ [x]) W') ?_ ?_
      · rintro e a' W' ⟨rfl, h1, h2⟩
        exact ⟨h1, rfl, h2⟩
      gi_wp2_with (refine ⟨trivial, ?_⟩; refine (CallsIn.inRound l (callsIn_wide.2 hww)).mono ?_; rintro e W3 ⟨rfl, hb3⟩; have f2 := d2.below hb3 d2.lt; have f3 := d3.below hb3 d3.lt; have g0 := f2.cell 0; have g1 := f2.cell 1; have g2 := f2.cell 2; have g3 := f2.cell 3; have g4 := f3.cell 0; simp at g0 g1 g2 g3 g4; have i0 := f2.frozen 0; have i1 := f2.frozen 1; have i2 := f2.frozen 2; have i3 := f2.frozen 3; have i4 := f3.frozen 0; have j0 := (bX.below hb3 bX.lt).cell 0; have j1 := (bX.below hb3 bX.lt).cell 1; have j2 := (bX.below hb3 bX.lt).cell 2; have j3 := (bX.below hb3 bX.lt).cell 3; simp at j0 j1 j2 j3)
      refine ⟨((keepsOthers_of_below hb3).from _).trans ((((((KeepsOthers.setCell _ _ _).from _).trans ((KeepsOthers.setCell _ _ _).from _)).trans ((KeepsOthers.setCell _ _ _).from _)).trans ((KeepsOthers.setCell _ _ _).from _)).trans ((KeepsOthers.setCell _ _ _).from _)), ⟨pre, x, rfl, hn1, hp, ?_, ?_⟩, ?_⟩
      · have := (((((f2.set_ 0 (.int .i64 (kx ks x.val))).set_ 1 (.int .i64 (ky ks x.val))).set_ 2 (.int .i64 (kx ks (x.val + 1)))).set_ 3 (.int .i64 (ky ks (x.val + 1)))).far (p := ⟨w.heap.size + 1 + 1 + 1, 0, none⟩) (by simp) (.bool true))
        simpa using this
      · have := ((((f3.far (p := ⟨w.heap.size + 1 + 1, 0, none⟩) (by simp) (.int .i64 (kx ks x.val))).far (p := ⟨w.heap.size + 1 + 1, 1, none⟩) (by simp) (.int .i64 (ky ks x.val))).far (p := ⟨w.heap.size + 1 + 1, 2, none⟩) (by simp) (.int .i64 (kx ks (x.val + 1)))).far (p := ⟨w.heap.size + 1 + 1, 3, none⟩) (by simp) (.int .i64 (ky ks (x.val + 1)))).set_ 0 (.bool true)
        simpa using this
      · have hbW : Below w.heap.size w W3 := (hB0.trans (hB1.mono (by omega))).trans (hb3.mono (by omega))
        (repeat' (first | with_reducible exact Below.refl _ _ | with_reducible assumption | (with_reducible refine Below.setCell ?_ (by first | omega | (simp; done) | (simp; omega)) _) | (with_reducible refine Below.alloc ?_ (by first | omega | (simp; done) | (simp; omega)) _) | (with_reducible refine Below.drew ?_) | (with_reducible refine Below.trans ?_ (Below.mono (by with_reducible assumption) (by first | omega | (simp; done) | (simp; omega))))))
  case done =>
    rintro D ys W hD rfl ⟨hn1, hB1⟩ hKd
    have hs1 := hB1.size
    have hff := Lib.hid (show findVal ks (firstPc ks p) = findVal ks none by rw [firstPc_none hn1])
    have d2 := b2.below hB1 (by omega)
    have d3 := b3.below hB1 (by omega)
    have g0 := d2.cell 0
    have g1 := d2.cell 1
    have g2 := d2.cell 2
    have g3 := d2.cell 3
    have g4 := d3.cell 0
    simp at g0 g1 g2 g3 g4
    have i0 := d2.frozen 0
    have i1 := d2.frozen 1
    have i2 := d2.frozen 2
    have i3 := d2.frozen 3
    have i4 := d3.frozen 0
    have hbW : Below w.heap.size w W := hB0.trans (hB1.mono (by omega))
    have HK := Lib.hid hKd
    clear b1 b2 b3 b4 c4 hk0 hk hw hKd
    gi_wp2
    have z2 : Blk (((((W.setCell ⟨w.heap.size + 1 + 1, 0, none⟩ (.int .i64 0)).setCell ⟨w.heap.size + 1 + 1, 1, none⟩ (.int .i64 0)).setCell ⟨w.heap.size + 1 + 1, 2, none⟩ (.int .i64 0)).setCell ⟨w.heap.size + 1 + 1, 3, none⟩ (.int .i64 0)).setCell ⟨w.heap.size + 1 + 1 + 1, 0, none⟩ (.bool false)) (w.heap.size + 1 + 1) 109 #[.int .i64 0, .int .i64 0, .int .i64 0, .int .i64 0] := by
      have := (((((d2.set_ 0 (.int .i64 0)).set_ 1 (.int .i64 0)).set_ 2 (.int .i64 0)).set_ 3 (.int .i64 0)).far (p := ⟨w.heap.size + 1 + 1 + 1, 0, none⟩) (by simp) (.bool false))
      simpa using this
    have z3 : Blk (((((W.setCell ⟨w.heap.size + 1 + 1, 0, none⟩ (.int .i64 0)).setCell ⟨w.heap.size + 1 + 1, 1, none⟩ (.int .i64 0)).setCell ⟨w.heap.size + 1 + 1, 2, none⟩ (.int .i64 0)).setCell ⟨w.heap.size + 1 + 1, 3, none⟩ (.int .i64 0)).setCell ⟨w.heap.size + 1 + 1 + 1, 0, none⟩ (.bool false)) (w.heap.size + 1 + 1 + 1) 4 #[.bool false] := by
      have := ((((d3.far (p := ⟨w.heap.size + 1 + 1, 0, none⟩) (by simp) (.int .i64 0)).far (p := ⟨w.heap.size + 1 + 1, 1, none⟩) (by simp) (.int .i64 0)).far (p := ⟨w.heap.size + 1 + 1, 2, none⟩) (by simp) (.int .i64 0)).far (p := ⟨w.heap.size + 1 + 1, 3, none⟩) (by simp) (.int .i64 0)).set_ 0 (.bool false)
      simpa using this
    refine find_end hff.out ?_ z2 z3 ?_ (by omega) _ rfl rfl rfl
    · rw [Below.heap_setCell _ _ _ _ (by show D ≠ w.heap.size + 1 + 1 + 1; omega), Below.heap_setCell _ _ _ _ (by show D ≠ w.heap.size + 1 + 1; omega), Below.heap_setCell _ _ _ _ (by show D ≠ w.heap.size + 1 + 1; omega), Below.heap_setCell _ _ _ _ (by show D ≠ w.heap.size + 1 + 1; omega), Below.heap_setCell _ _ _ _ (by show D ≠ w.heap.size + 1 + 1; omega)]
      exact HK.out
    · (repeat' (first | with_reducible exact Below.refl _ _ | with_reducible assumption | (with_reducible refine Below.setCell ?_ (by first | omega | (simp; done) | (simp; omega)) _) | (with_reducible refine Below.alloc ?_ (by first | omega | (simp; done) | (simp; omega)) _) | (with_reducible refine Below.drew ?_) | (with_reducible refine Below.trans ?_ (Below.mono (by with_reducible assumption) (by first | omega | (simp; done) | (simp; omega))))))
  case stop =>
    rintro D cd pre W hD ⟨kk, hkk, hpre⟩ ⟨rfl, ⟨pre', x, rfl, h2, h3, h4, h5⟩, h6⟩ hKd
    have hff := Lib.hid (show findVal ks (firstPc ks p) = findVal ks (some x.1) by rw [firstPc_some hkk hpre h2 h3])
    have HK := Lib.hid hKd
    clear b1 b2 b3 b4 c4 hk0 hk hw hKd hpre
    gi_wp2
    exact find_end hff.out HK.out h4 h5 h6 (by omega) _ rfl rfl rfl

theorem find_any (w : World) (A : Option Addr) (c : Nat) (ks : List (Int × Int)) (err : Int) (hlen : ks.length ≤ 1000000000000) (hne : ks ≠ []) (hk : KnAt w A ks) (g : Nat) (cap : Array Value) (p : Nat → Bool)
    (eg : ∀ args w, (callFunc g args).run Try.prog w = .ok (.enter g args) w)
    (hw : ∀ (W : World) (i : Nat), i + 1 < ks.length → Below w.heap.size w W → Calls Try.prog g (#[pcVal ks i] ++ cap) W fun e W' => e = .returned (.bool (p i)) ∧ Below W.heap.size W W') :
    Calls Try.prog 114 #[.agg #[.slice A ks.length c, .int .i64 err], .func (.func g) #[] cap] w fun e w' => e = .returned (findVal ks (firstPc ks p)) ∧ Below w.heap.size w w' :=
  callsIn_wide.1 (find_in w A c ks err hlen hne hk g cap p eg hw)
end Go.Proofs.Ytcmjmdjhpmlomaa
