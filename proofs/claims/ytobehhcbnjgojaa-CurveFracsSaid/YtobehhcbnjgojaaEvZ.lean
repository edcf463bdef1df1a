/- What the calculator does to its own memory, whatever the model's is. -/
import Derived.Test.YtobehhcbnjgojaaEvB
import Derived.Test.YtobehhcbnjgojaaEvR
namespace Go.Proofs.Ytobehhcbnjgojaa.Ev
variable {P : Program}

structure Abs (h g : Heap) : Prop where
  nx : h.next ≤ g.next
  lo : g.lo = h.lo
  hid : g.hid = h.hid
  keep : ∀ i, i < h.next → i < h.lo ∨ h.hidden i = true → g.t.get i = h.t.get i
  dead : ∀ i, i < h.next → (g.t.get i).isSome → (h.t.get i).isSome
  clean : (∀ i, h.next ≤ i → h.t.get i = none) → ∀ i, g.next ≤ i → g.t.get i = none
theorem Abs.refl (h : Heap) : Abs h h := ⟨Nat.le_refl _, rfl, rfl, fun _ _ _ => rfl, fun _ _ k => k, fun k => k⟩
theorem Abs.trans {h g f : Heap} (k : Abs h g) (k' : Abs g f) : Abs h f := by
  refine ⟨Nat.le_trans k.nx k'.nx, k'.lo.trans k.lo, k'.hid.trans k.hid, fun i hi hx => ?_, fun i hi hs => k.dead i hi (k'.dead i (Nat.lt_of_lt_of_le hi k.nx) hs), fun c => k'.clean (k.clean c)⟩
  rw [k'.keep i (Nat.lt_of_lt_of_le hi k.nx) (by rw [k.lo, Heap.hidden_eq k.hid]; exact hx), k.keep i hi hx]
theorem Abs.new (h : Heap) (o : AObj) : Abs h (h.new o).2 := by
  refine ⟨Nat.le_succ _, rfl, rfl, fun i hi _ => ?_, fun i hi hs => ?_, fun c i hi => ?_⟩
  · show (h.t.set h.next o).get i = _
    rw [T.get_set, if_neg (by omega)]
  · have : ((h.t.set h.next o).get i).isSome := hs
    rwa [T.get_set, if_neg (by omega)] at this
  · have hi' : h.next + 1 ≤ i := hi
    show (h.t.set h.next o).get i = none
    rw [T.get_set, if_neg (by omega)]
    exact c i (by omega)
theorem Abs.set {h g : Heap} {i : Nat} {o : AObj} (e : h.set i o = some g) : Abs h g ∧ ∀ q, q ≠ i → g.t.get q = h.t.get q := by
  obtain ⟨hl, hs, rfl⟩ := Heap.set_eq e
  have hv := Heap.get_some hs
  have ht : (h.t.get i).isSome := by rw [← hv.2]; exact hs
  refine ⟨⟨Nat.le_refl _, rfl, rfl, fun q hq hx => ?_, fun q hq hh => ?_, fun c q hq => ?_⟩, fun q hq => ?_⟩
  · show (h.t.set i o).get q = _
    rw [T.get_set, if_neg]
    rintro rfl
    rcases hx with hx | hx
    · omega
    · rw [hv.1] at hx; cases hx
  · by_cases e : q = i
    · subst e; exact ht
    · have : ((h.t.set i o).get q).isSome := hh
      rwa [T.get_set, if_neg e] at this
  · show (h.t.set i o).get q = none
    rw [T.get_set, if_neg]
    · exact c q hq
    · rintro rfl
      rw [c q hq] at ht; cases ht
  · show (h.t.set i o).get q = _
    rw [T.get_set, if_neg hq]
theorem Abs.take {h g : Heap} {i n : Nat} {o : AObj} (e : h.take i o = some (n, g)) : Abs h g := by
  unfold Heap.take at e
  split at e
  · rename_i hl
    split at e
    · rename_i oo hg
      cases e
      have hl' : h.lo ≤ i := by simpa using hl
      have hs : (h.get i).isSome := by rw [hg]; rfl
      have hv := Heap.get_some hs
      have ht : (h.t.get i).isSome := by rw [← hv.2]; exact hs
      refine ⟨Nat.le_succ _, rfl, rfl, fun q hq hx => ?_, fun q hq hh => ?_, fun c q hq => ?_⟩
      · show ((h.t.del i).set h.next o).get q = _
        rw [T.get_set, if_neg (by omega), T.get_del, if_neg]
        rintro rfl
        rcases hx with hx | hx
        · omega
        · rw [hv.1] at hx; cases hx
      · have : (((h.t.del i).set h.next o).get q).isSome := hh
        rw [T.get_set, if_neg (by omega), T.get_del] at this
        split at this
        · cases this
        · exact this
      · have hq' : h.next + 1 ≤ q := hq
        show ((h.t.del i).set h.next o).get q = none
        rw [T.get_set, if_neg (by omega), T.get_del]
        split
        · rfl
        · exact c q (by omega)
    · cases e
  · cases e

theorem Abs.store {h g : Heap} {i off : Nat} {xs : List AV} (e : h.storeN i off xs = some g) : Abs h g ∧ ∀ q, q ≠ i → g.t.get q = h.t.get q := by
  unfold Heap.storeN at e
  simp only [Option.bind_eq_bind, Option.bind_eq_some_iff] at e
  obtain ⟨r, _, n, _, e⟩ := e
  unfold Heap.setRow at e
  split at e
  · exact Abs.set e
  · exact Abs.set e
  · cases e
theorem plainV_heap {r : Option AV} {h g : Heap} {x : ANext} (e : plainV r h = some (x, g)) : g = h := by
  unfold plainV at e
  simp only [Option.map_eq_some_iff, Prod.mk.injEq] at e
  obtain ⟨_, _, _, rfl⟩ := e
  rfl
theorem newV_heap {h g : Heap} {o : AObj} {f : Nat → AV} {x : ANext} (e : newV h o f = some (x, g)) : Abs h g := by
  unfold newV at e
  cases e
  exact Abs.new h o
theorem onto_abs {h g : Heap} {e : TypeId} {sz n : Nat} {s v : AV} {new : List AV} (ev : evOnto h e sz s n new = some (v, g)) : Abs h g := by
  have hgrow : ∀ {n l}, evGrow h e sz n l = some (v, g) → Abs h g := fun hh => by
    unfold evGrow at hh
    cases hh
    exact Abs.new h _
  unfold evOnto at ev
  split at ev
  · split at ev
    · cases ev; exact Abs.refl h
    · exact hgrow ev
  · split at ev
    · simp only [Option.map_eq_some_iff] at ev
      obtain ⟨g', hg, e2⟩ := ev
      cases e2
      exact (Abs.store hg).1
    · split at ev
      · split at ev
        · exact hgrow ev
        · cases ev
      · cases ev
  · split at ev
    · simp only [Option.map_eq_some_iff] at ev
      obtain ⟨g', hg, e2⟩ := ev
      cases e2
      exact (Abs.store hg).1
    · split at ev
      · split at ev
        · split at ev
          · simp only [Option.map_eq_some_iff] at ev
            obtain ⟨⟨m, g'⟩, htk, e2⟩ := ev
            cases e2
            exact Abs.take htk
          · cases ev
        · cases ev
      · cases ev
  · cases ev
theorem evOp_abs {h g : Heap} {a : AAct} {o : Oper} {x : ANext} (e : evOp P h a o = some (x, g)) : Abs h g := by
  obtain ⟨dst, op, type, pos, after, guard⟩ := o
  have hp : ∀ {r : Option AV}, plainV r h = some (x, g) → Abs h g := fun hh => by rw [plainV_heap hh]; exact Abs.refl h
  cases op <;> simp only [evOp] at e <;> first | (cases e; done) | skip
  case move => exact hp e
  case assign => exact hp e
  case pick => simp only [oPick] at e; split at e <;> first | exact hp e | cases e
  case alloc => simp only [oAlloc] at e; split at e <;> first | exact newV_heap e | cases e
  case box => simp only [oBox] at e; split at e <;> first | exact newV_heap e | cases e
  case build => simp only [oBuild] at e; split at e <;> first | exact hp e | cases e
  case buildSlice =>
    simp only [oBuildSlice] at e
    split at e
    · split at e <;> first | exact newV_heap e | cases e
    · cases e
  case load => simp only [oLoad] at e; split at e <;> first | exact hp e | cases e
  case store =>
    simp only [oStore] at e
    split at e
    · simp only [Option.map_eq_some_iff] at e
      obtain ⟨g', hs, e2⟩ := e
      cases e2
      unfold evStore at hs
      split at hs
      · split at hs
        · exact (Abs.store hs).1
        · cases hs
      · cases hs
    · cases e
  case nilCheck => simp only [oNilCheck] at e; split at e <;> first | (cases e; exact Abs.refl _) | cases e
  case binOp => simp only [oBin] at e; split at e <;> first | exact hp e | cases e
  case unOp => simp only [oUn] at e; split at e <;> first | exact hp e | cases e
  case convert => simp only [oConv] at e; split at e <;> first | exact hp e | cases e
  case makeFunc fn _ _ =>
    cases fn <;> simp only at e <;> first | (cases e; done) | skip
    simp only [oMakeFunc] at e
    split at e <;> first | (cases e; exact Abs.refl _) | cases e
  case makeMap =>
    simp only [oMakeMap] at e
    split at e
    · exact newV_heap e
    · split at e <;> first | exact newV_heap e | cases e
    · cases e
  case makeSlice =>
    simp only [oMakeSlice] at e
    split at e
    · split at e
      · split at e <;> first | exact newV_heap e | cases e
      · cases e
    · cases e
  case slice => simp only [oSlice] at e; split at e <;> first | exact hp e | cases e
  case fieldAddr => simp only [oFieldAddr] at e; split at e <;> first | exact hp e | cases e
  case field => simp only [oField] at e; split at e <;> first | exact hp e | cases e
  case indexAddr => simp only [oIndexAddr] at e; split at e <;> first | exact hp e | cases e
  case index => simp only [oIndex] at e; split at e <;> first | exact hp e | cases e
  case lookup => simp only [oLookup] at e; split at e <;> first | exact hp e | cases e
  case extract => simp only [oExtract] at e; split at e <;> first | exact hp e | cases e
  case mapUpdate | insert =>
    simp only [oUpdate] at e
    split at e
    · simp only [Option.map_eq_some_iff] at e
      obtain ⟨g', hs, e2⟩ := e
      cases e2
      unfold evUpdate at hs
      split at hs
      · split at hs
        · split at hs
          · split at hs
            · exact (Abs.set hs).1
            · exact (Abs.set hs).1
            · cases hs
          · cases hs
        · cases hs
      · cases hs
    · cases e
  case call c =>
    simp only [oCall] at e
    split at e
    · rename_i b hb
      split at e
      · rename_i l hl
        simp only [Option.map_eq_some_iff] at e
        obtain ⟨⟨v, g'⟩, hbi, e2⟩ := e
        cases e2
        cases b <;> simp only [evBuiltin] at hbi <;> first | (cases hbi; done) | skip
        case append =>
          unfold evAppend at hbi
          repeat' (split at hbi)
          all_goals first | (cases hbi; done) | exact onto_abs hbi
        case copy =>
          split at hbi
          · split at hbi
            · split at hbi
              · split at hbi
                · simp only [Option.map_eq_some_iff] at hbi
                  obtain ⟨g2, hg2, e2⟩ := hbi
                  cases e2
                  exact (Abs.store hg2).1
                · cases hbi
              · cases hbi
            · cases hbi
          · cases hbi
        all_goals (split at hbi <;> first | (simp only [Option.map_eq_some_iff] at hbi; obtain ⟨_, _, e2⟩ := hbi; cases e2; exact Abs.refl _) | (cases hbi; done))
      · cases e
    · split at e <;> first | (cases e; exact Abs.refl _) | cases e
    · cases e

/-- a plain store leaves the other blocks alone -/
theorem evOp_store {h g : Heap} {a : AAct} {o : Oper} {x : ANext} (e : evOp P h a o = some (x, g)) {j : Nat} (hb : blkOf a o.op = some j) : ∀ q, q ≠ j → g.t.get q = h.t.get q := by
  obtain ⟨dst, op, type, pos, after, guard⟩ := o
  cases op <;> simp only [blkOf] at hb <;> first | (cases hb; done) | skip
  case load t y =>
    simp only [evOp, oLoad] at e
    split at e
    · rw [plainV_heap e]; exact fun _ _ => rfl
    · cases e
  case store t y z =>
    simp only [evOp, oStore] at e
    split at e
    · rename_i i off v hy hz
      rw [hy] at hb
      cases hb
      simp only [Option.map_eq_some_iff] at e
      obtain ⟨g', hs, e2⟩ := e
      cases e2
      unfold evStore at hs
      split at hs
      · split at hs
        · exact (Abs.store hs).2
        · cases hs
      · cases hs
    · cases e

/-! the whole calculator -/
def AbsR (r : Runs) : Prop := ∀ {j a h o}, r j a h = some o → Abs h o.h
theorem rOp_abs {r : Runs} (hr : AbsR r) {h g : Heap} {a : AAct} {o : Oper} {v : AV} (e : rOp P r h a o = some (v, g)) : Abs h g := by
  unfold rOp at e
  split at e
  · rename_i xg hev
    split at e
    · obtain ⟨x, g'⟩ := xg
      have h1 := evOp_abs hev
      cases x with
      | value v' => cases e; exact h1
      | skip => cases e; exact h1
      | enter f args => simp only [rOp2, Option.map_eq_some_iff, Prod.mk.injEq] at e; obtain ⟨oo, hh, rfl, rfl⟩ := e; exact h1.trans (hr hh)
      | round l args => simp only [rOp2, Option.map_eq_some_iff, Prod.mk.injEq] at e; obtain ⟨oo, hh, rfl, rfl⟩ := e; exact h1.trans (hr hh)
    · cases e
  · cases e
theorem shut_abs : ∀ {ds : List Nat} {h g : Heap}, shutAll h ds = some g → Abs h g
  | [], h, g, e => by simp only [shutAll] at e; cases e; exact Abs.refl _
  | d :: ds, h, g, e => by
    simp only [shutAll] at e
    split at e
    · split at e
      · rename_i h' hs; exact (Abs.set hs).1.trans (shut_abs e)
      · cases e
    · cases e
/-- the memory that an operation of a drawn region is done in -/
def evHeap (ty m : Nat) (recs : List Rec) (h : Heap) : Heap :=
  if ty = 1 then { h with lo := h.next, hid := hideOf m recs recs.length ++ h.hid } else if ty = 3 then { h with hid := hideOf m recs recs.length ++ h.hid } else h
theorem evHeap_next (ty m : Nat) (recs : List Rec) (h : Heap) : (evHeap ty m recs h).next = h.next := by
  unfold evHeap
  split
  · rfl
  · split <;> rfl
theorem evHeap_t (ty m : Nat) (recs : List Rec) (h : Heap) : (evHeap ty m recs h).t = h.t := by
  unfold evHeap
  split
  · rfl
  · split <;> rfl
theorem abs_back {ty m : Nat} {recs : List Rec} {h g : Heap} (k : Abs (evHeap ty m recs h) g) : Abs h { g with lo := h.lo, hid := h.hid } := by
  have e1 := evHeap_next ty m recs h
  have e2 := evHeap_t ty m recs h
  refine ⟨by rw [← e1]; exact k.nx, rfl, rfl, fun i hi hx => ?_, fun i hi hs => ?_, fun c => k.clean (by rw [e1, e2]; exact c)⟩
  · rw [← e2]
    refine k.keep i (by rw [e1]; exact hi) ?_
    unfold evHeap
    split
    · exact .inl hi
    · split
      · rcases hx with hx | hx
        · exact .inl hx
        · refine .inr ?_
          unfold Heap.hidden at hx ⊢
          simp only [List.any_append, Bool.or_eq_true]
          exact .inr hx
      · exact hx
  · have := k.dead i (by rw [e1]; exact hi) hs
    rwa [e2] at this
theorem stepR_abs {r : Runs} (hr : AbsR r) : AbsR (stepR P r) := by
  intro j a h o e
  unfold stepR chk at e
  split at e <;> try (cases e; done)
  rename_i o' heq
  split at e <;> try (cases e; done)
  cases e
  cases j with
  | code rnd c =>
    simp only at heq
    unfold rCode at heq
    split at heq
    · cases heq; exact Abs.refl _
    · cases heq; exact Abs.refl _
    · exact hr heq
    · split at heq
      · exact hr heq
      · cases heq
    · unfold rSeq at heq
      split at heq
      · rename_i h1; exact (hr h1).trans (hr heq)
      · exact hr heq
    · unfold rCond at heq
      split at heq
      · exact hr heq
      · cases heq
    · unfold rBlock at heq
      split at heq
      · rename_i h1
        have h2 := hr h1
        split at heq <;> (cases heq; exact h2)
      · exact hr heq
    · split at heq
      · rename_i h1; exact (hr h1).trans (hr heq)
      · exact hr heq
    · unfold rRange at heq
      split at heq
      · rename_i g fs cs d mark h1 hf hen
        have e1 : Abs h h1 := by
          cases rnd with
          | none => simp only [enterA] at hen; cases hen; exact Abs.new _ _
          | some l =>
            simp only [enterA] at hen
            split at hen
            · cases hen; exact Abs.refl _
            · cases hen
        split at heq
        · rename_i o1 hc
          have e2 := (e1.trans (Abs.new h1 _)).trans (hr hc)
          unfold rLeave at heq
          split at heq
          · rename_i h2 hl
            cases heq
            unfold leaveA at hl
            split at hl
            · split at hl
              · cases hl
              · simp only [Option.map_eq_some_iff, Prod.mk.injEq] at hl
                obtain ⟨h3, h4, _, rfl⟩ := hl
                exact e2.trans (Abs.set h4).1
            · cases hl
          · rename_i c h2 hl
            unfold leaveA at hl
            split at hl
            · split at hl
              · cases hl
              · simp only [Option.map_eq_some_iff, Prod.mk.injEq] at hl
                obtain ⟨h3, h4, _, rfl⟩ := hl
                exact (e2.trans (Abs.set h4).1).trans (hr heq)
            · cases hl
          · cases heq
        · cases heq
      · cases heq
    · cases heq; exact Abs.refl _
    · cases heq; exact Abs.refl _
    · cases heq
  | ops ops l =>
    simp only at heq
    unfold rOps at heq
    split at heq
    · cases heq; exact Abs.refl _
    · unfold rPut at heq
      split at heq
      · rename_i v g hh
        split at heq
        · split at hh
          · exact (rOp_abs hr hh).trans (hr heq)
          · cases hh; exact hr heq
        · cases heq
      · cases heq
  | drawn ops masks kinds l recs =>
    simp only at heq
    unfold rDrawn at heq
    split at heq
    · cases heq; exact Abs.refl _
    · split at heq
      · unfold rDrawnAt at heq
        split at heq
        · rename_i v g hh
          split at heq
          · unfold rPut at heq
            simp only at heq
            split at heq
            · have h1 : Abs (evHeap _ _ _ _) g := rOp_abs hr hh
              exact Abs.trans (g := { g with lo := h.lo, hid := h.hid }) (abs_back h1) (hr heq)
            · cases heq
          · cases heq
        · cases heq
      · unfold rPut at heq
        simp only at heq
        split at heq
        · exact hr heq
        · cases heq
  | call f args =>
    simp only at heq
    unfold rCall at heq
    split at heq
    · split at heq
      · unfold rEnd at heq
        split at heq
        · cases heq
        · rename_i h1
          split at heq
          · rename_i h2 hs
            split at heq
            · cases heq; exact (hr h1).trans (shut_abs hs)
            · cases heq
          · cases heq
        · cases heq
      · cases heq
    · cases heq
  | round l args =>
    simp only at heq
    unfold rRound at heq
    split at heq
    · split at heq
      · unfold rBody at heq
        split at heq
        · rename_i v1 a1 hh1 h1
          split at heq
          · rename_i h2 hb
            unfold rEndR at heq
            split at heq
            · rename_i ex v2 a2 hh3 h3
              split at heq
              · rename_i h4 he
                cases heq
                have e1 : Abs hh1 h2 := by
                  unfold busyA at hb
                  split at hb
                  · split at hb
                    · exact (Abs.set hb).1
                    · cases hb
                  · cases hb
                have e2 : Abs hh3 h4 := by
                  unfold endA at he
                  split at he
                  · exact (Abs.set he).1
                  · cases he
                exact (((hr h1).trans e1).trans (hr h3)).trans e2
              · cases heq
            · cases heq
          · cases heq
        · cases heq
      · cases heq
    · cases heq
end Go.Proofs.Ytobehhcbnjgojaa.Ev
