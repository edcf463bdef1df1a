/- One operation: those that touch no memory. -/
import Derived.Test.YtkebbdpfjhhdhaaGreatEv1
import Derived.Laws.CopyRow
import Derived.Deep.AppendSrc
import Derived.Laws.AppendOwn
namespace Go.Proofs.YtkebbdpfjhhdhaaGreat.Ev
variable {P : Program}

theorem plainV_eq {r : Option AV} {h g : Heap} {x : ANext} (e : plainV r h = some (x, g)) : ∃ v, r = some v ∧ x = .value v ∧ g = h := by
  unfold plainV at e
  simp only [Option.map_eq_some_iff, Prod.mk.injEq] at e
  obtain ⟨v, rfl, rfl, rfl⟩ := e
  exact ⟨v, rfl, rfl, rfl⟩

/-- what such an operation comes to -/
def PureO (P : Program) (E : Env) (h : Heap) (A : Act) (o : Oper) (x : ANext) (g : Heap) : Prop := g = h ∧ ∃ v, x = .value v ∧ ∀ w, ∃ V, (execOp A.eval o).run P w = .ok (.value V) w ∧ VR E v V
theorem PureO.of {E : Env} {h : Heap} {A : Act} {o : Oper} {x : ANext} {g : Heap} {r : Option AV} {s : Sem Value} (e : plainV r h = some (x, g)) (hs : execOp A.eval o = (do pure (.value (← s)))) (hr : PureR P E r s) : PureO P E h A o x g := by
  obtain ⟨v, hv, rfl, rfl⟩ := plainV_eq e
  refine ⟨rfl, v, rfl, fun w => ?_⟩
  obtain ⟨V, h1, h2⟩ := hr v hv w
  exact ⟨V, by rw [hs]; simp [h1], h2⟩
theorem PureO.val {E : Env} {h : Heap} {A : Act} {o : Oper} {v : AV} {V : Value} (hs : execOp A.eval o = pure (.value V)) (hv : VR E v V) : PureO P E h A o (.value v) h :=
  ⟨rfl, v, rfl, fun w => ⟨V, by rw [hs]; rfl, hv⟩⟩

theorem evOp_pure {E : Env} {h g : Heap} {a : AAct} {A : Act} {o : Oper} {x : ANext} (hk : kindOf o.op = 0) (e : evOp P h a.eval o = some (x, g)) (hR : OpR E a A o.op.operands.toList) : PureO P E h A o x g := by
  obtain ⟨dst, op, type, pos, after, guard⟩ := o
  cases op <;> first | (simp [kindOf] at hk; done) | skip
  case move y =>
    obtain ⟨v, hv, rfl, rfl⟩ := plainV_eq e
    exact PureO.val rfl (hR.one hv)
  case assign y =>
    obtain ⟨v, hv, rfl, rfl⟩ := plainV_eq e
    exact PureO.val rfl (hR.one hv)
  case pick c y z =>
    simp only [evOp, oPick] at e
    split at e
    · rename_i b hb
      have hc := hR c (by simp [Op.operands]) _ hb
      simp only [VR] at hc
      obtain ⟨v, hv, rfl, rfl⟩ := plainV_eq e
      refine PureO.val (V := if b then A.eval y else A.eval z) ?_ ?_
      · show (do pure (.value (if ← asBool (A.eval c) then A.eval y else A.eval z)) : Sem Next) = _
        rw [hc]; rfl
      · cases b
        · exact hR z (by simp [Op.operands]) v hv
        · exact hR y (by simp [Op.operands]) v hv
    · cases e
  case build t ps =>
    simp only [evOp, oBuild] at e
    split at e
    · rename_i l hl
      have hp := OpR.parts (by simpa [Op.operands] using hR) hl
      refine PureO.of e ?_ (evBuild_run hp)
      show (do pure (.value (← Instr.build t (ps.map fun (i, x) => (i, A.eval x)))) : Sem Next) = _
      congr 2
      apply Array.ext'
      simp
    · cases e
  case nilCheck y =>
    simp only [evOp, oNilCheck] at e
    split at e
    · rename_i i off hv
      cases e
      have h1 := hR.one hv
      have h0 := h1
      simp only [VR] at h1
      obtain ⟨b, c, hE, h1⟩ := h1
      refine PureO.val (V := A.eval y) ?_ h0
      simp only [execOp, h1]
    · rename_i f l c hv
      cases e
      have h1 := hR.one hv
      have h0 := h1
      simp only [VR] at h1
      obtain ⟨fn, As, Cs, h1, _, _, rfl⟩ := h1
      refine PureO.val (V := A.eval y) ?_ h0
      simp only [execOp, h1]
    · cases e
  case binOp op t y z ty =>
    simp only [evOp, oBin] at e
    split at e
    · rename_i v u hv hu
      exact PureO.of e rfl (evBin_run (hR y (by simp [Op.operands]) v hv) (hR z (by simp [Op.operands]) u hu) y z)
    · cases e
  case unOp op t y =>
    simp only [evOp, oUn] at e
    split at e
    · rename_i v hv
      exact PureO.of e rfl (evUn_run (hR.one hv))
    · cases e
  case convert s d y =>
    simp only [evOp, oConv] at e
    split at e
    · rename_i v hv
      exact PureO.of e rfl (evConv_run (hR.one hv))
    · cases e
  case makeFunc fn fs cs =>
    cases fn <;> simp only [evOp] at e <;> try (cases e; done)
    rename_i f
    simp only [oMakeFunc] at e
    split at e
    · rename_i l c hl hc
      cases e
      have h1 := OpR.list (hR.sub (m := fs.toList) (by simp [Op.operands]; exact fun _ h => .inl h)) hl
      have h2 := OpR.list (hR.sub (m := cs.toList) (by simp [Op.operands]; exact fun _ h => .inr h)) hc
      refine PureO.val (V := .func (.func f) (fs.map A.eval) (cs.map A.eval)) rfl ?_
      simp only [VR]
      exact ⟨.func f, (fs.map A.eval).toList, (cs.map A.eval).toList, by rw [Array.toArray_toList, Array.toArray_toList], by simpa using h1, by simpa using h2, rfl⟩
    · cases e
  case fieldAddr t y f =>
    simp only [evOp, oFieldAddr] at e
    split at e
    · rename_i v hv
      exact PureO.of e rfl (evFieldAddr_run (hR.one hv))
    · cases e
  case field t y f =>
    simp only [evOp, oField] at e
    split at e
    · rename_i v hv
      exact PureO.of e rfl (evField_run (hR.one hv))
    · cases e
  case indexAddr t y i =>
    simp only [evOp, oIndexAddr] at e
    split at e
    · rename_i v u hv hu
      exact PureO.of e rfl (evIndexAddr_run (hR y (by simp [Op.operands]) v hv) (hR i (by simp [Op.operands]) u hu))
    · cases e
  case index t y i =>
    simp only [evOp, oIndex] at e
    split at e
    · rename_i v u hv hu
      exact PureO.of e rfl (evIndex_run (hR y (by simp [Op.operands]) v hv) (hR i (by simp [Op.operands]) u hu))
    · cases e
  case extract y i =>
    simp only [evOp, oExtract] at e
    split at e
    · rename_i l hl
      have h1 := hR.one hl
      simp only [VR] at h1
      obtain ⟨L, h1, h2⟩ := h1
      refine PureO.of e (s := Instr.extract (A.eval y) i) rfl ?_
      intro u hu w
      rw [nthN_eq] at hu
      obtain ⟨V, h3, h4⟩ := h2.arr hu
      exact ⟨V, by rw [h1]; simp only [Instr.extract, h3]; rfl, h4⟩
    · cases e
  case call c =>
    obtain ⟨callee, args, ts⟩ := c
    cases callee <;> try (simp [kindOf] at hk; done)
    rename_i b
    have hl0 : OpR E a A args.toList := hR.sub (by simp [Op.operands, Call.operands])
    cases b <;> simp only [kindOf] at hk <;> first | (cases hk; done) | skip
    case max =>
      simp only [evOp, oCall, evBuiltin] at e
      split at e
      · rename_i l hl
        have h1 := OpR.list hl0 hl
        split at e
        · rename_i y l
          simp only [Option.map_eq_some_iff] at e
          obtain ⟨r, ⟨v, hv, rfl⟩, e⟩ := e
          cases e
          simp only [VRs] at h1
          obtain ⟨Y, L, h1, hy, hl⟩ := h1
          refine ⟨rfl, v, rfl, fun w => ?_⟩
          obtain ⟨V, r1, r2⟩ := foldI_run (P := P) (g := Builtin.max2) (fun k j x y w => by simp [Builtin.max2]) hv hy hl w
          refine ⟨V, ?_, r2⟩
          simp [execOp, resolve, invoke, builtin, Builtin.max_, h1, r1]
        · simp at e
      · cases e
    case min =>
      simp only [evOp, oCall, evBuiltin] at e
      split at e
      · rename_i l hl
        have h1 := OpR.list hl0 hl
        split at e
        · rename_i y l
          simp only [Option.map_eq_some_iff] at e
          obtain ⟨r, ⟨v, hv, rfl⟩, e⟩ := e
          cases e
          simp only [VRs] at h1
          obtain ⟨Y, L, h1, hy, hl⟩ := h1
          refine ⟨rfl, v, rfl, fun w => ?_⟩
          obtain ⟨V, r1, r2⟩ := foldI_run (P := P) (g := Builtin.min2) (fun k j x y w => by simp [Builtin.min2]) hv hy hl w
          refine ⟨V, ?_, r2⟩
          simp [execOp, resolve, invoke, builtin, Builtin.min_, h1, r1]
        · simp at e
      · cases e
end Go.Proofs.YtkebbdpfjhhdhaaGreat.Ev

/- One operation: those that read or write memory. -/
namespace Go.Proofs.YtkebbdpfjhhdhaaGreat.Ev
variable {P : Program}

/-- what an operation comes to -/
def Res (P : Program) (top : Nat) (E : Env) (h : Heap) (W : World) (x : ANext) (g : Heap) (r : Result Next) : Prop :=
  match x with
  | .value v => ∃ E' W' V, r = .ok (.value V) W' ∧ Ext E E' h g W W' ∧ HR top E' g W' ∧ VR E' v V
  | .skip => ∃ E' W', r = .ok .skip W' ∧ Ext E E' h g W W' ∧ HR top E' g W'
  | .enter f args => g = h ∧ ∃ L, r = (callFunc f L.toArray).run P W ∧ VRs E args L
  | .round l args => g = h ∧ ∃ L b c, E l = some (b, c) ∧ r = (Instr.yield b L.toArray).run P W ∧ VRs E args L

theorem PureO.res {top : Nat} {E : Env} {h g : Heap} {A : Act} {o : Oper} {x : ANext} {W : World} (p : PureO P E h A o x g) (k : HR top E h W) : Res P top E h W x g ((execOp A.eval o).run P W) := by
  obtain ⟨rfl, v, rfl, hw⟩ := p
  obtain ⟨V, h1, h2⟩ := hw W
  exact ⟨E, W, V, h1, Ext.refl _ _ _, k, h2⟩

/-! rows -/
theorem HR.rowAt {top : Nat} {E : Env} {h : Heap} {W : World} (k : HR top E h W) {i : Nat} {l : List AV} (hr : h.row i = some l) : ∃ b c Z L X t, E i = some (b, c) ∧ W.heap[b]? = some (.cells (Z ++ (L ++ X)).toArray t (0, 0)) ∧ VRs E l L ∧ Z.length = c.2 := by
  unfold Heap.row at hr
  split at hr
  · rename_i t hg
    cases hr
    obtain ⟨b, c, O, e1, e2, L, b2, c2, e3, rfl, e4, e5⟩ := k.obj i _ hg
    rw [e1] at e4
    cases e4
    exact ⟨b, c, [], L, [], t, e1, by simpa using e2, e3, e5.symm⟩
  · rename_i t sz hg
    cases hr
    obtain ⟨b, c, O, e1, e2, Z, L, X, b', c', e3, rfl, e4, _, _, e5⟩ := k.obj i _ hg
    rw [e1] at e4
    cases e4
    exact ⟨b, c, Z, L, X, t, e1, e2, e3, e5⟩
  · cases hr
theorem cell_row' {W : World} {b : Nat} {C : Array Value} {t : TypeId} {fr : Nat × Nat} (h : W.heap[b]? = some (.cells C t fr)) (off : Nat) : W.cell? ⟨b, off, none⟩ = C[off]? := by simp [World.cell?, h]
theorem cell_row {W : World} {b : Nat} {C : Array Value} {t : TypeId} (h : W.heap[b]? = some (.cells C t (0, 0))) (off : Nat) : W.cell? ⟨b, off, none⟩ = C[off]? := cell_row' h off
theorem run_loadRow' {W : World} {b : Nat} {C : Array Value} {t : TypeId} {fr : Nat × Nat} (h : W.heap[b]? = some (.cells C t fr)) (off n : Nat) (hn : off + n ≤ C.size) : (loadCells ⟨b, off, none⟩ n).run P W = .ok (C.extract off (off + n)) W := by
  have := run_loadCellsFrom (P := P) (w := W) ⟨b, off, none⟩ (fun j => C.getD (off + j) undef) n 0 #[] (fun j hj => by
    rw [add_none, cell_row' h, Nat.zero_add]
    simp [Array.getD, show off + j < C.size from by omega])
  unfold loadCells
  rw [this]
  congr 1
  apply Array.ext
  · simp; omega
  · intro i h1 h2
    simp at h1 h2
    simp [show off + i < C.size from by omega]
theorem run_loadRow {W : World} {b : Nat} {C : Array Value} {t : TypeId} (h : W.heap[b]? = some (.cells C t (0, 0))) (off n : Nat) (hn : off + n ≤ C.size) : (loadCells ⟨b, off, none⟩ n).run P W = .ok (C.extract off (off + n)) W := run_loadRow' h off n hn
theorem readF_eq {E : Env} {f : Nat → Option AV} {C : Array Value} {z : Nat} (k : ∀ o v, f o = some v → ∃ V, C[o + z]? = some V ∧ VR E v V) : ∀ {n off : Nat} {l : List AV}, readF f off n = some l → (n = 0 ∨ off + z + n ≤ C.size) ∧ VRs E l ((C.toList.drop (off + z)).take n) ∧ l.length = n
  | 0, off, l, h => by simp [readF] at h; subst h; simp [VRs.nil]
  | n + 1, off, l, h => by
    simp only [readF] at h
    split at h
    · rename_i v l' hv hl
      cases h
      obtain ⟨V, h1, h2⟩ := k off v hv
      obtain ⟨h3, h4, h5⟩ := readF_eq k hl
      have hlt := (Array.getElem?_eq_some_iff.1 h1).1
      refine ⟨.inr (by rcases h3 with h3 | h3 <;> omega), ?_, by simp [h5]⟩
      have e : C.toList.drop (off + z) = V :: C.toList.drop (off + 1 + z) := by
        rw [List.drop_eq_getElem_cons (by simpa using hlt), Nat.add_right_comm off z 1]
        congr 1
        have := (Array.getElem?_eq_some_iff.1 h1).2
        simpa using this
      rw [e, List.take_succ_cons]
      exact VRs.cons h2 h4
    · cases h
/-- what stands in a row or a view, as the model has it -/
theorem HR.load {top : Nat} {E : Env} {h : Heap} {W : World} (k : HR top E h W) {i off n : Nat} {l : List AV} (hl : h.loadN i off n = some l) {b : Nat} {c : Nat × Nat} (hE : E i = some (b, c)) : ∃ L, (∀ w, w.heap = W.heap → (loadCells ⟨b, off + c.2, none⟩ n).run P w = .ok L.toArray w) ∧ VRs E l L ∧ L.length = n := by
  have row : ∀ {r : List AV} {Z L X : List Value} {t : TypeId}, W.heap[b]? = some (.cells (Z ++ (L ++ X)).toArray t (0, 0)) → VRs E r L → Z.length = c.2 → takeN n (dropN off r) = some l → ∃ L, (∀ w, w.heap = W.heap → (loadCells ⟨b, off + c.2, none⟩ n).run P w = .ok L.toArray w) ∧ VRs E l L ∧ L.length = n := fun {r Z L X t} e2 e3 hz hl => by
    rw [dropN_eq] at hl
    obtain ⟨h1, rfl⟩ := takeN_eq hl
    have hlen := e3.len
    simp only [List.length_drop] at h1
    rcases Nat.eq_zero_or_pos n with h0 | h0
    · subst h0
      exact ⟨[], fun w _ => by simp [loadCells, loadCellsFrom], by simp [VRs.nil], rfl⟩
    · refine ⟨(L.drop off).take n, fun w hw => ?_, (e3.drop off).take n, by simp; omega⟩
      rw [run_loadRow (by rw [hw]; exact e2) (off + c.2) n (by simp; omega)]
      congr 1
      apply Array.ext'
      simp only [Array.toList_extract, List.extract]
      rw [show off + c.2 + n - (off + c.2) = n from by omega, show off + c.2 = Z.length + off from by omega, List.drop_append, List.drop_eq_nil_of_le (show Z.length ≤ Z.length + off by omega), Nat.add_sub_cancel_left, List.nil_append, List.drop_append_of_le_length (by omega), List.take_append_of_le_length (by simp; omega)]
  unfold Heap.loadN at hl
  split at hl
  · rename_i r t hg
    obtain ⟨b', c', Z, L, X, t, e1, e2, e3, e4⟩ := k.rowAt (show h.row i = some r by unfold Heap.row; rw [hg])
    rw [hE] at e1
    cases e1
    exact row e2 e3 e4 hl
  · rename_i r t sz hg
    obtain ⟨b', c', Z, L, X, t, e1, e2, e3, e4⟩ := k.rowAt (show h.row i = some r by unfold Heap.row; rw [hg])
    rw [hE] at e1
    cases e1
    exact row e2 e3 e4 hl
  · rename_i f hg
    obtain ⟨b', c', O, e1, e2, C, t, fr, b3, c3, rfl, e4, e3⟩ := k.obj i _ hg
    rw [hE] at e1 e4
    cases e1
    cases e4
    obtain ⟨h1, h2, h3⟩ := readF_eq e3 hl
    rcases Nat.eq_zero_or_pos n with h0 | h0
    · subst h0
      exact ⟨[], fun w _ => by simp [loadCells, loadCellsFrom], by simpa using h2, rfl⟩
    · have h4 : off + c.2 + n ≤ C.size := by rcases h1 with h1 | h1 <;> omega
      refine ⟨(C.toList.drop (off + c.2)).take n, fun w hw => ?_, h2, by simp; omega⟩
      rw [run_loadRow' (by rw [hw]; exact e2) (off + c.2) n h4]
      congr 1
      apply Array.ext'
      simp only [Array.toList_extract, List.extract]
      rw [show off + c.2 + n - (off + c.2) = n from by omega]
  · cases hl
theorem HR.loadV {top : Nat} {E : Env} {h : Heap} {W : World} (k : HR top E h W) {t : TypeId} {i off : Nat} {v : AV} (hv : evLoad P h t i off = some v) {b : Nat} {c : Nat × Nat} (hE : E i = some (b, c)) : ∃ V, (loadVar t ⟨b, off + c.2, none⟩).run P W = .ok V W ∧ VR E v V := by
  unfold evLoad at hv
  split at hv
  · rename_i s ha hs
    simp only [Option.map_eq_some_iff] at hv
    obtain ⟨l, hl, rfl⟩ := hv
    obtain ⟨L, h1, h2, _⟩ := k.load (P := P) hl hE
    exact ⟨.agg L.toArray, by simp [loadVar, run_aggT ha, run_size hs, h1 W rfl], by simp only [VR]; exact ⟨L, rfl, h2⟩⟩
  · rename_i ha
    have row : ∀ {r : List AV}, h.row i = some r → nthN off r = some v → ∃ V, W.cell? ⟨b, off + c.2, none⟩ = some V ∧ VR E v V := fun {r} hr hv => by
      obtain ⟨b', c', Z, L, X, t', e1, e2, e3, e4⟩ := k.rowAt hr
      rw [hE] at e1
      cases e1
      rw [nthN_eq] at hv
      obtain ⟨V, h1, h2⟩ := e3.get hv
      refine ⟨V, ?_, h2⟩
      rw [cell_row e2]
      have := (List.getElem?_eq_some_iff.1 h1).1
      rw [← e4, Nat.add_comm off]
      simp [List.getElem?_append_right, List.getElem?_append_left this, h1]
    have hc : ∃ V, W.cell? ⟨b, off + c.2, none⟩ = some V ∧ VR E v V := by
      unfold Heap.at1 at hv
      split at hv
      · rename_i r t hg; exact row (show h.row i = some r by unfold Heap.row; rw [hg]) hv
      · rename_i r t sz hg; exact row (show h.row i = some r by unfold Heap.row; rw [hg]) hv
      · rename_i f hg
        obtain ⟨b', c', O, e1, e2, C, t, fr, b3, c3, rfl, e4, e3⟩ := k.obj i _ hg
        rw [hE] at e1 e4
        cases e1
        cases e4
        obtain ⟨V, h1, h2⟩ := e3 off v hv
        exact ⟨V, by rw [cell_row' e2, h1], h2⟩
      · cases hv
    obtain ⟨V, h3, h2⟩ := hc
    exact ⟨V, by simp [loadVar, run_aggT ha, h3], h2⟩
  · cases hv

theorem VR.oneCell {E : Env} {v : AV} {V : Value} (h : VR E v V) (ho : okCell v = true) : V.oneCell' = true := by
  cases v <;> simp only [VR] at h <;> first
    | (subst h; rfl)
    | (obtain ⟨_, _, _, rfl⟩ := h; rfl)
    | (obtain ⟨_, _, _, rfl, _⟩ := h; rfl)
    | (obtain ⟨_, _, _, _, _, rfl⟩ := h; rfl)
    | (obtain ⟨_, rfl, _⟩ := h; first | rfl | (simp [okCell] at ho))
theorem VRs.oneCells {E : Env} : ∀ {l L}, VRs E l L → l.all okCell = true → ∀ V ∈ L, V.oneCell' = true
  | [], _, h, _, V, hV => by simp only [VRs] at h; subst h; cases hV
  | v :: l, _, h, ho, V, hV => by
    simp only [VRs] at h
    obtain ⟨U, L, rfl, h1, h2⟩ := h
    simp only [List.all_cons, Bool.and_eq_true] at ho
    rcases List.mem_cons.1 hV with rfl | hV
    · exact h1.oneCell ho.1
    · exact h2.oneCells ho.2 V hV

/-- a store into a row -/
theorem HR.store {top : Nat} {E : Env} {h g : Heap} {W : World} (k : HR top E h W) {i off : Nat} {xs : List AV} (hs : h.storeN i off xs = some g) {b : Nat} {c : Nat × Nat} (hE : E i = some (b, c)) {Xs : List Value} (hx : VRs E xs Xs) (ho : xs.all okCell = true) :
    ∃ W', (storeCells ⟨b, off + c.2, none⟩ Xs).run P W = .ok () W' ∧ Ext E E h g W W' ∧ HR top E g W' := by
  unfold Heap.storeN at hs
  simp only [Option.bind_eq_bind, Option.bind_eq_some_iff] at hs
  obtain ⟨r, hr, n, hn, hs⟩ := hs
  obtain ⟨h1, rfl⟩ := overN_eq hn
  have hxl := hx.len
  unfold Heap.setRow at hs
  split at hs
  · rename_i l t hg
    have hr' : r = l := by unfold Heap.row at hr; rw [hg] at hr; cases hr; rfl
    subst hr'
    obtain ⟨b', c', O, e1, e2, L, b3, c3, e3, rfl, e4, e5⟩ := k.obj i _ hg
    rw [hE] at e1 e4
    cases e1
    cases e4
    have hl := e3.len
    rw [e5, Nat.add_zero]
    have hst := run_storeCells_at (P := P) b off t Xs 0 L.toArray W e2 (by simp; omega) (hx.oneCells ho)
    simp only [Nat.add_zero] at hst
    obtain ⟨h2, h3⟩ := k.set hs hE (W.setRow b (L.take off ++ Xs ++ L.drop (off + Xs.length)).toArray) (.cells (L.take off ++ Xs ++ L.drop (off + Xs.length)).toArray t (0, 0))
      (setRow_heap _ _ _ _ _ _ e2) ⟨_, b, c, by rw [hxl]; exact ((e3.take off).append hx).append (e3.drop _), rfl, hE, e5⟩ (fun q hq => setRow_other _ _ _ _ hq) (by simp) rfl rfl rfl
    exact ⟨_, hst, h3, h2⟩
  · rename_i l t sz hg
    have hr' : r = l := by unfold Heap.row at hr; rw [hg] at hr; cases hr; rfl
    subst hr'
    obtain ⟨b', c', O, e1, e2, Z, L, X, b2, c2, e3, rfl, e4, e5, e6, e7⟩ := k.obj i _ hg
    rw [hE] at e1 e4
    cases e1
    cases e4
    have hl := e3.len
    have hst := run_storeCells_at (P := P) b (off + c.2) t Xs 0 (Z ++ (L ++ X)).toArray W e2 (by simp; omega) (hx.oneCells ho)
    simp only [Nat.add_zero] at hst
    have heq : (Z ++ (L ++ X)).take (off + c.2) ++ Xs ++ (Z ++ (L ++ X)).drop (off + c.2 + Xs.length) = Z ++ ((L.take off ++ Xs ++ L.drop (off + Xs.length)) ++ X) := by
      rw [show off + c.2 = Z.length + off from by omega, List.take_append, List.take_of_length_le (show Z.length ≤ Z.length + off by omega), Nat.add_sub_cancel_left, show Z.length + off + Xs.length = Z.length + (off + Xs.length) from by omega, List.drop_append, List.drop_eq_nil_of_le (show Z.length ≤ Z.length + (off + Xs.length) by omega), Nat.add_sub_cancel_left, List.nil_append, List.take_append_of_le_length (by omega), List.drop_append_of_le_length (by omega)]
      simp
    rw [heq] at hst
    obtain ⟨h2, h3⟩ := k.set hs hE (W.setRow b (Z ++ ((L.take off ++ Xs ++ L.drop (off + Xs.length)) ++ X)).toArray) (.cells (Z ++ ((L.take off ++ Xs ++ L.drop (off + Xs.length)) ++ X)).toArray t (0, 0))
      (setRow_heap _ _ _ _ _ _ e2) ⟨Z, _, X, b, c, by rw [hxl]; exact ((e3.take off).append hx).append (e3.drop _), rfl, hE, by rw [← e5]; simp; omega, e6, e7⟩ (fun q hq => setRow_other _ _ _ _ hq) (by simp) rfl rfl rfl
    exact ⟨_, hst, h3, h2⟩
  · cases hs

theorem newV_eq {h g : Heap} {o : AObj} {f : Nat → AV} {x : ANext} (e : newV h o f = some (x, g)) : x = .value (f h.next) ∧ g = (h.new o).2 := by
  unfold newV at e
  cases e
  exact ⟨rfl, rfl⟩
/-- a new block of cells -/
theorem HR.newCells {top : Nat} {E : Env} {h : Heap} {W : World} (k : HR top E h W) (ht : h.next + 1 ≤ top) {l : List AV} {L : List Value} (hl : VRs E l L) (t : TypeId) :
    HR top (E.put h.next (W.heap.size, (0, 0))) (h.new (.cells l t)).2 (W.alloc (.cells L.toArray t)) ∧ Ext E (E.put h.next (W.heap.size, (0, 0))) h (h.new (.cells l t)).2 W (W.alloc (.cells L.toArray t)) ∧ (E.put h.next (W.heap.size, (0, 0))) h.next = some (W.heap.size, (0, 0)) :=
  k.new ht (.cells l t) _ (0, 0) ⟨L, _, _, hl.mono (Env.put_le (k.lt _ (Nat.le_refl _) (by omega))), rfl, if_pos rfl, rfl⟩
end Go.Proofs.YtkebbdpfjhhdhaaGreat.Ev

/- One operation: slices and maps. -/
namespace Go.Proofs.YtkebbdpfjhhdhaaGreat.Ev
variable {P : Program}

theorem bound_run {E : Env} {v : AV} {most n : Nat} (h : boundIn v most = some n) {V : Value} (hv : VR E v V) (code : BoundsCode) (w : World) : (Instr.sliceBound V most code).run P w = .ok n w ∧ n ≤ most := by
  unfold boundIn at h
  split at h
  · rename_i k i
    simp only [VR] at hv
    subst hv
    split at h
    · rename_i hi
      cases h
      exact ⟨by simp [Instr.sliceBound, asIntOf, hi], by omega⟩
    · cases h
  · cases h

theorem range_rep (Z : Array Value) : ∀ n, (Array.range (n * Z.size)).map (fun i => Z[i % Z.size]!) = (List.replicate n Z.toList).flatten.toArray := by
  intro n
  apply Array.ext'
  simp only [Array.toList_map, Array.toList_range]
  induction n with
  | zero => simp
  | succ n ih =>
    rw [show (n + 1) * Z.size = Z.size + n * Z.size from by rw [Nat.add_mul]; omega, List.range_add, List.map_append, List.replicate_succ, List.flatten_cons]
    simp only [List.map_map]
    have e1 : (List.range Z.size).map (fun i => Z[i % Z.size]!) = Z.toList := by
      apply List.ext_getElem
      · simp
      · intro i h1 h2
        simp at h1
        simp [Nat.mod_eq_of_lt h1, h1]
    have e2 : (fun i => Z[i % Z.size]!) ∘ (fun x => Z.size + x) = fun i => Z[i % Z.size]! := by
      funext i
      simp
    rw [e1, e2, ih]

theorem knownN_le {top : Nat} {E : Env} {h : Heap} {W : World} (k : HR top E h W) {i s b : Nat} {c : Nat × Nat} (hE : E i = some (b, c)) : knownN h i s ≤ c.1 := by
  unfold knownN
  split
  · rename_i l t s' hg
    split
    · rename_i hs
      subst hs
      obtain ⟨b', c', O, e1, e2, Z, L, X, b2, c2, e3, rfl, e4, e5, e6, e7⟩ := k.obj i _ hg
      rw [hE] at e1 e4
      cases e1
      cases e4
      have hl := e3.len
      rw [List.length_append] at e5
      exact Nat.div_le_of_le_mul (by rw [Nat.mul_comm]; omega)
    · exact Nat.zero_le _
  · exact Nat.zero_le _

/-- optional bounds -/
def optR (E : Env) : Option AV → Option Value → Prop
  | none, V => V = none
  | some v, V => ∃ U, V = some U ∧ VR E v U
theorem optO_run {E : Env} {a : AAct} {A : Act} {x : Option Operand} {v : Option AV} (h : optO a.eval x = some v) (hR : ∀ y ∈ x, ∀ u, a.eval y = some u → VR E u (A.eval y)) : optR E v (x.map A.eval) := by
  cases x with
  | none => simp [optO] at h; subst h; rfl
  | some y =>
    simp only [optO, Option.map_eq_some_iff] at h
    obtain ⟨u, hu, rfl⟩ := h
    exact ⟨_, rfl, hR y rfl u hu⟩

theorem bounds_run {E : Env} {mx hi lo : Option AV} {Mx Hi Lo : Option Value} (hm : optR E mx Mx) (hh : optR E hi Hi) (hl : optR E lo Lo) {isS : Bool} {len cap m b a : Nat} (w : World)
    (em : optB mx cap cap = some m) (eh : optB hi m len = some b) (el : optB lo b 0 = some a) (hx : mx.isSome → hi.isSome) :
    (Instr.sliceBounds isS len cap Lo Hi Mx).run P w = .ok (a, b, m) w := by
  cases mx with
  | none =>
    simp only [optR] at hm
    subst hm
    simp only [optB] at em
    cases em
    cases hi with
    | none =>
      simp only [optR] at hh
      subst hh
      simp only [optB] at eh
      cases eh
      cases lo with
      | none => simp only [optR] at hl; subst hl; simp only [optB] at el; cases el; simp [Instr.sliceBounds]
      | some v => obtain ⟨V, rfl, hv⟩ := hl; simp only [optB] at el; simp [Instr.sliceBounds, (bound_run (P := P) el hv _ w).1]
    | some u =>
      obtain ⟨U, rfl, hu⟩ := hh
      simp only [optB] at eh
      cases lo with
      | none => simp only [optR] at hl; subst hl; simp only [optB] at el; cases el; simp [Instr.sliceBounds, (bound_run (P := P) eh hu _ w).1]
      | some v => obtain ⟨V, rfl, hv⟩ := hl; simp only [optB] at el; simp [Instr.sliceBounds, (bound_run (P := P) eh hu _ w).1, (bound_run (P := P) el hv _ w).1]
  | some x =>
    obtain ⟨X, rfl, hx'⟩ := hm
    simp only [optB] at em
    cases hi with
    | none => exact absurd (hx rfl) (by simp)
    | some u =>
      obtain ⟨U, rfl, hu⟩ := hh
      simp only [optB] at eh
      cases lo with
      | none => simp only [optR] at hl; subst hl; simp only [optB] at el; cases el; simp [Instr.sliceBounds, (bound_run (P := P) em hx' _ w).1, (bound_run (P := P) eh hu _ w).1]
      | some v => obtain ⟨V, rfl, hv⟩ := hl; simp only [optB] at el; simp [Instr.sliceBounds, (bound_run (P := P) em hx' _ w).1, (bound_run (P := P) eh hu _ w).1, (bound_run (P := P) el hv _ w).1]

theorem bound_more {v : AV} {m m' n : Nat} (h : boundIn v m = some n) (hm : m ≤ m') : boundIn v m' = some n := by
  unfold boundIn at h ⊢
  split at h
  · split at h
    · rename_i hi; cases h; rw [if_pos (by omega)]
    · cases h
  · cases h
theorem optB_le {v : Option AV} {m d n : Nat} (h : optB v m d = some n) (hs : v.isSome) : n ≤ m := by
  cases v with
  | none => cases hs
  | some v =>
    simp only [optB, boundIn] at h
    split at h
    · split at h
      · cases h; omega
      · cases h
    · cases h

theorem optB_zero {v : Option AV} {n : Nat} (h : optB v 0 0 = some n) : n = 0 := by
  cases v with
  | none => simp only [optB] at h; cases h; rfl
  | some v => have := optB_le h rfl; omega
theorem evSlice_run {top : Nat} {E : Env} {h : Heap} {W : World} (k : HR top E h W) {t : TypeId} {x v : AV} {lo hi mx : Option AV} {X : Value} {Lo Hi Mx : Option Value} (e : evSlice P h t x lo hi mx = some v) (hx : VR E x X) (hl : optR E lo Lo) (hh : optR E hi Hi) (hm : optR E mx Mx) :
    ∃ V, (Instr.sliceAt t X Lo Hi Mx).run P W = .ok V W ∧ VR E v V := by
  unfold evSlice at e
  split at e
  · cases e
  · rename_i hg
    have hg' : mx.isSome → hi.isSome := fun h1 => by
      cases hi with
      | some _ => rfl
      | none => simp [h1] at hg
    split at e
    · rename_i s ht
      simp only [VR] at hx
      subst hx
      split at e
      · rename_i b hb
        simp only [Option.map_eq_some_iff] at e
        obtain ⟨a, ha, rfl⟩ := e
        simp only [optR] at hm
        subst hm
        have hs : (⟨s.toArray⟩ : ByteArray).size = s.length := by show (s.toArray).size = _; simp
        have hr := bounds_run (P := P) (mx := none) (Mx := none) (isS := false) (len := s.length) (cap := s.length) rfl hh hl W rfl hb ha (by simp)
        refine ⟨.string ⟨(List.take (b - a) (List.drop a s)).toArray⟩, ?_, by simp only [VR]⟩
        simp only [Instr.sliceAt, Sem.run_bind, run_underlying ht, Result.andThen_ok, Instr.slice, hs]
        simp only [Option.isSome_none, Bool.false_eq_true, if_false, Sem.run_bind, hr, Result.andThen_ok, Sem.run_pure]
        congr 2
        apply ByteArray.ext
        apply Array.ext'
        simp [List.extract]
      · cases e
    · rename_i el ht
      simp only [VR] at hx
      subst hx
      split at e
      · rename_i s m hs hm1
        split at e
        · rename_i b hb
          split at e
          · rename_i a ha
            cases e
            have h1 := optB_zero hm1
            subst h1
            have h2 := optB_zero hb
            subst h2
            have h3 := optB_zero ha
            subst h3
            have hr := bounds_run (P := P) (isS := true) hm hh hl W hm1 hb ha hg'
            refine ⟨.slice none 0 0, ?_, by simp only [VR]⟩
            simp only [Instr.sliceAt, Sem.run_bind, run_underlying ht, Result.andThen_ok, Instr.slice, hr, run_size hs, Sem.run_pure]
            simp
          · cases e
        · cases e
      · cases e
    · rename_i el i off len cap ht
      simp only [Option.bind_eq_some_iff] at e
      obtain ⟨s, hs, e⟩ := e
      unfold evSliceK at e
      split at e
      · rename_i m hm1
        split at e
        · rename_i b hb
          split at e
          · rename_i a ha
            cases e
            simp only [VR] at hx
            obtain ⟨bb, c, hE, rfl⟩ := hx
            have hr := bounds_run (P := P) (isS := true) hm hh hl W hm1 hb ha hg'
            refine ⟨.slice (some ⟨bb, (if m = a then off else off + a * s) + c.2, none⟩) (b - a) (m - a), ?_, by simp only [VR]; exact ⟨bb, c, hE, rfl⟩⟩
            simp only [Instr.sliceAt, Sem.run_bind, run_underlying ht, Result.andThen_ok, Instr.slice, hr, run_size hs, Option.map_some, Sem.run_pure, add_none]
            split <;> first | rfl | rw [Nat.add_right_comm off c.2]
          · cases e
        · cases e
      · cases e
    · rename_i el i off len d ht
      simp only [VR] at hx
      obtain ⟨bb, c, hE, rfl⟩ := hx
      split at e
      · rename_i s hs
        have hkn := knownN_le (s := s) k hE
        unfold evSliceM at e
        simp only [optR] at hm
        subst hm
        split at e
        · rename_i b hb
          split at e
          · rename_i a ha
            split at e
            · rename_i hc
              cases e
              have hb' : optB hi (c.1 - d) len = some b := by
                cases hi with
                | none => exact hb
                | some u => exact bound_more hb (by omega)
              have hr := bounds_run (P := P) (mx := none) (Mx := none) (isS := true) (len := len) (cap := c.1 - d) rfl hh hl W rfl hb' ha (by simp)
              refine ⟨.slice (some ⟨bb, off + a * s + c.2, none⟩) (b - a) (c.1 - d - a), ?_, by simp only [VR]; exact ⟨bb, c, hE, by rw [Nat.sub_sub]⟩⟩
              simp only [Instr.sliceAt, Sem.run_bind, run_underlying ht, Result.andThen_ok, Instr.slice, hr, run_size hs, Option.map_some, Sem.run_pure, add_none]
              split
              · rename_i h0
                rcases hc with rfl | hc
                · simp
                · omega
              · rw [Nat.add_right_comm off c.2]
            · split at e
              · rename_i hba
                cases e
                have hb' : optB hi (c.1 - d) len = some b := by
                  cases hi with
                  | none => exact hb
                  | some u => exact bound_more hb (by omega)
                have hr := bounds_run (P := P) (mx := none) (Mx := none) (isS := true) (len := len) (cap := c.1 - d) rfl hh hl W rfl hb' ha (by simp)
                refine ⟨.slice (some ⟨bb, if c.1 - d = a then off + c.2 else off + c.2 + a * s, none⟩) 0 (c.1 - d - a), ?_, by
                  simp only [VR]
                  refine ⟨bb, c, hE, _, ?_, by rw [Nat.sub_sub]⟩
                  by_cases h0 : c.1 - d = a
                  · exact .inr (by omega)
                  · exact .inl (by rw [if_neg h0, Nat.add_right_comm])⟩
                rw [hba] at hr
                simp only [Instr.sliceAt, Sem.run_bind, run_underlying ht, Result.andThen_ok, Instr.slice, hr, run_size hs, Option.map_some, Sem.run_pure, add_none, Nat.sub_self]
                split <;> rfl
              · cases e
          · cases e
        · cases e
      · rename_i s v hs
        have hkn := knownN_le (s := s) k hE
        unfold evSliceX at e
        split at e
        · rename_i m hm1
          split at e
          · rename_i hv
            split at e
            · rename_i b hb
              split at e
              · rename_i a ha
                cases e
                have hm' : optB (some v) (c.1 - d) (c.1 - d) = some m := bound_more hm1 (by omega)
                have hr := bounds_run (P := P) (isS := true) (len := len) hm hh hl W hm' (show optB (some hv) m len = some b from hb) ha (by simp)
                refine ⟨.slice (some ⟨bb, (if m = a then off else off + a * s) + c.2, none⟩) (b - a) (m - a), ?_, by simp only [VR]; exact ⟨bb, c, hE, rfl⟩⟩
                simp only [Instr.sliceAt, Sem.run_bind, run_underlying ht, Result.andThen_ok, Instr.slice, hr, run_size hs, Option.map_some, Sem.run_pure, add_none]
                split <;> first | rfl | rw [Nat.add_right_comm off c.2]
              · cases e
            · cases e
          · cases e
        · cases e
      · cases e
    · rename_i n el i off ht
      simp only [Option.bind_eq_some_iff] at e
      obtain ⟨s, hs, e⟩ := e
      unfold evSliceK at e
      split at e
      · rename_i m hm1
        split at e
        · rename_i b hb
          split at e
          · rename_i a ha
            cases e
            simp only [VR] at hx
            obtain ⟨bb, c, hE, rfl⟩ := hx
            have hr := bounds_run (P := P) (isS := false) hm hh hl W hm1 hb ha hg'
            refine ⟨.slice (some ⟨bb, (if m = a then off else off + a * s) + c.2, none⟩) (b - a) (m - a), ?_, by simp only [VR]; exact ⟨bb, c, hE, rfl⟩⟩
            simp only [Instr.sliceAt, Sem.run_bind, run_underlying ht, Result.andThen_ok, Instr.sureAddr, hr, run_size hs, Sem.run_pure, add_none]
            split <;> first | rfl | rw [Nat.add_right_comm off c.2]
          · cases e
        · cases e
      · cases e
    · cases e

/-! maps -/
def notCells : Obj → Bool
  | .cells .. => false
  | _ => true
theorem run_getObj' {W : World} {r : Nat} {O : Obj} (h : W.heap[r]? = some O) (hn : notCells O = true) : (getObj r).run P W = .ok O W := by
  unfold getObj
  simp only [Sem.run, h]
  cases O <;> first | rfl | (cases hn)
theorem run_setObj' {W : World} {r : Nat} {O : Obj} (O' : Obj) (h : W.heap[r]? = some O) (hn : notCells O = true) : (setObj r O').run P W = .ok () (W.putObj r O') := by
  unfold setObj
  simp only [Sem.run, h]
  cases O <;> first | rfl | (cases hn)
theorem checkItems {E : Env} {w : World} {b : Bool} {n : Nat} {e : TypeId} {j : IntKind} (he : P.underlying e = some (.int j)) (hs : sizeT P e = some 1) {cs : List AV} {Cs : List Value} (hx : VRs E cs Cs) (ha : allI cs = true) :
    ∀ (m k : Nat), k + m ≤ cs.length → (forIn (List.range' k m) PUnit.unit fun i _ => do
      let s ← sizeOf e
      let v ← part e Cs.toArray (i * s)
      Instr.checkKey b (n + 1) e v
      pure (ForInStep.yield PUnit.unit) : Sem PUnit).run P w = .ok PUnit.unit w
  | 0, k, _ => by simp
  | m + 1, k, hm => by
    have hk : k < cs.length := by omega
    have hint : ∃ i a, cs[k] = .int i a := by
      have : ∀ (l : List AV), allI l = true → ∀ x ∈ l, ∃ i a, x = .int i a := by
        intro l
        induction l with
        | nil => intro _ x hx; cases hx
        | cons y r ih =>
          intro h x hx
          cases y <;> simp [allI] at h
          rcases List.mem_cons.1 hx with rfl | hx
          · exact ⟨_, _, rfl⟩
          · exact ih h x hx
      exact this cs ha _ (List.getElem_mem hk)
    obtain ⟨i, a, hi⟩ := hint
    obtain ⟨X, p1, v1⟩ := run_partE (partE_int he (l := cs) (k := k) (v := .int i a) (by rw [List.getElem?_eq_getElem hk, hi])) hx w
    simp only [VR] at v1
    subst v1
    rw [List.range'_succ]
    have ih := checkItems (w := w) (b := b) (n := n) he hs hx ha m (k + 1) (by omega)
    have p2 : (Instr.checkKey b (n + 1) e (.int i a)).run P w = .ok () w := by simp [Instr.checkKey, run_underlying he]
    simp only [List.forIn_cons, Sem.run_bind, run_size hs, Result.andThen_ok, Nat.mul_one, p1, p2, Sem.run_pure]
    exact ih
theorem intFields_at {fs : List Field} : ∀ {i : Nat}, intFields P fs i = true → ∀ (k : Nat) (f : Field), fs[k]? = some f → f.name ≠ "_" ∧ f.offset = i + k ∧ (∃ j, P.underlying f.type = some (.int j)) ∧ sizeT P f.type = some 1 := by
  induction fs with
  | nil => intro i _ k f h; simp at h
  | cons f0 fs ih =>
    intro i h k f hk
    unfold intFields at h
    simp only [Bool.and_eq_true] at h
    obtain ⟨h1, h2, h3, h4⟩ := h
    cases k with
    | zero =>
      simp only [List.getElem?_cons_zero, Option.some.injEq] at hk
      subst hk
      refine ⟨fun e => by simp [e] at h1, by have := Nat.eq_of_beq_eq_true h2; omega, ?_⟩
      split at h3
      · rename_i j a b; exact ⟨⟨j, a⟩, b⟩
      · cases h3
    | succ k =>
      obtain ⟨g1, g2, g3⟩ := ih h4 k f (by simpa using hk)
      exact ⟨g1, by omega, g3⟩
theorem allI_at : ∀ {l : List AV}, allI l = true → ∀ {k : Nat}, k < l.length → ∃ i a, l[k]? = some (.int i a)
  | [], _, k, h => by simp at h
  | x :: l, h, 0, _ => by
    cases x <;> simp [allI] at h
    exact ⟨_, _, rfl⟩
  | x :: l, h, k + 1, hk => by
    cases x <;> simp [allI] at h
    exact allI_at h (by simpa using hk)
theorem checkFields {E : Env} {w : World} {b : Bool} {n : Nat} {cs : List AV} {Cs : List Value} (hx : VRs E cs Cs) (ha : allI cs = true) : ∀ {fs : List Field} {i : Nat}, intFields P fs i = true → i + fs.length = cs.length →
    (forIn fs PUnit.unit (fun f _ => do
      if f.name ≠ "_" then Instr.checkKey b (n + 1) f.type (← part f.type Cs.toArray f.offset)
      pure (ForInStep.yield PUnit.unit) : Field → PUnit → Sem (ForInStep PUnit))).run P w = .ok PUnit.unit w
  | [], i, _, _ => by simp
  | f :: fs, i, h, hl => by
    obtain ⟨g1, g2, ⟨j, g3⟩, g4⟩ := intFields_at h 0 f rfl
    obtain ⟨k, a, hi⟩ := allI_at ha (k := i) (by simp at hl; omega)
    obtain ⟨X, p1, v1⟩ := run_partE (partE_int g3 (l := cs) (k := i) (v := .int k a) hi) hx w
    simp only [VR] at v1
    subst v1
    have h' : intFields P fs (i + 1) = true := by
      unfold intFields at h
      simp only [Bool.and_eq_true] at h
      exact h.2.2.2
    have ih := checkFields (w := w) (b := b) (n := n) hx ha h' (by simp at hl; omega)
    have p2 : (Instr.checkKey b (n + 1) f.type (.int k a)).run P w = .ok () w := by simp [Instr.checkKey, run_underlying g3]
    rw [Nat.add_zero] at g2
    simp only [List.forIn_cons, g2, ne_eq, g1, not_false_eq_true, if_true, Sem.run_bind, p1, p2, Result.andThen_ok, Sem.run_pure]
    simpa using ih
theorem fits_check' {E : Env} {t : TypeId} {k : AV} (h : keyFits P t k = true) {K : Value} (hk : VR E k K) (b : Bool) (w : World) (n : Nat) : (Instr.checkKey b (n + 2) t K).run P w = .ok () w := by
  unfold keyFits at h
  split at h
  · rename_i fs cs hu
    simp only [Bool.and_eq_true] at h
    obtain ⟨_, h2, h3, h4⟩ := h
    have h2 := Nat.eq_of_beq_eq_true h2
    simp only [VR] at hk
    obtain ⟨Cs, rfl, hk⟩ := hk
    rw [Instr.checkKey]
    simp only [Sem.run_bind, run_underlying hu, Result.andThen_ok]
    have := checkFields (w := w) (b := b) (n := n) hk h3 h4 (by simp; omega)
    rw [← Array.forIn_toList]
    simp at this ⊢
    rw [this]
    rfl
  · rename_i n0 e cs hu
    split at h
    · rename_i j he hs
      simp only [Bool.and_eq_true, beq_iff_eq] at h
      simp only [VR] at hk
      obtain ⟨Cs, rfl, hk⟩ := hk
      rw [Instr.checkKey]
      simp only [Sem.run_bind, run_underlying hu, Result.andThen_ok]
      simp only [Std.Legacy.Range.forIn_eq_forIn_range', Std.Legacy.Range.size, Nat.sub_zero, Nat.add_one_sub_one, Nat.div_one]
      have := checkItems (w := w) (b := b) (n := n) he hs hk h.2 n0 0 (by omega)
      rw [this]
      rfl
    · cases h
  · rename_i hu; simp only [VR] at hk; subst hk; simp [Instr.checkKey, run_underlying hu]
  · rename_i hu; simp only [VR] at hk; subst hk; simp [Instr.checkKey, run_underlying hu]
  · rename_i hu; simp only [VR] at hk; subst hk; simp [Instr.checkKey, run_underlying hu]
  · cases h
theorem fits_check {E : Env} {t : TypeId} {k : AV} (h : keyFits P t k = true) {K : Value} (hk : VR E k K) (b : Bool) (w : World) : (Instr.checkKey b 10000 t K).run P w = .ok () w := fits_check' h hk b w 9998
theorem bytes_beq (a b : List UInt8) : ((⟨a.toArray⟩ : ByteArray) == ⟨b.toArray⟩) = (a == b) := by rw [beq_toListBytes, toList_mk, toList_mk]
theorem sameKey_now {E : Env} {t : TypeId} {d : TypeDesc} {k k' : AV} {b : Bool} (hd : P.underlying t = some d) (hno : ∀ n e, d ≠ .array n e) (hns : ∀ fs, d ≠ .struct fs) (h : keyFits P t k = true) (hs : sameKey k k' = some b) {K K' : Value} (hk : VR E k K) (hk' : VR E k' K') : Instr.sameNow d K K' = some b ∧ (b = true → K' = K) := by
  unfold keyFits at h
  rw [hd] at h
  split at h
  · rename_i he
    cases he
    exact absurd rfl (hns _)
  · rename_i he
    cases he
    exact absurd rfl (hno _ _)
  · rename_i j i n he
    cases he
    unfold sameKey at hs
    split at hs <;> try (cases hs; done)
    · rename_i j1 a1 k1 b1 h1
      cases h1
      split at hs
      · rename_i hj
        cases hs
        simp only [VR] at hk hk'
        subst hk hk' hj
        simp [Instr.sameNow]
        intro e; exact e.symm
      · cases hs
    · rename_i h1; cases h1
    · rename_i h1; cases h1
    · rename_i h1; cases h1
  · rename_i he
    cases he
    unfold sameKey at hs
    split at hs <;> try (cases hs; done)
    · rename_i h1; cases h1
    · rename_i a1 b1 h1
      cases h1
      cases hs
      simp only [VR] at hk hk'
      subst hk hk'
      exact ⟨by simp only [Instr.sameNow, bytes_beq], fun e => by rw [beq_iff_eq.1 e]⟩
    · rename_i h1; cases h1
    · rename_i h1; cases h1
  · rename_i he
    cases he
    unfold sameKey at hs
    split at hs <;> try (cases hs; done)
    · rename_i h1; cases h1
    · rename_i h1; cases h1
    · rename_i a1 b1 h1
      cases h1
      cases hs
      simp only [VR] at hk hk'
      subst hk hk'
      simp [Instr.sameNow]
      intro e; exact e.symm
    · rename_i h1; cases h1
  · cases h
theorem find_run {E : Env} {t : TypeId} {d : TypeDesc} {k : AV} {K : Value} (hd : P.underlying t = some d) (hno : ∀ n e, d ≠ .array n e) (hns : ∀ fs, d ≠ .struct fs) (h : keyFits P t k = true) (hk : VR E k K) : ∀ {es : List (AV × AV × Nat)} {Es : List MapEntry} {i : Nat} {r : Option (Nat × AV × Nat)}, findE k es i = some r → ERs E es Es →
    match r with
    | none => Instr.findNow d K Es i = some none
    | some (n, v, c) => ∃ V, Instr.findNow d K Es i = some (some (n, V)) ∧ VR E v V ∧ i ≤ n ∧ ∃ F, Es[n - i]? = some F ∧ F.key = K ∧ F.born = c
  | [], Es, i, r, hf, hE => by
    simp only [findE] at hf; cases hf
    simp only [ERs] at hE; subst hE
    simp [Instr.findNow]
  | e :: es, Es, i, r, hf, hE => by
    obtain ⟨F, L, rfl, hF, hL⟩ := hE
    simp only [findE] at hf
    split at hf
    · rename_i hs
      cases hf
      obtain ⟨h1, h2⟩ := sameKey_now hd hno hns h hs hk hF.key
      exact ⟨F.val, by simp [Instr.findNow, h1], hF.val, Nat.le_refl _, F, by simp, h2 rfl, hF.born⟩
    · rename_i hs
      obtain ⟨h1, _⟩ := sameKey_now hd hno hns h hs hk hF.key
      have := find_run hd hno hns h hk hf hL
      cases r with
      | none => simpa [Instr.findNow, h1] using this
      | some p =>
        obtain ⟨n, v, c⟩ := p
        obtain ⟨V, g1, g2, g3, F', g4, g5, g6⟩ := this
        exact ⟨V, by simp [Instr.findNow, h1, g1], g2, by omega, F', by rw [show n - i = (n - (i + 1)) + 1 from by omega]; simpa using g4, g5, g6⟩
    · cases hf
theorem findKey_run {t : TypeId} {d : TypeDesc} {K : Value} {Es : List MapEntry} {r} (hd : P.underlying t = some d) (h : Instr.findNow d K Es 0 = some r) (w : World) : (Instr.findKey t K Es).run P w = .ok r w := by
  simp [Instr.findKey, run_underlying hd, h]
theorem under_of_fits {t : TypeId} {k : AV} (h : keyFits P t k = true) : ∃ d, P.underlying t = some d := by
  unfold keyFits at h
  cases hd : P.underlying t with
  | none => rw [hd] at h; simp at h
  | some d => exact ⟨d, rfl⟩

theorem sameI_eq {E : Env} : ∀ {a b : List AV} {A B : List Value} {r : Bool}, sameI a b = some r → VRs E a A → VRs E b B → r = true → B = A
  | [], [], A, B, r, _, hA, hB, _ => by simp only [VRs] at hA hB; subst hA hB; rfl
  | [], y :: b, A, B, r, h, _, _, _ => by simp [sameI] at h
  | x :: a, [], A, B, r, h, _, _, _ => by cases x <;> simp [sameI] at h
  | x :: a, y :: b, A, B, r, h, hA, hB, hr => by
    simp only [VRs] at hA hB
    obtain ⟨X, A', rfl, hX, hA⟩ := hA
    obtain ⟨Y, B', rfl, hY, hB⟩ := hB
    cases x with
    | int i p =>
      cases y with
      | int i2 q =>
        simp only [sameI] at h
        split at h
        · rename_i hi
          subst hi
          split at h
          · rename_i r0 h0
            cases h
            simp only [Bool.and_eq_true, beq_iff_eq] at hr
            obtain ⟨rfl, rfl⟩ := hr
            simp only [VR] at hX hY
            subst hX hY
            rw [sameI_eq h0 hA hB rfl]
          · cases h
        · cases h
      | _ => simp [sameI] at h
    | _ => cases y <;> simp [sameI] at h
theorem sameI_eqFs {cs ys : List AV} : ∀ {fs : List Field} {i : Nat} {b : Bool}, intFields P fs i = true → i + fs.length = cs.length → sameI (cs.drop i) (ys.drop i) = some b → eqFs P (eqT P 2) fs cs ys = some b
  | [], i, b, _, hl, h => by
    rw [List.drop_eq_nil_of_le (by simp at hl; omega)] at h
    cases hy : ys.drop i with
    | nil => rw [hy] at h; simp [sameI] at h; subst h; rfl
    | cons y r => rw [hy] at h; simp [sameI] at h
  | f :: fs, i, b, hf, hl, h => by
    obtain ⟨g1, g2, ⟨j, g3⟩, g4⟩ := intFields_at hf 0 f rfl
    rw [Nat.add_zero] at g2
    have hf' : intFields P fs (i + 1) = true := by
      unfold intFields at hf
      simp only [Bool.and_eq_true] at hf
      exact hf.2.2.2
    have hi : i < cs.length := by simp at hl; omega
    rw [List.drop_eq_getElem_cons hi] at h
    cases hy : ys.drop i with
    | nil => rw [hy] at h; cases hx : cs[i] <;> rw [hx] at h <;> simp [sameI] at h
    | cons y r =>
      rw [hy] at h
      have hyl : i < ys.length := by
        have := congrArg List.length hy
        simp at this
        omega
      rw [List.drop_eq_getElem_cons hyl] at hy
      obtain ⟨hy1, hy2⟩ := List.cons.inj hy
      subst hy2
      cases hx : cs[i] with
      | int k a =>
        rw [hx] at h
        cases y with
        | int k2 c =>
          simp only [sameI] at h
          split at h
          · rename_i hkk
            subst hkk
            split at h
            · rename_i r0 h0
              cases h
              have ih := sameI_eqFs hf' (by simp at hl; omega) h0
              have p1 : partE P f.type cs i = some (.int k a) := partE_int g3 (by rw [List.getElem?_eq_getElem hi, hx])
              have p2 : partE P f.type ys i = some (.int k c) := partE_int g3 (by rw [List.getElem?_eq_getElem hyl, hy1])
              have p3 : eqT P 2 f.type (.int k a) (.int k c) = some (a == c) := by unfold eqT; rw [g3]; simp
              unfold eqFs
              rw [if_neg g1, g2, p1, p2]
              simp only [p3]
              cases hac : (a == c)
              · rfl
              · rw [ih, Bool.true_and]
            · cases h
          · cases h
        | _ => simp [sameI] at h
      | _ => rw [hx] at h; cases y <;> simp [sameI] at h
theorem struct_eq {E : Env} {W : World} {t : TypeId} {fs : Array Field} (ht : P.underlying t = some (.struct fs)) (hsi : P.stoodInHeld t = false) {cs ys : List AV} (hf : intFields P fs.toList 0 = true) (hl : cs.length = fs.size) {Cs Ys : List Value} (hk : VRs E cs Cs) (hy : VRs E ys Ys) {b : Bool} (h : sameI cs ys = some b) : (Op.equal t (.agg Cs.toArray) (.agg Ys.toArray)).run P W = .ok b W := by
  have he : eqT P 3 t (.agg cs) (.agg ys) = some b := by
    unfold eqT
    rw [ht]
    simp only [hsi, Bool.false_eq_true, if_false]
    exact sameI_eqFs hf (by simp; omega) (by simpa using h)
  exact eqT_run (E := E) (D := Op.maxDepth) he (by decide) (by simp only [VR]; exact ⟨Cs, rfl, hk⟩) (by simp only [VR]; exact ⟨Ys, rfl, hy⟩)
theorem ask_run {E : Env} {W : World} {t : TypeId} {cs : List AV} {Cs : List Value} (hk : VRs E cs Cs) (heq : ∀ {ys : List AV} {Ys : List Value} {b : Bool}, VRs E ys Ys → sameI cs ys = some b → (Op.equal t (.agg Cs.toArray) (.agg Ys.toArray)).run P W = .ok b W) :
    ∀ {es : List (AV × AV × Nat)} {Es : List MapEntry} {i : Nat} {r : Option (Nat × AV × Nat)}, findE (.agg cs) es i = some r → ERs E es Es →
    match r with
    | none => (Instr.findAsking t (.agg Cs.toArray) Es i).run P W = .ok none W
    | some (m, v, c) => ∃ V, (Instr.findAsking t (.agg Cs.toArray) Es i).run P W = .ok (some (m, V)) W ∧ VR E v V ∧ i ≤ m ∧ ∃ F, Es[m - i]? = some F ∧ F.key = .agg Cs.toArray ∧ F.born = c
  | [], Es, i, r, hf, hE => by
    simp only [findE] at hf; cases hf
    simp only [ERs] at hE; subst hE
    simp [Instr.findAsking]
  | e0 :: es, Es, i, r, hf, hE => by
    obtain ⟨F, L, rfl, hF, hL⟩ := hE
    have hkey := hF.key
    have step : ∀ b, sameKey (.agg cs) e0.1 = some b → (Op.equal t (.agg Cs.toArray) F.key).run P W = .ok b W ∧ (b = true → F.key = .agg Cs.toArray) := fun b hb => by
      cases h0 : e0.1 with
      | agg ys =>
        rw [h0] at hkey hb
        simp only [VR] at hkey
        obtain ⟨Ys, e1, hy⟩ := hkey
        rw [e1]
        have hb' : sameI cs ys = some b := hb
        refine ⟨?_, fun hbt => by rw [sameI_eq hb' hk hy hbt]⟩
        exact heq hy hb'
      | _ => rw [h0] at hb; simp [sameKey] at hb
    simp only [findE] at hf
    split at hf
    · rename_i hs
      cases hf
      obtain ⟨g1, g2⟩ := step true hs
      exact ⟨F.val, by simp [Instr.findAsking, g1], hF.val, Nat.le_refl _, F, by simp, g2 rfl, hF.born⟩
    · rename_i hs
      obtain ⟨g1, _⟩ := step false hs
      have := ask_run (W := W) hk heq hf hL
      cases r with
      | none => simpa [Instr.findAsking, g1] using this
      | some p =>
        obtain ⟨m, v, c⟩ := p
        obtain ⟨V, q1, q2, q3, F', q4, q5, q6⟩ := this
        exact ⟨V, by simp [Instr.findAsking, g1, q1], q2, by omega, F', by rw [show m - i = (m - (i + 1)) + 1 from by omega]; simpa using q4, q5, q6⟩
    · cases hf
theorem key_run {E : Env} {W : World} {t : TypeId} {k : AV} {K : Value} (h : keyFits P t k = true) (hk : VR E k K) {es : List (AV × AV × Nat)} {Es : List MapEntry} {r : Option (Nat × AV × Nat)} (hf : findE k es 0 = some r) (hE : ERs E es Es) :
    match r with
    | none => (Instr.findKey t K Es).run P W = .ok none W
    | some (n, v, c) => ∃ V, (Instr.findKey t K Es).run P W = .ok (some (n, V)) W ∧ VR E v V ∧ ∃ F, Es[n]? = some F ∧ F.key = K ∧ F.born = c := by
  obtain ⟨d, hd⟩ := under_of_fits h
  have fin : ∀ {Cs : List Value}, (∀ F0 L0, (Instr.findKey t (.agg Cs.toArray) (F0 :: L0)).run P W = (Instr.findAsking t (.agg Cs.toArray) (F0 :: L0) 0).run P W) → (Instr.findKey t (.agg Cs.toArray) []).run P W = .ok none W →
      (match (generalizing := false) r with
        | none => (Instr.findAsking t (.agg Cs.toArray) Es 0).run P W = .ok none W
        | some (m, v, c) => ∃ V, (Instr.findAsking t (.agg Cs.toArray) Es 0).run P W = .ok (some (m, V)) W ∧ VR E v V ∧ 0 ≤ m ∧ ∃ F, Es[m - 0]? = some F ∧ F.key = .agg Cs.toArray ∧ F.born = c) →
      match (generalizing := false) r with
      | none => (Instr.findKey t (.agg Cs.toArray) Es).run P W = .ok none W
      | some (n, v, c) => ∃ V, (Instr.findKey t (.agg Cs.toArray) Es).run P W = .ok (some (n, V)) W ∧ VR E v V ∧ ∃ F, Es[n]? = some F ∧ F.key = .agg Cs.toArray ∧ F.born = c := by
    intro Cs h2 h0 key
    cases hEs : Es with
    | nil =>
      subst hEs
      cases r with
      | none => exact h0
      | some p =>
        obtain ⟨m, v, c⟩ := p
        obtain ⟨V, _, _, _, F, q4, _⟩ := key
        simp at q4
    | cons F0 L0 =>
      subst hEs
      rw [h2]
      cases r with
      | none => exact key
      | some p =>
        obtain ⟨m, v, c⟩ := p
        obtain ⟨V, q1, q2, _, F, q4, q5, q6⟩ := key
        exact ⟨V, q1, q2, F, by simpa using q4, q5, q6⟩
  by_cases hno : (∀ n e, d ≠ .array n e) ∧ ∀ fs, d ≠ .struct fs
  · have := find_run hd hno.1 hno.2 h hk hf hE
    cases r with
    | none => exact findKey_run hd this W
    | some p =>
      obtain ⟨n, v, c⟩ := p
      obtain ⟨V, g1, g2, _, F, g4, g5, g6⟩ := this
      exact ⟨V, findKey_run hd g1 W, g2, F, by simpa using g4, g5, g6⟩
  · have : (∃ n e, d = .array n e) ∨ ∃ fs, d = .struct fs := by
      cases d <;> first | exact .inl ⟨_, _, rfl⟩ | exact .inr ⟨_, rfl⟩ | exact absurd ⟨fun _ _ q => (by cases q), fun _ q => (by cases q)⟩ hno
    rcases this with ⟨n, e, rfl⟩ | ⟨fs, rfl⟩
    · unfold keyFits at h
      rw [hd] at h
      split at h
      · rename_i hu; cases hu
      · rename_i n0 e0 cs hu
        cases hu
        split at h
        · rename_i j he hs
          simp only [Bool.and_eq_true, beq_iff_eq] at h
          simp only [VR] at hk
          obtain ⟨Cs, rfl, hk⟩ := hk
          have := fin (fun F0 L0 => by simp [Instr.findKey, run_underlying hd, Instr.findNow, Instr.sameNow]) (findKey_run hd rfl W) (ask_run (W := W) hk (fun hy hb => arr_run (D := Op.maxDepth - 2) hd he hs hk hy hb h.1) hf hE)
          cases r <;> exact this
        · cases h
      · rename_i hu; cases hu
      · rename_i hu; cases hu
      · rename_i hu; cases hu
      · cases h
    · unfold keyFits at h
      rw [hd] at h
      split at h
      · rename_i fs0 cs hu
        cases hu
        simp only [Bool.and_eq_true] at h
        obtain ⟨h1, h2, h3, h4⟩ := h
        have h2 := Nat.eq_of_beq_eq_true h2
        simp only [VR] at hk
        obtain ⟨Cs, rfl, hk⟩ := hk
        have := fin (fun F0 L0 => by simp [Instr.findKey, run_underlying hd, Instr.findNow, Instr.sameNow]) (findKey_run hd rfl W) (ask_run (W := W) hk (fun hy hb => struct_eq hd (by simpa using h1) h4 h2 hk hy hb) hf hE)
        cases r <;> exact this
      · rename_i hu; cases hu
      · rename_i hu; cases hu
      · rename_i hu; cases hu
      · rename_i hu; cases hu
      · cases h
theorem HR.mapAt {top : Nat} {E : Env} {h : Heap} {W : World} (k : HR top E h W) {i : Nat} {es} {ck : Nat} (hg : h.get i = some (.map es ck)) : ∃ b c Es, E i = some (b, c) ∧ W.heap[b]? = some (.map Es.toArray ck) ∧ ERs E es Es := by
  obtain ⟨b, c, O, e1, e2, Es, e3, rfl⟩ := k.obj i _ hg
  exact ⟨b, c, Es, e1, e2, e3⟩

theorem evLookup_run {top : Nat} {E : Env} {h : Heap} {W : World} (hr : HR top E h W) {t : TypeId} {x k v : AV} {ok : Bool} {X K : Value} (e : evLookup P h t x k ok = some v) (hx : VR E x X) (hk : VR E k K) : ∃ V, (Instr.lookup t X K ok).run P W = .ok V W ∧ VR E v V := by
  unfold evLookup at e
  split at e
  · rename_i kt et ht
    split at e
    · rename_i hf
      obtain ⟨d, hd⟩ := under_of_fits hf
      split at e
      · simp only [Option.map_eq_some_iff] at e
        obtain ⟨z, hz, rfl⟩ := e
        obtain ⟨Z, hZ, vZ, _⟩ := run_zeroT hz W
        simp only [VR] at hx; subst hx
        have h1 := fits_check hf hk true W
        refine ⟨if ok then .tuple #[Z, .bool false] else Z, ?_, ?_⟩
        · have h2 : (Instr.findKey kt K []).run P W = .ok none W := findKey_run hd rfl W
          simp [Instr.lookup, run_underlying ht, h1, h2, hZ]
        · cases ok
          · exact vZ E
          · simp only [if_true, VR]
            exact ⟨[Z, .bool false], rfl, VRs.cons (vZ E) (VRs.cons (by simp only [VR]) VRs.nil)⟩
      · rename_i r
        split at e
        · rename_i es ck hg
          obtain ⟨b, c, Es, hE, hW, hes⟩ := hr.mapAt hg
          simp only [VR] at hx
          obtain ⟨b', c', hE', rfl⟩ := hx
          rw [hE] at hE'
          cases hE'
          have h1 := fun q => fits_check hf hk q W
          have h2 := run_getObj' (P := P) hW rfl
          split at e
          · rename_i n u q hfd
            cases e
            obtain ⟨V, g1, g2, _⟩ := key_run (W := W) hf hk hfd hes
            refine ⟨if ok then .tuple #[V, .bool true] else V, ?_, ?_⟩
            · simp [Instr.lookup, run_underlying ht, h2, h1, g1]
            · cases ok
              · exact g2
              · simp only [if_true, VR]
                exact ⟨[V, .bool true], rfl, VRs.cons g2 (VRs.cons (by simp only [VR]) VRs.nil)⟩
          · rename_i hfd
            simp only [Option.map_eq_some_iff] at e
            obtain ⟨z, hz, rfl⟩ := e
            obtain ⟨Z, hZ, vZ, _⟩ := run_zeroT hz W
            have g1 := key_run (W := W) hf hk hfd hes
            simp only at g1
            refine ⟨if ok then .tuple #[Z, .bool false] else Z, ?_, ?_⟩
            · simp [Instr.lookup, run_underlying ht, h2, h1, g1, hZ]
            · cases ok
              · exact vZ E
              · simp only [if_true, VR]
                exact ⟨[Z, .bool false], rfl, VRs.cons (vZ E) (VRs.cons (by simp only [VR]) VRs.nil)⟩
          · cases e
        · cases e
      · cases e
    · cases e
  · cases e

theorem sameBits_ints {E : Env} {n : Nat} : ∀ {cs : List AV} {Cs : List Value}, allI cs = true → VRs E cs Cs → ((Cs.zip Cs).all fun (x, y) => Instr.sameBits n x y) = true
  | [], Cs, _, h => by simp only [VRs] at h; subst h; rfl
  | c :: cs, Cs, ha, h => by
    simp only [VRs] at h
    obtain ⟨V, L, rfl, hV, hL⟩ := h
    cases c <;> simp [allI] at ha
    simp only [VR] at hV
    subst hV
    have := sameBits_ints (n := n) ha hL
    rw [List.zip_cons_cons, List.all_cons, this]
    simp [Instr.sameBits]
theorem sameBits_key {t : TypeId} {k : AV} (h : keyFits P t k = true) {E : Env} {K : Value} (hk : VR E k K) : Instr.sameBits 10000 K K = true := by
  unfold keyFits at h
  split at h
  · simp only [Bool.and_eq_true] at h
    simp only [VR] at hk
    obtain ⟨Cs, rfl, hk⟩ := hk
    have := sameBits_ints (n := 9999) h.2.2.1 hk
    unfold Instr.sameBits
    simpa using this
  · split at h
    · simp only [Bool.and_eq_true] at h
      simp only [VR] at hk
      obtain ⟨Cs, rfl, hk⟩ := hk
      have := sameBits_ints (n := 9999) h.2 hk
      unfold Instr.sameBits
      simpa using this
    · cases h
  all_goals skip
  all_goals first | (cases h; done) | (simp only [VR] at hk; subst hk; simp [Instr.sameBits, bytes_beq])
theorem setE_run {E : Env} {k v : AV} {K V : Value} (hk : VR E k K) (hv : VR E v V) : ∀ {es Es} {i : Nat}, ERs E es Es → ERs E (setE i k v es) (Es.modify i fun e => { e with key := K, val := V })
  | [], Es, i, h => by simp only [ERs] at h; subst h; cases i <;> simp [setE, ERs]
  | e :: es, _, 0, h => by
    obtain ⟨F, L, rfl, hF, hL⟩ := h
    simp only [setE, List.modify_zero_cons]
    exact ⟨_, _, rfl, ⟨hk, hv, hF.born⟩, hL⟩
  | e :: es, _, i + 1, h => by
    obtain ⟨F, L, rfl, hF, hL⟩ := h
    simp only [setE, List.modify_succ_cons]
    exact ⟨_, _, rfl, hF, setE_run hk hv hL⟩
theorem ERs.snoc {E : Env} {e F} (he : ER E e F) : ∀ {es Es}, ERs E es Es → ERs E (es ++ [e]) (Es ++ [F])
  | [], Es, h => by simp only [ERs] at h; subst h; exact ⟨F, [], rfl, he, rfl⟩
  | _ :: _, _, h => by obtain ⟨G, L, rfl, hG, hL⟩ := h; exact ⟨G, _, rfl, hG, ERs.snoc he hL⟩

theorem evUpdate_run {top : Nat} {E : Env} {h g : Heap} {W : World} (hr : HR top E h W) {t : TypeId} {x k v : AV} {X K V : Value} (e : evUpdate P h t x k v = some g) (hx : VR E x X) (hk : VR E k K) (hv : VR E v V) :
    ∃ W', (Instr.mapUpdate t X K V).run P W = .ok () W' ∧ Ext E E h g W W' ∧ HR top E g W' := by
  unfold evUpdate at e
  split at e
  · rename_i kt et r ht
    split at e
    · rename_i hf
      obtain ⟨d, hd⟩ := under_of_fits hf
      split at e
      · rename_i es ck hg
        obtain ⟨b, c, Es, hE, hW, hes⟩ := hr.mapAt hg
        simp only [VR] at hx
        obtain ⟨b', c', hE', rfl⟩ := hx
        rw [hE] at hE'
        cases hE'
        have h1 := fits_check hf hk false W
        have h2 := run_getObj' (P := P) hW rfl
        have hlt : b < W.heap.size := (Array.getElem?_eq_some_iff.1 hW).1
        split at e
        · rename_i i q hfd
          obtain ⟨V0, g1, g2, F, g4, g5, g6⟩ := key_run (W := W) hf hk hfd hes
          have hkey : (((Es.toArray)[i]?).map (·.key)).getD K = K := by simp [g4, g5]
          obtain ⟨h3, h4⟩ := hr.set e hE (W.putObj b (.map (Es.modify i fun e => { e with key := K, val := V }).toArray ck)) _ (World.putObj_heap_same hlt) ⟨_, setE_run hk hv hes, rfl⟩ (fun q hq => World.putObj_heap_other hq) (by simp) rfl rfl rfl
          refine ⟨_, ?_, h4, h3⟩
          simp only [Instr.mapUpdate, Sem.run_bind, run_underlying ht, Result.andThen_ok, h2, h1, g1, hkey, Instr.keyThatStays, sameBits_key hf hk, if_true, Sem.run_pure]
          rw [run_setObj' _ hW rfl]
          congr 3
          simp
        · rename_i hfd
          have g1 := key_run (W := W) hf hk hfd hes
          simp only at g1
          obtain ⟨h3, h4⟩ := hr.set e hE (W.putObj b (.map (Es ++ [({ key := K, val := V, born := ck } : MapEntry)]).toArray (ck + 1))) _ (World.putObj_heap_same hlt) ⟨_, ERs.snoc ⟨hk, hv, rfl⟩ hes, rfl⟩ (fun q hq => World.putObj_heap_other hq) (by simp) rfl rfl rfl
          refine ⟨_, ?_, h4, h3⟩
          simp only [Instr.mapUpdate, Sem.run_bind, run_underlying ht, Result.andThen_ok, h2, h1, g1]
          rw [run_setObj' _ hW rfl]
          congr 3
          simp
        · cases e
      · cases e
    · cases e
  · cases e
end Go.Proofs.YtkebbdpfjhhdhaaGreat.Ev

/- One operation: append, copy. -/
namespace Go.Proofs.YtkebbdpfjhhdhaaGreat.Ev
variable {P : Program}

theorem HR.of_heap {top : Nat} {E : Env} {h : Heap} {W W' : World} (k : HR top E h W) (e : W'.heap = W.heap) : HR top E h W' :=
  ⟨fun i o hi => by rw [e]; exact k.obj i o hi, k.inj, k.lt, k.hid, k.clean⟩
theorem Ext.of_drew {E E' : Env} {h g : Heap} {W W' : World} (x : Ext E E' h g W.drew W') : Ext E E' h g W W' :=
  ⟨x.le, x.nx, x.hid, x.lo, x.keepA, x.dead, x.fresh, x.size, x.keepC, x.os, x.tape, x.output⟩

/-- a row that is given up for another one -/
theorem HR.take {top : Nat} {E : Env} {h g : Heap} {W : World} (k : HR top E h W) (ht : h.next + 1 ≤ top) {i n : Nat} {o : AObj} (e : h.take i o = some (n, g)) {b : Nat} {c : Nat × Nat} (hE : E i = some (b, c)) (W' : World) (O : Obj) (b' : Nat) (c' : Nat × Nat)
    (hO : W'.heap[b']? = some O) (ho : OR (E.put h.next (b', c')) h.next o O) (hb : b' = b ∨ W.heap.size ≤ b') (hW : ∀ q, q < W.heap.size → q ≠ b → W'.heap[q]? = W.heap[q]?) (hz : W.heap.size ≤ W'.heap.size) (h1 : W'.os = W.os) (h2 : W'.tape = W.tape) (h3 : W'.output = W.output) :
    n = h.next ∧ HR top (E.put h.next (b', c')) g W' ∧ Ext E (E.put h.next (b', c')) h g W W' ∧ (E.put h.next (b', c')) h.next = some (b', c') := by
  unfold Heap.take at e
  split at e
  · rename_i hl
    split at e
    · rename_i oo hg
      cases e
      have hl' : h.lo ≤ i := by simpa using hl
      have hs : (h.get i).isSome := by rw [hg]; rfl
      have hi := Heap.get_lt k hs
      have hEn : E h.next = none := k.lt _ (Nat.le_refl _) (by omega)
      have hle := Env.put_le (x := (b', c')) hEn
      have hself : (E.put h.next (b', c')) h.next = some (b', c') := if_pos rfl
      have hput : ∀ q, q ≠ h.next → (E.put h.next (b', c')) q = E q := fun q hq => if_neg hq
      have hnh := k.newHid
      have hgg : ∀ q, ({ h with t := (h.t.del i).set h.next o, next := h.next + 1 } : Heap).get q = if q = h.next then some o else if q = i then none else h.get q := fun q => by
        unfold Heap.get
        have e1 : ({ h with t := (h.t.del i).set h.next o, next := h.next + 1 } : Heap).hidden q = h.hidden q := rfl
        rw [e1]
        show (if h.hidden q = true then none else ((h.t.del i).set h.next o).get q) = _
        rw [T.get_set, T.get_del]
        by_cases hq : q = h.next
        · subst hq; rw [hnh]; simp
        · simp only [if_neg hq]
          by_cases hq2 : q = i
          · subst hq2; simp
          · simp [hq2]
      have hsome : ∀ q, q ≠ h.next → (({ h with t := (h.t.del i).set h.next o, next := h.next + 1 } : Heap).get q).isSome → (h.get q).isSome ∧ q ≠ i := fun q hq hh => by
        rw [hgg, if_neg hq] at hh
        by_cases hq2 : q = i
        · rw [if_pos hq2] at hh; cases hh
        · rw [if_neg hq2] at hh; exact ⟨hh, hq2⟩
      have hblk : ∀ q b2 d, (h.get q).isSome → q ≠ i → E q = some (b2, d) → b2 ≠ b ∧ b2 < W.heap.size := fun q b2 d hq hqi he => by
        refine ⟨fun eb => ?_, ?_⟩
        · subst eb; exact hqi (k.inj q i _ _ _ hq hs he hE)
        · obtain ⟨oo, hoo⟩ := Option.isSome_iff_exists.1 hq
          exact k.block_lt hoo he
      refine ⟨rfl, ⟨fun q o' hq => ?_, fun q r b1 d d' hq hr eq er => ?_, fun q g1 g2 => ?_, fun r hr => Nat.le_succ_of_le (k.hid r hr), fun q hq => ?_⟩, ⟨hle, Nat.le_succ _, rfl, rfl, fun q hq hx => ?_, fun q hq hh => (hsome q (by omega) hh).1, fun q b1 d e1 e2 => ?_, hz, fun q hq hk => ?_, h1, h2, h3⟩, hself⟩
      · by_cases eq : q = h.next
        · subst eq
          rw [hgg, if_pos rfl] at hq
          cases hq
          exact ⟨b', c', O, hself, hO, ho⟩
        · have hq' := hq
          rw [hgg, if_neg eq] at hq
          have hqi : q ≠ i := fun e => by rw [if_pos e] at hq; cases hq
          rw [if_neg hqi] at hq
          obtain ⟨b2, d, O', e1, e2, e3⟩ := k.obj q o' hq
          obtain ⟨f1, f2⟩ := hblk q b2 d (by rw [hq]; rfl) hqi e1
          exact ⟨b2, d, O', hle _ _ e1, (hW b2 f2 f1).trans e2, e3.mono hle⟩
      · by_cases e1 : q = h.next <;> by_cases e2 : r = h.next
        · omega
        · subst e1
          rw [hself] at eq
          rw [hput r e2] at er
          obtain ⟨f1, f2⟩ := hsome r e2 hr
          obtain ⟨f3, f4⟩ := hblk r _ _ f1 f2 er
          cases eq
          rcases hb with hb | hb
          · exact absurd hb f3
          · omega
        · subst e2
          rw [hself] at er
          rw [hput q e1] at eq
          obtain ⟨f1, f2⟩ := hsome q e1 hq
          obtain ⟨f3, f4⟩ := hblk q _ _ f1 f2 eq
          cases er
          rcases hb with hb | hb
          · exact absurd hb f3
          · omega
        · rw [hput q e1] at eq
          rw [hput r e2] at er
          exact k.inj q r b1 d d' (hsome q e1 hq).1 (hsome r e2 hr).1 eq er
      · have g1' : h.next + 1 ≤ q := g1
        rw [hput q (by omega)]
        exact k.lt q (by omega) g2
      · have hq' : h.next + 1 ≤ q := hq
        show ((h.t.del i).set h.next o).get q = none
        rw [T.get_set, if_neg (by omega), T.get_del]
        split
        · rfl
        · exact k.clean q (by omega)
      · show ((h.t.del i).set h.next o).get q = _
        rw [T.get_set, if_neg (by omega), T.get_del, if_neg]
        rintro rfl
        rcases hx with hx | hx
        · omega
        · rw [(Heap.get_some hs).1] at hx; cases hx
      · by_cases eq : q = h.next
        · subst eq
          rw [hself] at e2
          cases e2
          refine ⟨Nat.le_refl _, Nat.lt_succ_self _, ?_⟩
          rcases hb with rfl | hb
          · exact .inr ⟨i, c, hl', hs, hE⟩
          · exact .inl hb
        · rw [hput q eq, e1] at e2; cases e2
      · exact hW q hq (fun eb => by subst eb; exact hk i c hl' hs hE)
    · cases e
  · cases e

theorem growBy_le (n : Nat) : ∀ (r c : Nat), Builtin.growBy n r c ≤ max c (n + (n + 768) / 4)
  | 0, c => by simp only [Builtin.growBy]; omega
  | r + 1, c => by
    simp only [Builtin.growBy]
    split
    · omega
    · have := growBy_le n r (c + (c + 768) / 4)
      omega
theorem nextcap_le {n c : Nat} (h : c < n) : Builtin.nextslicecap n c ≤ 2 * n + 192 := by
  unfold Builtin.nextslicecap
  split
  · omega
  · split
    · omega
    · have := growBy_le n 4 c
      omega

theorem len_run {E : Env} {x : AV} {n : Nat} {X : Value} (h : lenOfA x = some n) (hx : VR E x X) (w : World) : (Builtin.lenOf X).run P w = .ok n w := by
  unfold lenOfA at h
  split at h <;> (try (cases h; done))
  · cases h; simp only [VR] at hx; obtain ⟨b, c, hE, rfl⟩ := hx; rfl
  · cases h; simp only [VR] at hx; subst hx; rfl
  · cases h; simp only [VR] at hx; obtain ⟨A, c, rfl⟩ := hx; rfl
  · cases h; simp only [VR] at hx; obtain ⟨b, c, hE, o, ho, rfl⟩ := hx; rfl
  · rename_i s; cases h; simp only [VR] at hx; subst hx
    have : (⟨s.toArray⟩ : ByteArray).size = s.length := by show (s.toArray).size = _; simp
    simp [Builtin.lenOf, this]
theorem first_run {top : Nat} {E : Env} {h : Heap} {W : World} (k : HR top E h W) {sz n : Nat} {x : AV} {l : List AV} {X : Value} (hf : firstA h sz n x = some l) (hx : VR E x X) : ∃ L, (∀ w, w.heap = W.heap → (Builtin.firstCells sz n X).run P w = .ok L.toArray w) ∧ VRs E l L := by
  unfold firstA at hf
  split at hf
  · simp only [VR] at hx
    obtain ⟨b, c, hE, rfl⟩ := hx
    obtain ⟨L, h1, h2, _⟩ := k.load (P := P) hf hE
    exact ⟨L, fun w hw => by simp only [Builtin.firstCells]; exact h1 w hw, h2⟩
  · split at hf
    · cases hf
      simp only [VR] at hx
      subst hx
      exact ⟨[], fun w _ => by simp [Builtin.firstCells], VRs.nil⟩
    · cases hf
  · split at hf
    · rename_i h0
      cases hf
      simp only [VR] at hx
      obtain ⟨A, c, rfl⟩ := hx
      subst h0
      refine ⟨[], fun w _ => ?_, VRs.nil⟩
      cases A with
      | none => simp [Builtin.firstCells]
      | some a => simp only [Builtin.firstCells, Nat.zero_mul]; rfl
    · cases hf
  · split at hf
    · rename_i h0
      cases hf
      simp only [VR] at hx
      obtain ⟨b, c, hE, o, ho, rfl⟩ := hx
      subst h0
      refine ⟨[], fun w _ => ?_, VRs.nil⟩
      simp only [Builtin.firstCells, Nat.zero_mul]; rfl
    · cases hf
  · rename_i s
    split at hf
    · cases hf
      simp only [VR] at hx
      subst hx
      refine ⟨(s.take n).map fun b => .int .u8 b.toNat, fun w _ => ?_, ?_⟩
      · simp only [Builtin.firstCells, Sem.run_pure]
        congr 1
        apply Array.ext'
        simp [List.extract]
      · have : ∀ r : List UInt8, VRs E (r.map fun c => AV.int .u8 c.toNat) (r.map fun b => Value.int .u8 b.toNat) := fun r => by
          induction r with
          | nil => exact VRs.nil
          | cons a r ih => exact VRs.cons (by simp only [VR]) ih
        exact this _
    · cases hf
  · cases hf
end Go.Proofs.YtkebbdpfjhhdhaaGreat.Ev

/- One operation: append, copy, end. -/
namespace Go.Proofs.YtkebbdpfjhhdhaaGreat.Ev
variable {P : Program}

theorem zeroT_cells {t : TypeId} {z : AV} (h : zeroT P t = some z) (w : World) : ∃ Z, (zeroValue t).run P w = .ok Z w ∧ (∀ E, VR E z Z) ∧ Z.cells.size = z.cells.length := by
  obtain ⟨Z, h1, h2, _⟩ := run_zeroT h w
  have := (h2 (fun _ => none)).cells.len
  exact ⟨Z, h1, h2, by simpa using this⟩
theorem bytes_run {t : TypeId} {n : Nat} (h : bytesT P t = some n) (w : World) : ∃ i, (typeInfo t).run P w = .ok i w ∧ i.bytes = n := by
  unfold bytesT at h
  simp only [Option.map_eq_some_iff] at h
  obtain ⟨i, hi, rfl⟩ := h
  exact ⟨i, by simp [typeInfo, hi], rfl⟩
/-- the part of append that says what is appended -/
structure NewsR (P : Program) (W : World) (tx : TypeId) (X : Value) (sz n : Nat) (Xs : List Value) : Prop where
  under : ∃ d, P.underlying tx = some d ∧ isSeqD d = true
  count : ∀ w, (Builtin.lenOf X).run P w = .ok n w
  cells : ∀ w, w.heap = W.heap → (Builtin.firstCells sz n X).run P w = .ok Xs.toArray w

theorem news_run {top : Nat} {E : Env} {h : Heap} {W : World} (k : HR top E h W) {tx : TypeId} {x : AV} {sz n : Nat} {l : List AV} {X : Value} (hn : evNews P h tx x sz = some (n, l)) (hx : VR E x X) : ∃ Xs, NewsR P W tx X sz n Xs ∧ VRs E l Xs := by
  unfold evNews at hn
  split at hn
  · rename_i d hd
    split at hn
    · rename_i hi
      split at hn
      · rename_i m hm
        simp only [Option.map_eq_some_iff] at hn
        obtain ⟨l', hl, e⟩ := hn
        cases e
        obtain ⟨L, h1, h2⟩ := first_run (P := P) k hl hx
        exact ⟨L, ⟨⟨d, hd, hi⟩, fun w => len_run hm hx w, h1⟩, h2⟩
      · cases hn
    · cases hn
  · cases hn

/-- append where there is room -/
theorem append_room {W W' : World} {t tx ty e sz n b off len cap : Nat} {X : Value} {Xs : List Value} (ht : P.underlying t = some (.slice e)) (hs : sizeT P e = some sz) (hn : NewsR P W tx X sz n Xs)
    (hroom : len + n ≤ cap) (hst : (storeCells ⟨b, off + len * sz, none⟩ Xs).run P W = .ok () W') :
    (Builtin.append_ #[t, tx] ty #[.slice (some ⟨b, off, none⟩) len cap, X]).run P W = .ok (.slice (some ⟨b, off, none⟩) (len + n) cap) W' := by
  obtain ⟨d, hd, hdz⟩ := hn.under
  have hc := hn.count
  have hx := hn.cells W rfl
  cases d <;> first
    | (cases hdz; done)
    | simp [Builtin.append_, run_underlying ht, run_underlying hd, run_size hs, hc, hroom, hx, add_none, hst]
theorem append_nil0 {W : World} {t tx ty e sz : Nat} {X : Value} {Xs : List Value} (ht : P.underlying t = some (.slice e)) (hs : sizeT P e = some sz) (hn : NewsR P W tx X sz 0 Xs) :
    (Builtin.append_ #[t, tx] ty #[.slice none 0 0, X]).run P W = .ok (.slice none 0 0) W := by
  obtain ⟨d, hd, hdz⟩ := hn.under
  have hc := hn.count
  have hx := hn.cells W rfl
  cases d <;> first
    | (cases hdz; done)
    | simp [Builtin.append_, run_underlying ht, run_underlying hd, run_size hs, hc, hx]
/-- append where a new row is made -/
theorem append_grow {W : World} {t tx ty e sz bytes n len cap : Nat} {base : Option Addr} {X Z : Value} {Xs Old : List Value} {i : TypeInfo} (ht : P.underlying t = some (.slice e)) (hi : P.info? e = some i) (hs : i.size = sz) (hb : i.bytes = bytes) (hb1 : bytes ≤ 1000000)
    (hz : i.zero = some Z) (hzs : Z.cells.size = sz) (hn : NewsR P W tx X sz n Xs) (hl : Xs.length = n * sz) (h1 : ∀ V ∈ Xs, V.oneCell' = true) (holl : Old.length = len * sz) (hold : ∀ w, w.heap = W.heap → (Builtin.firstCells sz len (.slice base len cap)).run P w = .ok Old.toArray w)
    (hroom : cap < len + n) (hbig : len + n ≤ 1000000) :
    ∃ (c : Nat) (R : List Value), (Builtin.append_ #[t, tx] ty #[.slice base len cap, X]).run P W = .ok (.slice (some ⟨W.heap.size, 0, none⟩) (len + n) c) (W.drew.alloc (.cells ((Old ++ Xs) ++ R).toArray e (0, 0))) ∧ ((Old ++ Xs) ++ R).length = c * sz := by
  subst hs hb
  obtain ⟨d, hd, hdz⟩ := hn.under
  have hcap := nextcap_le hroom
  have hfit : Builtin.nextslicecap (len + n) cap * i.bytes ≤ 281474976710656 := by
    have : Builtin.nextslicecap (len + n) cap * i.bytes ≤ 2000192 * 1000000 := Nat.mul_le_mul (by omega) (by omega)
    omega
  have hsrc : Src P i.size tx X n Xs W := ⟨by cases d <;> first | (cases hdz; done) | exact .inl ⟨_, hd⟩ | exact .inr hd, hn.count, hn.cells W rfl, hn.cells W.drew rfl, hl, h1⟩
  have hg := run_append_grow_src (P := P) W t tx ty e i Z ht hi hz base len cap Old (hold W.drew rfl) X n Xs hsrc hroom (by omega) hfit
  have hge := grownCap_ge W (len + n) cap e
  refine ⟨grownCap W (len + n) cap e, (Builtin.zeroCells Z.cells (grownCap W (len + n) cap e - (len + n))).toList, ?_, ?_⟩
  · rw [hg]
    congr 4
    apply Array.ext'
    simp
  · simp only [List.length_append, hl, holl, Array.length_toList, Builtin.zeroCells, Array.size_map, Array.size_range, hzs]
    rw [← Nat.add_mul, ← Nat.add_mul]
    congr 1
    omega
end Go.Proofs.YtkebbdpfjhhdhaaGreat.Ev

/- One operation: append, copy, len, cap. -/
namespace Go.Proofs.YtkebbdpfjhhdhaaGreat.Ev
variable {P : Program}

theorem size_info {t : TypeId} {s : Nat} (h : sizeT P t = some s) : ∃ i, P.info? t = some i ∧ i.size = s := by
  unfold sizeT at h
  simp only [Option.map_eq_some_iff] at h
  exact h

structure AppT (P : Program) (t e : TypeId) (sz bytes : Nat) (Z : Value) (i : TypeInfo) : Prop where
  under : P.underlying t = some (.slice e)
  size : sizeT P e = some sz
  info : P.info? e = some i
  isz : i.size = sz
  iby : i.bytes = bytes
  by1 : bytes ≤ 1000000
  zero : i.zero = some Z
  zsz : Z.cells.size = sz
  pos : 0 < sz

theorem grow_res {top : Nat} {E : Env} {h g : Heap} {W : World} (k : HR top E h W) {t tx ty e sz bytes n len cap : Nat} {base : Option Addr} {X Z : Value} {Xs Old : List Value} {i : TypeInfo} {v : AV} {old new : List AV} (hT : AppT P t e sz bytes Z i)
    (ev : evGrow h e sz (len + n) (old ++ new) = some (v, g)) (ht : g.next ≤ top) (hn : NewsR P W tx X sz n Xs) (hx : VRs E new Xs) (hl : new.length = n * sz) (ho : new.all okCell = true) (hold : VRs E old Old) (holl : Old.length = len * sz)
    (hfc : ∀ w, w.heap = W.heap → (Builtin.firstCells sz len (.slice base len cap)).run P w = .ok Old.toArray w) (hroom : cap < len + n) (hbig : len + n ≤ 1000000) :
    ∃ E' W' V, (Builtin.append_ #[t, tx] ty #[.slice base len cap, X]).run P W = .ok V W' ∧ Ext E E' h g W W' ∧ HR top E' g W' ∧ VR E' v V := by
  unfold evGrow at ev
  cases ev
  obtain ⟨c, R, h1, h2⟩ := append_grow (ty := ty) hT.under hT.info hT.isz hT.iby hT.by1 hT.zero hT.zsz hn (by rw [hx.len, hl]) (hx.oneCells ho) holl hfc hroom hbig
  have hk : HR top E h W.drew := k.of_heap rfl
  have hle := Env.put_le (x := (W.heap.size, (c, 0))) (k.lt _ (Nat.le_refl _) (show h.next < top from ht))
  obtain ⟨g1, g2, g3⟩ := hk.new ht (.row (old ++ new) e sz) (.cells ((Old ++ Xs) ++ R).toArray e (0, 0)) (c, 0) ⟨[], Old ++ Xs, R, W.heap.size, (c, 0), (hold.mono hle).append (hx.mono hle), rfl, if_pos rfl, h2, hT.pos, rfl⟩
  exact ⟨_, _, _, h1, g2.of_drew, g1, by simp only [VR]; exact ⟨W.heap.size, (c, 0), g3, rfl⟩⟩

/-- append to a row, or to a part of it that reaches its end: in place, or moved; the old row is given up -/
theorem onto_take {top : Nat} {E : Env} {h g : Heap} {W : World} (k : HR top E h W) {t tx ty e sz bytes n : Nat} {X Z : Value} {Xs : List Value} {i : TypeInfo} {new : List AV} (hT : AppT P t e sz bytes Z i)
    (ht : g.next ≤ top) (hn : NewsR P W tx X sz n Xs) (hx : VRs E new Xs) (hl : new.length = n * sz) (ho : new.all okCell = true) {j off len d b m : Nat} {cc : Nat × Nat} (hE : E j = some (b, cc)) {l old : List AV}
    (hg : h.get j = some (.row l e sz)) (hold : h.loadN j off (len * sz) = some old) (hoff : off = d * sz) (hdl : d + len ≤ knownN h j sz) (hb : len + n ≤ 1000000) (htk : h.take j (.row (old ++ new) e sz) = some (m, g)) :
    ∃ E' W' V, (Builtin.append_ #[t, tx] ty #[.slice (some ⟨b, off + cc.2, none⟩) len (cc.1 - d), X]).run P W = .ok V W' ∧ Ext E E' h g W W' ∧ HR top E' g W' ∧ VR E' (.slice m 0 (len + n) (.m 0)) V := by
  subst hoff
  have hkn := knownN_le (s := sz) k hE
  obtain ⟨b2, c2, O, e1, e2, Y, L, R, b3, c3, q1, rfl, q2, q3, q4, q5⟩ := k.obj j _ hg
  rw [hE] at e1 q2
  cases e1
  cases q2
  have hkl : (d + len) * sz ≤ l.length := by
    have : knownN h j sz = l.length / sz := by unfold knownN; rw [hg]; simp
    rw [this] at hdl
    have := Nat.mul_le_mul hdl (Nat.le_refl sz)
    have := Nat.div_mul_le_self l.length sz
    omega
  rw [Nat.add_mul] at hkl
  have hold' : old = (l.drop (d * sz)).take (len * sz) := by
    unfold Heap.loadN at hold
    rw [hg] at hold
    simp only [dropN_eq] at hold
    exact (takeN_eq hold).2
  have hLl := q1.len
  have hXl : Xs.length = n * sz := by rw [hx.len, hl]
  have hnx : g.next = h.next + 1 := by
    unfold Heap.take at htk
    split at htk
    · split at htk
      · cases htk; rfl
      · cases htk
    · cases htk
  have ht' : h.next + 1 ≤ top := by rw [← hnx]; exact ht
  have hEn : E h.next = none := k.lt _ (Nat.le_refl _) (by omega)
  have hLR : (L ++ R).length = cc.1 * sz := q3
  by_cases hroom : len + n ≤ cc.1 - d
  · have hle := Env.put_le (x := (b, (cc.1 - d, cc.2 + d * sz))) hEn
    have hfit : (d + (len + n)) * sz ≤ cc.1 * sz := Nat.mul_le_mul (by omega) (Nat.le_refl _)
    rw [Nat.add_mul, Nat.add_mul] at hfit
    have hst := run_storeCells_at (P := P) b (d * sz + cc.2 + len * sz) e Xs 0 (Y ++ (L ++ R)).toArray W e2 (by simp only [List.size_toArray, List.length_append] at hLR ⊢; omega) (hx.oneCells ho)
    simp only [Nat.add_zero] at hst
    have heq : (Y ++ (L ++ R)).take (d * sz + cc.2 + len * sz) ++ Xs ++ (Y ++ (L ++ R)).drop (d * sz + cc.2 + len * sz + Xs.length) = (Y ++ L.take (d * sz)) ++ ((((L.drop (d * sz)).take (len * sz)) ++ Xs) ++ (L ++ R).drop (d * sz + len * sz + Xs.length)) := by
      rw [show d * sz + cc.2 + len * sz = Y.length + (d * sz + len * sz) from by omega, List.take_append, List.take_of_length_le (show Y.length ≤ Y.length + (d * sz + len * sz) by omega), Nat.add_sub_cancel_left, show Y.length + (d * sz + len * sz) + Xs.length = Y.length + (d * sz + len * sz + Xs.length) from by omega, List.drop_append, List.drop_eq_nil_of_le (show Y.length ≤ Y.length + (d * sz + len * sz + Xs.length) by omega), Nat.add_sub_cancel_left, List.nil_append, List.take_append_of_le_length (by omega), List.take_add]
      simp only [List.append_assoc]
    have hrest : ((((L.drop (d * sz)).take (len * sz)) ++ Xs) ++ (L ++ R).drop (d * sz + len * sz + Xs.length)).length = (cc.1 - d) * sz := by
      rw [Nat.sub_mul]
      simp only [List.length_append, List.length_take, List.length_drop] at hLR ⊢
      omega
    have hOld : VRs E old ((L.drop (d * sz)).take (len * sz)) := by
      rw [hold']
      exact (q1.drop _).take _
    obtain ⟨rfl, g1, g2, g3⟩ := k.take (by omega) htk hE (W.setRow b ((Y ++ (L ++ R)).take (d * sz + cc.2 + len * sz) ++ Xs ++ (Y ++ (L ++ R)).drop (d * sz + cc.2 + len * sz + Xs.length)).toArray) (.cells ((Y ++ L.take (d * sz)) ++ ((((L.drop (d * sz)).take (len * sz)) ++ Xs) ++ (L ++ R).drop (d * sz + len * sz + Xs.length))).toArray e (0, 0)) b (cc.1 - d, cc.2 + d * sz)
      (by rw [heq]; exact setRow_heap _ _ _ _ _ _ e2) ⟨_, _, _, b, _, (hOld.mono hle).append (hx.mono hle), rfl, if_pos rfl, hrest, q4, by rw [List.length_append, List.length_take, q5, Nat.min_eq_left (by omega)]⟩
      (.inl rfl) (fun q _ hq => setRow_other _ _ _ _ hq) (by simp) rfl rfl rfl
    refine ⟨_, _, _, append_room hT.under hT.size hn hroom hst, g2, g1, ?_⟩
    simp only [VR]
    refine ⟨b, _, g3, ?_⟩
    simp only
    rw [Nat.zero_add, Nat.add_comm cc.2, Nat.sub_zero]
  · obtain ⟨LL, l1, l2, l3⟩ := k.load (P := P) hold hE
    obtain ⟨c', Q, a1, a2⟩ := append_grow (t := t) (tx := tx) (ty := ty) (base := some ⟨b, d * sz + cc.2, none⟩) (len := len) (cap := cc.1 - d) (Old := LL) hT.under hT.info hT.isz hT.iby hT.by1 hT.zero hT.zsz hn hXl (hx.oneCells ho) l3 (fun w hw => by simp only [Builtin.firstCells]; exact l1 w hw) (by omega) hb
    have hle := Env.put_le (x := (W.heap.size, (c', 0))) hEn
    obtain ⟨rfl, g1, g2, g3⟩ := k.take (by omega) htk hE (W.drew.alloc (.cells ((LL ++ Xs) ++ Q).toArray e (0, 0))) (.cells ((LL ++ Xs) ++ Q).toArray e (0, 0)) W.heap.size (c', 0)
      (World.alloc_heap_new W.drew _) ⟨[], _, Q, _, _, (l2.mono hle).append (hx.mono hle), rfl, if_pos rfl, a2, q4, rfl⟩
      (.inr (Nat.le_refl _)) (fun q hq _ => RowKit.Below.heap_alloc W.drew _ q hq) (by simp) rfl rfl rfl
    refine ⟨_, _, _, a1, g2, g1, ?_⟩
    simp only [VR]
    exact ⟨_, _, g3, rfl⟩

theorem onto_run {top : Nat} {E : Env} {h g : Heap} {W : World} (k : HR top E h W) {t tx ty e sz bytes n : Nat} {X S Z : Value} {Xs : List Value} {i : TypeInfo} {s v : AV} {new : List AV} (hT : AppT P t e sz bytes Z i)
    (ev : evOnto h e sz s n new = some (v, g)) (ht : g.next ≤ top) (hn : NewsR P W tx X sz n Xs) (hx : VRs E new Xs) (hl : new.length = n * sz) (ho : new.all okCell = true) (hbig : n ≤ 1000000) (hs : VR E s S) :
    ∃ E' W' V, (Builtin.append_ #[t, tx] ty #[S, X]).run P W = .ok V W' ∧ Ext E E' h g W W' ∧ HR top E' g W' ∧ VR E' v V := by
  unfold evOnto at ev
  split at ev
  · simp only [VR] at hs
    subst hs
    split at ev
    · rename_i h0
      subst h0
      cases ev
      exact ⟨E, W, _, append_nil0 hT.under hT.size hn, Ext.refl _ _ _, k, by simp only [VR]⟩
    · rename_i h0
      have := grow_res (ty := ty) (base := none) (len := 0) (cap := 0) (old := []) (Old := []) k hT (by simpa using ev) ht hn hx hl ho VRs.nil (by simp) (fun w _ => by simp [Builtin.firstCells]) (by omega) (by omega)
      exact this
  · rename_i j off len c
    simp only [VR] at hs
    obtain ⟨b, cc, hE, rfl⟩ := hs
    split at ev
    · rename_i hroom
      simp only [Option.map_eq_some_iff] at ev
      obtain ⟨g', hg, e2⟩ := ev
      cases e2
      obtain ⟨W', w1, w2, w3⟩ := k.store (P := P) hg hE hx ho
      exact ⟨E, W', _, append_room hT.under hT.size hn hroom (by rw [Nat.add_right_comm]; exact w1), w2, w3, by simp only [VR]; exact ⟨b, cc, hE, rfl⟩⟩
    · rename_i hroom
      split at ev
      · rename_i hb
        split at ev
        · rename_i old hold
          obtain ⟨L, l1, l2, l3⟩ := k.load (P := P) hold hE
          exact grow_res k hT ev ht hn hx hl ho l2 l3 (fun w hw => by simp only [Builtin.firstCells]; exact l1 w hw) (by omega) hb
        · cases ev
      · cases ev
  · rename_i j off len d
    simp only [VR] at hs
    obtain ⟨b, cc, hE, rfl⟩ := hs
    have hkn := knownN_le (s := sz) k hE
    split at ev
    · rename_i hroom
      simp only [Option.map_eq_some_iff] at ev
      obtain ⟨g', hg, e2⟩ := ev
      cases e2
      obtain ⟨W', w1, w2, w3⟩ := k.store (P := P) hg hE hx ho
      exact ⟨E, W', _, append_room hT.under hT.size hn (by omega) (by rw [Nat.add_right_comm]; exact w1), w2, w3, by simp only [VR]; exact ⟨b, cc, hE, rfl⟩⟩
    · split at ev
      · rename_i hb
        obtain ⟨hb, rfl, rfl⟩ := hb
        split at ev
        · rename_i l e' sz' old hg hold
          split at ev
          · rename_i he
            obtain ⟨rfl, rfl⟩ := he
            simp only [Option.map_eq_some_iff] at ev
            obtain ⟨⟨m, g'⟩, htk, e2⟩ := ev
            cases e2
            have h0 : 0 + len ≤ knownN h j sz' := by
              have hr : len * sz' ≤ l.length := by
                unfold Heap.loadN at hold
                rw [hg] at hold
                simp only [dropN_eq, List.drop_zero] at hold
                exact (takeN_eq hold).1
              have : knownN h j sz' = l.length / sz' := by unfold knownN; rw [hg]; simp
              rw [this, Nat.zero_add]
              exact (Nat.le_div_iff_mul_le hT.pos).2 hr
            exact onto_take (d := 0) k hT ht hn hx hl ho hE hg hold (by simp) h0 hb htk
          · cases ev
        · cases ev
      · split at ev
        · rename_i hb
          obtain ⟨hb, rfl, h0⟩ := hb
          split at ev
          · rename_i l e' sz' old hg hold
            split at ev
            · rename_i he
              obtain ⟨rfl, rfl⟩ := he
              simp only [Option.map_eq_some_iff] at ev
              obtain ⟨⟨m, g'⟩, htk, e2⟩ := ev
              cases e2
              exact onto_take k hT ht hn hx hl ho hE hg hold rfl h0 hb htk
            · cases ev
          · cases ev
        · cases ev
  · rename_i j off d
    simp only [VR] at hs
    obtain ⟨b, cc, hE, o, ho', rfl⟩ := hs
    split at ev
    · rename_i h0
      subst h0
      cases ev
      have hxl : Xs = [] := List.length_eq_zero_iff.1 (by rw [hx.len, hl]; simp)
      subst hxl
      exact ⟨E, W, _, append_room hT.under hT.size hn (by omega) (by simp [storeCells]), Ext.refl _ _ _, k, by simp only [VR]; exact ⟨b, cc, hE, o, ho', rfl⟩⟩
    · rename_i hn0
      split at ev
      · rename_i hb
        obtain ⟨hb, rfl, h0⟩ := hb
        split at ev
        · rename_i l e' sz' hg
          split at ev
          · rename_i he
            obtain ⟨rfl, rfl⟩ := he
            simp only [Option.map_eq_some_iff] at ev
            obtain ⟨⟨m, g'⟩, htk, e2⟩ := ev
            cases e2
            have hold : h.loadN j (d * sz') (0 * sz') = some [] := by
              unfold Heap.loadN
              rw [hg, Nat.zero_mul]
              rfl
            by_cases hc0 : cc.1 - d = 0
            · obtain ⟨c', Q, a1, a2⟩ := append_grow (t := t) (tx := tx) (ty := ty) (base := some ⟨b, o, none⟩) (len := 0) (cap := cc.1 - d) (Old := []) hT.under hT.info hT.isz hT.iby hT.by1 hT.zero hT.zsz hn (by rw [hx.len, hl]) (hx.oneCells ho) (by simp) (fun w hw => by simp only [Builtin.firstCells, Nat.zero_mul]; rfl) (by omega) (by omega)
              have hnx : g'.next = h.next + 1 := by
                unfold Heap.take at htk
                split at htk
                · split at htk
                  · cases htk; rfl
                  · cases htk
                · cases htk
              have ht' : h.next + 1 ≤ top := by rw [← hnx]; exact ht
              have hEn : E h.next = none := k.lt _ (Nat.le_refl _) (by omega)
              have hle := Env.put_le (x := (W.heap.size, (c', 0))) hEn
              simp only [List.nil_append, Nat.zero_add] at a1 a2
              obtain ⟨rfl, g1, g2, g3⟩ := k.take (by omega) htk hE (W.drew.alloc (.cells (Xs ++ Q).toArray e' (0, 0))) (.cells (Xs ++ Q).toArray e' (0, 0)) W.heap.size (c', 0)
                (World.alloc_heap_new W.drew _) ⟨[], _, Q, _, _, hx.mono hle, rfl, if_pos rfl, a2, hT.pos, rfl⟩
                (.inr (Nat.le_refl _)) (fun q hq _ => RowKit.Below.heap_alloc W.drew _ q hq) (by simp) rfl rfl rfl
              refine ⟨_, _, _, a1, g2, g1, ?_⟩
              simp only [VR]
              exact ⟨_, _, g3, rfl⟩
            · obtain rfl : o = d * sz' + cc.2 := ho'.elim id (fun h => absurd h hc0)
              have := onto_take (ty := ty) (len := 0) (old := []) k hT ht hn hx hl ho hE hg hold rfl (by omega) (by omega) (by simpa using htk)
              rwa [Nat.zero_add] at this
          · cases ev
        · cases ev
      · cases ev
  · cases ev

theorem append_run {top : Nat} {E : Env} {h g : Heap} {W : World} (k : HR top E h W) {ts : Array TypeId} {ty : TypeId} {xs : List AV} {v : AV} {Xs : List Value} (ev : evAppend P h ts xs = some (v, g)) (ht : g.next ≤ top) (hx : VRs E xs Xs) :
    ∃ E' W' V, (Builtin.append_ ts ty Xs.toArray).run P W = .ok V W' ∧ Ext E E' h g W W' ∧ HR top E' g W' ∧ VR E' v V := by
  unfold evAppend at ev
  split at ev
  · rename_i s x t tx h0 h1
    split at ev
    · rename_i e hu
      split at ev
      · rename_i sz bytes z hs hb hz
        split at ev
        · rename_i n new hnews
          split at ev
          · rename_i hc
            obtain ⟨c1, c2, c3, c4, c5, c6⟩ := hc
            simp only [VRs] at hx
            obtain ⟨S, _, rfl, vs, X, _, rfl, vx, rfl⟩ := hx
            obtain ⟨Ns, n1, n2⟩ := news_run (P := P) k hnews vx
            obtain ⟨Z, hZ, vZ, i, hi, hiz⟩ := run_zeroT hz W
            obtain ⟨i', hi', hisz⟩ := size_info hs
            rw [hi] at hi'
            cases hi'
            have hby : i.bytes = bytes := by
              unfold bytesT at hb
              rw [hi] at hb
              cases hb; rfl
            have hzc : Z.cells.size = sz := by
              have := (vZ E).cells.len
              rw [← c2, ← this]; simp
            obtain ⟨E', W', V, a1, a2, a3, a4⟩ := onto_run (t := t) (tx := tx) (ty := ty) k ⟨hu, hs, hi, hisz, hby, c3, hiz, hzc, c1⟩ ev ht n1 n2 c5 c6 c4 vs
            refine ⟨E', W', V, ?_, a2, a3, a4⟩
            rw [← a1]
            have e0 : ts[0]? = (#[t, tx] : Array TypeId)[0]? := by rw [h0]; rfl
            have e1 : ts[1]? = (#[t, tx] : Array TypeId)[1]? := by rw [h1]; rfl
            unfold Builtin.append_
            rw [e0, e1]
          · cases ev
        · cases ev
      · cases ev
    · cases ev
  · cases ev
end Go.Proofs.YtkebbdpfjhhdhaaGreat.Ev

/- One operation, all of them. -/
namespace Go.Proofs.YtkebbdpfjhhdhaaGreat.Ev
variable {P : Program}

theorem wrap_small {n : Int} (h0 : 0 ≤ n) (h1 : n ≤ 65536) : IntKind.i64.wrap n = n := by
  unfold IntKind.wrap
  simp only [IntKind.bits, IntKind.signed]
  have : n % (2 ^ 64 : Int) = n := Int.emod_eq_of_lt h0 (by omega)
  simp only [this]
  rw [if_neg]
  simp
  omega
theorem VR.go {E : Env} (n : Nat) : VR E (aint n) (goInt n) := by simp only [aint, VR, goInt]
theorem len_op {top : Nat} {E : Env} {h : Heap} {W : World} (k : HR top E h W) {t : TypeId} {x v : AV} {X : Value} (ev : lenA P t h x = some v) (hx : VR E x X) {ts : Array TypeId} (h0 : ts[0]? = some t) (ty : TypeId) : ∃ V, (Builtin.len_ ts ty #[X]).run P W = .ok V W ∧ VR E v V := by
  unfold lenA at ev
  split at ev
  · rename_i s hu
    cases ev; simp only [VR] at hx; subst hx
    have : (⟨s.toArray⟩ : ByteArray).size = s.length := by show (s.toArray).size = _; simp
    exact ⟨goInt s.length, by simp [Builtin.len_, h0, run_underlying hu, this], VR.go _⟩
  · rename_i n e hu
    cases ev
    exact ⟨goInt n, by simp [Builtin.len_, h0, run_underlying hu], VR.go _⟩
  · rename_i e hu
    cases ev; simp only [VR] at hx; subst hx
    exact ⟨goInt (0 : Nat), by simp [Builtin.len_, h0, run_underlying hu], VR.go _⟩
  · rename_i e hu
    cases ev; simp only [VR] at hx; obtain ⟨_, _, rfl⟩ := hx
    exact ⟨goInt (0 : Nat), by simp [Builtin.len_, h0, run_underlying hu], VR.go _⟩
  · rename_i e i off d hu
    cases ev; simp only [VR] at hx; obtain ⟨_, _, _, _, _, rfl⟩ := hx
    exact ⟨goInt (0 : Nat), by simp [Builtin.len_, h0, run_underlying hu], VR.go _⟩
  · rename_i e i off n c hu
    cases ev; simp only [VR] at hx; obtain ⟨_, _, _, rfl⟩ := hx
    exact ⟨goInt n, by simp [Builtin.len_, h0, run_underlying hu], VR.go _⟩
  · rename_i kt e hu
    cases ev; simp only [VR] at hx; subst hx
    exact ⟨goInt (0 : Nat), by simp [Builtin.len_, h0, run_underlying hu], VR.go _⟩
  · rename_i kt e r hu
    split at ev
    · rename_i es ck hg
      cases ev
      obtain ⟨b, c, Es, hE, hW, hes⟩ := k.mapAt hg
      simp only [VR] at hx
      obtain ⟨b', c', hE', rfl⟩ := hx
      rw [hE] at hE'
      cases hE'
      have hl : ∀ {es : List (AV × AV × Nat)} {Es : List MapEntry}, ERs E es Es → Es.length = es.length := by
        intro es
        induction es with
        | nil => intro Es h; simp only [ERs] at h; subst h; rfl
        | cons e es ih => intro Es h; obtain ⟨F, L, rfl, _, h2⟩ := h; simp [ih h2]
      have h2 := run_getObj' (P := P) hW rfl
      exact ⟨goInt es.length, by simp [Builtin.len_, h0, run_underlying hu, h2, hl hes], VR.go _⟩
    · cases ev
  · cases ev
theorem cap_op {E : Env} {W : World} {t : TypeId} {x v : AV} {X : Value} (ev : capA P t x = some v) (hx : VR E x X) {ts : Array TypeId} (h0 : ts[0]? = some t) (ty : TypeId) : ∃ V, (Builtin.cap_ ts ty #[X]).run P W = .ok V W ∧ VR E v V := by
  unfold capA at ev
  split at ev
  · rename_i n e hu
    cases ev
    exact ⟨goInt n, by simp [Builtin.cap_, h0, run_underlying hu], VR.go _⟩
  · rename_i e hu
    cases ev; simp only [VR] at hx; subst hx
    exact ⟨goInt (0 : Nat), by simp [Builtin.cap_, h0, run_underlying hu], VR.go _⟩
  · rename_i e i off n c hu
    cases ev; simp only [VR] at hx; obtain ⟨_, _, _, rfl⟩ := hx
    exact ⟨goInt c, by simp [Builtin.cap_, h0, run_underlying hu], VR.go _⟩
  · cases ev

theorem Res.val {top : Nat} {E : Env} {h : Heap} {W : World} {v : AV} {V : Value} (k : HR top E h W) (hv : VR E v V) : Res P top E h W (.value v) h (.ok (.value V) W) := ⟨E, W, V, rfl, Ext.refl _ _ _, k, hv⟩
theorem Res.of_plain {top : Nat} {E : Env} {h g : Heap} {W : World} {r : Option AV} {x : ANext} (k : HR top E h W) (e : plainV r h = some (x, g)) {s : Sem Value} (hs : ∀ v, r = some v → ∃ V, s.run P W = .ok V W ∧ VR E v V) : Res P top E h W x g ((do pure (.value (← s)) : Sem Next).run P W) := by
  obtain ⟨v, hv, rfl, rfl⟩ := plainV_eq e
  obtain ⟨V, h1, h2⟩ := hs v hv
  simp only [Sem.run_bind, h1, Result.andThen_ok, Sem.run_pure]
  exact Res.val k h2

/-! what is left of a map while it is ranged over -/
theorem ERs.left {E : Env} {seen : List Nat} : ∀ {es : List (AV × AV × Nat)} {Es : List MapEntry}, ERs E es Es → ERs E (leftE seen es) (Es.filter fun e => !seen.contains e.born)
  | [], Es, h => by simp only [ERs] at h; subst h; rfl
  | e :: es, Es, h => by
    obtain ⟨F, L, rfl, hF, hL⟩ := h
    have ih := ERs.left (seen := seen) hL
    unfold leftE
    rw [List.filter_cons, hF.born]
    cases seen.contains e.2.2
    · simp only [Bool.false_eq_true, if_false, Bool.not_false, if_true]
      exact ⟨F, _, rfl, hF, ih⟩
    · simpa using ih
theorem ERs.allB {E : Env} {st : Nat} : ∀ {es : List (AV × AV × Nat)} {Es : List MapEntry}, ERs E es Es → (Es.all fun e => decide (e.born ≥ st)) = es.all fun e => Nat.ble st e.2.2
  | [], Es, h => by simp only [ERs] at h; subst h; rfl
  | e :: es, Es, h => by
    obtain ⟨F, L, rfl, hF, hL⟩ := h
    rw [List.all_cons, List.all_cons, ERs.allB hL, hF.born]
    congr 1
    rw [Bool.eq_iff_iff]
    simp
theorem ERs.emp {E : Env} : ∀ {es : List (AV × AV × Nat)} {Es : List MapEntry}, ERs E es Es → Es.isEmpty = es.isEmpty
  | [], Es, h => by simp only [ERs] at h; subst h; rfl
  | e :: es, Es, h => by obtain ⟨F, L, rfl, _, _⟩ := h; rfl
theorem ERs.born {E : Env} {n : Nat} {e0 : AV × AV × Nat} : ∀ {es : List (AV × AV × Nat)} {Es : List MapEntry}, ERs E es Es → bornE n es = some e0 → ∃ F, Es.find? (fun e => e.born == n) = some F ∧ ER E e0 F
  | [], Es, _, h => by cases h
  | e :: es, Es, h, hb => by
    obtain ⟨F, L, rfl, hF, hL⟩ := h
    unfold bornE at hb
    rw [List.find?_cons, hF.born]
    cases hq : Nat.beq e.2.2 n
    · rw [hq] at hb
      have : (e.2.2 == n) = false := by rw [beq_eq_false_iff_ne]; intro h; rw [h] at hq; simp at hq
      rw [this]
      exact ERs.born hL (by simpa using hb)
    · rw [hq] at hb
      have : (e.2.2 == n) = true := by rw [beq_iff_eq]; exact Nat.eq_of_beq_eq_true hq
      rw [this]
      simp only [if_true, Option.some.injEq] at hb
      subst hb
      exact ⟨F, rfl, hF⟩
theorem HR.iterAt {top : Nat} {E : Env} {h : Heap} {W : World} (k : HR top E h W) {i m since st : Nat} {seen : List Nat} {es} {ck : Nat} (hi : h.get i = some (.iter m since seen st)) (hm : h.get m = some (.map es ck)) :
    ∃ b c d Es, E i = some (d, c) ∧ c.2 = 0 ∧ (∃ c, E m = some (b, c)) ∧ W.heap[d]? = some (.mapIter (some b) since seen.toArray st) ∧ W.heap[b]? = some (.map Es.toArray ck) ∧ ERs E es Es := by
  obtain ⟨d, c, O, e1, e2, b, c', d', e3, e4, ⟨c3, e5⟩, rfl⟩ := k.obj i _ hi
  obtain ⟨b', c5, Es, e6, e7, e8⟩ := k.mapAt hm
  rw [e1] at e3
  cases e3
  rw [e5] at e6
  cases e6
  exact ⟨b, c, d, Es, e1, e4, ⟨c3, e5⟩, e2, e7, e8⟩
theorem next_run {top : Nat} {E : Env} {h g : Heap} {W : World} (k : HR top E h W) {a : Operand → Option AV} {x : Operand} {r : ANext} (e : oNext h a x = some (r, g)) {X : Value} (hx : ∀ v, a x = some v → VR E v X) (ty : TypeId) :
    ∃ v V W', r = .value v ∧ (Instr.next X false ty).run P W = .ok V W' ∧ VR E v V ∧ Ext E E h g W W' ∧ HR top E g W' := by
  unfold oNext at e
  split at e
  · rename_i i hv
    have hX := hx _ hv
    split at e
    · rename_i m since seen st hi
      split at e
      · rename_i es ck hm
        obtain ⟨b, c, d, Es, hE, hc0, ⟨c3, hEm⟩, hW, hWm, hes⟩ := k.iterAt hi hm
        simp only [VR] at hX
        obtain ⟨d', c', hE', rfl⟩ := hX
        rw [hE] at hE'
        cases hE'
        have h1 := run_getObj' (P := P) hW rfl
        have h2 := run_getObj' (P := P) hWm rfl
        split at e
        · cases e
        · rename_i hgone
          have hcond : (!seen.isEmpty && (!Es.isEmpty && Es.all fun e => decide (e.born ≥ st))) = false := by
            rw [hes.emp, hes.allB]
            exact Bool.eq_false_iff.2 hgone
          have hleft := ERs.left (seen := seen) hes
          have hcond2 : (!seen.toArray.isEmpty && !Es.toArray.isEmpty && Es.toArray.all fun e => decide (e.born ≥ st)) = false := by
            rw [List.isEmpty_toArray, List.isEmpty_toArray, List.all_toArray, Bool.and_assoc]
            exact hcond
          have hsE : (Es.toArray.filter fun e => !seen.toArray.contains e.born) = (Es.filter fun e => !seen.contains e.born).toArray := by simp
          split at e
          · rename_i hl
            cases e
            rw [hl] at hleft
            have hl2 : (Es.filter fun e => !seen.contains e.born) = [] := hleft
            refine ⟨_, .tuple #[.bool false], W, rfl, ?_, by simp only [VR]; exact ⟨[.bool false], rfl, VRs.cons (by simp [VR]) VRs.nil⟩, Ext.refl _ _ _, k⟩
            unfold Instr.next
            simp only [hc0, Nat.add_zero, Sem.run_bind, h1, h2, Result.andThen_ok, hcond2, Bool.false_eq_true, if_false, hsE, hl2]
            simp [Question.forced]
          · rename_i e0 hl
            rw [hl] at hleft
            obtain ⟨F, L, hF0, hF, hL⟩ := hleft
            simp only [ERs] at hL
            subst hL
            split at e
            · rename_i hb
              simp only [Option.map_eq_some_iff] at e
              obtain ⟨g', hs, e2⟩ := e
              cases e2
              have hlt : d < W.heap.size := (Array.getElem?_eq_some_iff.1 hW).1
              obtain ⟨h3, h4⟩ := k.set hs hE (W.putObj d (.mapIter (some b) since (seen ++ [e0.2.2]).toArray ck)) _ (World.putObj_heap_same hlt) ⟨b, c, d, hE, hc0, ⟨c3, hEm⟩, rfl⟩ (fun q hq => World.putObj_heap_other hq) (by simp) rfl rfl rfl
              refine ⟨_, .tuple #[.bool true, F.key, F.val], _, rfl, ?_, by simp only [VR]; exact ⟨[.bool true, F.key, F.val], rfl, VRs.cons (by simp [VR]) (VRs.cons hF.key (VRs.cons hF.val VRs.nil))⟩, h4, h3⟩
              have hb' : F.born < since := by rw [hF.born]; simpa using hb
              have hb2 : ¬ since ≤ F.born := by omega
              unfold Instr.next
              simp only [hc0, Nat.add_zero, Sem.run_bind, h1, h2, Result.andThen_ok, hcond2, Bool.false_eq_true, if_false, hsE, hF0]
              simp [Question.forced, hb', hb2]
              rw [run_setObj' _ hW rfl, hF.born]
              rfl
            · cases e
          · cases e
      · cases e
    · cases e
  · cases e
theorem evOp_sound {top : Nat} {E : Env} {h g : Heap} {W : World} {a : AAct} {A : Act} {o : Oper} {x : ANext} (k : HR top E h W) (e : evOp P h a.eval o = some (x, g)) (ht : g.next ≤ top) (hR : OpR E a A o.op.operands.toList) :
    Res P top E h W x g ((execOp A.eval o).run P W) := by
  by_cases hk : kindOf o.op = 0
  · exact (evOp_pure hk e hR).res k
  obtain ⟨dst, op, type, pos, after, guard⟩ := o
  cases op <;> first | (exact absurd rfl hk) | (simp only [evOp] at e; cases e; done) | skip
  case alloc t =>
    simp only [evOp, oAlloc] at e
    split at e
    · rename_i z hz
      obtain ⟨rfl, rfl⟩ := newV_eq e
      obtain ⟨Z, h1, h2, _⟩ := run_zeroT hz W
      obtain ⟨g1, g2, g3⟩ := k.newCells ht (h2 E).cells t
      refine ⟨_, _, .pointer (some ⟨W.heap.size, 0, none⟩), ?_, g2, g1, by simp only [VR]; exact ⟨_, _, g3, rfl⟩⟩
      simp [execOp, Instr.alloc, h1, newVar, newRow]
    · cases e
  case box t y =>
    simp only [evOp, oBox] at e
    split at e
    · rename_i v hv
      obtain ⟨rfl, rfl⟩ := newV_eq e
      obtain ⟨g1, g2, g3⟩ := k.newCells ht (hR.one hv).cells t
      refine ⟨_, _, .pointer (some ⟨W.heap.size, 0, none⟩), ?_, g2, g1, by simp only [VR]; exact ⟨_, _, g3, rfl⟩⟩
      simp [execOp, Instr.box, newVar, newRow]
    · cases e
  case buildSlice t n ps =>
    simp only [evOp, oBuildSlice] at e
    split at e
    · rename_i l hl
      split at e
      · rename_i c el hb
        obtain ⟨rfl, rfl⟩ := newV_eq e
        have hp := OpR.parts (by simpa [Op.operands] using hR) hl
        unfold evBuildSlice at hb
        split at hb
        · rename_i el' hu
          split at hb
          · rename_i s z hs hz
            split at hb
            · rename_i hc
              simp only [Option.map_eq_some_iff] at hb
              obtain ⟨r, hr, e2⟩ := hb
              cases e2
              obtain ⟨Z, h1, h2, _⟩ := zeroT_cells hz W
              have hzs : Z.cells.size = s := by rw [← hc.1]; have := (h2 E).cells.len; simpa using this
              obtain ⟨R, f1, f2⟩ := fill_run hr hp ((h2 E).cells.rep n)
              obtain ⟨g1, g2, g3⟩ := k.newCells ht f2 el
              refine ⟨_, _, .slice (some ⟨W.heap.size, 0, none⟩) n n, ?_, g2, g1, by simp only [VR]; exact ⟨_, _, g3, rfl⟩⟩
              have hbig : ¬ (n * s > 2 ^ 24) := by omega
              have hfill : Instr.fill (fun i => some (i * s, s)) ((Array.range (n * s)).map (fun i => (if n * s = 0 then (#[] : Array Value) else Z.cells)[i % (if n * s = 0 then (#[] : Array Value) else Z.cells).size]!)) (ps.toList.map fun p => (p.1, A.eval p.2)) = some R.toArray := by
                rw [← f1]
                congr 1
                by_cases h0 : n * s = 0
                · rw [h0]
                  have : n = 0 := by rcases Nat.mul_eq_zero.1 h0 with h | h <;> omega
                  subst this
                  simp
                · simp only [if_neg h0]
                  rw [← range_rep, hzs]
              by_cases h0 : n * s = 0
              · simp only [if_pos h0] at hfill
                simp [execOp, Instr.buildSlice, run_underlying hu, run_size hs, h0]
                simp [h0] at hfill
                simp [hfill, newRow]
              · simp only [if_neg h0] at hfill
                simp [execOp, Instr.buildSlice, run_underlying hu, run_size hs, h0, hbig, h1, hfill, newRow]
            · cases hb
          · cases hb
        · cases hb
      · cases e
    · cases e
  case load t y =>
    simp only [evOp, oLoad] at e
    split at e
    · rename_i i off hv
      have h1 := hR.one hv
      simp only [VR] at h1
      obtain ⟨b, c, hE, h1⟩ := h1
      refine Res.of_plain k e (s := Instr.loadAt t (A.eval y)) fun v hv => ?_
      obtain ⟨V, h2, h3⟩ := k.loadV (P := P) hv hE
      exact ⟨V, by rw [h1]; simp [Instr.loadAt, Instr.sureAddr, h2], h3⟩
    · cases e
  case store t y z =>
    simp only [evOp, oStore] at e
    split at e
    · rename_i i off v hy hz
      simp only [Option.map_eq_some_iff] at e
      obtain ⟨g', hs, e2⟩ := e
      cases e2
      have h1 := hR y (by simp [Op.operands]) _ hy
      have h2 := hR z (by simp [Op.operands]) _ hz
      simp only [VR] at h1
      obtain ⟨b, c, hE, h1⟩ := h1
      unfold evStore at hs
      split at hs
      · rename_i s hsz
        split at hs
        · rename_i hc
          obtain ⟨W', w1, w2, w3⟩ := k.store (P := P) hs hE h2.cells hc.2
          have hl : (A.eval z).cells.size = s := by rw [← hc.1]; have := h2.cells.len; simpa using this
          refine ⟨E, W', ?_, w2, w3⟩
          simp [execOp, h1, Instr.storeAt, Instr.sureAddr, storeVar, run_size hsz, hl, w1]
        · cases hs
      · cases hs
    · cases e
  case makeMap t r =>
    have hnew : ∀ (hh : newV h (.map [] 0) (fun i => AV.map i) = some (x, g)) (hrun : (Instr.makeMap t (r.map A.eval)).run P W = .ok (.map (some W.heap.size)) (W.alloc (.map #[] 0))), Res P top E h W x g ((execOp A.eval { dst := dst, op := .makeMap t r, type := type, pos := pos, after := after, guard := guard }).run P W) := by
      intro hh hrun
      obtain ⟨rfl, rfl⟩ := newV_eq hh
      obtain ⟨g1, g2, g3⟩ := k.new ht (.map [] 0) (.map #[] 0) (0, 0) ⟨[], rfl, rfl⟩
      refine ⟨_, _, .map (some W.heap.size), ?_, g2, g1, by simp only [VR]; exact ⟨_, _, g3, rfl⟩⟩
      simp [execOp, hrun]
    simp only [evOp, oMakeMap] at e
    split at e
    · rename_i ho
      refine hnew e ?_
      cases r with
      | none => simp [Instr.makeMap]
      | some y => simp [optO] at ho
    · rename_i kk n ho
      split at e
      · rename_i k1 e1 hu
        refine hnew e ?_
        cases r with
        | none => simp [optO] at ho
        | some y =>
          simp only [optO, Option.map_eq_some_iff] at ho
          obtain ⟨v, hv, hv2⟩ := ho
          cases hv2
          have h1 := hR.one (by simpa [Op.operands] using hv)
          simp only [VR] at h1
          simp [Instr.makeMap, run_underlying hu, h1, asInt, asIntOf]
      · cases e
    · cases e
  case makeSlice t l c =>
    simp only [evOp, oMakeSlice] at e
    split at e
    · rename_i n m el hn hm hu
      split at e
      · rename_i s z by_ hs hz hb
        split at e
        · rename_i hc
          obtain ⟨c1, c2, c3, c4, c5, c6⟩ := hc
          obtain ⟨rfl, rfl⟩ := newV_eq e
          have h1 := hR l (by simp [Op.operands]) _ hn
          have h2 := hR c (by simp [Op.operands]) _ hm
          simp only [VR] at h1 h2
          obtain ⟨Z, z1, z2, _⟩ := zeroT_cells hz W
          have hzs : Z.cells.size = s := by rw [← c4]; have := (z2 E).cells.len; simpa using this
          obtain ⟨g1, g2, g3⟩ := k.newCells ht ((z2 E).cells.rep m.toNat) el
          obtain ⟨i, hi, hib⟩ := bytes_run hb W
          refine ⟨_, _, .slice (some ⟨W.heap.size, 0, none⟩) n.toNat m.toNat, ?_, g2, g1, by simp only [VR]; exact ⟨_, _, g3, rfl⟩⟩
          have w1 := wrap_small c1 (by omega)
          have w2 := wrap_small (n := m) (by omega) c3
          have hfit : ¬ (281474976710656 < (i.bytes : Int) * m) := by
            have : i.bytes * m.toNat ≤ 1000000 * 65536 := Nat.mul_le_mul (by omega) (by omega)
            have h3 : ((i.bytes * m.toNat : Nat) : Int) = (i.bytes : Int) * m := by push_cast; rw [Int.toNat_of_nonneg (by omega)]
            omega
          have hneg : ¬ (m < 0) := by omega
          have hn0 : ¬ (n < 0) := by omega
          have hnm : ¬ (m < n) := by omega
          by_cases h0 : m.toNat * s = 0
          · have hm0 : m.toNat = 0 := by rcases Nat.mul_eq_zero.1 h0 with h | h <;> omega
            simp [execOp, Instr.makeSlice, run_underlying hu, h1, h2, asInt, asIntOf, hi, w1, w2, hfit, hneg, hn0, hnm, run_size hs, newRow, hm0]
            congr 2
            apply Array.ext'
            simp
          · have hr := range_rep Z.cells m.toNat
            rw [hzs] at hr
            simp [execOp, Instr.makeSlice, run_underlying hu, h1, h2, asInt, asIntOf, hi, w1, w2, hfit, hneg, hn0, hnm, run_size hs, h0, z1, newRow, hzs, hr]
        · cases e
      · cases e
    · cases e
  case slice t y lo hi mx =>
    simp only [evOp, oSlice] at e
    split at e
    · rename_i v l r m hy hlo hhi hmx
      have h1 := hR y (by simp [Op.operands]) _ hy
      have h2 := optO_run (A := A) hlo (fun q hq u hu => hR q (by simp [Op.operands]; exact .inr (.inl (by simpa using hq))) u hu)
      have h3 := optO_run (A := A) hhi (fun q hq u hu => hR q (by simp [Op.operands]; exact .inr (.inr (.inl (by simpa using hq)))) u hu)
      have h4 := optO_run (A := A) hmx (fun q hq u hu => hR q (by simp [Op.operands]; exact .inr (.inr (.inr (by simpa using hq)))) u hu)
      exact Res.of_plain k e (s := Instr.sliceAt t (A.eval y) (lo.map A.eval) (hi.map A.eval) (mx.map A.eval)) fun v hv => evSlice_run k hv h1 h2 h3 h4
    · cases e
  case lookup t y i ok =>
    simp only [evOp, oLookup] at e
    split at e
    · rename_i v u hv hu
      exact Res.of_plain k e (s := Instr.lookup t (A.eval y) (A.eval i) ok) fun v' hv' => evLookup_run k hv' (hR y (by simp [Op.operands]) v hv) (hR i (by simp [Op.operands]) u hu)
    · cases e
  case range t y =>
    simp only [evOp, oRange] at e
    split at e
    · rename_i r hv
      split at e
      · rename_i kt et es ck hu hg
        obtain ⟨rfl, rfl⟩ := newV_eq e
        obtain ⟨b, c, Es, hE, hW, hes⟩ := k.mapAt hg
        have h1 := hR.one hv
        simp only [VR] at h1
        obtain ⟨b', c', hE', h1⟩ := h1
        rw [hE] at hE'
        cases hE'
        have hr : r < h.next := Heap.get_lt k (by rw [hg]; rfl)
        obtain ⟨g1, g2, g3⟩ := k.new ht (.iter r ck [] ck) (.mapIter (some b) ck #[] ck) (0, 0) ⟨b, (0, 0), W.heap.size, by simp [Env.put], rfl, ⟨c, by unfold Env.put; rw [if_neg (by omega)]; exact hE⟩, rfl⟩
        have h2 := run_getObj' (P := P) hW rfl
        refine ⟨_, _, .pointer (some ⟨W.heap.size, 0, none⟩), ?_, g2, g1, by simp only [VR]; exact ⟨_, _, g3, rfl⟩⟩
        simp [execOp, Instr.range, run_underlying hu, h1, h2]
      · cases e
    · cases e
  case next y s =>
    cases s
    · simp only [evOp] at e
      obtain ⟨v, V, W', rfl, w1, w2, w3, w4⟩ := next_run (P := P) k e (X := A.eval y) (fun v hv => hR.one hv) type
      exact ⟨E, W', V, by simp [execOp, w1], w3, w4, w2⟩
    · simp only [evOp] at e; cases e
  case entry y =>
    simp only [evOp] at e
    unfold oEntry at e
    split at e
    · rename_i i hv
      have h1 := hR.one hv
      simp only [VR] at h1
      obtain ⟨d', c', hE', h1⟩ := h1
      split at e
      · rename_i m since seen st hi
        split at e
        · rename_i n es ck hl hm
          obtain ⟨b, c, d, Es, hE, hc0, ⟨c3, hEm⟩, hW, hWm, hes⟩ := k.iterAt hi hm
          rw [hE] at hE'
          cases hE'
          have h2 := run_getObj' (P := P) hW rfl
          have h3 := run_getObj' (P := P) hWm rfl
          split at e
          · rename_i hck
            have hck := Nat.eq_of_beq_eq_true hck
            subst hck
            split at e
            · rename_i e0 hb
              cases e
              obtain ⟨F, f1, f2⟩ := hes.born hb
              refine ⟨E, W, .tuple #[F.key, F.val], ?_, Ext.refl _ _ _, k, by simp only [VR]; exact ⟨[F.key, F.val], rfl, VRs.cons f2.key (VRs.cons f2.val VRs.nil)⟩⟩
              simp [execOp, Instr.entry, h1, hc0, h2, h3, hl, f1]
            · cases e
          · cases e
        · cases e
      · cases e
    · cases e
  case mapUpdate t m q z =>
    simp only [evOp, oUpdate] at e
    split at e
    · rename_i v u y hv hu hy
      simp only [Option.map_eq_some_iff] at e
      obtain ⟨g', hs, e2⟩ := e
      cases e2
      obtain ⟨W', w1, w2, w3⟩ := evUpdate_run k hs (hR m (by simp [Op.operands]) v hv) (hR q (by simp [Op.operands]) u hu) (hR z (by simp [Op.operands]) y hy)
      exact ⟨E, W', by simp [execOp, w1], w2, w3⟩
    · cases e
  case insert t m q z =>
    simp only [evOp, oUpdate] at e
    split at e
    · rename_i v u y hv hu hy
      simp only [Option.map_eq_some_iff] at e
      obtain ⟨g', hs, e2⟩ := e
      cases e2
      obtain ⟨W', w1, w2, w3⟩ := evUpdate_run k hs (hR m (by simp [Op.operands]) v hv) (hR q (by simp [Op.operands]) u hu) (hR z (by simp [Op.operands]) y hy)
      exact ⟨E, W', by simp [execOp, w1], w2, w3⟩
    · cases e
  case call c =>
    obtain ⟨callee, args, ts⟩ := c
    cases callee with
    | invoke r n => simp only [evOp, oCall] at e; cases e
    | builtin b =>
      simp only [evOp, oCall] at e
      have hl0 : OpR E a A args.toList := hR.sub (by simp [Op.operands, Call.operands])
      split at e
      · rename_i l hl
        have h1 := OpR.list hl0 hl
        simp only [Option.map_eq_some_iff] at e
        obtain ⟨⟨v, g'⟩, hb, e2⟩ := e
        cases e2
        have hargs : args.map A.eval = (args.toList.map A.eval).toArray := by apply Array.ext'; simp
        cases b <;> simp only [evBuiltin] at hb <;> first | (cases hb; done) | (exact absurd rfl hk) | skip
        case append =>
          obtain ⟨E', W', V, a1, a2, a3, a4⟩ := append_run (ty := type) k hb ht h1
          exact ⟨E', W', V, by simp only [execOp, resolve, Sem.run_bind, Sem.run_pure, Result.andThen_ok, invoke, builtin, hargs, a1], a2, a3, a4⟩
        case cap =>
          split at hb
          · rename_i t y h0
            simp only [Option.map_eq_some_iff] at hb
            obtain ⟨u, hu, e2⟩ := hb
            cases e2
            simp only [VRs] at h1
            obtain ⟨Y, _, h1, hy, rfl⟩ := h1
            obtain ⟨V, r1, r2⟩ := cap_op (W := W) hu hy h0 type
            exact ⟨E, W, V, by rw [h1] at hargs; simp only [execOp, resolve, Sem.run_bind, Sem.run_pure, Result.andThen_ok, invoke, builtin, hargs, r1], Ext.refl _ _ _, k, r2⟩
          · cases hb
        case copy =>
          split at hb
          · rename_i el d s hu0
            split at hb
            · rename_i sz n i off len cap hs hn
              split at hb
              · rename_i cs hcs
                split at hb
                · rename_i hok
                  simp only [Option.map_eq_some_iff] at hb
                  obtain ⟨g2, hg2, e2⟩ := hb
                  cases e2
                  simp only [VRs] at h1
                  obtain ⟨D, _, h1, hd, S, _, rfl, hsv, rfl⟩ := h1
                  simp only [VR] at hd
                  obtain ⟨b, cc, hE, rfl⟩ := hd
                  obtain ⟨L, f1, f2⟩ := first_run (P := P) k hcs hsv
                  obtain ⟨W', w1, w2, w3⟩ := k.store (P := P) hg2 hE f2 hok
                  simp only [Option.bind_eq_some_iff] at hu0
                  obtain ⟨t, h0, hu⟩ := hu0
                  refine ⟨E, W', goInt (Nat.min n len), ?_, w2, w3, VR.go _⟩
                  rw [h1] at hargs
                  have hlr := len_run (P := P) hn hsv
                  have ff := f1 W rfl
                  simp [execOp, resolve, invoke, builtin, hargs, Builtin.copy_, h0, run_underlying hu, hlr, run_size hs, ff, w1]
                · cases hb
              · cases hb
            · cases hb
          · cases hb
        case clear =>
          split at hb
          · rename_i el i off len cap hu0
            split at hb
            · cases hb
            · rename_i hl0'
              split at hb
              · rename_i z hz
                split at hb
                · rename_i hok
                  simp only [Option.map_eq_some_iff] at hb
                  obtain ⟨g2, hg2, e2⟩ := hb
                  cases e2
                  simp only [VRs] at h1
                  obtain ⟨D, _, h1, hd, rfl⟩ := h1
                  simp only [VR] at hd
                  obtain ⟨b, cc, hE, rfl⟩ := hd
                  obtain ⟨Z, z1, z2, z3⟩ := zeroT_cells hz W
                  obtain ⟨W', w1, w2, w3⟩ := k.store (P := P) hg2 hE ((z2 E).cells.rep len) hok
                  simp only [Option.bind_eq_some_iff] at hu0
                  obtain ⟨t, h0, hu⟩ := hu0
                  refine ⟨E, W', .tuple #[], ?_, w2, w3, by simp [VR, VRs]⟩
                  rw [h1] at hargs
                  have hr : (List.range (len * Z.cells.size)).map (fun i => Z.cells[i % Z.cells.size]!) = (List.replicate len Z.cells.toList).flatten := by
                    have := congrArg Array.toList (range_rep Z.cells len)
                    simpa using this
                  simp [execOp, resolve, invoke, builtin, hargs, Builtin.clear_, h0, run_underlying hu, z1, Builtin.zeroCells, hr, w1, hl0']
                · cases hb
              · cases hb
          · cases hb
        case len =>
          split at hb
          · rename_i t y h0
            simp only [Option.map_eq_some_iff] at hb
            obtain ⟨u, hu, e2⟩ := hb
            cases e2
            simp only [VRs] at h1
            obtain ⟨Y, _, h1, hy, rfl⟩ := h1
            obtain ⟨V, r1, r2⟩ := len_op k hu hy h0 type
            exact ⟨E, W, V, by rw [h1] at hargs; simp only [execOp, resolve, Sem.run_bind, Sem.run_pure, Result.andThen_ok, invoke, builtin, hargs, r1], Ext.refl _ _ _, k, r2⟩
          · cases hb
      · cases e
    | value f =>
      simp only [evOp, oCall] at e
      have hf0 : ∀ v, a.eval f = some v → VR E v (A.eval f) := fun v hv => hR f (by simp [Op.operands, Call.operands]) v hv
      have hl0 : OpR E a A args.toList := hR.sub (fun q hq => by simp [Op.operands, Call.operands]; exact .inr (by simpa using hq))
      have hargs : args.map A.eval = (args.toList.map A.eval).toArray := by apply Array.ext'; simp
      split at e
      · rename_i gf l cs xs hf hxs
        cases e
        have h1 := hf0 _ hf
        have h2 := OpR.list hl0 hxs
        simp only [VR] at h1
        obtain ⟨fn, As, Cs, h1, h3, h4, rfl⟩ := h1
        refine ⟨rfl, As ++ args.toList.map A.eval ++ Cs, ?_, (h3.append h2).append h4⟩
        have e2 : As.toArray ++ args.map A.eval ++ Cs.toArray = (As ++ args.toList.map A.eval ++ Cs).toArray := by rw [hargs]; apply Array.ext'; simp
        rw [← e2]
        simp [execOp, resolve, Deferred.ofValue, h1, invoke]
      · rename_i gf xs hf hxs
        cases e
        have h1 := hf0 _ hf
        have h2 := OpR.list hl0 hxs
        simp only [VR] at h1
        obtain ⟨fn, As, Cs, h1, h3, h4, b, c, hE, rfl⟩ := h1
        simp only [VRs] at h3 h4
        subst h3 h4
        refine ⟨rfl, args.toList.map A.eval, b, c, hE, ?_, h2⟩
        rw [← hargs]
        simp [execOp, resolve, Deferred.ofValue, h1, invoke]
      · cases e
  all_goals (simp only [evOp] at e; (cases e; done))
end Go.Proofs.YtkebbdpfjhhdhaaGreat.Ev
