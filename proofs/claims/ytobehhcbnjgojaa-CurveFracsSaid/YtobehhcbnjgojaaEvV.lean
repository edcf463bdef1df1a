/- One operation: those that read or write memory. -/
import Derived.Test.YtobehhcbnjgojaaEvU
import Derived.Laws.CopyRow
namespace Go.Proofs.Ytobehhcbnjgojaa.Ev
variable {P : Program}

/-- what an operation comes to -/
def Res (P : Program) (top : Nat) (E : Env) (h : Heap) (W : World) (x : ANext) (g : Heap) (r : Result Next) : Prop :=
  match x with
  | .value v => ∃ E' W' V, r = .ok (.value V) W' ∧ Ext E E' h g W W' ∧ HR top E' g W' ∧ VR E' v V
  | .skip => ∃ E' W', r = .ok .skip W' ∧ Ext E E' h g W W' ∧ HR top E' g W'
  | .enter f args => g = h ∧ ∃ L, r = (callFunc f L.toArray).run P W ∧ VRs E args L
  | .round l args => g = h ∧ ∃ L b c, E l = some (b, c) ∧ r = (Instr.yield b L.toArray).run P W ∧ VRs E args L

theorem PureO.res {top : Nat} {E : Env} {h g : Heap} {A : Act} {o : Oper} {x : ANext} {W : World} (p : PureO P E h A o x g) (k : HR top E h W) : Res P top E h W x g ((execOp A.eval o).run P W) := by
  obtain ⟨rfl, v, rfl, hw⟩ := p
  obtain ⟨V, h1, h2⟩ := hw W
  exact ⟨E, W, V, h1, Ext.refl _ _ _, k, h2⟩

/-! rows -/
theorem HR.rowAt {top : Nat} {E : Env} {h : Heap} {W : World} (k : HR top E h W) {i : Nat} {l : List AV} (hr : h.row i = some l) : ∃ b c L X t, E i = some (b, c) ∧ W.heap[b]? = some (.cells (L ++ X).toArray t (0, 0)) ∧ VRs E l L := by
  unfold Heap.row at hr
  split at hr
  · rename_i t hg
    cases hr
    obtain ⟨b, c, O, e1, e2, L, e3, rfl⟩ := k.obj i _ hg
    exact ⟨b, c, L, [], t, e1, by simpa using e2, e3⟩
  · rename_i t sz hg
    cases hr
    obtain ⟨b, c, O, e1, e2, L, X, b', c', e3, rfl, _⟩ := k.obj i _ hg
    exact ⟨b, c, L, X, t, e1, e2, e3⟩
  · cases hr
theorem cell_row {W : World} {b : Nat} {C : Array Value} {t : TypeId} (h : W.heap[b]? = some (.cells C t (0, 0))) (off : Nat) : W.cell? ⟨b, off, none⟩ = C[off]? := by simp [World.cell?, h]
theorem run_loadRow {W : World} {b : Nat} {C : Array Value} {t : TypeId} (h : W.heap[b]? = some (.cells C t (0, 0))) (off n : Nat) (hn : off + n ≤ C.size) : (loadCells ⟨b, off, none⟩ n).run P W = .ok (C.extract off (off + n)) W := by
  have := run_loadCellsFrom (P := P) (w := W) ⟨b, off, none⟩ (fun j => C.getD (off + j) undef) n 0 #[] (fun j hj => by
    rw [add_none, cell_row h, Nat.zero_add]
    simp [Array.getD, show off + j < C.size from by omega])
  unfold loadCells
  rw [this]
  congr 1
  apply Array.ext
  · simp; omega
  · intro i h1 h2
    simp at h1 h2
    simp [show off + i < C.size from by omega]
theorem HR.load {top : Nat} {E : Env} {h : Heap} {W : World} (k : HR top E h W) {i off n : Nat} {l : List AV} (hl : h.loadN i off n = some l) {b c : Nat} (hE : E i = some (b, c)) : ∃ L, (∀ w, w.heap = W.heap → (loadCells ⟨b, off, none⟩ n).run P w = .ok L.toArray w) ∧ VRs E l L ∧ L.length = n := by
  unfold Heap.loadN at hl
  simp only [Option.bind_eq_bind, Option.bind_eq_some_iff] at hl
  obtain ⟨r, hr, hl⟩ := hl
  obtain ⟨b', c', L, X, t, e1, e2, e3⟩ := k.rowAt hr
  rw [hE] at e1
  cases e1
  rw [dropN_eq] at hl
  obtain ⟨h1, rfl⟩ := takeN_eq hl
  have hlen := e3.len
  simp only [List.length_drop] at h1
  rcases Nat.eq_zero_or_pos n with h0 | h0
  · subst h0
    exact ⟨[], fun w _ => by simp [loadCells, loadCellsFrom], by simp [VRs.nil], rfl⟩
  · refine ⟨(L.drop off).take n, fun w hw => ?_, (e3.drop off).take n, by simp; omega⟩
    rw [run_loadRow (by rw [hw]; exact e2) off n (by simp; omega)]
    congr 1
    apply Array.ext'
    simp only [Array.toList_extract, List.extract]
    rw [show off + n - off = n from by omega, List.drop_append_of_le_length (by omega), List.take_append_of_le_length (by simp; omega)]
theorem HR.loadV {top : Nat} {E : Env} {h : Heap} {W : World} (k : HR top E h W) {t : TypeId} {i off : Nat} {v : AV} (hv : evLoad P h t i off = some v) {b c : Nat} (hE : E i = some (b, c)) : ∃ V, (loadVar t ⟨b, off, none⟩).run P W = .ok V W ∧ VR E v V := by
  unfold evLoad at hv
  split at hv
  · rename_i s ha hs
    simp only [Option.map_eq_some_iff] at hv
    obtain ⟨l, hl, rfl⟩ := hv
    obtain ⟨L, h1, h2, _⟩ := k.load (P := P) hl hE
    exact ⟨.agg L.toArray, by simp [loadVar, run_aggT ha, run_size hs, h1 W rfl], by simp only [VR]; exact ⟨L, rfl, h2⟩⟩
  · rename_i ha
    simp only [Option.bind_eq_some_iff] at hv
    obtain ⟨r, hr, hv⟩ := hv
    obtain ⟨b', c', L, X, t', e1, e2, e3⟩ := k.rowAt hr
    rw [hE] at e1
    cases e1
    rw [nthN_eq] at hv
    obtain ⟨V, h1, h2⟩ := e3.get hv
    have h3 : W.cell? ⟨b, off, none⟩ = some V := by
      rw [cell_row e2]
      have := (List.getElem?_eq_some_iff.1 h1).1
      simp [List.getElem?_append_left this, h1]
    exact ⟨V, by simp [loadVar, run_aggT ha, h3], h2⟩
  · cases hv

theorem VR.oneCell {E : Env} {v : AV} {V : Value} (h : VR E v V) (ho : okCell v = true) : V.oneCell' = true := by
  cases v <;> simp only [VR] at h <;> first
    | (subst h; rfl)
    | (obtain ⟨_, _, _, rfl⟩ := h; rfl)
    | (obtain ⟨_, _, _, rfl, _⟩ := h; rfl)
    | (obtain ⟨_, rfl, _⟩ := h; first | rfl | (simp [okCell] at ho))
theorem VRs.oneCells {E : Env} : ∀ {l L}, VRs E l L → l.all okCell = true → ∀ V ∈ L, V.oneCell' = true
  | [], _, h, _, V, hV => by simp only [VRs] at h; subst h; cases hV
  | v :: l, _, h, ho, V, hV => by
    simp only [VRs] at h
    obtain ⟨U, L, rfl, h1, h2⟩ := h
    simp only [List.all_cons, Bool.and_eq_true] at ho
    rcases List.mem_cons.1 hV with rfl | hV
    · exact h1.oneCell ho.1
    · exact h2.oneCells ho.2 V hV

/-- a store into a row -/
theorem HR.store {top : Nat} {E : Env} {h g : Heap} {W : World} (k : HR top E h W) {i off : Nat} {xs : List AV} (hs : h.storeN i off xs = some g) {b c : Nat} (hE : E i = some (b, c)) {Xs : List Value} (hx : VRs E xs Xs) (ho : xs.all okCell = true) :
    ∃ W', (storeCells ⟨b, off, none⟩ Xs).run P W = .ok () W' ∧ Ext E E h g W W' ∧ HR top E g W' := by
  unfold Heap.storeN at hs
  simp only [Option.bind_eq_bind, Option.bind_eq_some_iff] at hs
  obtain ⟨r, hr, n, hn, hs⟩ := hs
  obtain ⟨h1, rfl⟩ := overN_eq hn
  have hxl := hx.len
  unfold Heap.setRow at hs
  split at hs
  · rename_i l t hg
    have hr' : r = l := by unfold Heap.row at hr; rw [hg] at hr; cases hr; rfl
    subst hr'
    obtain ⟨b', c', O, e1, e2, L, e3, rfl⟩ := k.obj i _ hg
    rw [hE] at e1
    cases e1
    have hl := e3.len
    have hst := run_storeCells_at (P := P) b off t Xs 0 L.toArray W e2 (by simp; omega) (hx.oneCells ho)
    simp only [Nat.add_zero] at hst
    obtain ⟨h2, h3⟩ := k.set hs hE (W.setRow b (L.take off ++ Xs ++ L.drop (off + Xs.length)).toArray) (.cells (L.take off ++ Xs ++ L.drop (off + Xs.length)).toArray t (0, 0))
      (setRow_heap _ _ _ _ _ _ e2) ⟨_, by rw [hxl]; exact ((e3.take off).append hx).append (e3.drop _), rfl⟩ (fun q hq => setRow_other _ _ _ _ hq) (by simp) rfl rfl rfl
    exact ⟨_, hst, h3, h2⟩
  · rename_i l t sz hg
    have hr' : r = l := by unfold Heap.row at hr; rw [hg] at hr; cases hr; rfl
    subst hr'
    obtain ⟨b', c', O, e1, e2, L, X, b2, c2, e3, rfl, e4, e5, e6⟩ := k.obj i _ hg
    rw [hE] at e1 e4
    cases e1
    cases e4
    have hl := e3.len
    have hst := run_storeCells_at (P := P) b off t Xs 0 (L ++ X).toArray W e2 (by simp; omega) (hx.oneCells ho)
    simp only [Nat.add_zero] at hst
    have heq : (L ++ X).take off ++ Xs ++ (L ++ X).drop (off + Xs.length) = (L.take off ++ Xs ++ L.drop (off + Xs.length)) ++ X := by
      rw [List.take_append_of_le_length (by omega), List.drop_append_of_le_length (by omega)]
      simp
    rw [heq] at hst
    obtain ⟨h2, h3⟩ := k.set hs hE (W.setRow b ((L.take off ++ Xs ++ L.drop (off + Xs.length)) ++ X).toArray) (.cells ((L.take off ++ Xs ++ L.drop (off + Xs.length)) ++ X).toArray t (0, 0))
      (setRow_heap _ _ _ _ _ _ e2) ⟨_, X, b, c, by rw [hxl]; exact ((e3.take off).append hx).append (e3.drop _), rfl, hE, by rw [← e5]; simp; omega, e6⟩ (fun q hq => setRow_other _ _ _ _ hq) (by simp) rfl rfl rfl
    exact ⟨_, hst, h3, h2⟩
  · cases hs

theorem newV_eq {h g : Heap} {o : AObj} {f : Nat → AV} {x : ANext} (e : newV h o f = some (x, g)) : x = .value (f h.next) ∧ g = (h.new o).2 := by
  unfold newV at e
  cases e
  exact ⟨rfl, rfl⟩
/-- a new block of cells -/
theorem HR.newCells {top : Nat} {E : Env} {h : Heap} {W : World} (k : HR top E h W) (ht : h.next + 1 ≤ top) {l : List AV} {L : List Value} (hl : VRs E l L) (t : TypeId) :
    HR top (E.put h.next (W.heap.size, 0)) (h.new (.cells l t)).2 (W.alloc (.cells L.toArray t)) ∧ Ext E (E.put h.next (W.heap.size, 0)) h (h.new (.cells l t)).2 W (W.alloc (.cells L.toArray t)) ∧ (E.put h.next (W.heap.size, 0)) h.next = some (W.heap.size, 0) :=
  k.new ht (.cells l t) _ 0 ⟨L, hl.mono (Env.put_le (k.lt _ (Nat.le_refl _) (by omega))), rfl⟩
end Go.Proofs.Ytobehhcbnjgojaa.Ev
