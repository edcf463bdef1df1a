/- One operation: those that touch no memory. -/
import Derived.Test.YtobehhcbnjgojaaEvS
namespace Go.Proofs.Ytobehhcbnjgojaa.Ev
variable {P : Program}

theorem plainV_eq {r : Option AV} {h g : Heap} {x : ANext} (e : plainV r h = some (x, g)) : ∃ v, r = some v ∧ x = .value v ∧ g = h := by
  unfold plainV at e
  simp only [Option.map_eq_some_iff, Prod.mk.injEq] at e
  obtain ⟨v, rfl, rfl, rfl⟩ := e
  exact ⟨v, rfl, rfl, rfl⟩

/-- what such an operation comes to -/
def PureO (P : Program) (E : Env) (h : Heap) (A : Act) (o : Oper) (x : ANext) (g : Heap) : Prop := g = h ∧ ∃ v, x = .value v ∧ ∀ w, ∃ V, (execOp A.eval o).run P w = .ok (.value V) w ∧ VR E v V
theorem PureO.of {E : Env} {h : Heap} {A : Act} {o : Oper} {x : ANext} {g : Heap} {r : Option AV} {s : Sem Value} (e : plainV r h = some (x, g)) (hs : execOp A.eval o = (do pure (.value (← s)))) (hr : PureR P E r s) : PureO P E h A o x g := by
  obtain ⟨v, hv, rfl, rfl⟩ := plainV_eq e
  refine ⟨rfl, v, rfl, fun w => ?_⟩
  obtain ⟨V, h1, h2⟩ := hr v hv w
  exact ⟨V, by rw [hs]; simp [h1], h2⟩
theorem PureO.val {E : Env} {h : Heap} {A : Act} {o : Oper} {v : AV} {V : Value} (hs : execOp A.eval o = pure (.value V)) (hv : VR E v V) : PureO P E h A o (.value v) h :=
  ⟨rfl, v, rfl, fun w => ⟨V, by rw [hs]; rfl, hv⟩⟩

theorem evOp_pure {E : Env} {h g : Heap} {a : AAct} {A : Act} {o : Oper} {x : ANext} (hk : kindOf o.op = 0) (e : evOp P h a o = some (x, g)) (hR : OpR E a A o.op.operands.toList) : PureO P E h A o x g := by
  obtain ⟨dst, op, type, pos, after, guard⟩ := o
  cases op <;> first | (simp [kindOf] at hk; done) | skip
  case move y =>
    obtain ⟨v, hv, rfl, rfl⟩ := plainV_eq e
    exact PureO.val rfl (hR.one hv)
  case assign y =>
    obtain ⟨v, hv, rfl, rfl⟩ := plainV_eq e
    exact PureO.val rfl (hR.one hv)
  case pick c y z =>
    simp only [evOp, oPick] at e
    split at e
    · rename_i b hb
      have hc := hR c (by simp [Op.operands]) _ hb
      simp only [VR] at hc
      obtain ⟨v, hv, rfl, rfl⟩ := plainV_eq e
      refine PureO.val (V := if b then A.eval y else A.eval z) ?_ ?_
      · show (do pure (.value (if ← asBool (A.eval c) then A.eval y else A.eval z)) : Sem Next) = _
        rw [hc]; rfl
      · cases b
        · exact hR z (by simp [Op.operands]) v hv
        · exact hR y (by simp [Op.operands]) v hv
    · cases e
  case build t ps =>
    simp only [evOp, oBuild] at e
    split at e
    · rename_i l hl
      have hp := OpR.parts (by simpa [Op.operands] using hR) hl
      refine PureO.of e ?_ (evBuild_run hp)
      show (do pure (.value (← Instr.build t (ps.map fun (i, x) => (i, A.eval x)))) : Sem Next) = _
      congr 2
      apply Array.ext'
      simp
    · cases e
  case nilCheck y =>
    simp only [evOp, oNilCheck] at e
    split at e
    · rename_i i off hv
      cases e
      have h1 := hR.one hv
      have h0 := h1
      simp only [VR] at h1
      obtain ⟨b, c, hE, h1⟩ := h1
      refine PureO.val (V := A.eval y) ?_ h0
      simp only [execOp, h1]
    · rename_i f l c hv
      cases e
      have h1 := hR.one hv
      have h0 := h1
      simp only [VR] at h1
      obtain ⟨fn, As, Cs, h1, _, _, rfl⟩ := h1
      refine PureO.val (V := A.eval y) ?_ h0
      simp only [execOp, h1]
    · cases e
  case binOp op t y z ty =>
    simp only [evOp, oBin] at e
    split at e
    · rename_i v u hv hu
      exact PureO.of e rfl (evBin_run (hR y (by simp [Op.operands]) v hv) (hR z (by simp [Op.operands]) u hu) y z)
    · cases e
  case unOp op t y =>
    simp only [evOp, oUn] at e
    split at e
    · rename_i v hv
      exact PureO.of e rfl (evUn_run (hR.one hv))
    · cases e
  case convert s d y =>
    simp only [evOp, oConv] at e
    split at e
    · rename_i v hv
      exact PureO.of e rfl (evConv_run (hR.one hv))
    · cases e
  case makeFunc fn fs cs =>
    cases fn <;> simp only [evOp] at e <;> try (cases e; done)
    rename_i f
    simp only [oMakeFunc] at e
    split at e
    · rename_i l c hl hc
      cases e
      have h1 := OpR.list (hR.sub (m := fs.toList) (by simp [Op.operands]; exact fun _ h => .inl h)) hl
      have h2 := OpR.list (hR.sub (m := cs.toList) (by simp [Op.operands]; exact fun _ h => .inr h)) hc
      refine PureO.val (V := .func (.func f) (fs.map A.eval) (cs.map A.eval)) rfl ?_
      simp only [VR]
      exact ⟨.func f, (fs.map A.eval).toList, (cs.map A.eval).toList, by rw [Array.toArray_toList, Array.toArray_toList], by simpa using h1, by simpa using h2, rfl⟩
    · cases e
  case fieldAddr t y f =>
    simp only [evOp, oFieldAddr] at e
    split at e
    · rename_i v hv
      exact PureO.of e rfl (evFieldAddr_run (hR.one hv))
    · cases e
  case field t y f =>
    simp only [evOp, oField] at e
    split at e
    · rename_i v hv
      exact PureO.of e rfl (evField_run (hR.one hv))
    · cases e
  case indexAddr t y i =>
    simp only [evOp, oIndexAddr] at e
    split at e
    · rename_i v u hv hu
      exact PureO.of e rfl (evIndexAddr_run (hR y (by simp [Op.operands]) v hv) (hR i (by simp [Op.operands]) u hu))
    · cases e
  case index t y i =>
    simp only [evOp, oIndex] at e
    split at e
    · rename_i v u hv hu
      exact PureO.of e rfl (evIndex_run (hR y (by simp [Op.operands]) v hv) (hR i (by simp [Op.operands]) u hu))
    · cases e
  case extract y i =>
    simp only [evOp, oExtract] at e
    split at e
    · rename_i l hl
      have h1 := hR.one hl
      simp only [VR] at h1
      obtain ⟨L, h1, h2⟩ := h1
      refine PureO.of e (s := Instr.extract (A.eval y) i) rfl ?_
      intro u hu w
      rw [nthN_eq] at hu
      obtain ⟨V, h3, h4⟩ := h2.arr hu
      exact ⟨V, by rw [h1]; simp only [Instr.extract, h3]; rfl, h4⟩
    · cases e
  case call c =>
    obtain ⟨callee, args, ts⟩ := c
    cases callee <;> try (simp [kindOf] at hk; done)
    rename_i b
    have hl0 : OpR E a A args.toList := hR.sub (by simp [Op.operands, Call.operands])
    cases b <;> simp only [kindOf] at hk <;> first | (cases hk; done) | skip
    case max =>
      simp only [evOp, oCall, evBuiltin] at e
      split at e
      · rename_i l hl
        have h1 := OpR.list hl0 hl
        split at e
        · rename_i y l
          simp only [Option.map_eq_some_iff] at e
          obtain ⟨r, ⟨v, hv, rfl⟩, e⟩ := e
          cases e
          simp only [VRs] at h1
          obtain ⟨Y, L, h1, hy, hl⟩ := h1
          refine ⟨rfl, v, rfl, fun w => ?_⟩
          obtain ⟨V, r1, r2⟩ := foldI_run (P := P) (g := Builtin.max2) (fun k j x y w => by simp [Builtin.max2]) hv hy hl w
          refine ⟨V, ?_, r2⟩
          simp [execOp, resolve, invoke, builtin, Builtin.max_, h1, r1]
        · simp at e
      · cases e
    case min =>
      simp only [evOp, oCall, evBuiltin] at e
      split at e
      · rename_i l hl
        have h1 := OpR.list hl0 hl
        split at e
        · rename_i y l
          simp only [Option.map_eq_some_iff] at e
          obtain ⟨r, ⟨v, hv, rfl⟩, e⟩ := e
          cases e
          simp only [VRs] at h1
          obtain ⟨Y, L, h1, hy, hl⟩ := h1
          refine ⟨rfl, v, rfl, fun w => ?_⟩
          obtain ⟨V, r1, r2⟩ := foldI_run (P := P) (g := Builtin.min2) (fun k j x y w => by simp [Builtin.min2]) hv hy hl w
          refine ⟨V, ?_, r2⟩
          simp [execOp, resolve, invoke, builtin, Builtin.min_, h1, r1]
        · simp at e
      · cases e
end Go.Proofs.Ytobehhcbnjgojaa.Ev
