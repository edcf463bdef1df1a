/- A region that draws its order: what its operations are, one by one. -/
import Derived.Test.YtobehhcbnjgojaaEvY
import Derived.Test.YtobehhcbnjgojaaEvZ
namespace Go.Proofs.Ytobehhcbnjgojaa.Ev
variable {P : Program}

/-! lists of records -/
def recsAt (rc : Nat → Rec) (recs : List Rec) : Nat → List Rec
  | 0 => recs
  | i + 1 => rc i :: recsAt rc recs i
theorem recsAt_len (rc : Nat → Rec) (recs : List Rec) : ∀ i, (recsAt rc recs i).length = i + recs.length
  | 0 => by simp [recsAt]
  | i + 1 => by simp [recsAt, recsAt_len rc recs i]; omega
theorem recsAt_shift (r0 : Rec) (rc : Nat → Rec) (recs : List Rec) : ∀ i, recsAt (fun k => match k with | 0 => r0 | k + 1 => rc k) recs (i + 1) = recsAt rc (r0 :: recs) i
  | 0 => rfl
  | i + 1 => by
    have := recsAt_shift r0 rc recs i
    show rc i :: recsAt _ recs (i + 1) = rc i :: recsAt rc (r0 :: recs) i
    rw [this]
theorem freeAll_iff (rc : Nat → Rec) (m : Nat) (r : Rec) : ∀ i, freeAll m r (recsAt rc [] i) i = true ↔ ∀ k, k < i → m.testBit k = true ∨ free (rc k) r = true
  | 0 => by simp [recsAt, freeAll]
  | i + 1 => by
    simp only [recsAt, freeAll, Nat.add_sub_cancel, Bool.and_eq_true, Bool.or_eq_true, freeAll_iff rc m r i]
    constructor
    · rintro ⟨h1, h2⟩ k hk
      rcases Nat.lt_succ_iff_lt_or_eq.1 hk with h | h
      · exact h2 k h
      · subst h; exact h1
    · intro h
      exact ⟨h i (Nat.lt_succ_self i), fun k hk => h k (by omega)⟩
def inR (id : Nat) (r : Nat × Nat) : Bool := Nat.ble r.1 id && Nat.blt id r.2
theorem inR_iff {id : Nat} {r : Nat × Nat} : inR id r = true ↔ r.1 ≤ id ∧ id < r.2 := by simp [inR, Nat.blt_eq]
theorem hideOf_iff (rc : Nat → Rec) (m id : Nat) : ∀ i, (hideOf m (recsAt rc [] i) i).any (inR id) = true ↔ ∃ k, k < i ∧ m.testBit k = false ∧ (rc k).n0 ≤ id ∧ id < (rc k).n1
  | 0 => by simp [recsAt, hideOf]
  | i + 1 => by
    simp only [recsAt, hideOf, Nat.add_sub_cancel]
    have ih := hideOf_iff rc m id i
    split
    · rename_i hc
      rw [ih]
      constructor
      · rintro ⟨k, h1, h2⟩; exact ⟨k, by omega, h2⟩
      · rintro ⟨k, h1, h2, h3, h4⟩
        rcases Nat.lt_succ_iff_lt_or_eq.1 h1 with h | h
        · exact ⟨k, h, h2, h3, h4⟩
        · subst h
          rw [h2] at hc
          simp at hc
          omega
    · rename_i hc
      simp only [List.any_cons, Bool.or_eq_true, inR_iff, ih]
      simp only [Bool.or_eq_true, not_or, Bool.not_eq_true] at hc
      constructor
      · rintro (h | ⟨k, h1, h2⟩)
        · exact ⟨i, Nat.lt_succ_self i, hc.1, h⟩
        · exact ⟨k, by omega, h2⟩
      · rintro ⟨k, h1, h2, h3, h4⟩
        rcases Nat.lt_succ_iff_lt_or_eq.1 h1 with h | h
        · exact .inr ⟨k, h, h2, h3, h4⟩
        · subst h; exact .inl ⟨h3, h4⟩
theorem hidden_any (h : Heap) (id : Nat) : h.hidden id = h.hid.any (inR id) := rfl

/-! what one operation of such a region is -/
/-- it touches no memory -/
def OkPure (P : Program) (a : AAct) (o : Oper) (v : AV) : Prop :=
  ∀ (E : Env) (W : World) (A : Act) (rb : Option Nat) (n : Nat) (next : Act → World → Prop) (Q : Exit → Act → World → Prop), OpR E a A o.op.operands.toList → (∀ V, VR E v V → next (A.put o.dst V) W) → o.wpIn (FF rb) n P A W next Q
/-- it looks at one block -/
def OkLoad (P : Program) (h : Heap) (a : AAct) (o : Oper) (v : AV) : Prop :=
  ∃ i obj, blkOf a o.op = some i ∧ h.get i = some obj ∧ ∀ (E : Env) (W : World) (A : Act) (rb : Option Nat) (n : Nat) (next : Act → World → Prop) (Q : Exit → Act → World → Prop), OpR E a A o.op.operands.toList →
    (∃ b c O, E i = some (b, c) ∧ W.heap[b]? = some O ∧ OR E i obj O) → (∀ V, VR E v V → next (A.put o.dst V) W) → o.wpIn (FF rb) n P A W next Q

theorem evOp_pure0 {h g : Heap} {a : AAct} {o : Oper} {x : ANext} (hk : kindOf o.op = 0) (e : evOp P h a o = some (x, g)) : g = h ∧ ∃ u, x = .value u := by
  have hp : ∀ {r : Option AV}, plainV r h = some (x, g) → g = h ∧ ∃ u, x = .value u := fun hh => by
    obtain ⟨v, _, rfl, rfl⟩ := plainV_eq hh
    exact ⟨rfl, v, rfl⟩
  obtain ⟨dst, op, type, pos, after, guard⟩ := o
  cases op <;> first | (simp [kindOf] at hk; done) | skip
  case move => exact hp e
  case assign => exact hp e
  case pick => simp only [evOp, oPick] at e; split at e <;> first | exact hp e | cases e
  case build => simp only [evOp, oBuild] at e; split at e <;> first | exact hp e | cases e
  case nilCheck => simp only [evOp, oNilCheck] at e; split at e <;> first | (cases e; exact ⟨rfl, _, rfl⟩) | cases e
  case binOp => simp only [evOp, oBin] at e; split at e <;> first | exact hp e | cases e
  case unOp => simp only [evOp, oUn] at e; split at e <;> first | exact hp e | cases e
  case convert => simp only [evOp, oConv] at e; split at e <;> first | exact hp e | cases e
  case makeFunc fn _ _ =>
    cases fn <;> simp only [evOp] at e <;> first | (cases e; done) | skip
    simp only [oMakeFunc] at e
    split at e <;> first | (cases e; exact ⟨rfl, _, rfl⟩) | cases e
  case fieldAddr => simp only [evOp, oFieldAddr] at e; split at e <;> first | exact hp e | cases e
  case field => simp only [evOp, oField] at e; split at e <;> first | exact hp e | cases e
  case indexAddr => simp only [evOp, oIndexAddr] at e; split at e <;> first | exact hp e | cases e
  case index => simp only [evOp, oIndex] at e; split at e <;> first | exact hp e | cases e
  case extract => simp only [evOp, oExtract] at e; split at e <;> first | exact hp e | cases e
  case call c =>
    obtain ⟨callee, args, ts⟩ := c
    cases callee <;> try (simp [kindOf] at hk; done)
    rename_i b
    cases b <;> simp only [kindOf] at hk <;> first | (cases hk; done) | skip
    all_goals
      simp only [evOp, oCall, evBuiltin] at e
      split at e
      · split at e
        · simp only [Option.map_eq_some_iff] at e
          obtain ⟨r, ⟨v, hv, rfl⟩, e⟩ := e
          cases e
          exact ⟨rfl, _, rfl⟩
        · simp at e
      · cases e

theorem rOp_pure {r : Runs} {h g : Heap} {a : AAct} {o : Oper} {v : AV} (hk : kindOf o.op = 0) (e : rOp P r h a o = some (v, g)) : g = h ∧ OkPure P a o v := by
  unfold rOp at e
  split at e
  · rename_i xg hev
    obtain ⟨x, g'⟩ := xg
    have hdef : ∀ c, o.op ≠ .defer c := fun c hc => by
      unfold evOp at hev
      rw [hc] at hev
      cases hev
    split at e
    · obtain ⟨rfl, u, rfl⟩ := evOp_pure0 hk hev
      cases e
      refine ⟨rfl, fun E W A rb n next Q hR hK => ⟨fun _ _ => FF_fn _ _, ?_⟩⟩
      rw [Oper.semAt_eq _ _ _ hdef]
      obtain ⟨_, u', hu, hw⟩ := evOp_pure hk hev hR
      cases hu
      obtain ⟨V, h1, h2⟩ := hw W
      rw [h1]
      exact hK V h2
    · cases e
  · cases e

theorem rOp_load {r : Runs} {h g : Heap} {a : AAct} {o : Oper} {v : AV} (hk : kindOf o.op = 3) (e : rOp P r h a o = some (v, g)) : g = h ∧ OkLoad P h a o v := by
  unfold rOp at e
  split at e
  · rename_i xg hev
    obtain ⟨x, g'⟩ := xg
    have hdef : ∀ c, o.op ≠ .defer c := fun c hc => by
      unfold evOp at hev
      rw [hc] at hev
      cases hev
    split at e
    · obtain ⟨dst, op, type, pos, after, guard⟩ := o
      cases op <;> first
        | (simp [kindOf] at hk; done)
        | (rename_i c; obtain ⟨callee, args, ts⟩ := c; cases callee <;> first | (simp [kindOf] at hk; done) | (rename_i b; cases b <;> simp [kindOf] at hk; done))
        | skip
      rename_i t y
      simp only [evOp, oLoad] at hev
      split at hev
      · rename_i i off hy
        obtain ⟨u, hu, hx, hgh⟩ := plainV_eq hev
        have hgh' := hgh.symm
        subst hgh'
        subst hx
        cases e
        have hg : ∃ obj, h.get i = some obj := by
          unfold evLoad at hu
          cases hh : h.get i with
          | some obj => exact ⟨obj, rfl⟩
          | none =>
            have hr : h.row i = none := by unfold Heap.row; rw [hh]
            split at hu
            · simp [Heap.loadN, hr] at hu
            · simp [hr] at hu
            · cases hu
        obtain ⟨obj, hobj⟩ := hg
        refine ⟨rfl, i, obj, by simp only [blkOf, hy], hobj, fun E W A rb n next Q hR hb hK => ⟨fun _ _ => FF_fn _ _, ?_⟩⟩
        rw [Oper.semAt_eq _ _ _ hdef]
        obtain ⟨b, c, O, hE, hW, hO⟩ := hb
        have h1 := hR.one hy
        simp only [VR] at h1
        obtain ⟨b', c', hE', h1⟩ := h1
        rw [hE] at hE'
        cases hE'
        -- a memory of this block alone
        have hone : ∀ q o', (⟨T.nil.set i obj, i + 1, 0, []⟩ : Heap).get q = some o' → q = i ∧ o' = obj := fun q o' hq => by
          unfold Heap.get Heap.hidden at hq
          simp only [List.any_nil, Bool.false_eq_true, if_false, T.get_set] at hq
          split at hq
          · rename_i e; cases hq; exact ⟨e, rfl⟩
          · simp [T.get] at hq
        have hself : (⟨T.nil.set i obj, i + 1, 0, []⟩ : Heap).get i = some obj := by
          unfold Heap.get Heap.hidden
          simp [T.get_set]
        have k1 : HR (i + 1) E ⟨T.nil.set i obj, i + 1, 0, []⟩ W := by
          refine ⟨fun q o' hq => ?_, fun q q' _ _ _ hq hq' _ _ => ?_, fun q h1 h2 => ?_, fun r hr => (by cases hr), fun q hq => ?_⟩
          · obtain ⟨rfl, rfl⟩ := hone q o' hq
            exact ⟨b, c, O, hE, hW, hO⟩
          · obtain ⟨o1, h1⟩ := Option.isSome_iff_exists.1 hq
            obtain ⟨o2, h2⟩ := Option.isSome_iff_exists.1 hq'
            rw [(hone q o1 h1).1, (hone q' o2 h2).1]
          · have h1' : i + 1 ≤ q := h1
            omega
          · have hq' : i + 1 ≤ q := hq
            show (T.nil.set i obj).get q = none
            rw [T.get_set, if_neg (by omega)]
            rfl
        have hl : evLoad P ⟨T.nil.set i obj, i + 1, 0, []⟩ t i off = some v := by
          have hr : (⟨T.nil.set i obj, i + 1, 0, []⟩ : Heap).row i = h.row i := by
            unfold Heap.row
            rw [hself, hobj]
          unfold evLoad Heap.loadN at hu ⊢
          rw [hr]
          exact hu
        obtain ⟨V, h2, h3⟩ := k1.loadV (P := P) hl hE
        have hrun : (execOp A.eval { dst := dst, op := .load t y, type := type, pos := pos, after := after, guard := guard }).run P W = .ok (.value V) W := by
          simp [execOp, h1, Instr.loadAt, Instr.sureAddr, h2]
        rw [hrun]
        exact hK V h3
      · cases hev
    · cases e
  · cases e

/-- one operation of the region, as the calculator has done it -/
structure DAt (P : Program) (ops : Array Oper) (masks kinds : List Nat) (recs : List Rec) (a : AAct) (h : Heap) (o : Oper) (v : AV) (g : Heap) (rc : Rec) : Prop where
  n0 : rc.n0 = h.next
  n1 : rc.n1 = g.next
  how : (wantedA ops a o = false ∧ rc.ty = 0 ∧ v = aundef ∧ g = h) ∨
    (wantedA ops a o = true ∧ rc.ty = kinds.getD recs.length 0 ∧ rc.blk = blkOf a o.op ∧ freeAll (masks.getD recs.length 0) rc recs recs.length = true ∧ Abs (evHeap rc.ty (masks.getD recs.length 0) recs h) g ∧
      OkOp P (evHeap rc.ty (masks.getD recs.length 0) recs h) a o v g ∧ (kindOf o.op = 0 → g = evHeap rc.ty (masks.getD recs.length 0) recs h ∧ OkPure P a o v) ∧ (kindOf o.op = 3 → g = evHeap rc.ty (masks.getD recs.length 0) recs h ∧ OkLoad P (evHeap rc.ty (masks.getD recs.length 0) recs h) a o v) ∧
      (∀ j, blkOf a o.op = some j → ∀ q, q ≠ j → g.t.get q = h.t.get q))

inductive DTr (P : Program) (ops : Array Oper) (masks kinds : List Nat) : List Oper → List Rec → AAct → Heap → AAct → Heap → Prop
  | nil (recs : List Rec) (a : AAct) (h : Heap) : DTr P ops masks kinds [] recs a h a h
  | cons {o : Oper} {l : List Oper} {recs : List Rec} {a : AAct} {h : Heap} {v : AV} {g : Heap} {rc : Rec} {a' a2 : AAct} {h2 : Heap} (hd : DAt P ops masks kinds recs a h o v g rc) (hp : a.put o.dst v = some a')
      (ht : DTr P ops masks kinds l (rc :: recs) a' { g with lo := h.lo, hid := h.hid } a2 h2) : DTr P ops masks kinds (o :: l) recs a h a2 h2

theorem rOp_blk {r : Runs} {h g : Heap} {a : AAct} {o : Oper} {v : AV} (e : rOp P r h a o = some (v, g)) {j : Nat} (hb : blkOf a o.op = some j) : ∀ q, q ≠ j → g.t.get q = h.t.get q := by
  unfold rOp at e
  split at e
  · rename_i xg hev
    obtain ⟨x, g'⟩ := xg
    have h1 := evOp_store hev hb
    split at e
    · cases x with
      | value v' => cases e; exact h1
      | skip => cases e; exact h1
      | enter f args =>
        exfalso
        obtain ⟨dst, op, type, pos, after, guard⟩ := o
        cases op <;> simp only [blkOf] at hb <;> first | (cases hb; done) | skip
        · simp only [evOp, oLoad] at hev
          split at hev
          · obtain ⟨_, _, hx, _⟩ := plainV_eq hev; cases hx
          · cases hev
        · simp only [evOp, oStore] at hev
          split at hev
          · simp only [Option.map_eq_some_iff] at hev; obtain ⟨_, _, e2⟩ := hev; cases e2
          · cases hev
      | round l args =>
        exfalso
        obtain ⟨dst, op, type, pos, after, guard⟩ := o
        cases op <;> simp only [blkOf] at hb <;> first | (cases hb; done) | skip
        · simp only [evOp, oLoad] at hev
          split at hev
          · obtain ⟨_, _, hx, _⟩ := plainV_eq hev; cases hx
          · cases hev
        · simp only [evOp, oStore] at hev
          split at hev
          · simp only [Option.map_eq_some_iff] at hev; obtain ⟨_, _, e2⟩ := hev; cases e2
          · cases hev
    · cases e
  · cases e

/-- the calculator's way through the region -/
theorem drawn_step {r : Runs} (hS : SoundA P r) (hA : AbsR r) (hT : ∀ {ops masks kinds l recs a h o}, r (.drawn ops masks kinds l recs) a h = some o → o.ex = .normal ∧ DTr P ops masks kinds l recs a h o.a o.h)
    {ops masks kinds l recs a h o} (e : rDrawn P r ops masks kinds recs a h l = some o) : o.ex = .normal ∧ DTr P ops masks kinds l recs a h o.a o.h := by
  unfold rDrawn at e
  split at e
  · cases e; exact ⟨rfl, .nil _ _ _⟩
  · rename_i q l'
    split at e
    · rename_i hw
      unfold rDrawnAt at e
      split at e
      · rename_i v g hr
        split at e
        · rename_i hf
          unfold rPut at e
          simp only at e
          split at e
          · rename_i a' hp
            obtain ⟨h1, h2⟩ := hT e
            refine ⟨h1, .cons (v := v) (g := g) ⟨rfl, rfl, .inr ⟨hw, rfl, rfl, hf, rOp_abs hA hr, rOp_ok hS hr, fun hk => rOp_pure hk hr, fun hk => rOp_load hk hr, fun j hj q hq => ?_⟩⟩ hp h2⟩
            rw [rOp_blk hr hj q hq]
            exact congrArg (fun t => T.get t q) (evHeap_t _ _ _ _)
          · cases e
        · cases e
      · cases e
    · rename_i hw
      unfold rPut at e
      simp only at e
      split at e
      · rename_i a' hp
        obtain ⟨h1, h2⟩ := hT e
        exact ⟨h1, .cons (v := aundef) (g := h) ⟨rfl, rfl, .inl ⟨by simpa using hw, rfl, rfl, rfl⟩⟩ hp h2⟩
      · cases e

/-- the same, by numbers -/
theorem DTr.funs {ops masks kinds} : ∀ {l recs a h a2 h2}, DTr P ops masks kinds l recs a h a2 h2 → ∃ (as : Nat → AAct) (hs : Nat → Heap) (rc : Nat → Rec) (vs : Nat → AV) (gs : Nat → Heap), as 0 = a ∧ hs 0 = h ∧ as l.length = a2 ∧ hs l.length = h2 ∧
    ∀ i o, l[i]? = some o → DAt P ops masks kinds (recsAt rc recs i) (as i) (hs i) o (vs i) (gs i) (rc i) ∧ (as i).put o.dst (vs i) = some (as (i + 1)) ∧ hs (i + 1) = { gs i with lo := (hs i).lo, hid := (hs i).hid }
  | _, _, _, _, _, _, .nil recs a h => ⟨fun _ => a, fun _ => h, fun _ => ⟨0, none, 0, 0⟩, fun _ => aundef, fun _ => h, rfl, rfl, rfl, rfl, fun i o hi => by simp at hi⟩
  | _, _, _, _, _, _, .cons (o := o) (l := l) (recs := recs) (a := a) (h := h) (v := v) (g := g) (rc := r0) hd hp ht => by
    obtain ⟨as, hs, rc, vs, gs, e1, e2, e3, e4, e5⟩ := DTr.funs ht
    refine ⟨fun k => match k with | 0 => a | k + 1 => as k, fun k => match k with | 0 => h | k + 1 => hs k, fun k => match k with | 0 => r0 | k + 1 => rc k, fun k => match k with | 0 => v | k + 1 => vs k, fun k => match k with | 0 => g | k + 1 => gs k, rfl, rfl, e3, e4, fun i o' hi => ?_⟩
    cases i with
    | zero =>
      simp at hi
      subst hi
      exact ⟨hd, hp.trans (congrArg some e1.symm), e2⟩
    | succ i =>
      have := e5 i o' (by simpa using hi)
      rw [recsAt_shift]
      exact this
end Go.Proofs.Ytobehhcbnjgojaa.Ev
