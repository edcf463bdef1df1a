/- Code: what the calculator says of it holds. -/
import Derived.Test.YtobehhcbnjgojaaEvX4
import Derived.RangeFuncCalls
import Derived.RangeFuncNested
namespace Go.Proofs.Ytobehhcbnjgojaa.Ev
variable {P : Program}

def FF : Option Nat → Fence
  | none => Fence.wide
  | some b => Fence.wide.inRound b
theorem FF_fn (rb : Option Nat) (f : FuncId) : (FF rb).fn f := by cases rb <;> trivial
theorem FF_depth (rb : Option Nat) : (FF rb).depth = none := by cases rb <;> rfl
theorem FF_round (rb : Option Nat) : (FF rb).round = rb := by cases rb <;> rfl
theorem callsIn_FF {n : Nat} {f : FuncId} {args : Array Value} {w : World} {R : Ending → World → Prop} (rb : Option Nat) (h : CallsIn Fence.wide n P f args w R) : CallsIn (FF rb) n P f args w R := by
  cases rb with
  | none => exact h
  | some b => exact CallsIn.inRound b h
theorem roundIn_FF {n l : Nat} {f : FuncId} {tmps : Array Value} {assign body : Code} {w : World} {R : Ending → World → Prop} (rb : Option Nat) (h : RoundIn Fence.wide n P l f tmps assign body w R) : RoundIn (FF rb) n P l f tmps assign body w R := by
  cases rb with
  | none => exact h
  | some b => exact h

def RR (E : Env) : Option Nat → Option Nat → Prop
  | none, none => True
  | some l, some b => ∃ c, E l = some (b, c)
  | _, _ => False
theorem RR.mono {E E' : Env} (h : E.le E') : ∀ {rnd rb}, RR E rnd rb → RR E' rnd rb
  | none, none, k => k
  | some _, some _, ⟨c, k⟩ => ⟨c, h _ _ k⟩
def DR (E : Env) : List Nat → List Deferred → Prop
  | [], D => D = []
  | i :: l, D => ∃ b c D', E i = some (b, c) ∧ D = { target := .collected b, args := #[] } :: D' ∧ DR E l D'
theorem DR.mono {E E' : Env} (h : E.le E') : ∀ {l D}, DR E l D → DR E' l D
  | [], _, k => k
  | _ :: _, _, ⟨b, c, D, k1, k2, k3⟩ => ⟨b, c, D, h _ _ k1, k2, DR.mono h k3⟩
theorem DR.app {E : Env} : ∀ {l m D M}, DR E l D → DR E m M → DR E (l ++ m) (D ++ M)
  | [], _, _, _, k, k' => by simp only [DR] at k; subst k; exact k'
  | _ :: _, _, _, _, ⟨b, c, D, k1, k2, k3⟩, k' => ⟨b, c, _, k1, by rw [k2]; rfl, DR.app k3 k'⟩

structure AR (E : Env) (a : AAct) (A : Act) : Prop where
  tm : TR E a.tmps a.size A.tmps
  de : DR E a.defers A.defers
theorem AR.mono {E E' : Env} (h : E.le E') {a A} (k : AR E a A) : AR E' a A := ⟨k.tm.mono h, k.de.mono h⟩
theorem AR.eval {E : Env} {a : AAct} {A : Act} (k : AR E a A) {x : Operand} {v : AV} (hx : a.eval x = some v) : VR E v (A.eval x) := by
  cases x with
  | tmp t => simp only [AAct.eval] at hx; cases hx; exact k.tm.2 t
  | const c => simp only [AAct.eval] at hx; exact abs_VR hx
  | global g => simp [AAct.eval] at hx
  | func f => simp only [AAct.eval] at hx; cases hx; simp only [VR]; exact ⟨.func f, [], [], rfl, VRs.nil, VRs.nil, rfl⟩
theorem AR.opR {E : Env} {a : AAct} {A : Act} (k : AR E a A) (l : List Operand) : OpR E a A l := fun _ _ _ hv => k.eval hv
theorem AR.put {E : Env} {a a' : AAct} {A : Act} (k : AR E a A) {d : Option Tmp} {v : AV} {V : Value} (hp : a.put d v = some a') (hv : VR E v V) : AR E a' (A.put d V) := by
  unfold AAct.put at hp
  cases d with
  | none => cases hp; exact k
  | some d =>
    simp only at hp
    split at hp
    · rename_i hd
      cases hp
      exact ⟨k.tm.set (by simpa [Nat.blt_eq] using hd) hv, k.de⟩
    · cases hp

def Ex.conc : Ex → Exit
  | .normal => .normal
  | .exit id => .exit id
  | .ret => .ret
def PC (top : Nat) (E : Env) (h : Heap) (W : World) (o : Out) : Exit → Act → World → Prop := fun e A' W' => e = o.ex.conc ∧ ∃ E', Ext E E' h o.h W W' ∧ HR top E' o.h W' ∧ AR E' o.a A'
def PV (top : Nat) (E : Env) (h : Heap) (W : World) (o : Out) : Ending → World → Prop := fun e W' => ∃ V E', e = .returned V ∧ Ext E E' h o.h W W' ∧ HR top E' o.h W' ∧ VR E' o.v V

/-- an operation, with the call that it makes -/
def OkOp (P : Program) (h : Heap) (a : AAct) (o : Oper) (v : AV) (g : Heap) : Prop :=
  h.next ≤ g.next ∧ ∀ (top : Nat) (E : Env) (W : World) (A : Act) (rb : Option Nat) (n : Nat) (next : Act → World → Prop) (Q : Exit → Act → World → Prop), HR top E h W → g.next ≤ top → OpR E a A o.op.operands.toList →
    (∀ E' W' V, Ext E E' h g W W' → HR top E' g W' → VR E' v V → next (A.put o.dst V) W') → o.wpIn (FF rb) n P A W next Q

theorem wpOpsIn_post {F : Fence} {n : Nat} {ops : Array Oper} {Q Q' : Exit → Act → World → Prop} : ∀ {l : List Nat} {a : Act} {w : World}, wpOpsIn F n P ops Q l a w → (∀ e a w, Q e a w → Q' e a w) → wpOpsIn F n P ops Q' l a w
  | [], _, _, h, hq => hq _ _ _ h
  | i :: l, a, w, h, hq => by
    rw [wpOpsIn] at h ⊢
    split at h
    · exact wpOpsIn_post h hq
    · split at h
      · rename_i o ho hw
        rw [if_pos hw]
        refine ⟨h.1, ?_⟩
        have h2 := h.2
        generalize (o.semAt F.round a.eval).run P w = r at h2 ⊢
        have hl : LetsOut Q → LetsOut Q' := fun ⟨a, w, hh⟩ => ⟨a, w, hq _ _ _ hh⟩
        cases r with
        | ok x w' =>
          cases x <;> simp only [Oper.uponIn] at h2 ⊢ <;> first
            | exact h2
            | exact wpOpsIn_post h2 hq
            | exact ⟨h2.1, h2.2.mono fun e w'' he => by cases e <;> first | exact wpOpsIn_post he hq | exact hq _ _ _ he | exact hl he⟩
            | exact ⟨h2.1, h2.2.mono fun v w'' he => wpOpsIn_post he hq⟩
        | halt x w' => cases x <;> simp only [Oper.uponIn] at h2 ⊢ <;> first | exact hq _ _ _ h2 | exact h2
      · rename_i o ho hw
        rw [if_neg hw]
        exact ⟨h.1, wpOpsIn_post h.2 hq⟩

structure SoundA (P : Program) (r : Runs) : Prop where
  next : ∀ {j a h o}, r j a h = some o → h.next ≤ o.h.next
  code : ∀ {rnd c a h o}, r (.code rnd c) a h = some o → ∀ {top E W A rb}, HR top E h W → o.h.next ≤ top → AR E a A → RR E rnd rb → ∀ n, c.wpIn (FF rb) n P (PC top E h W o) A W
  loop : ∀ {rnd b a h o}, r (.code rnd (.loop b)) a h = some o → ∃ m, ∀ {top E W A rb}, HR top E h W → o.h.next ≤ top → AR E a A → RR E rnd rb → ∀ n, Code.roundsIn (FF rb) n P b (PC top E h W o) m A W
  ops : ∀ {ops l a h o}, r (.ops ops l) a h = some o → ∀ {i}, l = ops.toList.drop i → ∀ {top E W A rb}, HR top E h W → o.h.next ≤ top → AR E a A → ∀ n, wpOpsIn (FF rb) n P ops (PC top E h W o) ((List.range ops.size).drop i) A W
  call : ∀ {f args a h o}, r (.call f args) a h = some o → ∀ {top E W Args}, HR top E h W → o.h.next ≤ top → VRs E args Args → (∀ args w, (callFunc f args).run P w = .ok (.enter f args) w) ∧ ∀ n, CallsIn Fence.wide n P f Args.toArray W (PV top E h W o)
  round : ∀ {l args a h o}, r (.round l args) a h = some o → ∀ {top E W Args b c}, HR top E h W → o.h.next ≤ top → E l = some (b, c) → VRs E args Args → ∀ n, ∃ fn tmps assign body, (Instr.yield b Args.toArray).run P W = .ok (.round b fn tmps assign body) W ∧ RoundIn Fence.wide n P b fn tmps assign body W (PV top E h W o)

theorem enter_run {f : Nat} {fn : Func} (h : enters P f = some fn) (args : Array Value) (w : World) : (callFunc f args).run P w = .ok (.enter f args) w ∧ P.funcs[f]? = some fn := by
  unfold enters at h
  split at h
  · rename_i fn' hf
    split at h
    · rename_i hc
      cases h
      simp only [Bool.and_eq_true, Bool.not_eq_true'] at hc
      refine ⟨?_, hf⟩
      have h1 : ¬ fn.body = none := by intro hb; rw [hb] at hc; simp at hc
      have h2 : ¬ fn.name = "runtime.NumGoroutine" := by have := hc.2; simpa using this
      simp [callFunc, hf, h1, h2]
    · cases h
  · cases h

/-- one operation -/
theorem rOp_ok {r : Runs} (hS : SoundA P r) {h g : Heap} {a : AAct} {o : Oper} {v : AV} (e : rOp P r h a o = some (v, g)) : OkOp P h a o v g := by
  have hdef : ∀ x, evOp P h a o = some x → ∀ c, o.op ≠ .defer c := fun x hx c hc => by
    unfold evOp at hx
    rw [hc] at hx
    cases hx
  unfold rOp at e
  split at e
  · rename_i xg hev
    split at e
    · rename_i hn
      have hn' : h.next ≤ xg.2.next := by simpa using hn
      obtain ⟨x, g'⟩ := xg
      cases x with
      | value v' =>
        cases e
        refine ⟨hn', fun top E W A rb n next Q k ht hR hK => ⟨fun _ _ => FF_fn _ _, ?_⟩⟩
        rw [Oper.semAt_eq _ _ _ (hdef _ hev)]
        obtain ⟨E', W', V, h1, h2, h3, h4⟩ := evOp_sound k hev ht hR
        rw [h1]
        exact hK E' W' V h2 h3 h4
      | skip =>
        cases e
        refine ⟨hn', fun top E W A rb n next Q k ht hR hK => ⟨fun _ _ => FF_fn _ _, ?_⟩⟩
        rw [Oper.semAt_eq _ _ _ (hdef _ hev)]
        obtain ⟨E', W', h1, h2, h3⟩ := evOp_sound k hev ht hR
        rw [h1]
        exact hK E' W' undef h2 h3 VR.undef
      | enter f args =>
        simp only [rOp2, Option.map_eq_some_iff, Prod.mk.injEq] at e
        obtain ⟨oo, hr, rfl, rfl⟩ := e
        have hm := hS.next hr
        refine ⟨Nat.le_trans hn' hm, fun top E W A rb n next Q k ht hR hK => ⟨fun _ _ => FF_fn _ _, ?_⟩⟩
        rw [Oper.semAt_eq _ _ _ (hdef _ hev)]
        obtain ⟨rfl, L, h1, h2⟩ := evOp_sound k hev (Nat.le_trans hm ht) hR
        obtain ⟨hent, hc⟩ := hS.call hr k ht h2
        have hc := hc (n - 1)
        rw [h1, hent]
        refine ⟨fun hd => (by rw [FF_depth] at hd; cases hd), (callsIn_FF rb hc).mono ?_⟩
        rintro e' W' ⟨V, E', rfl, g1, g2, g3⟩
        exact hK E' W' V g1 g2 g3
      | round l args =>
        simp only [rOp2, Option.map_eq_some_iff, Prod.mk.injEq] at e
        obtain ⟨oo, hr, rfl, rfl⟩ := e
        have hm := hS.next hr
        refine ⟨Nat.le_trans hn' hm, fun top E W A rb n next Q k ht hR hK => ⟨fun _ _ => FF_fn _ _, ?_⟩⟩
        rw [Oper.semAt_eq _ _ _ (hdef _ hev)]
        obtain ⟨rfl, L, b, c, hE, h1, h2⟩ := evOp_sound k hev (Nat.le_trans hm ht) hR
        obtain ⟨fn, tmps, assign, body, hy, hc⟩ := hS.round hr k ht hE h2 (n - 1)
        rw [h1, hy]
        refine ⟨fun hd => (by rw [FF_depth] at hd; cases hd), (roundIn_FF rb hc).mono ?_⟩
        rintro e' W' ⟨V, E', rfl, g1, g2, g3⟩
        exact hK E' W' V g1 g2 g3
    · cases e
  · cases e

theorem PC.trans {top : Nat} {E E1 : Env} {h h1 : Heap} {W W1 : World} {o : Out} (k : HR top E h W) (k1 : HR top E1 h1 W1) (ht : h1.next ≤ top) (x : Ext E E1 h h1 W W1) {e A' W'} (p : PC top E1 h1 W1 o e A' W') : PC top E h W o e A' W' := by
  obtain ⟨rfl, E', g1, g2, g3⟩ := p
  exact ⟨rfl, E', x.trans k k1 ht g1, g2, g3⟩
theorem PC.here {top : Nat} {E : Env} {h : Heap} {W : World} {a : AAct} {A : Act} (k : HR top E h W) (ha : AR E a A) (ex : Ex) (v : AV) : PC top E h W ⟨ex, v, a, h⟩ ex.conc A W := ⟨rfl, E, Ext.refl _ _ _, k, ha⟩

theorem chk_eq {h : Heap} {x : Option Out} {o : Out} (e : chk h x = some o) : x = some o ∧ h.next ≤ o.h.next := by
  unfold chk at e
  split at e
  · split at e
    · rename_i hn; cases e; exact ⟨rfl, by simpa using hn⟩
    · cases e
  · cases e

theorem wanted_eq {E : Env} {ops : Array Oper} {a : AAct} {A : Act} (k : TR E a.tmps a.size A.tmps) (o : Oper) : Region.wanted o (yielded ops A.tmps) = wantedA ops a o := by
  unfold Region.wanted wantedA
  cases hg : o.guard with
  | none => rfl
  | some p =>
    obtain ⟨j, want⟩ := p
    simp only
    unfold yielded yieldedA
    cases hd : (ops[j]?).bind (·.dst) with
    | none => simp
    | some t =>
      simp only [Option.bind_some]
      have h1 := k.2 t
      by_cases ht : t < a.size
      · have hb : Nat.blt t a.size = true := by simpa [Nat.blt_eq] using ht
        have hlt : t < A.tmps.size := by rw [k.1]; exact ht
        rw [hb]
        have hget : A.tmps[t]? = some (A.tmps.getD t undef) := by simp [Array.getD, hlt]
        rw [hget]
        show ((match some (A.tmps.getD t undef) with | some (.bool b) => some b | _ => none) == some want) = _
        unfold AAct.at
        generalize (a.tmps.get t).getD aundef = v at h1 ⊢
        generalize A.tmps.getD t undef = V at h1 ⊢
        cases v <;> simp only [VR] at h1 <;> first
          | (subst h1; simp; done)
          | (obtain ⟨_, _, _, rfl⟩ := h1; simp; done)
          | (obtain ⟨_, _, _, rfl, _⟩ := h1; simp; done)
          | (obtain ⟨_, rfl, _⟩ := h1; simp; done)
          | skip
      · have hb : Nat.blt t a.size = false := by
          cases hh : Nat.blt t a.size
          · rfl
          · exact absurd (by simpa [Nat.blt_eq] using hh) ht
        rw [hb]
        have hget : A.tmps[t]? = none := Array.getElem?_eq_none (by rw [k.1]; exact Nat.le_of_not_lt ht)
        rw [hget]
        simp

theorem ops_step {r : Runs} (hS : SoundA P r) {ops : Array Oper} {l : List Oper} {a : AAct} {h : Heap} {o : Out} (e : rOps P r ops a h l = some o) {i : Nat} (hl : l = ops.toList.drop i) {top : Nat} {E : Env} {W : World} {A : Act} {rb : Option Nat} (k : HR top E h W) (ht : o.h.next ≤ top) (ha : AR E a A) (n : Nat) :
    wpOpsIn (FF rb) n P ops (PC top E h W o) ((List.range ops.size).drop i) A W := by
  unfold rOps at e
  split at e
  · cases e
    have hi : ops.size ≤ i := by
      have := congrArg List.length hl
      simp at this
      omega
    rw [List.drop_eq_nil_of_le (by simpa using hi)]
    exact PC.here k ha .normal aundef
  · rename_i q l'
    have hi : i < ops.size := by
      rcases Nat.lt_or_ge i ops.size with h | h
      · exact h
      · rw [List.drop_eq_nil_of_le (by simpa using h)] at hl; cases hl
    rw [List.drop_eq_getElem_cons (by simpa using hi)] at hl
    injection hl with hq hl'
    have hop : ops[i]? = some q := by rw [Array.getElem?_eq_getElem hi, hq]; simp
    rw [List.drop_eq_getElem_cons (by simpa using hi)]
    simp only [List.getElem_range]
    unfold rPut at e
    split at e
    · rename_i v g heq
      split at e
      · rename_i a' hput
        have hm := hS.next e
        rw [wpOpsIn, hop]
        simp only [wanted_eq ha.tm]
        split at heq
        · rename_i hw
          rw [if_pos hw]
          obtain ⟨h1, h2⟩ := rOp_ok hS heq
          refine h2 top E W A rb n _ _ k (Nat.le_trans hm ht) (ha.opR _) fun E' W' V x k' hv => ?_
          have h3 := hS.ops e hl' k' ht ((ha.mono x.le).put hput hv) (rb := rb) n
          exact wpOpsIn_post h3 fun e A' W2 p => PC.trans k k' (Nat.le_trans hm ht) x p
        · rename_i hw
          cases heq
          rw [if_neg hw]
          exact ⟨fun _ _ => FF_fn _ _, hS.ops e hl' k ht (ha.put hput VR.undef) (rb := rb) n⟩
      · cases e
    · cases e

/-! code -/
theorem TR.init {E : Env} : ∀ {l : List AV} {L : List Value} (i : Nat), VRs E l L → ∀ q, VR E (((initT l i).get q).getD aundef) (if q < i then undef else L.getD (q - i) undef)
  | [], L, i, h, q => by
    simp only [VRs] at h; subst h
    simp only [initT, T.get, Option.getD_none, List.getD_nil]
    split <;> exact VR.undef
  | v :: l, L, i, h, q => by
    simp only [VRs] at h
    obtain ⟨V, L, rfl, h1, h2⟩ := h
    simp only [initT, T.get_set]
    by_cases e : q = i
    · subst e; simpa using h1
    · rw [if_neg e]
      have := TR.init (i + 1) h2 q
      by_cases hlt : q < i
      · rw [if_pos hlt]; rw [if_pos (by omega)] at this; exact this
      · rw [if_neg hlt]; rw [if_neg (by omega)] at this
        rw [show q - i = (q - (i + 1)) + 1 from by omega]
        simpa using this

theorem shut_run {fn : Func} {R : Ending → World → Prop} {tmps : Array Value} : ∀ {ds : List Nat} {h g : Heap} {D : List Deferred} {top : Nat} {E : Env} {W : World}, shutAll h ds = some g → HR top E h W → h.next ≤ top → DR E ds D →
    (∀ W', Ext E E h g W W' → HR top E g W' → ∃ v, (results fn tmps).run P W' = .ok v W' ∧ R (.returned v) W') → ∀ n, LeavesInM Fence.wide n P fn tmps R D .returning W
  | [], h, g, D, top, E, W, hs, k, ht, hd, hK, n => by
    simp only [shutAll] at hs; cases hs
    simp only [DR] at hd; subst hd
    exact hK W (Ext.refl _ _ _) k
  | d :: ds, h, g, D, top, E, W, hs, k, ht, hd, hK, n => by
    obtain ⟨b, c, D', hE, rfl, hd'⟩ := hd
    simp only [shutAll] at hs
    split at hs
    · rename_i hg
      split at hs
      · rename_i h' hset
        obtain ⟨b', c', O, e1, e2, e3⟩ := k.obj d _ hg
        rw [hE] at e1
        cases e1
        simp only [OR, if_true] at e3
        subst e3
        have hlt : b < W.heap.size := (Array.getElem?_eq_some_iff.1 e2).1
        obtain ⟨k', x⟩ := k.set hset hE (W.putObj b (.deferred none)) (.deferred none) (World.putObj_heap_same hlt) rfl (fun q hq => World.putObj_heap_other hq) (by simp) rfl rfl rfl
        have hnx : h'.next = h.next := by obtain ⟨_, _, rfl⟩ := Heap.set_eq hset; rfl
        refine ⟨by simp, .inl ⟨b, _, rfl, run_takeDeferred e2, ?_⟩⟩
        refine shut_run hs k' (by omega) hd' (fun W' x' k2 => hK W' (x.trans k k' (by omega) x') k2) n
      · cases hs
    · cases hs

def resOne (A : Act) : ResultVar → Sem Value
  | .tmp t => pure (A.tmps.getD t undef)
  | .cell q t => do loadVar t (← asAddr (A.tmps.getD q undef))
theorem results_run {top : Nat} {E : Env} {h : Heap} {W : World} {a : AAct} {A : Act} (k : HR top E h W) (ha : AR E a A) : ∀ {rs : List ResultVar} {l : List AV}, resultsA P h a rs = some l →
    ∃ L, (rs.mapM (resOne A)).run P W = .ok L W ∧ VRs E l L
  | [], l, hr => by simp only [resultsA] at hr; cases hr; exact ⟨[], by simp, VRs.nil⟩
  | .tmp t :: rs, l, hr => by
    simp only [resultsA] at hr
    split at hr
    · rename_i vs hvs
      cases hr
      obtain ⟨L, h1, h2⟩ := results_run k ha hvs
      exact ⟨A.tmps.getD t undef :: L, by simp only [List.mapM_cons, resOne, Sem.run_bind, Sem.run_pure, Result.andThen_ok, h1], VRs.cons (ha.tm.2 t) h2⟩
    · cases hr
  | .cell q t :: rs, l, hr => by
    simp only [resultsA] at hr
    split at hr
    · rename_i i off hq
      split at hr
      · rename_i v vs hv hvs
        cases hr
        obtain ⟨L, h1, h2⟩ := results_run k ha hvs
        have h3 := ha.tm.2 q
        unfold AAct.at at hq
        rw [hq] at h3
        simp only [VR] at h3
        obtain ⟨b, c, hE, h3⟩ := h3
        obtain ⟨V, h4, h5⟩ := k.loadV (P := P) hv hE
        exact ⟨V :: L, by simp only [List.mapM_cons, resOne, Sem.run_bind, Sem.run_pure, Result.andThen_ok, h3, asAddr, h4, h1], VRs.cons h5 h2⟩
      · cases hr
    · cases hr
theorem oneOf_run {E : Env} {l : List AV} {L : List Value} (h : VRs E l L) : VR E (oneOf l) (if h : L.toArray.size = 1 then L.toArray[0] else .tuple L.toArray) := by
  cases l with
  | nil => simp only [VRs] at h; subst h; simp only [oneOf, VR]; exact ⟨[], rfl, VRs.nil⟩
  | cons v l =>
    have h0 := h
    simp only [VRs] at h
    obtain ⟨V, L, rfl, h1, h2⟩ := h
    cases l with
    | nil => simp only [VRs] at h2; subst h2; simpa [oneOf] using h1
    | cons u l =>
      have hl := h2.len
      have : ¬ ((V :: L).toArray.size = 1) := by simp; intro e; subst e; simp at hl
      rw [dif_neg this]
      simp only [oneOf, VR]
      exact ⟨_, rfl, h0⟩

theorem call_step {r : Runs} (hS : SoundA P r) {f : Nat} {args : List AV} {h : Heap} {o : Out} (e : rCall P r f args h = some o) {top : Nat} {E : Env} {W : World} {Args : List Value} (k : HR top E h W) (ht : o.h.next ≤ top) (hv : VRs E args Args) :
    (∀ args w, (callFunc f args).run P w = .ok (.enter f args) w) ∧ ∀ n, CallsIn Fence.wide n P f Args.toArray W (PV top E h W o) := by
  unfold rCall at e
  split at e
  · rename_i fn hen
    split at e
    · rename_i c hb
      refine ⟨fun args w => (enter_run hen args w).1, fun n => ?_⟩
      refine callsIn_of_wp_marks (enter_run hen #[] W).2 hb trivial ?_ rfl
      unfold rEnd at e
      split at e
      · cases e
      · rename_i ex v a h1 hne hrun
        split at e
        · rename_i h2 hsh
          split at e
          · rename_i l hres
            cases e
            have hlen := hv.len
            have hx2 : h1.next ≤ h2.next := by
              have : ∀ {ds : List Nat} {h g : Heap}, shutAll h ds = some g → g.next = h.next := by
                intro ds
                induction ds with
                | nil => intro h g hs; simp only [shutAll] at hs; cases hs; rfl
                | cons d ds ih =>
                  intro h g hs
                  simp only [shutAll] at hs
                  split at hs
                  · split at hs
                    · rename_i h' hset
                      have := ih hs
                      obtain ⟨_, _, rfl⟩ := Heap.set_eq hset
                      exact this
                    · cases hs
                  · cases hs
              exact Nat.le_of_eq (this hsh).symm
            have hA : AR E ⟨initT args 0, if Nat.ble args.length fn.ntmps then fn.ntmps else args.length, []⟩ { tmps := Args.toArray ++ Array.replicate (fn.ntmps - Args.toArray.size) undef, defers := [] } := by
              refine ⟨⟨?_, fun i => ?_⟩, rfl⟩
              · simp only [Array.size_append, List.size_toArray, Array.size_replicate, hlen]
                split
                · rename_i hh; have := Nat.le_of_ble_eq_true hh; omega
                · rename_i hh; have : ¬ args.length ≤ fn.ntmps := fun h => hh (Nat.ble_eq_true_of_le h); omega
              · have := TR.init 0 hv i
                simp only [Nat.not_lt_zero, if_false, Nat.sub_zero] at this
                suffices e2 : (Args.toArray ++ Array.replicate (fn.ntmps - Args.toArray.size) undef).getD i undef = Args.getD i undef by
                  show VR E _ ((Args.toArray ++ Array.replicate (fn.ntmps - Args.toArray.size) undef).getD i undef)
                  rw [e2]; exact this
                simp only [Array.getD_eq_getD_getElem?, List.getD_eq_getElem?_getD]
                by_cases hi : i < Args.length
                · rw [Array.getElem?_append_left (by simpa using hi)]; simp
                · rw [List.getElem?_eq_none (by omega), Array.getElem?_append_right (by simpa using hi)]
                  simp only [Option.getD_none, Array.getElem?_replicate]
                  split <;> rfl
            have hc := hS.code hrun k (Nat.le_trans hx2 ht) hA (show RR E none none from trivial) n
            refine wpIn_mono hc ?_
            rintro e' A' W' ⟨rfl, E', x, k', ha'⟩
            have hfin : LeavesInM Fence.wide n P fn A'.tmps (PV top E h W ⟨.normal, oneOf l, a, h2⟩) A'.defers .returning W' := by
              refine shut_run hsh k' (Nat.le_trans hx2 ht) ha'.de (fun W2 x2 k2 => ?_) n
              obtain ⟨L, r1, r2⟩ := results_run (P := P) k2 ha' hres
              refine ⟨_, ?_, _, E', rfl, x.trans k k' (Nat.le_trans hx2 ht) x2, k2, oneOf_run r2⟩
              unfold results
              have hf : ∀ f : ResultVar → Sem Value, (∀ r, f r = resOne A' r) → ((do let vs ← fn.results.mapM f; pure (if h : vs.size = 1 then vs[0] else .tuple vs)) : Sem Value).run P W2 = .ok (if h : L.toArray.size = 1 then L.toArray[0] else .tuple L.toArray) W2 := by
                intro f hf
                rw [funext hf]
                simp only [Array.mapM_eq_mapM_toList, Sem.run_bind, Sem.run_map, r1, Result.andThen_ok, Sem.run_pure]
              exact hf _ (fun r => by cases r <;> rfl)
            cases ex with
            | normal => exact hfin
            | ret => exact hfin
            | exit id => exact (hne id rfl).elim
          · cases e
        · cases e
      · cases e
    · cases e
  · cases e

theorem setAll_run {E : Env} {size : Nat} : ∀ {ps : List Nat} {vs : List AV} {Vs : List Value} {t : T AV} {A : Array Value}, TR E t size A → VRs E vs Vs → TR E (setAll t size ps vs) size ((ps.zip Vs).foldl (fun tmps p => tmps.setIfInBounds p.1 p.2) A)
  | [], vs, Vs, t, A, k, h => by cases vs <;> simpa [setAll] using k
  | p :: ps, [], Vs, t, A, k, h => by simp only [VRs] at h; subst h; simpa [setAll] using k
  | p :: ps, v :: vs, Vs, t, A, k, h => by
    simp only [VRs] at h
    obtain ⟨V, L, rfl, h1, h2⟩ := h
    simp only [setAll, List.zip_cons_cons, List.foldl_cons]
    refine setAll_run ?_ h2
    by_cases hp : p < size
    · have : Nat.blt p size = true := by simpa [Nat.blt_eq] using hp
      rw [if_pos this]
      exact k.set hp h1
    · have : ¬ (Nat.blt p size = true) := by simpa [Nat.blt_eq] using hp
      rw [if_neg this]
      rw [Array.setIfInBounds_eq_of_size_le (by rw [k.1]; omega)]
      exact k

theorem HR.loopAt {top : Nat} {E : Env} {h : Heap} {W : World} (k : HR top E h W) {l : Nat} {q : ALoop} (hg : h.get l = some (.loop q)) {b c : Nat} (hE : E l = some (b, c)) : ∃ R, W.heap[b]? = some (.loop R) ∧ LR E q R := by
  obtain ⟨b', c', O, e1, e2, R, e3, rfl⟩ := k.obj l _ hg
  rw [hE] at e1
  cases e1
  exact ⟨R, e2, e3⟩
/-- a loop's record that is written over -/
theorem HR.setLoop {top : Nat} {E : Env} {h g : Heap} {W : World} (k : HR top E h W) {l : Nat} {q : ALoop} (hs : h.set l (.loop q) = some g) {b c : Nat} (hE : E l = some (b, c)) {R0 R : Loop} (hW : W.heap[b]? = some (.loop R0)) (hR : LR E q R) :
    HR top E g (W.putObj b (.loop R)) ∧ Ext E E h g W (W.putObj b (.loop R)) ∧ g.next = h.next := by
  have hlt : b < W.heap.size := (Array.getElem?_eq_some_iff.1 hW).1
  obtain ⟨h1, h2⟩ := k.set hs hE (W.putObj b (.loop R)) (.loop R) (World.putObj_heap_same hlt) ⟨R, hR, rfl⟩ (fun q hq => World.putObj_heap_other hq) (by simp) rfl rfl rfl
  exact ⟨h1, h2, by obtain ⟨_, _, rfl⟩ := Heap.set_eq hs; rfl⟩

theorem round_step {r : Runs} (hS : SoundA P r) {l : Nat} {args : List AV} {h : Heap} {o : Out} (e : rRound r l args h = some o) {top : Nat} {E : Env} {W : World} {Args : List Value} {b c : Nat} (k : HR top E h W) (ht : o.h.next ≤ top) (hE : E l = some (b, c)) (hv : VRs E args Args) (n : Nat) :
    ∃ fn tmps assign body, (Instr.yield b Args.toArray).run P W = .ok (.round b fn tmps assign body) W ∧ RoundIn Fence.wide n P b fn tmps assign body W (PV top E h W o) := by
  unfold rRound at e
  split at e
  · rename_i q hg
    split at e
    · rename_i hc
      obtain ⟨R, hW, hR⟩ := k.loopAt hg hE
      have hlen := hv.len
      have hy := run_yield (P := P) (args := Args.toArray) hW (by simp only [List.size_toArray]; rw [hlen, hc.1, hR.params])
      refine ⟨_, _, _, _, hy, ?_⟩
      unfold rBody at e
      split at e
      · rename_i v1 a1 h1 hr1
        split at e
        · rename_i h2 hbusy
          unfold rEndR at e
          split at e
          · rename_i ex v2 a2 h3 hr2
            split at e
            · rename_i h4 hend
              cases e
              -- the numbers
              have n2 := hS.next hr2
              have hbs : ∃ q1, h1.get l = some (.loop q1) ∧ q1.state = .ready ∧ h1.set l (.loop { q1 with state := .busy }) = some h2 := by
                unfold busyA at hbusy
                split at hbusy
                · rename_i q1 hg1
                  split at hbusy
                  · rename_i hst; exact ⟨q1, hg1, hst, hbusy⟩
                  · cases hbusy
                · cases hbusy
              obtain ⟨q1, hg1, hst1, hset1⟩ := hbs
              have hes : ∃ q2, h3.get l = some (.loop q2) ∧ h3.set l (.loop { q2 with state := (if ex.isNormal then .ready else .done), pending := ex.jump }) = some h4 := by
                unfold endA at hend
                split at hend
                · rename_i q2 hg2; exact ⟨q2, hg2, hend⟩
                · cases hend
              obtain ⟨q2, hg2, hset2⟩ := hes
              have m1 : h2.next = h1.next := by obtain ⟨_, _, rfl⟩ := Heap.set_eq hset1; rfl
              have m2 : h4.next = h3.next := by obtain ⟨_, _, rfl⟩ := Heap.set_eq hset2; rfl
              have ht3 : h3.next ≤ top := by rw [← m2]; exact ht
              have ht2 : h2.next ≤ top := Nat.le_trans n2 ht3
              have ht1 : h1.next ≤ top := by rw [← m1]; exact ht2
              refine roundIn_of_wpIn (F := Fence.wide) trivial ?_
              have hA : AR E ⟨setAll q.tmps q.size q.params.toList args, q.size, []⟩ { tmps := (R.params.zip Args.toArray).foldl (fun tmps (t, a) => tmps.setIfInBounds t a) R.tmps, defers := [] } := by
                refine ⟨?_, rfl⟩
                have := setAll_run (ps := q.params.toList) hR.tm hv
                rw [hR.params, ← Array.foldl_toList]
                simpa using this
              have c1 := hS.code hr1 k ht1 hA (rb := some b) (show RR E (some l) (some b) from ⟨c, hE⟩) n
              rw [hR.assign]
              refine wpIn_mono c1 ?_
              rintro e' A' W' ⟨rfl, E', x1, k1, ha1⟩
              have hE1 : E' l = some (b, c) := x1.le _ _ hE
              obtain ⟨R1, hW1, hR1⟩ := k1.loopAt hg1 hE1
              have hb1 := run_beginRound (P := P) hW1 (by rw [hR1.state]; exact hst1)
              obtain ⟨k2, x2, _⟩ := k1.setLoop hset1 hE1 (R := { R1 with state := .busy }) hW1 ⟨rfl, hR1.pending, hR1.tm, hR1.params, hR1.assign, hR1.body, hR1.defers⟩
              refine ⟨_, hb1, ?_⟩
              have c2 := hS.code hr2 k2 ht3 (ha1) (rb := some b) (show RR E' (some l) (some b) from ⟨c, hE1⟩) n
              rw [hR.body]
              refine wpIn_mono c2 ?_
              rintro e2 A2 W2 ⟨rfl, E2, x3, k3, ha2⟩
              have hE2 : E2 l = some (b, c) := x3.le _ _ hE1
              obtain ⟨R2, hW2, hR2⟩ := k3.loopAt hg2 hE2
              have fin : ∀ jump, jump = ex.jump → ∃ v w', (Instr.endRound b jump).run P W2 = .ok v w' ∧ PV top E h W ⟨.normal, .bool ex.isNormal, a2, h4⟩ (.returned v) w' := by
                rintro jump rfl
                have hj : ex.jump.isNone = ex.isNormal := by cases ex <;> rfl
                obtain ⟨k4, x4, _⟩ := k3.setLoop hset2 hE2 (R := { R2 with state := if ex.jump.isNone then .ready else .done, pending := ex.jump }) hW2 ⟨by rw [hj], rfl, hR2.tm, hR2.params, hR2.assign, hR2.body, hR2.defers⟩
                refine ⟨_, _, run_endRound (P := P) ex.jump hW2, _, E2, rfl, ?_, k4, by rw [hj]; simp only [VR]⟩
                have y1 := x1.trans k k1 ht1 x2
                have y2 := y1.trans k k2 ht2 x3
                exact y2.trans k k3 ht3 x4
              cases ex with
              | normal => exact fin none rfl
              | ret => exact fin (some .ret) rfl
              | exit id => exact fin (some (.exit id)) rfl
            · cases e
          · cases e
        · cases e
      · cases e
    · cases e
  · cases e

theorem rounds_post {F : Fence} {n : Nat} {c : Code} {Q Q' : Exit → Act → World → Prop} (hq : ∀ e a w, Q e a w → Q' e a w) : ∀ {m : Nat} {a : Act} {w : World}, Code.roundsIn F n P c Q m a w → Code.roundsIn F n P c Q' m a w
  | 0, _, _, h => h.elim
  | m + 1, a, w, h => by
    rw [roundsIn_succ] at h ⊢
    refine wpIn_mono h fun e a w hh => ?_
    cases e <;> first | exact rounds_post hq hh | exact hq _ _ _ hh

theorem loop_step {r : Runs} (hS : SoundA P r) {rnd : Option Nat} {b : Code} {a : AAct} {h : Heap} {o : Out} (e : (match r (.code rnd b) a h with
    | some ⟨.normal, _, a, h⟩ => r (.code rnd (.loop b)) a h
    | o => o) = some o) : ∃ m, ∀ {top E W A rb}, HR top E h W → o.h.next ≤ top → AR E a A → RR E rnd rb → ∀ n, Code.roundsIn (FF rb) n P b (PC top E h W o) m A W := by
  split at e
  · rename_i v1 a1 h1 hr1
    obtain ⟨m, hm⟩ := hS.loop e
    refine ⟨m + 1, fun {top E W A rb} k ht ha hrr n => ?_⟩
    have n2 := hS.next e
    have c1 := hS.code hr1 k (Nat.le_trans n2 ht) ha hrr n
    rw [roundsIn_succ]
    refine wpIn_mono c1 ?_
    rintro e' A' W' ⟨rfl, E', x1, k1, ha1⟩
    exact rounds_post (fun _ _ _ p => PC.trans k k1 (Nat.le_trans n2 ht) x1 p) (hm k1 ht ha1 (hrr.mono x1.le) n)
  · rename_i hne
    refine ⟨1, fun {top E W A rb} k ht ha hrr n => ?_⟩
    have c1 := hS.code e k ht ha hrr n
    rw [roundsIn_succ]
    refine wpIn_mono c1 ?_
    rintro e' A' W' p
    have hex : o.ex.conc ≠ .normal := by
      obtain ⟨ex, v, a2, h2⟩ := o
      cases ex with
      | normal => exact absurd e (fun hh => hne _ _ _ hh)
      | exit id => simp [Ex.conc]
      | ret => simp [Ex.conc]
    obtain ⟨rfl, rest⟩ := p
    revert hex rest
    generalize hx : o.ex.conc = ec
    intro hex rest
    cases ec <;> first | exact absurd rfl hex | exact ⟨hx.symm, rest⟩

theorem range_step {r : Runs} (hS : SoundA P r) {rnd : Option Nat} {f : Operand} {ps : Array Tmp} {assign body : Code} {a : AAct} {h : Heap} {o : Out} (e : rRange r rnd f ps assign body a h = some o) {top : Nat} {E : Env} {W : World} {A : Act} {rb : Option Nat} (k : HR top E h W) (ht : o.h.next ≤ top) (ha : AR E a A) (hrr : RR E rnd rb) (n : Nat) :
    (Code.rangeFunc f ps assign body).wpIn (FF rb) n P (PC top E h W o) A W := by
  unfold rRange at e
  split at e
  · rename_i g fs cs d mark h1 hf hen
    split at e
    · rename_i o1 hcall
      have n1 := hS.next hcall
      -- leaving
      have hlv : ∃ pend h2, leaveA o1.h h1.next = some (pend, h2) ∧ rLeave r rnd { a with defers := mark ++ a.defers } (some (pend, h2)) = some o := by
        cases hl : leaveA o1.h h1.next with
        | none => rw [hl] at e; simp [rLeave] at e
        | some p => rw [hl] at e; exact ⟨p.1, p.2, rfl, e⟩
      obtain ⟨pend, h2, hleave, hrl⟩ := hlv
      have hq : ∃ q, o1.h.get h1.next = some (.loop q) ∧ q.state ≠ .busy ∧ o1.h.set h1.next (.loop { q with state := .exhausted }) = some h2 ∧ pend = q.pending := by
        unfold leaveA at hleave
        split at hleave
        · rename_i q hg
          split at hleave
          · cases hleave
          · rename_i hb
            simp only [Option.map_eq_some_iff, Prod.mk.injEq] at hleave
            obtain ⟨h3, h4, rfl, rfl⟩ := hleave
            exact ⟨q, hg, hb, h4, rfl⟩
        · cases hleave
      obtain ⟨q, hgq, hqb, hqs, hpq⟩ := hq
      have m2 : h2.next = o1.h.next := by obtain ⟨_, _, rfl⟩ := Heap.set_eq hqs; rfl
      have ht2 : h2.next ≤ top := by
        unfold rLeave at hrl
        split at hrl
        · rename_i h3 heq; cases heq; cases hrl; exact ht
        · rename_i c h3 heq; cases heq; exact Nat.le_trans (hS.next hrl) ht
        · rename_i heq; cases heq
      have ht1 : o1.h.next ≤ top := by rw [← m2]; exact ht2
      have htn : (h1.new (.loop ⟨.ready, none, a.tmps, a.size, ps, assign, body, d⟩)).2.next ≤ top := Nat.le_trans n1 ht1
      refine wpIn_rangeFunc fun fn _ => ?_
      rw [FF_round]
      -- entering
      have hent : ∃ E1 W1 md db, HR top E1 h1 W1 ∧ Ext E E1 h h1 W W1 ∧ h1.next ≤ top ∧ DR E1 mark md ∧ (∃ c, E1 d = some (db, c)) ∧
          (Instr.enterLoop fn A.tmps ps assign body rb).run P W = .ok (W1.heap.size, md) (W1.alloc (.loop { state := .ready, pending := none, fn, tmps := A.tmps, params := ps, assign, body, defers := db })) := by
        cases rnd with
        | none =>
          cases rb with
          | some _ => exact hrr.elim
          | none =>
            simp only [enterA] at hen
            cases hen
            have hx1 : h.next + 1 ≤ top := by
              have : (h.new (.deferred true)).2.next = h.next + 1 := rfl
              have h5 : (h.new (.deferred true)).2.next + 1 ≤ top := htn
              omega
            obtain ⟨g1, g2, g3⟩ := k.new hx1 (.deferred true) (.deferred (some [])) 0 rfl
            refine ⟨_, _, [{ target := .collected W.heap.size, args := #[] }], W.heap.size, g1, g2, hx1, ⟨W.heap.size, 0, [], g3, rfl, rfl⟩, ⟨0, g3⟩, ?_⟩
            rw [run_enterLoop_outer]
            simp
        | some l0 =>
          cases rb with
          | none => exact hrr.elim
          | some b0 =>
            obtain ⟨c0, hE0⟩ := hrr
            simp only [enterA] at hen
            split at hen
            · rename_i q0 hg0
              cases hen
              obtain ⟨R0, hW0, hR0⟩ := k.loopAt hg0 hE0
              obtain ⟨cd, hcd⟩ := hR0.defers
              have h5 : h.next + 1 ≤ top := htn
              refine ⟨E, W, [], R0.defers, k, Ext.refl _ _ _, by omega, rfl, ⟨cd, hcd⟩, ?_⟩
              rw [run_enterLoop_inner hW0]
            · cases hen
      obtain ⟨E1, W1, md, db, k1, x1, ht1', hmd, ⟨cd, hd⟩, hrun⟩ := hent
      have hle1 := Env.put_le (x := (W1.heap.size, 0)) (k1.lt h1.next (Nat.le_refl _) (show h1.next < top from htn))
      obtain ⟨k2, x2, e2⟩ := k1.new htn (.loop ⟨.ready, none, a.tmps, a.size, ps, assign, body, d⟩) (.loop { state := .ready, pending := none, fn, tmps := A.tmps, params := ps, assign, body, defers := db }) 0
        ⟨_, ⟨rfl, rfl, (ha.tm.mono x1.le).mono hle1, rfl, rfl, rfl, ⟨cd, hle1 _ _ hd⟩⟩, rfl⟩
      have hvf := ha.eval hf
      simp only [VR] at hvf
      obtain ⟨fnv, As, Cs, hfv, h3, h4, rfl⟩ := hvf
      have hargs : VRs (E1.put h1.next (W1.heap.size, 0)) (fs ++ [.fn (.yield h1.next) [] []] ++ cs) (As ++ [.func (.yield W1.heap.size) #[] #[]] ++ Cs) := by
        refine (((h3.mono x1.le).mono hle1).append (VRs.cons ?_ VRs.nil)).append ((h4.mono x1.le).mono hle1)
        simp only [VR]
        exact ⟨.yield W1.heap.size, [], [], rfl, VRs.nil, VRs.nil, W1.heap.size, 0, e2, rfl⟩
      obtain ⟨hcf, hci⟩ := hS.call hcall k2 ht1 hargs
      refine ⟨W1.heap.size, md, (W1.alloc (.loop { state := .ready, pending := none, fn, tmps := A.tmps, params := ps, assign, body, defers := db })), { target := .fn (.func g) Cs.toArray, args := As.toArray ++ #[Value.func (.yield W1.heap.size) #[] #[]] }, (W1.alloc (.loop { state := .ready, pending := none, fn, tmps := A.tmps, params := ps, assign, body, defers := db })), g, (As ++ [Value.func (.yield W1.heap.size) #[] #[]] ++ Cs).toArray, (W1.alloc (.loop { state := .ready, pending := none, fn, tmps := A.tmps, params := ps, assign, body, defers := db })), hrun, ?_, fun f' _ => FF_fn _ _, ?_, fun hd => (by rw [FF_depth] at hd; cases hd), ?_⟩
      · simp only [resolve, hfv, Deferred.ofValue]
        simp [Act.eval]
      · have e3 : (As.toArray ++ #[.func (.yield W1.heap.size) #[] #[]]) ++ Cs.toArray = (As ++ [Value.func (.yield W1.heap.size) #[] #[]] ++ Cs).toArray := by apply Array.ext'; simp
        simp only [invoke, e3]
        exact hcf _ _
      · refine (callsIn_FF rb (hci (n - 1))).mono ?_
        rintro e' W3 ⟨V, E3, rfl, x3, k3, hV⟩
        have hE3 : E3 h1.next = some (W1.heap.size, 0) := x3.le _ _ e2
        obtain ⟨R3, hW3, hR3⟩ := k3.loopAt hgq hE3
        have y1 := x1.trans k k1 ht1' x2
        have y2 := y1.trans k k2 htn x3
        obtain ⟨k4, x4, _⟩ := k3.setLoop hqs hE3 (R := { R3 with state := .exhausted }) hW3 ⟨rfl, hR3.pending, hR3.tm, hR3.params, hR3.assign, hR3.body, hR3.defers⟩
        have y3 := y2.trans k k3 ht1 x4
        refine ⟨_, _, run_endLoop (P := P) hW3 (by rw [hR3.state]; exact hqb), ?_⟩
        have ha4 : AR E3 { a with defers := mark ++ a.defers } { A with defers := md ++ A.defers } := ⟨((ha.tm.mono x1.le).mono hle1).mono x3.le, DR.app ((hmd.mono hle1).mono x3.le) (((ha.de.mono x1.le).mono hle1).mono x3.le)⟩
        have hpe : R3.pending = pend := hR3.pending.trans hpq.symm
        obtain ⟨W4, hW4⟩ : ∃ W4, W4 = W3.putObj W1.heap.size (.loop { R3 with state := .exhausted }) := ⟨_, rfl⟩
        rw [← hW4] at k4 y3 ⊢
        rw [hpe]
        clear hW4 x4
        cases pend with
        | none =>
          simp only [rLeave] at hrl
          cases hrl
          exact ⟨rfl, E3, y3, k4, ha4⟩
        | some c =>
          simp only [rLeave] at hrl
          have hE34 : E.le E3 := E.le_trans x1.le (Env.le_trans hle1 x3.le)
          exact wpIn_mono (hS.code hrl k4 ht ha4 (hrr.mono hE34) n) fun _ _ _ p => PC.trans k k4 ht2 y3 p
    · cases e
  · cases e
end Go.Proofs.Ytobehhcbnjgojaa.Ev
