/- Code: what the calculator says of it holds. -/
import Derived.Test.YtkebbdpfjhhdhaaGreatEv2
import Derived.RangeFuncCalls
import Derived.RangeFuncNested
import Derived.OrdersIn
namespace Go.Proofs.YtkebbdpfjhhdhaaGreat.Ev
variable {P : Program}

def FF : Option Nat → Fence
  | none => Fence.wide
  | some b => Fence.wide.inRound b
theorem FF_fn (rb : Option Nat) (f : FuncId) : (FF rb).fn f := by cases rb <;> trivial
theorem FF_depth (rb : Option Nat) : (FF rb).depth = none := by cases rb <;> rfl
theorem FF_round (rb : Option Nat) : (FF rb).round = rb := by cases rb <;> rfl
theorem callsIn_FF {n : Nat} {f : FuncId} {args : Array Value} {w : World} {R : Ending → World → Prop} (rb : Option Nat) (h : CallsIn Fence.wide n P f args w R) : CallsIn (FF rb) n P f args w R := by
  cases rb with
  | none => exact h
  | some b => exact CallsIn.inRound b h
theorem roundIn_FF {n l : Nat} {f : FuncId} {tmps : Array Value} {assign body : Code} {w : World} {R : Ending → World → Prop} (rb : Option Nat) (h : RoundIn Fence.wide n P l f tmps assign body w R) : RoundIn (FF rb) n P l f tmps assign body w R := by
  cases rb with
  | none => exact h
  | some b => exact h

def RR (E : Env) : Option Nat → Option Nat → Prop
  | none, none => True
  | some l, some b => ∃ c, E l = some (b, c)
  | _, _ => False
theorem RR.mono {E E' : Env} (h : E.le E') : ∀ {rnd rb}, RR E rnd rb → RR E' rnd rb
  | none, none, k => k
  | some _, some _, ⟨c, k⟩ => ⟨c, h _ _ k⟩
def DR (E : Env) : List Nat → List Deferred → Prop
  | [], D => D = []
  | i :: l, D => ∃ b c D', E i = some (b, c) ∧ D = { target := .collected b, args := #[] } :: D' ∧ DR E l D'
theorem DR.mono {E E' : Env} (h : E.le E') : ∀ {l D}, DR E l D → DR E' l D
  | [], _, k => k
  | _ :: _, _, ⟨b, c, D, k1, k2, k3⟩ => ⟨b, c, D, h _ _ k1, k2, DR.mono h k3⟩
theorem DR.app {E : Env} : ∀ {l m D M}, DR E l D → DR E m M → DR E (l ++ m) (D ++ M)
  | [], _, _, _, k, k' => by simp only [DR] at k; subst k; exact k'
  | _ :: _, _, _, _, ⟨b, c, D, k1, k2, k3⟩, k' => ⟨b, c, _, k1, by rw [k2]; rfl, DR.app k3 k'⟩

structure AR (E : Env) (a : AAct) (A : Act) : Prop where
  tm : TR E a.tmps a.size A.tmps
  de : DR E a.defers A.defers
theorem AR.mono {E E' : Env} (h : E.le E') {a A} (k : AR E a A) : AR E' a A := ⟨k.tm.mono h, k.de.mono h⟩
theorem AR.eval {E : Env} {a : AAct} {A : Act} (k : AR E a A) {x : Operand} {v : AV} (hx : a.eval x = some v) : VR E v (A.eval x) := by
  cases x with
  | tmp t => simp only [AAct.eval] at hx; cases hx; exact k.tm.2 t
  | const c => simp only [AAct.eval] at hx; exact abs_VR hx
  | global g => simp [AAct.eval] at hx
  | func f => simp only [AAct.eval] at hx; cases hx; simp only [VR]; exact ⟨.func f, [], [], rfl, VRs.nil, VRs.nil, rfl⟩
theorem AR.opR {E : Env} {a : AAct} {A : Act} (k : AR E a A) (l : List Operand) : OpR E a A l := fun _ _ _ hv => k.eval hv
theorem AR.put {E : Env} {a a' : AAct} {A : Act} (k : AR E a A) {d : Option Tmp} {v : AV} {V : Value} (hp : a.put d v = some a') (hv : VR E v V) : AR E a' (A.put d V) := by
  unfold AAct.put at hp
  cases d with
  | none => cases hp; exact k
  | some d =>
    simp only at hp
    split at hp
    · rename_i hd
      cases hp
      exact ⟨k.tm.set (by simpa [Nat.blt_eq] using hd) hv, k.de⟩
    · cases hp

def Ex.conc : Ex → Exit
  | .normal => .normal
  | .exit id => .exit id
  | .ret => .ret
def PC (top : Nat) (E : Env) (h : Heap) (W : World) (o : Out) : Exit → Act → World → Prop := fun e A' W' => e = o.ex.conc ∧ ∃ E', Ext E E' h o.h W W' ∧ HR top E' o.h W' ∧ AR E' o.a A'
def PV (top : Nat) (E : Env) (h : Heap) (W : World) (o : Out) : Ending → World → Prop := fun e W' => ∃ V E', e = .returned V ∧ Ext E E' h o.h W W' ∧ HR top E' o.h W' ∧ VR E' o.v V

/-- an operation, with the call that it makes -/
def OkOp (P : Program) (h : Heap) (a : AAct) (o : Oper) (v : AV) (g : Heap) : Prop :=
  h.next ≤ g.next ∧ ∀ (top : Nat) (E : Env) (W : World) (A : Act) (rb : Option Nat) (n : Nat) (next : Act → World → Prop) (Q : Exit → Act → World → Prop), HR top E h W → g.next ≤ top → OpR E a A o.op.operands.toList →
    (∀ E' W' V, Ext E E' h g W W' → HR top E' g W' → VR E' v V → next (A.put o.dst V) W') → o.wpIn (FF rb) n P A W next Q

theorem wpOpsIn_post {F : Fence} {n : Nat} {ops : Array Oper} {Q Q' : Exit → Act → World → Prop} : ∀ {l : List Nat} {a : Act} {w : World}, wpOpsIn F n P ops Q l a w → (∀ e a w, Q e a w → Q' e a w) → wpOpsIn F n P ops Q' l a w
  | [], _, _, h, hq => hq _ _ _ h
  | i :: l, a, w, h, hq => by
    rw [wpOpsIn] at h ⊢
    split at h
    · exact wpOpsIn_post h hq
    · split at h
      · rename_i o ho hw
        rw [if_pos hw]
        refine ⟨h.1, ?_⟩
        have h2 := h.2
        generalize (o.semAt F.round a.eval).run P w = r at h2 ⊢
        have hl : LetsOut Q → LetsOut Q' := fun ⟨a, w, hh⟩ => ⟨a, w, hq _ _ _ hh⟩
        cases r with
        | ok x w' =>
          cases x <;> simp only [Oper.uponIn] at h2 ⊢ <;> first
            | exact h2
            | exact wpOpsIn_post h2 hq
            | exact ⟨h2.1, h2.2.mono fun e w'' he => by cases e <;> first | exact wpOpsIn_post he hq | exact hq _ _ _ he | exact hl he⟩
            | exact ⟨h2.1, h2.2.mono fun v w'' he => wpOpsIn_post he hq⟩
        | halt x w' => cases x <;> simp only [Oper.uponIn] at h2 ⊢ <;> first | exact hq _ _ _ h2 | exact h2
      · rename_i o ho hw
        rw [if_neg hw]
        exact ⟨h.1, wpOpsIn_post h.2 hq⟩

structure SoundA (P : Program) (r : Runs) : Prop where
  next : ∀ {j a h o}, r j a h = some o → h.next ≤ o.h.next
  code : ∀ {rnd c a h o}, r (.code rnd c) a h = some o → ∀ {top E W A rb}, HR top E h W → o.h.next ≤ top → AR E a A → RR E rnd rb → ∀ n, c.wpIn (FF rb) n P (PC top E h W o) A W
  loop : ∀ {rnd b a h o}, r (.code rnd (.loop b)) a h = some o → ∃ m, ∀ {top E W A rb}, HR top E h W → o.h.next ≤ top → AR E a A → RR E rnd rb → ∀ n, Code.roundsIn (FF rb) n P b (PC top E h W o) m A W
  ops : ∀ {ops l a h o}, r (.ops ops l) a h = some o → ∀ {i}, l = ops.toList.drop i → ∀ {top E W A rb}, HR top E h W → o.h.next ≤ top → AR E a A → ∀ n, wpOpsIn (FF rb) n P ops (PC top E h W o) ((List.range ops.size).drop i) A W
  call : ∀ {f args a h o}, r (.call f args) a h = some o → ∀ {top E W Args}, HR top E h W → o.h.next ≤ top → VRs E args Args → (∀ args w, (callFunc f args).run P w = .ok (.enter f args) w) ∧ ∀ n, CallsIn Fence.wide n P f Args.toArray W (PV top E h W o)
  round : ∀ {l args a h o}, r (.round l args) a h = some o → ∀ {top E W Args b c}, HR top E h W → o.h.next ≤ top → E l = some (b, c) → VRs E args Args → ∀ n, ∃ fn tmps assign body, (Instr.yield b Args.toArray).run P W = .ok (.round b fn tmps assign body) W ∧ RoundIn Fence.wide n P b fn tmps assign body W (PV top E h W o)

theorem enter_run {f : Nat} {fn : Func} (h : enters P f = some fn) (args : Array Value) (w : World) : (callFunc f args).run P w = .ok (.enter f args) w ∧ P.funcs[f]? = some fn := by
  unfold enters at h
  split at h
  · rename_i fn' hf
    split at h
    · rename_i hc
      cases h
      simp only [Bool.and_eq_true, Bool.not_eq_true'] at hc
      refine ⟨?_, hf⟩
      have h1 : ¬ fn.body = none := by intro hb; rw [hb] at hc; simp at hc
      have h2 : ¬ fn.name = "runtime.NumGoroutine" := by have := hc.2; simpa using this
      simp [callFunc, hf, h1, h2]
    · cases h
  · cases h

/-- one operation -/
theorem rOp_ok {r : Runs} (hS : SoundA P r) {h g : Heap} {a : AAct} {o : Oper} {v : AV} (e : rOp P r h a o = some (v, g)) : OkOp P h a o v g := by
  have hdef : ∀ x, evOp P h a.eval o = some x → ∀ c, o.op ≠ .defer c := fun x hx c hc => by
    unfold evOp at hx
    rw [hc] at hx
    cases hx
  unfold rOp at e
  split at e
  · rename_i xg hev
    split at e
    · rename_i hn
      have hn' : h.next ≤ xg.2.next := by simpa using hn
      obtain ⟨x, g'⟩ := xg
      cases x with
      | value v' =>
        cases e
        refine ⟨hn', fun top E W A rb n next Q k ht hR hK => ⟨fun _ _ => FF_fn _ _, ?_⟩⟩
        rw [Oper.semAt_eq _ _ _ (hdef _ hev)]
        obtain ⟨E', W', V, h1, h2, h3, h4⟩ := evOp_sound k hev ht hR
        rw [h1]
        exact hK E' W' V h2 h3 h4
      | skip =>
        cases e
        refine ⟨hn', fun top E W A rb n next Q k ht hR hK => ⟨fun _ _ => FF_fn _ _, ?_⟩⟩
        rw [Oper.semAt_eq _ _ _ (hdef _ hev)]
        obtain ⟨E', W', h1, h2, h3⟩ := evOp_sound k hev ht hR
        rw [h1]
        exact hK E' W' undef h2 h3 VR.undef
      | enter f args =>
        simp only [rOp2, Option.map_eq_some_iff, Prod.mk.injEq] at e
        obtain ⟨oo, hr, rfl, rfl⟩ := e
        have hm := hS.next hr
        refine ⟨Nat.le_trans hn' hm, fun top E W A rb n next Q k ht hR hK => ⟨fun _ _ => FF_fn _ _, ?_⟩⟩
        rw [Oper.semAt_eq _ _ _ (hdef _ hev)]
        obtain ⟨rfl, L, h1, h2⟩ := evOp_sound k hev (Nat.le_trans hm ht) hR
        obtain ⟨hent, hc⟩ := hS.call hr k ht h2
        have hc := hc (n - 1)
        rw [h1, hent]
        refine ⟨fun hd => (by rw [FF_depth] at hd; cases hd), (callsIn_FF rb hc).mono ?_⟩
        rintro e' W' ⟨V, E', rfl, g1, g2, g3⟩
        exact hK E' W' V g1 g2 g3
      | round l args =>
        simp only [rOp2, Option.map_eq_some_iff, Prod.mk.injEq] at e
        obtain ⟨oo, hr, rfl, rfl⟩ := e
        have hm := hS.next hr
        refine ⟨Nat.le_trans hn' hm, fun top E W A rb n next Q k ht hR hK => ⟨fun _ _ => FF_fn _ _, ?_⟩⟩
        rw [Oper.semAt_eq _ _ _ (hdef _ hev)]
        obtain ⟨rfl, L, b, c, hE, h1, h2⟩ := evOp_sound k hev (Nat.le_trans hm ht) hR
        obtain ⟨fn, tmps, assign, body, hy, hc⟩ := hS.round hr k ht hE h2 (n - 1)
        rw [h1, hy]
        refine ⟨fun hd => (by rw [FF_depth] at hd; cases hd), (roundIn_FF rb hc).mono ?_⟩
        rintro e' W' ⟨V, E', rfl, g1, g2, g3⟩
        exact hK E' W' V g1 g2 g3
    · cases e
  · cases e

theorem PC.trans {top : Nat} {E E1 : Env} {h h1 : Heap} {W W1 : World} {o : Out} (k : HR top E h W) (k1 : HR top E1 h1 W1) (ht : h1.next ≤ top) (x : Ext E E1 h h1 W W1) {e A' W'} (p : PC top E1 h1 W1 o e A' W') : PC top E h W o e A' W' := by
  obtain ⟨rfl, E', g1, g2, g3⟩ := p
  exact ⟨rfl, E', x.trans k k1 ht g1, g2, g3⟩
theorem PC.here {top : Nat} {E : Env} {h : Heap} {W : World} {a : AAct} {A : Act} (k : HR top E h W) (ha : AR E a A) (ex : Ex) (v : AV) : PC top E h W ⟨ex, v, a, h⟩ ex.conc A W := ⟨rfl, E, Ext.refl _ _ _, k, ha⟩

theorem chk_eq {h : Heap} {x : Option Out} {o : Out} (e : chk h x = some o) : x = some o ∧ h.next ≤ o.h.next := by
  unfold chk at e
  split at e
  · split at e
    · rename_i hn; cases e; exact ⟨rfl, by simpa using hn⟩
    · cases e
  · cases e

theorem wanted_eq {E : Env} {ops : Array Oper} {a : AAct} {A : Act} (k : TR E a.tmps a.size A.tmps) (o : Oper) : Region.wanted o (yielded ops A.tmps) = wantedA ops a o := by
  unfold Region.wanted wantedA
  cases hg : o.guard with
  | none => rfl
  | some p =>
    obtain ⟨j, want⟩ := p
    simp only
    unfold yielded yieldedA
    cases hd : (ops[j]?).bind (·.dst) with
    | none => simp
    | some t =>
      simp only [Option.bind_some]
      have h1 := k.2 t
      by_cases ht : t < a.size
      · have hb : Nat.blt t a.size = true := by simpa [Nat.blt_eq] using ht
        have hlt : t < A.tmps.size := by rw [k.1]; exact ht
        rw [hb]
        have hget : A.tmps[t]? = some (A.tmps.getD t undef) := by simp [Array.getD, hlt]
        rw [hget]
        show ((match some (A.tmps.getD t undef) with | some (.bool b) => some b | _ => none) == some want) = _
        unfold AAct.at
        generalize (a.tmps.get t).getD aundef = v at h1 ⊢
        generalize A.tmps.getD t undef = V at h1 ⊢
        cases v <;> simp only [VR] at h1 <;> first
          | (subst h1; simp; done)
          | (obtain ⟨_, _, _, rfl⟩ := h1; simp; done)
          | (obtain ⟨_, _, _, _, _, rfl⟩ := h1; simp; done)
          | (obtain ⟨_, _, _, rfl, _⟩ := h1; simp; done)
          | (obtain ⟨_, rfl, _⟩ := h1; simp; done)
          | skip
      · have hb : Nat.blt t a.size = false := by
          cases hh : Nat.blt t a.size
          · rfl
          · exact absurd (by simpa [Nat.blt_eq] using hh) ht
        rw [hb]
        have hget : A.tmps[t]? = none := Array.getElem?_eq_none (by rw [k.1]; exact Nat.le_of_not_lt ht)
        rw [hget]
        simp

theorem ops_step {r : Runs} (hS : SoundA P r) {ops : Array Oper} {l : List Oper} {a : AAct} {h : Heap} {o : Out} (e : rOps P r ops a h l = some o) {i : Nat} (hl : l = ops.toList.drop i) {top : Nat} {E : Env} {W : World} {A : Act} {rb : Option Nat} (k : HR top E h W) (ht : o.h.next ≤ top) (ha : AR E a A) (n : Nat) :
    wpOpsIn (FF rb) n P ops (PC top E h W o) ((List.range ops.size).drop i) A W := by
  unfold rOps at e
  split at e
  · cases e
    have hi : ops.size ≤ i := by
      have := congrArg List.length hl
      simp at this
      omega
    rw [List.drop_eq_nil_of_le (by simpa using hi)]
    exact PC.here k ha .normal aundef
  · rename_i q l'
    have hi : i < ops.size := by
      rcases Nat.lt_or_ge i ops.size with h | h
      · exact h
      · rw [List.drop_eq_nil_of_le (by simpa using h)] at hl; cases hl
    rw [List.drop_eq_getElem_cons (by simpa using hi)] at hl
    injection hl with hq hl'
    have hop : ops[i]? = some q := by rw [Array.getElem?_eq_getElem hi, hq]; simp
    rw [List.drop_eq_getElem_cons (by simpa using hi)]
    simp only [List.getElem_range]
    unfold rPut at e
    split at e
    · rename_i v g heq
      split at e
      · rename_i a' hput
        have hm := hS.next e
        rw [wpOpsIn, hop]
        simp only [wanted_eq ha.tm]
        split at heq
        · rename_i hw
          rw [if_pos hw]
          obtain ⟨h1, h2⟩ := rOp_ok hS heq
          refine h2 top E W A rb n _ _ k (Nat.le_trans hm ht) (ha.opR _) fun E' W' V x k' hv => ?_
          have h3 := hS.ops e hl' k' ht ((ha.mono x.le).put hput hv) (rb := rb) n
          exact wpOpsIn_post h3 fun e A' W2 p => PC.trans k k' (Nat.le_trans hm ht) x p
        · rename_i hw
          cases heq
          rw [if_neg hw]
          exact ⟨fun _ _ => FF_fn _ _, hS.ops e hl' k ht (ha.put hput VR.undef) (rb := rb) n⟩
      · cases e
    · cases e

/-! code -/
theorem TR.init {E : Env} : ∀ {l : List AV} {L : List Value} (i : Nat), VRs E l L → ∀ q, VR E (((initT l i).get q).getD aundef) (if q < i then undef else L.getD (q - i) undef)
  | [], L, i, h, q => by
    simp only [VRs] at h; subst h
    simp only [initT, T.get, Option.getD_none, List.getD_nil]
    split <;> exact VR.undef
  | v :: l, L, i, h, q => by
    simp only [VRs] at h
    obtain ⟨V, L, rfl, h1, h2⟩ := h
    simp only [initT, T.get_set]
    by_cases e : q = i
    · subst e; simpa using h1
    · rw [if_neg e]
      have := TR.init (i + 1) h2 q
      by_cases hlt : q < i
      · rw [if_pos hlt]; rw [if_pos (by omega)] at this; exact this
      · rw [if_neg hlt]; rw [if_neg (by omega)] at this
        rw [show q - i = (q - (i + 1)) + 1 from by omega]
        simpa using this

theorem shut_run {fn : Func} {R : Ending → World → Prop} {tmps : Array Value} : ∀ {ds : List Nat} {h g : Heap} {D : List Deferred} {top : Nat} {E : Env} {W : World}, shutAll h ds = some g → HR top E h W → h.next ≤ top → DR E ds D →
    (∀ W', Ext E E h g W W' → HR top E g W' → ∃ v, (results fn tmps).run P W' = .ok v W' ∧ R (.returned v) W') → ∀ n, LeavesInM Fence.wide n P fn tmps R D .returning W
  | [], h, g, D, top, E, W, hs, k, ht, hd, hK, n => by
    simp only [shutAll] at hs; cases hs
    simp only [DR] at hd; subst hd
    exact hK W (Ext.refl _ _ _) k
  | d :: ds, h, g, D, top, E, W, hs, k, ht, hd, hK, n => by
    obtain ⟨b, c, D', hE, rfl, hd'⟩ := hd
    simp only [shutAll] at hs
    split at hs
    · rename_i hg
      split at hs
      · rename_i h' hset
        obtain ⟨b', c', O, e1, e2, e3⟩ := k.obj d _ hg
        rw [hE] at e1
        cases e1
        simp only [OR, if_true] at e3
        subst e3
        have hlt : b < W.heap.size := (Array.getElem?_eq_some_iff.1 e2).1
        obtain ⟨k', x⟩ := k.set hset hE (W.putObj b (.deferred none)) (.deferred none) (World.putObj_heap_same hlt) rfl (fun q hq => World.putObj_heap_other hq) (by simp) rfl rfl rfl
        have hnx : h'.next = h.next := by obtain ⟨_, _, rfl⟩ := Heap.set_eq hset; rfl
        refine ⟨by simp, .inl ⟨b, _, rfl, run_takeDeferred e2, ?_⟩⟩
        refine shut_run hs k' (by omega) hd' (fun W' x' k2 => hK W' (x.trans k k' (by omega) x') k2) n
      · cases hs
    · cases hs

def resOne (A : Act) : ResultVar → Sem Value
  | .tmp t => pure (A.tmps.getD t undef)
  | .cell q t => do loadVar t (← asAddr (A.tmps.getD q undef))
theorem results_run {top : Nat} {E : Env} {h : Heap} {W : World} {a : AAct} {A : Act} (k : HR top E h W) (ha : AR E a A) : ∀ {rs : List ResultVar} {l : List AV}, resultsA P h a rs = some l →
    ∃ L, (rs.mapM (resOne A)).run P W = .ok L W ∧ VRs E l L
  | [], l, hr => by simp only [resultsA] at hr; cases hr; exact ⟨[], by simp, VRs.nil⟩
  | .tmp t :: rs, l, hr => by
    simp only [resultsA] at hr
    split at hr
    · rename_i vs hvs
      cases hr
      obtain ⟨L, h1, h2⟩ := results_run k ha hvs
      exact ⟨A.tmps.getD t undef :: L, by simp only [List.mapM_cons, resOne, Sem.run_bind, Sem.run_pure, Result.andThen_ok, h1], VRs.cons (ha.tm.2 t) h2⟩
    · cases hr
  | .cell q t :: rs, l, hr => by
    simp only [resultsA] at hr
    split at hr
    · rename_i i off hq
      split at hr
      · rename_i v vs hv hvs
        cases hr
        obtain ⟨L, h1, h2⟩ := results_run k ha hvs
        have h3 := ha.tm.2 q
        unfold AAct.at at hq
        rw [hq] at h3
        simp only [VR] at h3
        obtain ⟨b, c, hE, h3⟩ := h3
        obtain ⟨V, h4, h5⟩ := k.loadV (P := P) hv hE
        exact ⟨V :: L, by simp only [List.mapM_cons, resOne, Sem.run_bind, Sem.run_pure, Result.andThen_ok, h3, asAddr, h4, h1], VRs.cons h5 h2⟩
      · cases hr
    · cases hr
theorem oneOf_run {E : Env} {l : List AV} {L : List Value} (h : VRs E l L) : VR E (oneOf l) (if h : L.toArray.size = 1 then L.toArray[0] else .tuple L.toArray) := by
  cases l with
  | nil => simp only [VRs] at h; subst h; simp only [oneOf, VR]; exact ⟨[], rfl, VRs.nil⟩
  | cons v l =>
    have h0 := h
    simp only [VRs] at h
    obtain ⟨V, L, rfl, h1, h2⟩ := h
    cases l with
    | nil => simp only [VRs] at h2; subst h2; simpa [oneOf] using h1
    | cons u l =>
      have hl := h2.len
      have : ¬ ((V :: L).toArray.size = 1) := by simp; intro e; subst e; simp at hl
      rw [dif_neg this]
      simp only [oneOf, VR]
      exact ⟨_, rfl, h0⟩

theorem call_step {r : Runs} (hS : SoundA P r) {f : Nat} {args : List AV} {h : Heap} {o : Out} (e : rCall P r f args h = some o) {top : Nat} {E : Env} {W : World} {Args : List Value} (k : HR top E h W) (ht : o.h.next ≤ top) (hv : VRs E args Args) :
    (∀ args w, (callFunc f args).run P w = .ok (.enter f args) w) ∧ ∀ n, CallsIn Fence.wide n P f Args.toArray W (PV top E h W o) := by
  unfold rCall at e
  split at e
  · rename_i fn hen
    split at e
    · rename_i c hb
      refine ⟨fun args w => (enter_run hen args w).1, fun n => ?_⟩
      refine callsIn_of_wp_marks (enter_run hen #[] W).2 hb trivial ?_ rfl
      unfold rEnd at e
      split at e
      · cases e
      · rename_i ex v a h1 hne hrun
        split at e
        · rename_i h2 hsh
          split at e
          · rename_i l hres
            cases e
            have hlen := hv.len
            have hx2 : h1.next ≤ h2.next := by
              have : ∀ {ds : List Nat} {h g : Heap}, shutAll h ds = some g → g.next = h.next := by
                intro ds
                induction ds with
                | nil => intro h g hs; simp only [shutAll] at hs; cases hs; rfl
                | cons d ds ih =>
                  intro h g hs
                  simp only [shutAll] at hs
                  split at hs
                  · split at hs
                    · rename_i h' hset
                      have := ih hs
                      obtain ⟨_, _, rfl⟩ := Heap.set_eq hset
                      exact this
                    · cases hs
                  · cases hs
              exact Nat.le_of_eq (this hsh).symm
            have hA : AR E ⟨initT args 0, if Nat.ble args.length fn.ntmps then fn.ntmps else args.length, []⟩ { tmps := Args.toArray ++ Array.replicate (fn.ntmps - Args.toArray.size) undef, defers := [] } := by
              refine ⟨⟨?_, fun i => ?_⟩, rfl⟩
              · simp only [Array.size_append, List.size_toArray, Array.size_replicate, hlen]
                split
                · rename_i hh; have := Nat.le_of_ble_eq_true hh; omega
                · rename_i hh; have : ¬ args.length ≤ fn.ntmps := fun h => hh (Nat.ble_eq_true_of_le h); omega
              · have := TR.init 0 hv i
                simp only [Nat.not_lt_zero, if_false, Nat.sub_zero] at this
                suffices e2 : (Args.toArray ++ Array.replicate (fn.ntmps - Args.toArray.size) undef).getD i undef = Args.getD i undef by
                  show VR E _ ((Args.toArray ++ Array.replicate (fn.ntmps - Args.toArray.size) undef).getD i undef)
                  rw [e2]; exact this
                simp only [Array.getD_eq_getD_getElem?, List.getD_eq_getElem?_getD]
                by_cases hi : i < Args.length
                · rw [Array.getElem?_append_left (by simpa using hi)]; simp
                · rw [List.getElem?_eq_none (by omega), Array.getElem?_append_right (by simpa using hi)]
                  simp only [Option.getD_none, Array.getElem?_replicate]
                  split <;> rfl
            have hc := hS.code hrun k (Nat.le_trans hx2 ht) hA (show RR E none none from trivial) n
            refine wpIn_mono hc ?_
            rintro e' A' W' ⟨rfl, E', x, k', ha'⟩
            have hfin : LeavesInM Fence.wide n P fn A'.tmps (PV top E h W ⟨.normal, oneOf l, a, h2⟩) A'.defers .returning W' := by
              refine shut_run hsh k' (Nat.le_trans hx2 ht) ha'.de (fun W2 x2 k2 => ?_) n
              obtain ⟨L, r1, r2⟩ := results_run (P := P) k2 ha' hres
              refine ⟨_, ?_, _, E', rfl, x.trans k k' (Nat.le_trans hx2 ht) x2, k2, oneOf_run r2⟩
              unfold results
              have hf : ∀ f : ResultVar → Sem Value, (∀ r, f r = resOne A' r) → ((do let vs ← fn.results.mapM f; pure (if h : vs.size = 1 then vs[0] else .tuple vs)) : Sem Value).run P W2 = .ok (if h : L.toArray.size = 1 then L.toArray[0] else .tuple L.toArray) W2 := by
                intro f hf
                rw [funext hf]
                simp only [Array.mapM_eq_mapM_toList, Sem.run_bind, Sem.run_map, r1, Result.andThen_ok, Sem.run_pure]
              exact hf _ (fun r => by cases r <;> rfl)
            cases ex with
            | normal => exact hfin
            | ret => exact hfin
            | exit id => exact (hne id rfl).elim
          · cases e
        · cases e
      · cases e
    · cases e
  · cases e

theorem setAll_run {E : Env} {size : Nat} : ∀ {ps : List Nat} {vs : List AV} {Vs : List Value} {t : T AV} {A : Array Value}, TR E t size A → VRs E vs Vs → TR E (setAll t size ps vs) size ((ps.zip Vs).foldl (fun tmps p => tmps.setIfInBounds p.1 p.2) A)
  | [], vs, Vs, t, A, k, h => by cases vs <;> simpa [setAll] using k
  | p :: ps, [], Vs, t, A, k, h => by simp only [VRs] at h; subst h; simpa [setAll] using k
  | p :: ps, v :: vs, Vs, t, A, k, h => by
    simp only [VRs] at h
    obtain ⟨V, L, rfl, h1, h2⟩ := h
    simp only [setAll, List.zip_cons_cons, List.foldl_cons]
    refine setAll_run ?_ h2
    by_cases hp : p < size
    · have : Nat.blt p size = true := by simpa [Nat.blt_eq] using hp
      rw [if_pos this]
      exact k.set hp h1
    · have : ¬ (Nat.blt p size = true) := by simpa [Nat.blt_eq] using hp
      rw [if_neg this]
      rw [Array.setIfInBounds_eq_of_size_le (by rw [k.1]; omega)]
      exact k

theorem HR.loopAt {top : Nat} {E : Env} {h : Heap} {W : World} (k : HR top E h W) {l : Nat} {q : ALoop} (hg : h.get l = some (.loop q)) {b : Nat} {c : Nat × Nat} (hE : E l = some (b, c)) : ∃ R, W.heap[b]? = some (.loop R) ∧ LR E q R := by
  obtain ⟨b', c', O, e1, e2, R, e3, rfl⟩ := k.obj l _ hg
  rw [hE] at e1
  cases e1
  exact ⟨R, e2, e3⟩
/-- a loop's record that is written over -/
theorem HR.setLoop {top : Nat} {E : Env} {h g : Heap} {W : World} (k : HR top E h W) {l : Nat} {q : ALoop} (hs : h.set l (.loop q) = some g) {b : Nat} {c : Nat × Nat} (hE : E l = some (b, c)) {R0 R : Loop} (hW : W.heap[b]? = some (.loop R0)) (hR : LR E q R) :
    HR top E g (W.putObj b (.loop R)) ∧ Ext E E h g W (W.putObj b (.loop R)) ∧ g.next = h.next := by
  have hlt : b < W.heap.size := (Array.getElem?_eq_some_iff.1 hW).1
  obtain ⟨h1, h2⟩ := k.set hs hE (W.putObj b (.loop R)) (.loop R) (World.putObj_heap_same hlt) ⟨R, hR, rfl⟩ (fun q hq => World.putObj_heap_other hq) (by simp) rfl rfl rfl
  exact ⟨h1, h2, by obtain ⟨_, _, rfl⟩ := Heap.set_eq hs; rfl⟩

theorem round_step {r : Runs} (hS : SoundA P r) {l : Nat} {args : List AV} {h : Heap} {o : Out} (e : rRound r l args h = some o) {top : Nat} {E : Env} {W : World} {Args : List Value} {b : Nat} {c : Nat × Nat} (k : HR top E h W) (ht : o.h.next ≤ top) (hE : E l = some (b, c)) (hv : VRs E args Args) (n : Nat) :
    ∃ fn tmps assign body, (Instr.yield b Args.toArray).run P W = .ok (.round b fn tmps assign body) W ∧ RoundIn Fence.wide n P b fn tmps assign body W (PV top E h W o) := by
  unfold rRound at e
  split at e
  · rename_i q hg
    split at e
    · rename_i hc
      obtain ⟨R, hW, hR⟩ := k.loopAt hg hE
      have hlen := hv.len
      have hy := run_yield (P := P) (args := Args.toArray) hW (by simp only [List.size_toArray]; rw [hlen, hc.1, hR.params])
      refine ⟨_, _, _, _, hy, ?_⟩
      unfold rBody at e
      split at e
      · rename_i v1 a1 h1 hr1
        split at e
        · rename_i h2 hbusy
          unfold rEndR at e
          split at e
          · rename_i ex v2 a2 h3 hr2
            split at e
            · rename_i h4 hend
              cases e
              -- the numbers
              have n2 := hS.next hr2
              have hbs : ∃ q1, h1.get l = some (.loop q1) ∧ q1.state = .ready ∧ h1.set l (.loop { q1 with state := .busy }) = some h2 := by
                unfold busyA at hbusy
                split at hbusy
                · rename_i q1 hg1
                  split at hbusy
                  · rename_i hst; exact ⟨q1, hg1, hst, hbusy⟩
                  · cases hbusy
                · cases hbusy
              obtain ⟨q1, hg1, hst1, hset1⟩ := hbs
              have hes : ∃ q2, h3.get l = some (.loop q2) ∧ h3.set l (.loop { q2 with state := (if ex.isNormal then .ready else .done), pending := ex.jump }) = some h4 := by
                unfold endA at hend
                split at hend
                · rename_i q2 hg2; exact ⟨q2, hg2, hend⟩
                · cases hend
              obtain ⟨q2, hg2, hset2⟩ := hes
              have m1 : h2.next = h1.next := by obtain ⟨_, _, rfl⟩ := Heap.set_eq hset1; rfl
              have m2 : h4.next = h3.next := by obtain ⟨_, _, rfl⟩ := Heap.set_eq hset2; rfl
              have ht3 : h3.next ≤ top := by rw [← m2]; exact ht
              have ht2 : h2.next ≤ top := Nat.le_trans n2 ht3
              have ht1 : h1.next ≤ top := by rw [← m1]; exact ht2
              refine roundIn_of_wpIn (F := Fence.wide) trivial ?_
              have hA : AR E ⟨setAll q.tmps q.size q.params.toList args, q.size, []⟩ { tmps := (R.params.zip Args.toArray).foldl (fun tmps (t, a) => tmps.setIfInBounds t a) R.tmps, defers := [] } := by
                refine ⟨?_, rfl⟩
                have := setAll_run (ps := q.params.toList) hR.tm hv
                rw [hR.params, ← Array.foldl_toList]
                simpa using this
              have c1 := hS.code hr1 k ht1 hA (rb := some b) (show RR E (some l) (some b) from ⟨c, hE⟩) n
              rw [hR.assign]
              refine wpIn_mono c1 ?_
              rintro e' A' W' ⟨rfl, E', x1, k1, ha1⟩
              have hE1 : E' l = some (b, c) := x1.le _ _ hE
              obtain ⟨R1, hW1, hR1⟩ := k1.loopAt hg1 hE1
              have hb1 := run_beginRound (P := P) hW1 (by rw [hR1.state]; exact hst1)
              obtain ⟨k2, x2, _⟩ := k1.setLoop hset1 hE1 (R := { R1 with state := .busy }) hW1 ⟨rfl, hR1.pending, hR1.tm, hR1.params, hR1.assign, hR1.body, hR1.defers⟩
              refine ⟨_, hb1, ?_⟩
              have c2 := hS.code hr2 k2 ht3 (ha1) (rb := some b) (show RR E' (some l) (some b) from ⟨c, hE1⟩) n
              rw [hR.body]
              refine wpIn_mono c2 ?_
              rintro e2 A2 W2 ⟨rfl, E2, x3, k3, ha2⟩
              have hE2 : E2 l = some (b, c) := x3.le _ _ hE1
              obtain ⟨R2, hW2, hR2⟩ := k3.loopAt hg2 hE2
              have fin : ∀ jump, jump = ex.jump → ∃ v w', (Instr.endRound b jump).run P W2 = .ok v w' ∧ PV top E h W ⟨.normal, .bool ex.isNormal, a2, h4⟩ (.returned v) w' := by
                rintro jump rfl
                have hj : ex.jump.isNone = ex.isNormal := by cases ex <;> rfl
                obtain ⟨k4, x4, _⟩ := k3.setLoop hset2 hE2 (R := { R2 with state := if ex.jump.isNone then .ready else .done, pending := ex.jump }) hW2 ⟨by rw [hj], rfl, hR2.tm, hR2.params, hR2.assign, hR2.body, hR2.defers⟩
                refine ⟨_, _, run_endRound (P := P) ex.jump hW2, _, E2, rfl, ?_, k4, by rw [hj]; simp only [VR]⟩
                have y1 := x1.trans k k1 ht1 x2
                have y2 := y1.trans k k2 ht2 x3
                exact y2.trans k k3 ht3 x4
              cases ex with
              | normal => exact fin none rfl
              | ret => exact fin (some .ret) rfl
              | exit id => exact fin (some (.exit id)) rfl
            · cases e
          · cases e
        · cases e
      · cases e
    · cases e
  · cases e

theorem rounds_post {F : Fence} {n : Nat} {c : Code} {Q Q' : Exit → Act → World → Prop} (hq : ∀ e a w, Q e a w → Q' e a w) : ∀ {m : Nat} {a : Act} {w : World}, Code.roundsIn F n P c Q m a w → Code.roundsIn F n P c Q' m a w
  | 0, _, _, h => h.elim
  | m + 1, a, w, h => by
    rw [roundsIn_succ] at h ⊢
    refine wpIn_mono h fun e a w hh => ?_
    cases e <;> first | exact rounds_post hq hh | exact hq _ _ _ hh

theorem loop_step {r : Runs} (hS : SoundA P r) {rnd : Option Nat} {b : Code} {a : AAct} {h : Heap} {o : Out} (e : (match r (.code rnd b) a h with
    | some ⟨.normal, _, a, h⟩ => r (.code rnd (.loop b)) a h
    | o => o) = some o) : ∃ m, ∀ {top E W A rb}, HR top E h W → o.h.next ≤ top → AR E a A → RR E rnd rb → ∀ n, Code.roundsIn (FF rb) n P b (PC top E h W o) m A W := by
  split at e
  · rename_i v1 a1 h1 hr1
    obtain ⟨m, hm⟩ := hS.loop e
    refine ⟨m + 1, fun {top E W A rb} k ht ha hrr n => ?_⟩
    have n2 := hS.next e
    have c1 := hS.code hr1 k (Nat.le_trans n2 ht) ha hrr n
    rw [roundsIn_succ]
    refine wpIn_mono c1 ?_
    rintro e' A' W' ⟨rfl, E', x1, k1, ha1⟩
    exact rounds_post (fun _ _ _ p => PC.trans k k1 (Nat.le_trans n2 ht) x1 p) (hm k1 ht ha1 (hrr.mono x1.le) n)
  · rename_i hne
    refine ⟨1, fun {top E W A rb} k ht ha hrr n => ?_⟩
    have c1 := hS.code e k ht ha hrr n
    rw [roundsIn_succ]
    refine wpIn_mono c1 ?_
    rintro e' A' W' p
    have hex : o.ex.conc ≠ .normal := by
      obtain ⟨ex, v, a2, h2⟩ := o
      cases ex with
      | normal => exact absurd e (fun hh => hne _ _ _ hh)
      | exit id => simp [Ex.conc]
      | ret => simp [Ex.conc]
    obtain ⟨rfl, rest⟩ := p
    revert hex rest
    generalize hx : o.ex.conc = ec
    intro hex rest
    cases ec <;> first | exact absurd rfl hex | exact ⟨hx.symm, rest⟩

theorem range_step {r : Runs} (hS : SoundA P r) {rnd : Option Nat} {f : Operand} {ps : Array Tmp} {assign body : Code} {a : AAct} {h : Heap} {o : Out} (e : rRange r rnd f ps assign body a h = some o) {top : Nat} {E : Env} {W : World} {A : Act} {rb : Option Nat} (k : HR top E h W) (ht : o.h.next ≤ top) (ha : AR E a A) (hrr : RR E rnd rb) (n : Nat) :
    (Code.rangeFunc f ps assign body).wpIn (FF rb) n P (PC top E h W o) A W := by
  unfold rRange at e
  split at e
  · rename_i g fs cs d mark h1 hf hen
    split at e
    · rename_i o1 hcall
      have n1 := hS.next hcall
      -- leaving
      have hlv : ∃ pend h2, leaveA o1.h h1.next = some (pend, h2) ∧ rLeave r rnd { a with defers := mark ++ a.defers } (some (pend, h2)) = some o := by
        cases hl : leaveA o1.h h1.next with
        | none => rw [hl] at e; simp [rLeave] at e
        | some p => rw [hl] at e; exact ⟨p.1, p.2, rfl, e⟩
      obtain ⟨pend, h2, hleave, hrl⟩ := hlv
      have hq : ∃ q, o1.h.get h1.next = some (.loop q) ∧ q.state ≠ .busy ∧ o1.h.set h1.next (.loop { q with state := .exhausted }) = some h2 ∧ pend = q.pending := by
        unfold leaveA at hleave
        split at hleave
        · rename_i q hg
          split at hleave
          · cases hleave
          · rename_i hb
            simp only [Option.map_eq_some_iff, Prod.mk.injEq] at hleave
            obtain ⟨h3, h4, rfl, rfl⟩ := hleave
            exact ⟨q, hg, hb, h4, rfl⟩
        · cases hleave
      obtain ⟨q, hgq, hqb, hqs, hpq⟩ := hq
      have m2 : h2.next = o1.h.next := by obtain ⟨_, _, rfl⟩ := Heap.set_eq hqs; rfl
      have ht2 : h2.next ≤ top := by
        unfold rLeave at hrl
        split at hrl
        · rename_i h3 heq; cases heq; cases hrl; exact ht
        · rename_i c h3 heq; cases heq; exact Nat.le_trans (hS.next hrl) ht
        · rename_i heq; cases heq
      have ht1 : o1.h.next ≤ top := by rw [← m2]; exact ht2
      have htn : (h1.new (.loop ⟨.ready, none, a.tmps, a.size, ps, assign, body, d⟩)).2.next ≤ top := Nat.le_trans n1 ht1
      refine wpIn_rangeFunc fun fn _ => ?_
      rw [FF_round]
      -- entering
      have hent : ∃ E1 W1 md db, HR top E1 h1 W1 ∧ Ext E E1 h h1 W W1 ∧ h1.next ≤ top ∧ DR E1 mark md ∧ (∃ c, E1 d = some (db, c)) ∧
          (Instr.enterLoop fn A.tmps ps assign body rb).run P W = .ok (W1.heap.size, md) (W1.alloc (.loop { state := .ready, pending := none, fn, tmps := A.tmps, params := ps, assign, body, defers := db })) := by
        cases rnd with
        | none =>
          cases rb with
          | some _ => exact hrr.elim
          | none =>
            simp only [enterA] at hen
            cases hen
            have hx1 : h.next + 1 ≤ top := by
              have : (h.new (.deferred true)).2.next = h.next + 1 := rfl
              have h5 : (h.new (.deferred true)).2.next + 1 ≤ top := htn
              omega
            obtain ⟨g1, g2, g3⟩ := k.new hx1 (.deferred true) (.deferred (some [])) (0, 0) rfl
            refine ⟨_, _, [{ target := .collected W.heap.size, args := #[] }], W.heap.size, g1, g2, hx1, ⟨W.heap.size, (0, 0), [], g3, rfl, rfl⟩, ⟨(0, 0), g3⟩, ?_⟩
            rw [run_enterLoop_outer]
            simp
        | some l0 =>
          cases rb with
          | none => exact hrr.elim
          | some b0 =>
            obtain ⟨c0, hE0⟩ := hrr
            simp only [enterA] at hen
            split at hen
            · rename_i q0 hg0
              cases hen
              obtain ⟨R0, hW0, hR0⟩ := k.loopAt hg0 hE0
              obtain ⟨cd, hcd⟩ := hR0.defers
              have h5 : h.next + 1 ≤ top := htn
              refine ⟨E, W, [], R0.defers, k, Ext.refl _ _ _, by omega, rfl, ⟨cd, hcd⟩, ?_⟩
              rw [run_enterLoop_inner hW0]
            · cases hen
      obtain ⟨E1, W1, md, db, k1, x1, ht1', hmd, ⟨cd, hd⟩, hrun⟩ := hent
      have hle1 := Env.put_le (x := (W1.heap.size, (0, 0))) (k1.lt h1.next (Nat.le_refl _) (show h1.next < top from htn))
      obtain ⟨k2, x2, e2⟩ := k1.new htn (.loop ⟨.ready, none, a.tmps, a.size, ps, assign, body, d⟩) (.loop { state := .ready, pending := none, fn, tmps := A.tmps, params := ps, assign, body, defers := db }) (0, 0)
        ⟨_, ⟨rfl, rfl, (ha.tm.mono x1.le).mono hle1, rfl, rfl, rfl, ⟨cd, hle1 _ _ hd⟩⟩, rfl⟩
      have hvf := ha.eval hf
      simp only [VR] at hvf
      obtain ⟨fnv, As, Cs, hfv, h3, h4, rfl⟩ := hvf
      have hargs : VRs (E1.put h1.next (W1.heap.size, (0, 0))) (fs ++ [.fn (.yield h1.next) [] []] ++ cs) (As ++ [.func (.yield W1.heap.size) #[] #[]] ++ Cs) := by
        refine (((h3.mono x1.le).mono hle1).append (VRs.cons ?_ VRs.nil)).append ((h4.mono x1.le).mono hle1)
        simp only [VR]
        exact ⟨.yield W1.heap.size, [], [], rfl, VRs.nil, VRs.nil, W1.heap.size, (0, 0), e2, rfl⟩
      obtain ⟨hcf, hci⟩ := hS.call hcall k2 ht1 hargs
      refine ⟨W1.heap.size, md, (W1.alloc (.loop { state := .ready, pending := none, fn, tmps := A.tmps, params := ps, assign, body, defers := db })), { target := .fn (.func g) Cs.toArray, args := As.toArray ++ #[Value.func (.yield W1.heap.size) #[] #[]] }, (W1.alloc (.loop { state := .ready, pending := none, fn, tmps := A.tmps, params := ps, assign, body, defers := db })), g, (As ++ [Value.func (.yield W1.heap.size) #[] #[]] ++ Cs).toArray, (W1.alloc (.loop { state := .ready, pending := none, fn, tmps := A.tmps, params := ps, assign, body, defers := db })), hrun, ?_, fun f' _ => FF_fn _ _, ?_, fun hd => (by rw [FF_depth] at hd; cases hd), ?_⟩
      · simp only [resolve, hfv, Deferred.ofValue]
        simp [Act.eval]
      · have e3 : (As.toArray ++ #[.func (.yield W1.heap.size) #[] #[]]) ++ Cs.toArray = (As ++ [Value.func (.yield W1.heap.size) #[] #[]] ++ Cs).toArray := by apply Array.ext'; simp
        simp only [invoke, e3]
        exact hcf _ _
      · refine (callsIn_FF rb (hci (n - 1))).mono ?_
        rintro e' W3 ⟨V, E3, rfl, x3, k3, hV⟩
        have hE3 : E3 h1.next = some (W1.heap.size, (0, 0)) := x3.le _ _ e2
        obtain ⟨R3, hW3, hR3⟩ := k3.loopAt hgq hE3
        have y1 := x1.trans k k1 ht1' x2
        have y2 := y1.trans k k2 htn x3
        obtain ⟨k4, x4, _⟩ := k3.setLoop hqs hE3 (R := { R3 with state := .exhausted }) hW3 ⟨rfl, hR3.pending, hR3.tm, hR3.params, hR3.assign, hR3.body, hR3.defers⟩
        have y3 := y2.trans k k3 ht1 x4
        refine ⟨_, _, run_endLoop (P := P) hW3 (by rw [hR3.state]; exact hqb), ?_⟩
        have ha4 : AR E3 { a with defers := mark ++ a.defers } { A with defers := md ++ A.defers } := ⟨((ha.tm.mono x1.le).mono hle1).mono x3.le, DR.app ((hmd.mono hle1).mono x3.le) (((ha.de.mono x1.le).mono hle1).mono x3.le)⟩
        have hpe : R3.pending = pend := hR3.pending.trans hpq.symm
        obtain ⟨W4, hW4⟩ : ∃ W4, W4 = W3.putObj W1.heap.size (.loop { R3 with state := .exhausted }) := ⟨_, rfl⟩
        rw [← hW4] at k4 y3 ⊢
        rw [hpe]
        clear hW4 x4
        cases pend with
        | none =>
          simp only [rLeave] at hrl
          cases hrl
          exact ⟨rfl, E3, y3, k4, ha4⟩
        | some c =>
          simp only [rLeave] at hrl
          have hE34 : E.le E3 := E.le_trans x1.le (Env.le_trans hle1 x3.le)
          exact wpIn_mono (hS.code hrl k4 ht ha4 (hrr.mono hE34) n) fun _ _ _ p => PC.trans k k4 ht2 y3 p
    · cases e
  · cases e
end Go.Proofs.YtkebbdpfjhhdhaaGreat.Ev

/- What the calculator does to its own memory, whatever the model's is. -/
namespace Go.Proofs.YtkebbdpfjhhdhaaGreat.Ev
variable {P : Program}

structure Abs (h g : Heap) : Prop where
  nx : h.next ≤ g.next
  lo : g.lo = h.lo
  hid : g.hid = h.hid
  keep : ∀ i, i < h.next → i < h.lo ∨ h.hidden i = true → g.t.get i = h.t.get i
  dead : ∀ i, i < h.next → (g.t.get i).isSome → (h.t.get i).isSome
  clean : (∀ i, h.next ≤ i → h.t.get i = none) → ∀ i, g.next ≤ i → g.t.get i = none
theorem Abs.refl (h : Heap) : Abs h h := ⟨Nat.le_refl _, rfl, rfl, fun _ _ _ => rfl, fun _ _ k => k, fun k => k⟩
theorem Abs.trans {h g f : Heap} (k : Abs h g) (k' : Abs g f) : Abs h f := by
  refine ⟨Nat.le_trans k.nx k'.nx, k'.lo.trans k.lo, k'.hid.trans k.hid, fun i hi hx => ?_, fun i hi hs => k.dead i hi (k'.dead i (Nat.lt_of_lt_of_le hi k.nx) hs), fun c => k'.clean (k.clean c)⟩
  rw [k'.keep i (Nat.lt_of_lt_of_le hi k.nx) (by rw [k.lo, Heap.hidden_eq k.hid]; exact hx), k.keep i hi hx]
theorem Abs.new (h : Heap) (o : AObj) : Abs h (h.new o).2 := by
  refine ⟨Nat.le_succ _, rfl, rfl, fun i hi _ => ?_, fun i hi hs => ?_, fun c i hi => ?_⟩
  · show (h.t.set h.next o).get i = _
    rw [T.get_set, if_neg (by omega)]
  · have : ((h.t.set h.next o).get i).isSome := hs
    rwa [T.get_set, if_neg (by omega)] at this
  · have hi' : h.next + 1 ≤ i := hi
    show (h.t.set h.next o).get i = none
    rw [T.get_set, if_neg (by omega)]
    exact c i (by omega)
theorem Abs.set {h g : Heap} {i : Nat} {o : AObj} (e : h.set i o = some g) : Abs h g ∧ ∀ q, q ≠ i → g.t.get q = h.t.get q := by
  obtain ⟨hl, hs, rfl⟩ := Heap.set_eq e
  have hv := Heap.get_some hs
  have ht : (h.t.get i).isSome := by rw [← hv.2]; exact hs
  refine ⟨⟨Nat.le_refl _, rfl, rfl, fun q hq hx => ?_, fun q hq hh => ?_, fun c q hq => ?_⟩, fun q hq => ?_⟩
  · show (h.t.set i o).get q = _
    rw [T.get_set, if_neg]
    rintro rfl
    rcases hx with hx | hx
    · omega
    · rw [hv.1] at hx; cases hx
  · by_cases e : q = i
    · subst e; exact ht
    · have : ((h.t.set i o).get q).isSome := hh
      rwa [T.get_set, if_neg e] at this
  · show (h.t.set i o).get q = none
    rw [T.get_set, if_neg]
    · exact c q hq
    · rintro rfl
      rw [c q hq] at ht; cases ht
  · show (h.t.set i o).get q = _
    rw [T.get_set, if_neg hq]
theorem Abs.take {h g : Heap} {i n : Nat} {o : AObj} (e : h.take i o = some (n, g)) : Abs h g := by
  unfold Heap.take at e
  split at e
  · rename_i hl
    split at e
    · rename_i oo hg
      cases e
      have hl' : h.lo ≤ i := by simpa using hl
      have hs : (h.get i).isSome := by rw [hg]; rfl
      have hv := Heap.get_some hs
      have ht : (h.t.get i).isSome := by rw [← hv.2]; exact hs
      refine ⟨Nat.le_succ _, rfl, rfl, fun q hq hx => ?_, fun q hq hh => ?_, fun c q hq => ?_⟩
      · show ((h.t.del i).set h.next o).get q = _
        rw [T.get_set, if_neg (by omega), T.get_del, if_neg]
        rintro rfl
        rcases hx with hx | hx
        · omega
        · rw [hv.1] at hx; cases hx
      · have : (((h.t.del i).set h.next o).get q).isSome := hh
        rw [T.get_set, if_neg (by omega), T.get_del] at this
        split at this
        · cases this
        · exact this
      · have hq' : h.next + 1 ≤ q := hq
        show ((h.t.del i).set h.next o).get q = none
        rw [T.get_set, if_neg (by omega), T.get_del]
        split
        · rfl
        · exact c q (by omega)
    · cases e
  · cases e

theorem Abs.store {h g : Heap} {i off : Nat} {xs : List AV} (e : h.storeN i off xs = some g) : Abs h g ∧ ∀ q, q ≠ i → g.t.get q = h.t.get q := by
  unfold Heap.storeN at e
  simp only [Option.bind_eq_bind, Option.bind_eq_some_iff] at e
  obtain ⟨r, _, n, _, e⟩ := e
  unfold Heap.setRow at e
  split at e
  · exact Abs.set e
  · exact Abs.set e
  · cases e
theorem plainV_heap {r : Option AV} {h g : Heap} {x : ANext} (e : plainV r h = some (x, g)) : g = h := by
  unfold plainV at e
  simp only [Option.map_eq_some_iff, Prod.mk.injEq] at e
  obtain ⟨_, _, _, rfl⟩ := e
  rfl
theorem newV_heap {h g : Heap} {o : AObj} {f : Nat → AV} {x : ANext} (e : newV h o f = some (x, g)) : Abs h g := by
  unfold newV at e
  cases e
  exact Abs.new h o
theorem onto_abs {h g : Heap} {e : TypeId} {sz n : Nat} {s v : AV} {new : List AV} (ev : evOnto h e sz s n new = some (v, g)) : Abs h g := by
  have hgrow : ∀ {n l}, evGrow h e sz n l = some (v, g) → Abs h g := fun hh => by
    unfold evGrow at hh
    cases hh
    exact Abs.new h _
  unfold evOnto at ev
  split at ev
  · split at ev
    · cases ev; exact Abs.refl h
    · exact hgrow ev
  · split at ev
    · simp only [Option.map_eq_some_iff] at ev
      obtain ⟨g', hg, e2⟩ := ev
      cases e2
      exact (Abs.store hg).1
    · split at ev
      · split at ev
        · exact hgrow ev
        · cases ev
      · cases ev
  · split at ev
    · simp only [Option.map_eq_some_iff] at ev
      obtain ⟨g', hg, e2⟩ := ev
      cases e2
      exact (Abs.store hg).1
    · split at ev
      · split at ev
        · split at ev
          · simp only [Option.map_eq_some_iff] at ev
            obtain ⟨⟨m, g'⟩, htk, e2⟩ := ev
            cases e2
            exact Abs.take htk
          · cases ev
        · cases ev
      · split at ev
        · split at ev
          · split at ev
            · simp only [Option.map_eq_some_iff] at ev
              obtain ⟨⟨m, g'⟩, htk, e2⟩ := ev
              cases e2
              exact Abs.take htk
            · cases ev
          · cases ev
        · cases ev
  · split at ev
    · cases ev; exact Abs.refl h
    · split at ev
      · split at ev
        · split at ev
          · simp only [Option.map_eq_some_iff] at ev
            obtain ⟨⟨m, g'⟩, htk, e2⟩ := ev
            cases e2
            exact Abs.take htk
          · cases ev
        · cases ev
      · cases ev
  · cases ev
theorem evOp_abs {h g : Heap} {a : AAct} {o : Oper} {x : ANext} (e : evOp P h a.eval o = some (x, g)) : Abs h g := by
  obtain ⟨dst, op, type, pos, after, guard⟩ := o
  have hp : ∀ {r : Option AV}, plainV r h = some (x, g) → Abs h g := fun hh => by rw [plainV_heap hh]; exact Abs.refl h
  cases op <;> simp only [evOp] at e <;> first | (cases e; done) | skip
  case move => exact hp e
  case assign => exact hp e
  case pick => simp only [oPick] at e; split at e <;> first | exact hp e | cases e
  case alloc => simp only [oAlloc] at e; split at e <;> first | exact newV_heap e | cases e
  case box => simp only [oBox] at e; split at e <;> first | exact newV_heap e | cases e
  case build => simp only [oBuild] at e; split at e <;> first | exact hp e | cases e
  case buildSlice =>
    simp only [oBuildSlice] at e
    split at e
    · split at e <;> first | exact newV_heap e | cases e
    · cases e
  case load => simp only [oLoad] at e; split at e <;> first | exact hp e | cases e
  case store =>
    simp only [oStore] at e
    split at e
    · simp only [Option.map_eq_some_iff] at e
      obtain ⟨g', hs, e2⟩ := e
      cases e2
      unfold evStore at hs
      split at hs
      · split at hs
        · exact (Abs.store hs).1
        · cases hs
      · cases hs
    · cases e
  case nilCheck => simp only [oNilCheck] at e; split at e <;> first | (cases e; exact Abs.refl _) | cases e
  case binOp => simp only [oBin] at e; split at e <;> first | exact hp e | cases e
  case unOp => simp only [oUn] at e; split at e <;> first | exact hp e | cases e
  case convert => simp only [oConv] at e; split at e <;> first | exact hp e | cases e
  case makeFunc fn _ _ =>
    cases fn <;> simp only at e <;> first | (cases e; done) | skip
    simp only [oMakeFunc] at e
    split at e <;> first | (cases e; exact Abs.refl _) | cases e
  case makeMap =>
    simp only [oMakeMap] at e
    split at e
    · exact newV_heap e
    · split at e <;> first | exact newV_heap e | cases e
    · cases e
  case makeSlice =>
    simp only [oMakeSlice] at e
    split at e
    · split at e
      · split at e <;> first | exact newV_heap e | cases e
      · cases e
    · cases e
  case slice => simp only [oSlice] at e; split at e <;> first | exact hp e | cases e
  case fieldAddr => simp only [oFieldAddr] at e; split at e <;> first | exact hp e | cases e
  case field => simp only [oField] at e; split at e <;> first | exact hp e | cases e
  case indexAddr => simp only [oIndexAddr] at e; split at e <;> first | exact hp e | cases e
  case index => simp only [oIndex] at e; split at e <;> first | exact hp e | cases e
  case lookup => simp only [oLookup] at e; split at e <;> first | exact hp e | cases e
  case extract => simp only [oExtract] at e; split at e <;> first | exact hp e | cases e
  case range =>
    simp only [oRange] at e
    split at e
    · split at e <;> first | exact newV_heap e | cases e
    · cases e
  case next x s =>
    cases s <;> simp only at e <;> first | (cases e; done) | skip
    unfold oNext at e
    repeat' (split at e)
    all_goals first | (cases e; done) | (cases e; exact Abs.refl _) | (simp only [Option.map_eq_some_iff] at e; obtain ⟨g', hs, e2⟩ := e; cases e2; exact (Abs.set hs).1)
  case entry =>
    unfold oEntry at e
    repeat' (split at e)
    all_goals first | (cases e; done) | (cases e; exact Abs.refl _)
  case mapUpdate | insert =>
    simp only [oUpdate] at e
    split at e
    · simp only [Option.map_eq_some_iff] at e
      obtain ⟨g', hs, e2⟩ := e
      cases e2
      unfold evUpdate at hs
      split at hs
      · split at hs
        · split at hs
          · split at hs
            · exact (Abs.set hs).1
            · exact (Abs.set hs).1
            · cases hs
          · cases hs
        · cases hs
      · cases hs
    · cases e
  case call c =>
    simp only [oCall] at e
    split at e
    · rename_i b hb
      split at e
      · rename_i l hl
        simp only [Option.map_eq_some_iff] at e
        obtain ⟨⟨v, g'⟩, hbi, e2⟩ := e
        cases e2
        cases b <;> simp only [evBuiltin] at hbi <;> first | (cases hbi; done) | skip
        case append =>
          unfold evAppend at hbi
          repeat' (split at hbi)
          all_goals first | (cases hbi; done) | exact onto_abs hbi
        case copy =>
          split at hbi
          · split at hbi
            · split at hbi
              · split at hbi
                · simp only [Option.map_eq_some_iff] at hbi
                  obtain ⟨g2, hg2, e2⟩ := hbi
                  cases e2
                  exact (Abs.store hg2).1
                · cases hbi
              · cases hbi
            · cases hbi
          · cases hbi
        case clear =>
          split at hbi
          · split at hbi
            · cases hbi
            · split at hbi
              · split at hbi
                · simp only [Option.map_eq_some_iff] at hbi
                  obtain ⟨g2, hg2, e2⟩ := hbi
                  cases e2
                  exact (Abs.store hg2).1
                · cases hbi
              · cases hbi
          · cases hbi
        all_goals (split at hbi <;> first | (simp only [Option.map_eq_some_iff] at hbi; obtain ⟨_, _, e2⟩ := hbi; cases e2; exact Abs.refl _) | (cases hbi; done))
      · cases e
    · split at e <;> first | (cases e; exact Abs.refl _) | cases e
    · cases e

/-- an append leaves alone all blocks but the one it appends to -/
theorem onto_keep {h g : Heap} {e : TypeId} {sz n : Nat} {s v : AV} {new : List AV} (ev : evOnto h e sz s n new = some (v, g)) {j : Nat} (hb : blkS (some s) = some j) : ∀ q, q < h.next → q + 1 ≠ j → g.t.get q = h.t.get q := by
  intro q hq hne
  have hgrow : ∀ {n l}, evGrow h e sz n l = some (v, g) → g.t.get q = h.t.get q := fun hh => by
    unfold evGrow at hh
    cases hh
    show (h.t.set h.next _).get q = _
    rw [T.get_set, if_neg (by omega)]
  unfold evOnto at ev
  split at ev
  · split at ev
    · cases ev; rfl
    · exact hgrow ev
  · rename_i i off len c
    have hb' : i + 1 = j := by simpa [blkS] using hb
    split at ev
    · simp only [Option.map_eq_some_iff] at ev
      obtain ⟨g', hg, e2⟩ := ev
      cases e2
      exact (Abs.store hg).2 q (by omega)
    · split at ev
      · split at ev
        · exact hgrow ev
        · cases ev
      · cases ev
  · rename_i i off len d
    have hb' : i + 1 = j := by simpa [blkS] using hb
    split at ev
    · simp only [Option.map_eq_some_iff] at ev
      obtain ⟨g', hg, e2⟩ := ev
      cases e2
      exact (Abs.store hg).2 q (by omega)
    · split at ev
      · split at ev
        · split at ev
          · simp only [Option.map_eq_some_iff] at ev
            obtain ⟨⟨m, g'⟩, htk, e2⟩ := ev
            cases e2
            unfold Heap.take at htk
            split at htk
            · split at htk
              · cases htk
                show ((h.t.del i).set h.next _).get q = _
                rw [T.get_set, if_neg (by omega), T.get_del, if_neg (by omega)]
              · cases htk
            · cases htk
          · cases ev
        · cases ev
      · split at ev
        · split at ev
          · split at ev
            · simp only [Option.map_eq_some_iff] at ev
              obtain ⟨⟨m, g'⟩, htk, e2⟩ := ev
              cases e2
              unfold Heap.take at htk
              split at htk
              · split at htk
                · cases htk
                  show ((h.t.del i).set h.next _).get q = _
                  rw [T.get_set, if_neg (by omega), T.get_del, if_neg (by omega)]
                · cases htk
              · cases htk
            · cases ev
          · cases ev
        · cases ev
  · rename_i i off d
    have hb' : i + 1 = j := by simpa [blkS] using hb
    split at ev
    · cases ev; rfl
    · split at ev
      · split at ev
        · split at ev
          · simp only [Option.map_eq_some_iff] at ev
            obtain ⟨⟨m, g'⟩, htk, e2⟩ := ev
            cases e2
            unfold Heap.take at htk
            split at htk
            · split at htk
              · cases htk
                show ((h.t.del i).set h.next _).get q = _
                rw [T.get_set, if_neg (by omega), T.get_del, if_neg (by omega)]
              · cases htk
            · cases htk
          · cases ev
        · cases ev
      · cases ev
  · cases ev
theorem mapO_head {a : Operand → Option AV} {y : Operand} {l : List Operand} {s : AV} {xs : List AV} (h : mapO a (y :: l) = some (s :: xs)) : a y = some s := by
  unfold mapO at h
  split at h
  · rename_i v vs h1 _
    cases h
    exact h1
  · cases h
/-- a plain store, and an append, leave the other blocks alone -/
theorem evOp_blk {h g : Heap} {a : AAct} {o : Oper} {x : ANext} (e : evOp P h a.eval o = some (x, g)) {j : Nat} (hb : blkOf a.eval o.op = some j) : ((∃ v, x = .value v) ∨ x = .skip) ∧ ∀ q, q < h.next → q + 1 ≠ j → g.t.get q = h.t.get q := by
  obtain ⟨dst, op, type, pos, after, guard⟩ := o
  cases op <;> simp only [blkOf] at hb <;> first | (cases hb; done) | skip
  case load t y =>
    simp only [evOp, oLoad] at e
    split at e
    · rw [plainV_heap e]
      unfold plainV at e
      simp only [Option.map_eq_some_iff, Prod.mk.injEq] at e
      obtain ⟨v, _, e2, _⟩ := e
      exact ⟨.inl ⟨v, e2.symm⟩, fun _ _ _ => rfl⟩
    · cases e
  case slice t y lo hi mx =>
    simp only [evOp, oSlice] at e
    split at e
    · rw [plainV_heap e]
      unfold plainV at e
      simp only [Option.map_eq_some_iff, Prod.mk.injEq] at e
      obtain ⟨v, _, e2, _⟩ := e
      exact ⟨.inl ⟨v, e2.symm⟩, fun _ _ _ => rfl⟩
    · cases e
  case store t y z =>
    simp only [evOp, oStore] at e
    split at e
    · rename_i i off v hy hz
      rw [hy] at hb
      have hj : i + 1 = j := by simpa using hb
      simp only [Option.map_eq_some_iff] at e
      obtain ⟨g', hs, e2⟩ := e
      cases e2
      refine ⟨.inr rfl, fun q _ hq => ?_⟩
      unfold evStore at hs
      split at hs
      · split at hs
        · exact (Abs.store hs).2 q (by omega)
        · cases hs
      · cases hs
    · cases e
  case call c =>
    obtain ⟨cal, args, tys⟩ := c
    unfold blkC at hb
    split at hb
    · rename_i y l h1 h2
      simp only at h1 h2
      subst h1
      simp only [evOp, oCall] at e
      split at e
      · rename_i xs hxs
        simp only [Option.map_eq_some_iff] at e
        obtain ⟨⟨v, g'⟩, hbi, e2⟩ := e
        cases e2
        refine ⟨.inl ⟨v, rfl⟩, ?_⟩
        simp only [evBuiltin] at hbi
        rw [h2] at hxs
        unfold evAppend at hbi
        split at hbi
        · rename_i s' x' t tx _ _
          have hy := mapO_head hxs
          rw [hy] at hb
          repeat' (split at hbi)
          all_goals first | (cases hbi; done) | exact onto_keep hbi hb
        · cases hbi
      · cases e
    · rename_i y l h1 h2
      simp only at h1 h2
      subst h1
      simp only [evOp, oCall] at e
      split at e
      · rename_i xs hxs
        simp only [Option.map_eq_some_iff] at e
        obtain ⟨⟨v, g'⟩, hbi, e2⟩ := e
        cases e2
        refine ⟨.inl ⟨v, rfl⟩, ?_⟩
        simp only [evBuiltin] at hbi
        split at hbi
        · simp only [Option.map_eq_some_iff] at hbi
          obtain ⟨u, _, e3⟩ := hbi
          cases e3
          exact fun _ _ _ => rfl
        · cases hbi
      · cases e
    · cases hb

/-! the whole calculator -/
def AbsR (r : Runs) : Prop := ∀ {j a h o}, r j a h = some o → Abs h o.h
theorem rOp_abs {r : Runs} (hr : AbsR r) {h g : Heap} {a : AAct} {o : Oper} {v : AV} (e : rOp P r h a o = some (v, g)) : Abs h g := by
  unfold rOp at e
  split at e
  · rename_i xg hev
    split at e
    · obtain ⟨x, g'⟩ := xg
      have h1 := evOp_abs hev
      cases x with
      | value v' => cases e; exact h1
      | skip => cases e; exact h1
      | enter f args => simp only [rOp2, Option.map_eq_some_iff, Prod.mk.injEq] at e; obtain ⟨oo, hh, rfl, rfl⟩ := e; exact h1.trans (hr hh)
      | round l args => simp only [rOp2, Option.map_eq_some_iff, Prod.mk.injEq] at e; obtain ⟨oo, hh, rfl, rfl⟩ := e; exact h1.trans (hr hh)
    · cases e
  · cases e
theorem shut_abs : ∀ {ds : List Nat} {h g : Heap}, shutAll h ds = some g → Abs h g
  | [], h, g, e => by simp only [shutAll] at e; cases e; exact Abs.refl _
  | d :: ds, h, g, e => by
    simp only [shutAll] at e
    split at e
    · split at e
      · rename_i h' hs; exact (Abs.set hs).1.trans (shut_abs e)
      · cases e
    · cases e
/-- the memory that an operation of a drawn region is done in -/
def evHeap (ty m : Nat) (recs : List Rec) (h : Heap) : Heap :=
  if ty = 1 then { h with lo := h.next, hid := hideOf m recs recs.length ++ h.hid } else if ty = 3 then { h with hid := hideOf m recs recs.length ++ h.hid } else if ty = 4 then { h with lo := h.next, hid := [(0, h.next)] } else h
theorem evHeap_next (ty m : Nat) (recs : List Rec) (h : Heap) : (evHeap ty m recs h).next = h.next := by
  unfold evHeap
  split
  · rfl
  · split
    · rfl
    · split <;> rfl
theorem evHeap_t (ty m : Nat) (recs : List Rec) (h : Heap) : (evHeap ty m recs h).t = h.t := by
  unfold evHeap
  split
  · rfl
  · split
    · rfl
    · split <;> rfl
theorem abs_back {ty m : Nat} {recs : List Rec} {h g : Heap} (k : Abs (evHeap ty m recs h) g) : Abs h { g with lo := h.lo, hid := h.hid } := by
  have e1 := evHeap_next ty m recs h
  have e2 := evHeap_t ty m recs h
  refine ⟨by rw [← e1]; exact k.nx, rfl, rfl, fun i hi hx => ?_, fun i hi hs => ?_, fun c => k.clean (by rw [e1, e2]; exact c)⟩
  · rw [← e2]
    refine k.keep i (by rw [e1]; exact hi) ?_
    unfold evHeap
    split
    · exact .inl hi
    · split
      · rcases hx with hx | hx
        · exact .inl hx
        · refine .inr ?_
          unfold Heap.hidden at hx ⊢
          simp only [List.any_append, Bool.or_eq_true]
          exact .inr hx
      · split
        · exact .inl hi
        · exact hx
  · have := k.dead i (by rw [e1]; exact hi) hs
    rwa [e2] at this
theorem stepR_abs {r : Runs} (hr : AbsR r) : AbsR (stepR P r) := by
  intro j a h o e
  unfold stepR chk at e
  split at e <;> try (cases e; done)
  rename_i o' heq
  split at e <;> try (cases e; done)
  cases e
  cases j with
  | code rnd c =>
    simp only at heq
    unfold rCode at heq
    split at heq
    · cases heq; exact Abs.refl _
    · cases heq; exact Abs.refl _
    · exact hr heq
    · split at heq
      · exact hr heq
      · cases heq
    · unfold rSeq at heq
      split at heq
      · rename_i h1; exact (hr h1).trans (hr heq)
      · exact hr heq
    · unfold rCond at heq
      split at heq
      · exact hr heq
      · cases heq
    · unfold rBlock at heq
      split at heq
      · rename_i h1
        have h2 := hr h1
        split at heq <;> (cases heq; exact h2)
      · exact hr heq
    · split at heq
      · rename_i h1; exact (hr h1).trans (hr heq)
      · exact hr heq
    · unfold rRange at heq
      split at heq
      · rename_i g fs cs d mark h1 hf hen
        have e1 : Abs h h1 := by
          cases rnd with
          | none => simp only [enterA] at hen; cases hen; exact Abs.new _ _
          | some l =>
            simp only [enterA] at hen
            split at hen
            · cases hen; exact Abs.refl _
            · cases hen
        split at heq
        · rename_i o1 hc
          have e2 := (e1.trans (Abs.new h1 _)).trans (hr hc)
          unfold rLeave at heq
          split at heq
          · rename_i h2 hl
            cases heq
            unfold leaveA at hl
            split at hl
            · split at hl
              · cases hl
              · simp only [Option.map_eq_some_iff, Prod.mk.injEq] at hl
                obtain ⟨h3, h4, _, rfl⟩ := hl
                exact e2.trans (Abs.set h4).1
            · cases hl
          · rename_i c h2 hl
            unfold leaveA at hl
            split at hl
            · split at hl
              · cases hl
              · simp only [Option.map_eq_some_iff, Prod.mk.injEq] at hl
                obtain ⟨h3, h4, _, rfl⟩ := hl
                exact (e2.trans (Abs.set h4).1).trans (hr heq)
            · cases hl
          · cases heq
        · cases heq
      · cases heq
    · cases heq; exact Abs.refl _
    · cases heq; exact Abs.refl _
    · exact hr heq
    · cases heq
  | ops ops l =>
    simp only at heq
    unfold rOps at heq
    split at heq
    · cases heq; exact Abs.refl _
    · unfold rPut at heq
      split at heq
      · rename_i v g hh
        split at heq
        · split at hh
          · exact (rOp_abs hr hh).trans (hr heq)
          · cases hh; exact hr heq
        · cases heq
      · cases heq
  | drawn ops masks kinds l recs =>
    simp only at heq
    unfold rDrawn at heq
    split at heq
    · cases heq; exact Abs.refl _
    · split at heq
      · unfold rDrawnAt at heq
        split at heq
        · rename_i v g hh
          split at heq
          · unfold rPut at heq
            simp only at heq
            split at heq
            · have h1 : Abs (evHeap _ _ _ _) g := rOp_abs hr hh
              exact Abs.trans (g := { g with lo := h.lo, hid := h.hid }) (abs_back h1) (hr heq)
            · cases heq
          · cases heq
        · cases heq
      · unfold rPut at heq
        simp only at heq
        split at heq
        · exact hr heq
        · cases heq
  | call f args =>
    simp only at heq
    unfold rCall at heq
    split at heq
    · split at heq
      · unfold rEnd at heq
        split at heq
        · cases heq
        · rename_i h1
          split at heq
          · rename_i h2 hs
            split at heq
            · cases heq; exact (hr h1).trans (shut_abs hs)
            · cases heq
          · cases heq
        · cases heq
      · cases heq
    · cases heq
  | round l args =>
    simp only at heq
    unfold rRound at heq
    split at heq
    · split at heq
      · unfold rBody at heq
        split at heq
        · rename_i v1 a1 hh1 h1
          split at heq
          · rename_i h2 hb
            unfold rEndR at heq
            split at heq
            · rename_i ex v2 a2 hh3 h3
              split at heq
              · rename_i h4 he
                cases heq
                have e1 : Abs hh1 h2 := by
                  unfold busyA at hb
                  split at hb
                  · split at hb
                    · exact (Abs.set hb).1
                    · cases hb
                  · cases hb
                have e2 : Abs hh3 h4 := by
                  unfold endA at he
                  split at he
                  · exact (Abs.set he).1
                  · cases he
                exact (((hr h1).trans e1).trans (hr h3)).trans e2
              · cases heq
            · cases heq
          · cases heq
        · cases heq
      · cases heq
    · cases heq
end Go.Proofs.YtkebbdpfjhhdhaaGreat.Ev

/- A region that draws its order: what its operations are, one by one. -/
namespace Go.Proofs.YtkebbdpfjhhdhaaGreat.Ev
variable {P : Program}

/-! lists of records -/
def recsAt (rc : Nat → Rec) (recs : List Rec) : Nat → List Rec
  | 0 => recs
  | i + 1 => rc i :: recsAt rc recs i
theorem recsAt_len (rc : Nat → Rec) (recs : List Rec) : ∀ i, (recsAt rc recs i).length = i + recs.length
  | 0 => by simp [recsAt]
  | i + 1 => by simp [recsAt, recsAt_len rc recs i]; omega
theorem recsAt_shift (r0 : Rec) (rc : Nat → Rec) (recs : List Rec) : ∀ i, recsAt (fun k => match k with | 0 => r0 | k + 1 => rc k) recs (i + 1) = recsAt rc (r0 :: recs) i
  | 0 => rfl
  | i + 1 => by
    have := recsAt_shift r0 rc recs i
    show rc i :: recsAt _ recs (i + 1) = rc i :: recsAt rc (r0 :: recs) i
    rw [this]
theorem freeAll_iff (rc : Nat → Rec) (m : Nat) (r : Rec) : ∀ i, freeAll m r (recsAt rc [] i) i = true ↔ ∀ k, k < i → m.testBit k = true ∨ free (rc k) r = true
  | 0 => by simp [recsAt, freeAll]
  | i + 1 => by
    simp only [recsAt, freeAll, Nat.add_sub_cancel, Bool.and_eq_true, Bool.or_eq_true, freeAll_iff rc m r i]
    constructor
    · rintro ⟨h1, h2⟩ k hk
      rcases Nat.lt_succ_iff_lt_or_eq.1 hk with h | h
      · exact h2 k h
      · subst h; exact h1
    · intro h
      exact ⟨h i (Nat.lt_succ_self i), fun k hk => h k (by omega)⟩
def inR (id : Nat) (r : Nat × Nat) : Bool := Nat.ble r.1 id && Nat.blt id r.2
theorem inR_iff {id : Nat} {r : Nat × Nat} : inR id r = true ↔ r.1 ≤ id ∧ id < r.2 := by simp [inR, Nat.blt_eq]
theorem hideOf_iff (rc : Nat → Rec) (m id : Nat) : ∀ i, (hideOf m (recsAt rc [] i) i).any (inR id) = true ↔ ∃ k, k < i ∧ m.testBit k = false ∧ (rc k).n0 ≤ id ∧ id < (rc k).n1
  | 0 => by simp [recsAt, hideOf]
  | i + 1 => by
    simp only [recsAt, hideOf, Nat.add_sub_cancel]
    have ih := hideOf_iff rc m id i
    split
    · rename_i hc
      rw [ih]
      constructor
      · rintro ⟨k, h1, h2⟩; exact ⟨k, by omega, h2⟩
      · rintro ⟨k, h1, h2, h3, h4⟩
        rcases Nat.lt_succ_iff_lt_or_eq.1 h1 with h | h
        · exact ⟨k, h, h2, h3, h4⟩
        · subst h
          rw [h2] at hc
          simp at hc
          omega
    · rename_i hc
      simp only [List.any_cons, Bool.or_eq_true, inR_iff, ih]
      simp only [Bool.or_eq_true, not_or, Bool.not_eq_true] at hc
      constructor
      · rintro (h | ⟨k, h1, h2⟩)
        · exact ⟨i, Nat.lt_succ_self i, hc.1, h⟩
        · exact ⟨k, by omega, h2⟩
      · rintro ⟨k, h1, h2, h3, h4⟩
        rcases Nat.lt_succ_iff_lt_or_eq.1 h1 with h | h
        · exact .inr ⟨k, h, h2, h3, h4⟩
        · subst h; exact .inl ⟨h3, h4⟩
theorem hidden_any (h : Heap) (id : Nat) : h.hidden id = h.hid.any (inR id) := rfl

/-! what one operation of such a region is -/
/-- it touches no memory -/
def OkPure (P : Program) (a : AAct) (o : Oper) (v : AV) : Prop :=
  ∀ (E : Env) (W : World) (A : Act) (rb : Option Nat) (n : Nat) (next : Act → World → Prop) (Q : Exit → Act → World → Prop), OpR E a A o.op.operands.toList → (∀ V, VR E v V → next (A.put o.dst V) W) → o.wpIn (FF rb) n P A W next Q
/-- it looks at one block, or at none -/
def OkLoad (P : Program) (h : Heap) (a : AAct) (o : Oper) (v : AV) : Prop :=
  OkPure P a o v ∨ ∃ i obj, blkOf a.eval o.op = some (i + 1) ∧ h.get i = some obj ∧ ∀ (E : Env) (W : World) (A : Act) (rb : Option Nat) (n : Nat) (next : Act → World → Prop) (Q : Exit → Act → World → Prop), OpR E a A o.op.operands.toList →
    (∃ b c O, E i = some (b, c) ∧ W.heap[b]? = some O ∧ OR E i obj O) → (∀ V, VR E v V → next (A.put o.dst V) W) → o.wpIn (FF rb) n P A W next Q

theorem evOp_pure0 {h g : Heap} {a : AAct} {o : Oper} {x : ANext} (hk : kindOf o.op = 0) (e : evOp P h a.eval o = some (x, g)) : g = h ∧ ∃ u, x = .value u := by
  have hp : ∀ {r : Option AV}, plainV r h = some (x, g) → g = h ∧ ∃ u, x = .value u := fun hh => by
    obtain ⟨v, _, rfl, rfl⟩ := plainV_eq hh
    exact ⟨rfl, v, rfl⟩
  obtain ⟨dst, op, type, pos, after, guard⟩ := o
  cases op <;> first | (simp [kindOf] at hk; done) | skip
  case move => exact hp e
  case assign => exact hp e
  case pick => simp only [evOp, oPick] at e; split at e <;> first | exact hp e | cases e
  case build => simp only [evOp, oBuild] at e; split at e <;> first | exact hp e | cases e
  case nilCheck => simp only [evOp, oNilCheck] at e; split at e <;> first | (cases e; exact ⟨rfl, _, rfl⟩) | cases e
  case binOp => simp only [evOp, oBin] at e; split at e <;> first | exact hp e | cases e
  case unOp => simp only [evOp, oUn] at e; split at e <;> first | exact hp e | cases e
  case convert => simp only [evOp, oConv] at e; split at e <;> first | exact hp e | cases e
  case makeFunc fn _ _ =>
    cases fn <;> simp only [evOp] at e <;> first | (cases e; done) | skip
    simp only [oMakeFunc] at e
    split at e <;> first | (cases e; exact ⟨rfl, _, rfl⟩) | cases e
  case fieldAddr => simp only [evOp, oFieldAddr] at e; split at e <;> first | exact hp e | cases e
  case field => simp only [evOp, oField] at e; split at e <;> first | exact hp e | cases e
  case indexAddr => simp only [evOp, oIndexAddr] at e; split at e <;> first | exact hp e | cases e
  case index => simp only [evOp, oIndex] at e; split at e <;> first | exact hp e | cases e
  case extract => simp only [evOp, oExtract] at e; split at e <;> first | exact hp e | cases e
  case call c =>
    obtain ⟨callee, args, ts⟩ := c
    cases callee <;> try (simp [kindOf] at hk; done)
    rename_i b
    cases b <;> simp only [kindOf] at hk <;> first | (cases hk; done) | skip
    all_goals
      simp only [evOp, oCall, evBuiltin] at e
      split at e
      · split at e
        · simp only [Option.map_eq_some_iff] at e
          obtain ⟨r, ⟨v, hv, rfl⟩, e⟩ := e
          cases e
          exact ⟨rfl, _, rfl⟩
        · simp at e
      · cases e

theorem rOp_pure {r : Runs} {h g : Heap} {a : AAct} {o : Oper} {v : AV} (hk : kindOf o.op = 0) (e : rOp P r h a o = some (v, g)) : g = h ∧ OkPure P a o v := by
  unfold rOp at e
  split at e
  · rename_i xg hev
    obtain ⟨x, g'⟩ := xg
    have hdef : ∀ c, o.op ≠ .defer c := fun c hc => by
      unfold evOp at hev
      rw [hc] at hev
      cases hev
    split at e
    · obtain ⟨rfl, u, rfl⟩ := evOp_pure0 hk hev
      cases e
      refine ⟨rfl, fun E W A rb n next Q hR hK => ⟨fun _ _ => FF_fn _ _, ?_⟩⟩
      rw [Oper.semAt_eq _ _ _ hdef]
      obtain ⟨_, u', hu, hw⟩ := evOp_pure hk hev hR
      cases hu
      obtain ⟨V, h1, h2⟩ := hw W
      rw [h1]
      exact hK V h2
    · cases e
  · cases e

/-- a memory of one block alone -/
def oneH (i : Nat) (obj : AObj) : Heap := ⟨T.nil.set i obj, i + 1, 0, []⟩
theorem oneH_self (i : Nat) (obj : AObj) : (oneH i obj).get i = some obj := by
  unfold oneH Heap.get Heap.hidden
  simp [T.get_set]
theorem HR.block {E : Env} {W : World} {i b : Nat} {c : Nat × Nat} {O : Obj} {obj : AObj} (hE : E i = some (b, c)) (hW : W.heap[b]? = some O) (hO : OR E i obj O) : HR (i + 1) E (oneH i obj) W := by
  have hone : ∀ q o', (oneH i obj).get q = some o' → q = i ∧ o' = obj := fun q o' hq => by
    unfold oneH Heap.get Heap.hidden at hq
    simp only [List.any_nil, Bool.false_eq_true, if_false, T.get_set] at hq
    split at hq
    · rename_i e; cases hq; exact ⟨e, rfl⟩
    · simp [T.get] at hq
  refine ⟨fun q o' hq => ?_, fun q q' _ _ _ hq hq' _ _ => ?_, fun q h1 h2 => ?_, fun r hr => (by cases hr), fun q hq => ?_⟩
  · obtain ⟨rfl, rfl⟩ := hone q o' hq
    exact ⟨b, c, O, hE, hW, hO⟩
  · obtain ⟨o1, h1⟩ := Option.isSome_iff_exists.1 hq
    obtain ⟨o2, h2⟩ := Option.isSome_iff_exists.1 hq'
    rw [(hone q o1 h1).1, (hone q' o2 h2).1]
  · have h1' : i + 1 ≤ q := h1
    omega
  · have hq' : i + 1 ≤ q := hq
    show (T.nil.set i obj).get q = none
    rw [T.get_set, if_neg (by omega)]
    rfl
def noH : Heap := ⟨T.nil, 0, 0, []⟩
theorem noH_get (i : Nat) : noH.get i = none := by
  unfold noH Heap.get Heap.hidden
  simp [T.get]
theorem HR.none0 (E : Env) (W : World) : HR 0 E noH W :=
  ⟨fun q o hq => (by rw [noH_get] at hq; cases hq), fun q q' _ _ _ hq => (by rw [noH_get] at hq; cases hq), fun q _ h2 => absurd h2 (Nat.not_lt_zero _), fun r hr => (by cases hr), fun q _ => rfl⟩
/-- a slice looks at memory only for how much a row holds -/
theorem evSlice_loc {h h' : Heap} {t : TypeId} {x : AV} {lo hi mx : Option AV} (hk : ∀ i off len d s, x = .slice i off len (.m d) → knownN h i s = knownN h' i s) : evSlice P h t x lo hi mx = evSlice P h' t x lo hi mx := by
  unfold evSlice
  by_cases c : (mx.isSome && hi.isNone) = true
  · rw [if_pos c, if_pos c]
  rw [if_neg c, if_neg c]
  cases x with
  | slice i off len cap =>
    cases cap with
    | k n =>
      cases P.underlying t with
      | none => rfl
      | some d => cases d <;> rfl
    | m d =>
      have e : ∀ s, knownN h i s = knownN h' i s := fun s => hk i off len d s rfl
      cases P.underlying t with
      | none => rfl
      | some dd =>
        cases dd with
        | slice el =>
          dsimp only
          simp only [e]
        | _ => rfl
  | _ =>
    cases P.underlying t with
    | none => rfl
    | some d => cases d <;> rfl

theorem lenA_loc {t : TypeId} {h h' : Heap} {x : AV} (hh : ∀ i, x = .map i → h.get i = h'.get i) : lenA P t h x = lenA P t h' x := by
  unfold lenA
  cases P.underlying t with
  | none => rfl
  | some d => cases d <;> cases x <;> first | rfl | (simp only [hh _ rfl])
theorem rOp_load {r : Runs} {h g : Heap} {a : AAct} {o : Oper} {v : AV} (hk : kindOf o.op = 3) (e : rOp P r h a o = some (v, g)) : g = h ∧ OkLoad P h a o v := by
  unfold rOp at e
  split at e
  · rename_i xg hev
    obtain ⟨x, g'⟩ := xg
    have hdef : ∀ c, o.op ≠ .defer c := fun c hc => by
      unfold evOp at hev
      rw [hc] at hev
      cases hev
    split at e
    · obtain ⟨dst, op, type, pos, after, guard⟩ := o
      cases op <;> first
        | (simp [kindOf] at hk; done)
        | (rename_i c; obtain ⟨callee, args, ts⟩ := c; cases callee <;> first | (simp [kindOf] at hk; done) | (rename_i b; cases b <;> simp [kindOf] at hk; done))
        | skip
      case slice t y lo hi mx =>
        simp only [evOp, oSlice] at hev
        split at hev
        · rename_i xv l r m hy hlo hhi hmx
          obtain ⟨u, hu, hx, hgh⟩ := plainV_eq hev
          have hgh' := hgh.symm
          subst hgh'
          subst hx
          cases e
          have run : ∀ (h' : Heap) (top : Nat) (E : Env) (W : World) (A : Act) (rb : Option Nat) (n : Nat) (next : Act → World → Prop) (Q : Exit → Act → World → Prop), HR top E h' W → evSlice P h' t xv l r m = some v → OpR E a A (Op.slice t y lo hi mx).operands.toList → (∀ V, VR E v V → next (A.put dst V) W) → Oper.wpIn (FF rb) n P ⟨dst, .slice t y lo hi mx, type, pos, after, guard⟩ A W next Q := fun h' top E W A rb n next Q k hv hR hK => by
            refine ⟨fun _ _ => FF_fn _ _, ?_⟩
            rw [Oper.semAt_eq _ _ _ hdef]
            have h1 := hR y (by simp [Op.operands]) _ hy
            have h2 := optO_run (A := A) hlo (fun q hq u hu => hR q (by simp [Op.operands]; exact .inr (.inl (by simpa using hq))) u hu)
            have h3 := optO_run (A := A) hhi (fun q hq u hu => hR q (by simp [Op.operands]; exact .inr (.inr (.inl (by simpa using hq)))) u hu)
            have h4 := optO_run (A := A) hmx (fun q hq u hu => hR q (by simp [Op.operands]; exact .inr (.inr (.inr (by simpa using hq)))) u hu)
            obtain ⟨V, q1, q2⟩ := evSlice_run k hv h1 h2 h3 h4
            have hrun : (execOp A.eval { dst := dst, op := .slice t y lo hi mx, type := type, pos := pos, after := after, guard := guard }).run P W = .ok (.value V) W := by
              simp [execOp, q1]
            rw [hrun]
            exact hK V q2
          by_cases hmm : ∃ i off len d, xv = .slice i off len (.m d) ∧ ∃ obj, h.get i = some obj
          · obtain ⟨i, off, len, d, rfl, obj, hobj⟩ := hmm
            refine ⟨rfl, .inr ⟨i, obj, by simp only [blkOf, hy], hobj, fun E W A rb n next Q hR hb hK => ?_⟩⟩
            obtain ⟨b, c, O, hE, hW, hO⟩ := hb
            refine run (oneH i obj) _ E W A rb n next Q (HR.block hE hW hO) ?_ hR hK
            rw [← hu]
            exact evSlice_loc fun i' off' len' d' s e => by
              cases e
              unfold knownN
              rw [oneH_self, hobj]
          · refine ⟨rfl, .inl fun E W A rb n next Q hR hK => run noH _ E W A rb n next Q (HR.none0 E W) ?_ hR hK⟩
            rw [← hu]
            exact evSlice_loc fun i off len d s e => by
              subst e
              have hn : h.get i = none := by
                cases q : h.get i with
                | none => rfl
                | some o => exact absurd ⟨i, off, len, d, rfl, o, q⟩ hmm
              unfold knownN
              rw [noH_get, hn]
        · cases hev
      case load t y =>
        simp only [evOp, oLoad] at hev
        split at hev
        · rename_i i off hy
          obtain ⟨u, hu, hx, hgh⟩ := plainV_eq hev
          have hgh' := hgh.symm
          subst hgh'
          subst hx
          cases e
          have hg : ∃ obj, h.get i = some obj := by
            unfold evLoad at hu
            cases hh : h.get i with
            | some obj => exact ⟨obj, rfl⟩
            | none =>
              split at hu
              · simp [Heap.loadN, hh] at hu
              · simp [Heap.at1, hh] at hu
              · cases hu
          obtain ⟨obj, hobj⟩ := hg
          refine ⟨rfl, .inr ⟨i, obj, by simp only [blkOf, hy], hobj, fun E W A rb n next Q hR hb hK => ⟨fun _ _ => FF_fn _ _, ?_⟩⟩⟩
          rw [Oper.semAt_eq _ _ _ hdef]
          obtain ⟨b, c, O, hE, hW, hO⟩ := hb
          have h1 := hR.one hy
          simp only [VR] at h1
          obtain ⟨b', c', hE', h1⟩ := h1
          rw [hE] at hE'
          cases hE'
          have hl : evLoad P (oneH i obj) t i off = some v := by
            unfold evLoad Heap.loadN Heap.at1 at hu ⊢
            rw [oneH_self, ← hobj]
            exact hu
          obtain ⟨V, h2, h3⟩ := (HR.block hE hW hO).loadV (P := P) hl hE
          have hrun : (execOp A.eval { dst := dst, op := .load t y, type := type, pos := pos, after := after, guard := guard }).run P W = .ok (.value V) W := by
            simp [execOp, h1, Instr.loadAt, Instr.sureAddr, h2]
          rw [hrun]
          exact hK V h3
        · cases hev
      case call c =>
        obtain ⟨callee, args, ts⟩ := c
        cases callee <;> first | (simp [kindOf] at hk; done) | skip
        rename_i bb
        cases bb <;> first | (simp [kindOf] at hk; done) | skip
        simp only [evOp, oCall, evBuiltin] at hev
        split at hev
        · rename_i xs hxs
          simp only [Option.map_eq_some_iff] at hev
          obtain ⟨⟨v', g2⟩, hb, e2⟩ := hev
          cases e2
          split at hb
          · rename_i t x h0
            simp only [Option.map_eq_some_iff] at hb
            obtain ⟨u, hu, e3⟩ := hb
            cases e3
            cases e
            have run : ∀ (vv : AV) (h' : Heap) (top : Nat) (E : Env) (W : World) (A : Act) (rb : Option Nat) (n : Nat) (next : Act → World → Prop) (Q : Exit → Act → World → Prop), HR top E h' W → lenA P t h' x = some vv → OpR E a A (Op.call ⟨.builtin .len, args, ts⟩).operands.toList → (∀ V, VR E vv V → next (A.put dst V) W) → Oper.wpIn (FF rb) n P ⟨dst, .call ⟨.builtin .len, args, ts⟩, type, pos, after, guard⟩ A W next Q := fun vv h' top E W A rb n next Q k hv hR hK => by
              refine ⟨fun _ _ => FF_fn _ _, ?_⟩
              rw [Oper.semAt_eq _ _ _ hdef]
              have hargs : args.map A.eval = (args.toList.map A.eval).toArray := by apply Array.ext'; simp
              have h1 := OpR.list (hR.sub (fun q hq => by simp [Op.operands, Call.operands]; simpa using hq)) hxs
              simp only [VRs] at h1
              obtain ⟨Y, _, h1, hy, rfl⟩ := h1
              obtain ⟨V, r1, r2⟩ := len_op k hv hy h0 type
              have hrun : (execOp A.eval { dst := dst, op := .call ⟨.builtin .len, args, ts⟩, type := type, pos := pos, after := after, guard := guard }).run P W = .ok (.value V) W := by
                rw [h1] at hargs
                simp only [execOp, resolve, Sem.run_bind, Sem.run_pure, Result.andThen_ok, invoke, builtin, hargs, r1]
              rw [hrun]
              exact hK V r2
            by_cases hmm : ∃ i obj, x = .map i ∧ h.get i = some obj
            · obtain ⟨i, obj, rfl, hobj⟩ := hmm
              have hblk : blkOf a.eval (.call ⟨.builtin .len, args, ts⟩) = some (i + 1) := by
                cases hq : args.toList with
                | nil => rw [hq] at hxs; cases hxs
                | cons y l =>
                  rw [hq] at hxs
                  have hy := mapO_head hxs
                  simp only [blkOf, blkC, hq, hy]
              refine ⟨rfl, .inr ⟨i, obj, hblk, hobj, fun E W A rb n next Q hR hb hK => ?_⟩⟩
              obtain ⟨b, c, O, hE, hW, hO⟩ := hb
              refine run _ (oneH i obj) _ E W A rb n next Q (HR.block hE hW hO) ?_ hR hK
              rw [← hu]
              exact lenA_loc fun q e => by cases e; rw [oneH_self, hobj]
            · refine ⟨rfl, .inl fun E W A rb n next Q hR hK => run _ noH _ E W A rb n next Q (HR.none0 E W) ?_ hR hK⟩
              rw [← hu]
              exact lenA_loc fun i hi => by
                subst hi
                have hn : h.get i = none := by
                  cases q : h.get i with
                  | none => rfl
                  | some o => exact absurd ⟨i, o, rfl, q⟩ hmm
                rw [noH_get, hn]
          · cases hb
        · cases hev
    · cases e
  · cases e

/-- one operation of the region, as the calculator has done it -/
structure DAt (P : Program) (ops : Array Oper) (masks kinds : List Nat) (recs : List Rec) (a : AAct) (h : Heap) (o : Oper) (v : AV) (g : Heap) (rc : Rec) : Prop where
  n0 : rc.n0 = h.next
  n1 : rc.n1 = g.next
  how : (wantedA ops a o = false ∧ rc.ty = 0 ∧ v = aundef ∧ g = h) ∨
    (wantedA ops a o = true ∧ rc.ty = kinds.getD recs.length 0 ∧ rc.blk = blkOf a.eval o.op ∧ freeAll (masks.getD recs.length 0) rc recs recs.length = true ∧ Abs (evHeap rc.ty (masks.getD recs.length 0) recs h) g ∧
      OkOp P (evHeap rc.ty (masks.getD recs.length 0) recs h) a o v g ∧ (kindOf o.op = 0 → g = evHeap rc.ty (masks.getD recs.length 0) recs h ∧ OkPure P a o v) ∧ (kindOf o.op = 3 → g = evHeap rc.ty (masks.getD recs.length 0) recs h ∧ OkLoad P (evHeap rc.ty (masks.getD recs.length 0) recs h) a o v) ∧
      (∀ j, blkOf a.eval o.op = some j → ∀ q, q < h.next → q + 1 ≠ j → g.t.get q = h.t.get q))

inductive DTr (P : Program) (ops : Array Oper) (masks kinds : List Nat) : List Oper → List Rec → AAct → Heap → AAct → Heap → Prop
  | nil (recs : List Rec) (a : AAct) (h : Heap) : DTr P ops masks kinds [] recs a h a h
  | cons {o : Oper} {l : List Oper} {recs : List Rec} {a : AAct} {h : Heap} {v : AV} {g : Heap} {rc : Rec} {a' a2 : AAct} {h2 : Heap} (hd : DAt P ops masks kinds recs a h o v g rc) (hp : a.put o.dst v = some a')
      (ht : DTr P ops masks kinds l (rc :: recs) a' { g with lo := h.lo, hid := h.hid } a2 h2) : DTr P ops masks kinds (o :: l) recs a h a2 h2

theorem rOp_blk {r : Runs} {h g : Heap} {a : AAct} {o : Oper} {v : AV} (e : rOp P r h a o = some (v, g)) {j : Nat} (hb : blkOf a.eval o.op = some j) : ∀ q, q < h.next → q + 1 ≠ j → g.t.get q = h.t.get q := by
  unfold rOp at e
  split at e
  · rename_i xg hev
    obtain ⟨x, g'⟩ := xg
    obtain ⟨h0, h1⟩ := evOp_blk hev hb
    split at e
    · rcases h0 with ⟨u, rfl⟩ | rfl
      · cases e; exact h1
      · cases e; exact h1
    · cases e
  · cases e

/-- the calculator's way through the region -/
theorem drawn_step {r : Runs} (hS : SoundA P r) (hA : AbsR r) (hT : ∀ {ops masks kinds l recs a h o}, r (.drawn ops masks kinds l recs) a h = some o → o.ex = .normal ∧ DTr P ops masks kinds l recs a h o.a o.h)
    {ops masks kinds l recs a h o} (e : rDrawn P r ops masks kinds recs a h l = some o) : o.ex = .normal ∧ DTr P ops masks kinds l recs a h o.a o.h := by
  unfold rDrawn at e
  split at e
  · cases e; exact ⟨rfl, .nil _ _ _⟩
  · rename_i q l'
    split at e
    · rename_i hw
      unfold rDrawnAt at e
      split at e
      · rename_i v g hr
        split at e
        · rename_i hf
          unfold rPut at e
          simp only at e
          split at e
          · rename_i a' hp
            obtain ⟨h1, h2⟩ := hT e
            refine ⟨h1, .cons (v := v) (g := g) ⟨rfl, rfl, .inr ⟨hw, rfl, rfl, hf, rOp_abs hA hr, rOp_ok hS hr, fun hk => rOp_pure hk hr, fun hk => rOp_load hk hr, fun j hj q hn hq => ?_⟩⟩ hp h2⟩
            rw [rOp_blk hr hj q (Nat.lt_of_lt_of_eq hn (evHeap_next _ _ _ _).symm) hq]
            exact congrArg (fun t => T.get t q) (evHeap_t _ _ _ _)
          · cases e
        · cases e
      · cases e
    · rename_i hw
      unfold rPut at e
      simp only at e
      split at e
      · rename_i a' hp
        obtain ⟨h1, h2⟩ := hT e
        exact ⟨h1, .cons (v := aundef) (g := h) ⟨rfl, rfl, .inl ⟨by simpa using hw, rfl, rfl, rfl⟩⟩ hp h2⟩
      · cases e

/-- the same, by numbers -/
theorem DTr.funs {ops masks kinds} : ∀ {l recs a h a2 h2}, DTr P ops masks kinds l recs a h a2 h2 → ∃ (as : Nat → AAct) (hs : Nat → Heap) (rc : Nat → Rec) (vs : Nat → AV) (gs : Nat → Heap), as 0 = a ∧ hs 0 = h ∧ as l.length = a2 ∧ hs l.length = h2 ∧
    ∀ i o, l[i]? = some o → DAt P ops masks kinds (recsAt rc recs i) (as i) (hs i) o (vs i) (gs i) (rc i) ∧ (as i).put o.dst (vs i) = some (as (i + 1)) ∧ hs (i + 1) = { gs i with lo := (hs i).lo, hid := (hs i).hid }
  | _, _, _, _, _, _, .nil recs a h => ⟨fun _ => a, fun _ => h, fun _ => ⟨0, none, 0, 0⟩, fun _ => aundef, fun _ => h, rfl, rfl, rfl, rfl, fun i o hi => by simp at hi⟩
  | _, _, _, _, _, _, .cons (o := o) (l := l) (recs := recs) (a := a) (h := h) (v := v) (g := g) (rc := r0) hd hp ht => by
    obtain ⟨as, hs, rc, vs, gs, e1, e2, e3, e4, e5⟩ := DTr.funs ht
    refine ⟨fun k => match k with | 0 => a | k + 1 => as k, fun k => match k with | 0 => h | k + 1 => hs k, fun k => match k with | 0 => r0 | k + 1 => rc k, fun k => match k with | 0 => v | k + 1 => vs k, fun k => match k with | 0 => g | k + 1 => gs k, rfl, rfl, e3, e4, fun i o' hi => ?_⟩
    cases i with
    | zero =>
      simp at hi
      subst hi
      exact ⟨hd, hp.trans (congrArg some e1.symm), e2⟩
    | succ i =>
      have := e5 i o' (by simpa using hi)
      rw [recsAt_shift]
      exact this
end Go.Proofs.YtkebbdpfjhhdhaaGreat.Ev

/- A region that draws its order: the order does not matter. -/
namespace Go.Proofs.YtkebbdpfjhhdhaaGreat.Ev
variable {P : Program}

/-! what is asked of the text -/
def Closed (ops : Array Oper) (D : Nat → Prop) : Prop := ∀ i o, ops[i]? = some o → D i → ∀ e ∈ o.after, Region.binds .any e = true → D e.on
def Before (ops : Array Oper) (i m : Nat) : Prop := ∀ D, Closed ops D → (∀ o, ops[i]? = some o → ∀ e ∈ o.after, Region.binds .any e = true → D e.on) → ∀ k, m.testBit k = true → D k

theorem edges_spec : ∀ {l : List Oper} {i : Nat}, edgesOk l i = true → ∀ k o, l[k]? = some o → ∀ e ∈ o.after, Region.binds .any e = true → e.on < i + k
  | [], i, _, k, o, h => by simp at h
  | q :: l, i, hh, k, o, h => by
    simp only [edgesOk, Bool.and_eq_true, List.all_eq_true, Bool.or_eq_true, Bool.not_eq_true'] at hh
    cases k with
    | zero =>
      simp at h
      subst h
      intro e he hb
      rcases hh.1 e (by simpa using he) with h1 | h1
      · rw [hb] at h1; cases h1
      · simpa [Nat.blt_eq] using h1
    | succ k =>
      intro e he hb
      have := edges_spec hh.2 k o (by simpa using h) e he hb
      omega

theorem fold_or {acc : List Nat} {Q : Nat → Prop} : ∀ {es : List Edge} {s : Nat}, (∀ k, s.testBit k = true → Q k) → (∀ e ∈ es, Region.binds .any e = true → Q e.on ∧ ∀ k, (acc.getD (acc.length - 1 - e.on) 0).testBit k = true → Q k) →
    ∀ k, (es.foldl (fun s e => if Region.binds .any e then s ||| 2 ^ e.on ||| (acc.getD (acc.length - 1 - e.on) 0) else s) s).testBit k = true → Q k
  | [], s, h0, _, k, hk => h0 k hk
  | e :: es, s, h0, h1, k, hk => by
    rw [List.foldl_cons] at hk
    refine fold_or ?_ (fun e' he' => h1 e' (List.mem_cons_of_mem _ he')) k hk
    intro k hk
    split at hk
    · rename_i hb
      obtain ⟨g1, g2⟩ := h1 e (List.mem_cons_self) hb
      simp only [Nat.testBit_or, Bool.or_eq_true, Nat.testBit_two_pow] at hk
      rcases hk with (hk | hk) | hk
      · exact h0 k hk
      · have : e.on = k := by simpa using hk
        subst this; exact g1
      · exact g2 k hk
    · exact h0 k hk
theorem masks_spec {ops : Array Oper} : ∀ {l : List Oper} {acc : List Nat}, edgesOk l acc.length = true → (∀ k o, l[k]? = some o → ops[acc.length + k]? = some o) → (∀ i, i < acc.length → Before ops i (acc.getD (acc.length - 1 - i) 0)) →
    (masksOf l acc).length = acc.length + l.length ∧ ∀ i, i < acc.length + l.length → Before ops i ((masksOf l acc).getD (acc.length + l.length - 1 - i) 0)
  | [], acc, _, _, h => by simpa [masksOf] using h
  | q :: l, acc, he, ho, h => by
    rw [masksOf]
    have hq : ops[acc.length]? = some q := ho 0 q (by simp)
    have hed := edges_spec he 0 q (by simp)
    have he2 : edgesOk l (acc.length + 1) = true := by simp only [edgesOk, Bool.and_eq_true] at he; exact he.2
    have ih := masks_spec (ops := ops) (l := l) (acc := q.after.toList.foldl (fun s e => if Region.binds .any e then s ||| 2 ^ e.on ||| (acc.getD (acc.length - 1 - e.on) 0) else s) 0 :: acc) (by simpa using he2)
      (fun k o hk => by have := ho (k + 1) o (by simpa using hk); simpa [Nat.add_assoc, Nat.add_comm 1] using this)
      (fun i hi => by
        simp only [List.length_cons] at hi ⊢
        by_cases hi2 : i = acc.length
        · subst hi2
          simp only [Nat.add_sub_cancel, Nat.sub_self, List.getD_cons_zero]
          intro D hc hD k hk
          refine fold_or (Q := D) (by simp) (fun e hem hb => ?_) k hk
          have h1 := hD q hq e (by simpa using hem) hb
          have h2 := hed e (by simpa using hem) hb
          exact ⟨h1, h e.on (by omega) D hc (fun o ho' e' he' hb' => hc e.on o ho' h1 e' he' hb')⟩
        · rw [show acc.length + 1 - 1 - i = (acc.length - 1 - i) + 1 from by omega, List.getD_cons_succ]
          exact h i (by omega))
    simp only [List.length_cons] at ih ⊢
    refine ⟨by rw [ih.1]; omega, fun i hi => ?_⟩
    have := ih.2 i (by omega)
    rw [show acc.length + 1 + l.length - 1 - i = acc.length + (l.length + 1) - 1 - i from by omega] at this
    exact this

theorem apartAll_spec {ops : Array Oper} {masks : List Nat} : ∀ {l : List Oper} {i : Nat}, apartAll ops masks l i = true → ∀ j o, l[j]? = some o → ∀ k, k < i + j → (masks.getD (i + j) 0).testBit k = true ∨ ∀ x, ops[k]? = some x → apartA ops x o = true
  | [], _, _, j, o, h => by simp at h
  | q :: l, i, hh, j, o, h => by
    simp only [apartAll, Bool.and_eq_true, List.all_eq_true, List.mem_range, Bool.or_eq_true] at hh
    cases j with
    | zero =>
      simp at h
      subst h
      intro k hk
      rcases hh.1 k (by omega) with h1 | h1
      · exact .inl h1
      · refine .inr fun x hx => ?_
        rw [hx] at h1
        exact h1
    | succ j =>
      intro k hk
      have := apartAll_spec hh.2 j o (by simpa using h) k (by omega)
      rw [show i + (j + 1) = i + 1 + j from by omega]
      exact this

theorem static_spec {ops : Array Oper} (h : staticOk ops = true) : (∀ i o, ops[i]? = some o → ∀ e ∈ o.after, Region.binds .any e = true → e.on < i) ∧
    (∀ i, i < ops.size → Before ops i ((masksOf ops.toList []).reverse.getD i 0)) ∧
    (∀ i o, ops[i]? = some o → ∀ k, k < i → ((masksOf ops.toList []).reverse.getD i 0).testBit k = true ∨ ∀ x, ops[k]? = some x → apartA ops x o = true) := by
  unfold staticOk at h
  simp only [Bool.and_eq_true] at h
  have hm := masks_spec (ops := ops) (l := ops.toList) (acc := []) h.1 (fun k o hk => by simpa using hk) (fun i hi => by simp at hi)
  refine ⟨fun i o ho e he hb => ?_, fun i hi => ?_, fun i o ho k hk => ?_⟩
  · have := edges_spec h.1 i o (by simpa using ho) e he hb
    simpa using this
  · have h1 := hm.2 i (by simpa using hi)
    have h2 := hm.1
    simp only [List.length_nil, Nat.zero_add, Array.length_toList] at h1 h2
    rw [List.getD_eq_getElem?_getD, List.getElem?_reverse (by omega), h2]
    rw [List.getD_eq_getElem?_getD] at h1
    exact h1
  · have := apartAll_spec h.2 i o (by simpa using ho) k (by omega)
    simpa using this
theorem kinds_spec {ops : Array Oper} {masks : List Nat} {i : Nat} {o : Oper} (ho : ops[i]? = some o) : ((kindsOf ops masks).getD i 0 = 0 → kindOf o.op = 0) ∧ ((kindsOf ops masks).getD i 0 = 3 → kindOf o.op = 3) ∧ ((kindsOf ops masks).getD i 0 ≤ 4) := by
  have hi : i < ops.size := (Array.getElem?_eq_some_iff.1 ho).1
  have hk : (kindsOf ops masks).getD i 0 = if kindOf o.op == 1 && soloAt ops masks i then 2 else if kindOf o.op == 1 && makes o.op && behindW ops masks i then 4 else kindOf o.op := by
    unfold kindsOf
    rw [List.getD_eq_getElem?_getD, List.getElem?_map, List.getElem?_range hi]
    simp only [Option.map_some, Option.getD_some, ho]
  have hle : kindOf o.op ≤ 3 := by
    unfold kindOf
    split <;> omega
  rw [hk]
  split
  · rename_i hc
    refine ⟨fun h => by omega, fun h => by omega, by omega⟩
  · split
    · refine ⟨fun h => by omega, fun h => by omega, by omega⟩
    · exact ⟨id, id, by omega⟩
end Go.Proofs.YtkebbdpfjhhdhaaGreat.Ev

/- A region that draws its order: the order does not matter, end. -/
namespace Go.Proofs.YtkebbdpfjhhdhaaGreat.Ev
variable {P : Program}

structure DC (P : Program) (ops : Array Oper) (as : Nat → AAct) (hs : Nat → Heap) (rc : Nat → Rec) (vs : Nat → AV) (gs : Nat → Heap) (masks kinds : List Nat) : Prop where
  edges : ∀ i o, ops[i]? = some o → ∀ e ∈ o.after, Region.binds .any e = true → e.on < i
  bef : ∀ i, i < ops.size → Before ops i (masks.getD i 0)
  apart : ∀ i o, ops[i]? = some o → ∀ k, k < i → (masks.getD i 0).testBit k = true ∨ ∀ x, ops[k]? = some x → apartA ops x o = true
  kind : ∀ i o, ops[i]? = some o → (kinds.getD i 0 = 0 → kindOf o.op = 0) ∧ (kinds.getD i 0 = 3 → kindOf o.op = 3) ∧ kinds.getD i 0 ≤ 4
  at_ : ∀ i o, ops[i]? = some o → DAt P ops masks kinds (recsAt rc [] i) (as i) (hs i) o (vs i) (gs i) (rc i)
  put : ∀ i o, ops[i]? = some o → (as i).put o.dst (vs i) = some (as (i + 1))
  hs1 : ∀ i o, ops[i]? = some o → hs (i + 1) = { gs i with lo := (hs i).lo, hid := (hs i).hid }
  clean0 : ∀ i, (hs 0).next ≤ i → (hs 0).t.get i = none

section
variable {ops : Array Oper} {as : Nat → AAct} {hs : Nat → Heap} {rc : Nat → Rec} {vs : Nat → AV} {gs : Nat → Heap} {masks kinds : List Nat}

theorem DC.has (_ : DC P ops as hs rc vs gs masks kinds) {i : Nat} (hi : i < ops.size) : ∃ o, ops[i]? = some o := ⟨ops[i], Array.getElem?_eq_getElem hi⟩
theorem DC.len (i : Nat) : (recsAt rc [] i).length = i := by rw [recsAt_len]; simp
theorem DC.free_ (c : DC P ops as hs rc vs gs masks kinds) {i : Nat} (hi : i < ops.size) {k : Nat} (hk : k < i) : (masks.getD i 0).testBit k = true ∨ free (rc k) (rc i) = true := by
  obtain ⟨o, ho⟩ := c.has hi
  rcases (c.at_ i o ho).how with ⟨_, h1, _⟩ | ⟨_, _, _, h1, _⟩
  · exact .inr (by simp [free, h1])
  · rw [DC.len] at h1
    exact (freeAll_iff rc _ _ i).1 h1 k hk
theorem DC.tyle (c : DC P ops as hs rc vs gs masks kinds) {i : Nat} (hi : i < ops.size) : (rc i).ty ≤ 4 := by
  obtain ⟨o, ho⟩ := c.has hi
  rcases (c.at_ i o ho).how with ⟨_, h1, _⟩ | ⟨_, h1, _⟩
  · omega
  · rw [h1, DC.len]; exact (c.kind i o ho).2.2
theorem DC.abs (c : DC P ops as hs rc vs gs masks kinds) {i : Nat} (hi : i < ops.size) : Abs (hs i) (hs (i + 1)) := by
  obtain ⟨o, ho⟩ := c.has hi
  rw [c.hs1 i o ho]
  rcases (c.at_ i o ho).how with ⟨_, _, _, h1⟩ | ⟨_, _, _, _, h1, _⟩
  · rw [h1]; exact Abs.refl _
  · exact abs_back h1
theorem DC.n0 (c : DC P ops as hs rc vs gs masks kinds) {i : Nat} (hi : i < ops.size) : (rc i).n0 = (hs i).next := by
  obtain ⟨o, ho⟩ := c.has hi
  exact (c.at_ i o ho).n0
theorem DC.n1 (c : DC P ops as hs rc vs gs masks kinds) {i : Nat} (hi : i < ops.size) : (rc i).n1 = (hs (i + 1)).next := by
  obtain ⟨o, ho⟩ := c.has hi
  rw [c.hs1 i o ho]
  exact (c.at_ i o ho).n1
theorem DC.same (c : DC P ops as hs rc vs gs masks kinds) {i : Nat} (hi : i < ops.size) (ht : (rc i).ty = 0 ∨ (rc i).ty = 3) : hs (i + 1) = hs i := by
  obtain ⟨o, ho⟩ := c.has hi
  rw [c.hs1 i o ho]
  rcases (c.at_ i o ho).how with ⟨_, _, _, h1⟩ | ⟨_, h0, _, _, _, _, h1, h2, _⟩
  · rw [h1]
  · rw [DC.len] at h0
    have hg : gs i = evHeap (rc i).ty (masks.getD (recsAt rc [] i).length 0) (recsAt rc [] i) (hs i) := by
      rcases ht with ht | ht
      · exact (h1 ((c.kind i o ho).1 (by rw [← h0, ht]))).1
      · exact (h2 ((c.kind i o ho).2.1 (by rw [← h0, ht]))).1
    rw [hg]
    unfold evHeap
    split
    · rfl
    · split
      · rfl
      · split <;> rfl
theorem DC.keep (c : DC P ops as hs rc vs gs masks kinds) {i : Nat} (hi : i < ops.size) (ht : (rc i).ty ≠ 2) {id : Nat} (hid : id < (hs i).next) : (hs (i + 1)).t.get id = (hs i).t.get id := by
  have h3 := c.tyle hi
  by_cases h1 : (rc i).ty = 1 ∨ (rc i).ty = 4
  · obtain ⟨o, ho⟩ := c.has hi
    rw [c.hs1 i o ho]
    rcases (c.at_ i o ho).how with ⟨_, h2, _⟩ | ⟨_, _, _, _, h2, _⟩
    · omega
    · have := h2.keep id (by rw [evHeap_next]; exact hid) (.inl (by
        unfold evHeap
        rcases h1 with h1 | h1
        · rw [if_pos h1]; exact hid
        · rw [if_neg (by omega), if_neg (by omega), if_pos h1]; exact hid))
      rw [evHeap_t] at this
      exact this
  · rw [c.same hi (by omega)]
theorem DC.mono (c : DC P ops as hs rc vs gs masks kinds) {i : Nat} : ∀ {j : Nat}, i ≤ j → j ≤ ops.size → Abs (hs i) (hs j)
  | 0, h, _ => by obtain rfl : i = 0 := (by omega); exact Abs.refl _
  | j + 1, h, hj => by
    rcases Nat.lt_or_ge i (j + 1) with h1 | h1
    · exact (c.mono (by omega) (by omega)).trans (c.abs (by omega))
    · obtain rfl : i = j + 1 := by omega
      exact Abs.refl _
theorem DC.keeps (c : DC P ops as hs rc vs gs masks kinds) {i : Nat} {id : Nat} (hid : id < (hs i).next) : ∀ {j : Nat}, i ≤ j → j ≤ ops.size → (∀ k, i ≤ k → k < j → (hs (k + 1)).t.get id = (hs k).t.get id) → (hs j).t.get id = (hs i).t.get id
  | 0, h, _, _ => by obtain rfl : i = 0 := (by omega); rfl
  | j + 1, h, hj, hk => by
    rcases Nat.lt_or_ge i (j + 1) with h1 | h1
    · rw [hk j (by omega) (by omega), c.keeps hid (by omega) (by omega) (fun k h1 h2 => hk k h1 (by omega))]
    · obtain rfl : i = j + 1 := by omega
      rfl
theorem DC.clean (c : DC P ops as hs rc vs gs masks kinds) {i : Nat} (hi : i ≤ ops.size) : ∀ q, (hs i).next ≤ q → (hs i).t.get q = none := (c.mono (Nat.zero_le i) hi).clean c.clean0
theorem DC.hidc (c : DC P ops as hs rc vs gs masks kinds) {i : Nat} (hi : i ≤ ops.size) : (hs i).hid = (hs 0).hid := (c.mono (Nat.zero_le i) hi).hid
/-- which operation a number belongs to -/
theorem DC.owner (c : DC P ops as hs rc vs gs masks kinds) {id i : Nat} (h0 : (hs i).next ≤ id) : ∀ {j : Nat}, i ≤ j → j ≤ ops.size → id < (hs j).next → ∃ k, i ≤ k ∧ k < j ∧ (rc k).n0 ≤ id ∧ id < (rc k).n1
  | 0, h, _, h1 => by obtain rfl : i = 0 := (by omega); omega
  | j + 1, h, hj, h1 => by
    rcases Nat.lt_or_ge i (j + 1) with h2 | h2
    · rcases Nat.lt_or_ge id (hs j).next with h3 | h3
      · obtain ⟨k, g1, g2, g3⟩ := c.owner h0 (by omega) (by omega) h3
        exact ⟨k, g1, by omega, g3⟩
      · exact ⟨j, by omega, Nat.lt_succ_self j, by rw [c.n0 (by omega)]; exact h3, by rw [c.n1 (by omega)]; exact h1⟩
    · obtain rfl : i = j + 1 := by omega
      omega
theorem DC.range (c : DC P ops as hs rc vs gs masks kinds) {k : Nat} (hk : k < ops.size) (ht : (rc k).ty = 0 ∨ (rc k).ty = 3) : (rc k).n1 = (rc k).n0 := by rw [c.n1 hk, c.n0 hk, c.same hk ht]

/-! what holds when some of the operations have been done -/
def Don (listed : Array Bool) (k : Nat) : Prop := listed.getD k false = true
/-- the numbers that are still free below m -/
def unl (listed : Array Bool) (rc : Nat → Rec) (m : Nat) : List (Nat × Nat) := (List.range m).filterMap fun k => if listed.getD k false then none else some ((rc k).n0, (rc k).n1)
theorem unl_iff {listed : Array Bool} {m id : Nat} : (unl listed rc m).any (inR id) = true ↔ ∃ k, k < m ∧ ¬ Don listed k ∧ (rc k).n0 ≤ id ∧ id < (rc k).n1 := by
  unfold unl Don
  simp only [List.any_eq_true, List.mem_filterMap, List.mem_range]
  constructor
  · rintro ⟨r, ⟨k, hk, he⟩, hr⟩
    split at he
    · cases he
    · rename_i hd
      cases he
      rw [inR_iff] at hr
      exact ⟨k, hk, hd, hr⟩
  · rintro ⟨k, hk, hd, h1, h2⟩
    exact ⟨((rc k).n0, (rc k).n1), ⟨k, hk, by rw [if_neg hd]⟩, inR_iff.2 ⟨h1, h2⟩⟩
def gD (listed : Array Bool) (rc : Nat → Rec) (hs : Nat → Heap) (m : Nat) : Heap := { hs m with hid := unl listed rc m ++ (hs m).hid }
theorem gD_get {listed : Array Bool} {m id : Nat} {o : AObj} : (gD listed rc hs m).get id = some o ↔ (¬ ∃ k, k < m ∧ ¬ Don listed k ∧ (rc k).n0 ≤ id ∧ id < (rc k).n1) ∧ (hs m).get id = some o := by
  unfold Heap.get
  have e : (gD listed rc hs m).hidden id = ((unl listed rc m).any (inR id) || (hs m).hidden id) := by
    unfold gD
    rw [hidden_any, hidden_any, List.any_append]
  rw [e]
  have e2 : (gD listed rc hs m).t = (hs m).t := rfl
  rw [e2]
  cases h1 : (unl listed rc m).any (inR id)
  · have : ¬ ∃ k, k < m ∧ ¬ Don listed k ∧ (rc k).n0 ≤ id ∧ id < (rc k).n1 := fun hx => by rw [unl_iff.2 hx] at h1; cases h1
    simp [this]
  · have := unl_iff.1 h1
    simp [this]

/-- the first operation that writes and has not been done -/
def FirstW (listed : Array Bool) (rc : Nat → Rec) (N m : Nat) : Prop := m ≤ N ∧ (m < N → (rc m).ty = 2 ∧ ¬ Don listed m) ∧ ∀ k, k < m → (rc k).ty = 2 → Don listed k

structure XI (h0 hN : Heap) (E0 E : Env) (W0 W : World) : Prop where
  le : E0.le E
  fresh : ∀ i b c, E0 i = none → E i = some (b, c) → h0.next ≤ i ∧ i < hN.next ∧ (W0.heap.size ≤ b ∨ ∃ k d, h0.lo ≤ k ∧ (h0.get k).isSome ∧ E0 k = some (b, d))
  size : W0.heap.size ≤ W.heap.size
  keepC : ∀ b, b < W0.heap.size → (∀ k d, h0.lo ≤ k → (h0.get k).isSome → E0 k ≠ some (b, d)) → W.heap[b]? = W0.heap[b]?
  os : W.os = W0.os
  tape : W.tape = W0.tape
  output : W.output = W0.output

/-- what an operation behind m has made, which has been done already -/
def Erl (ops : Array Oper) (listed : Array Bool) (rc : Nat → Rec) (hs : Nat → Heap) (m id : Nat) (o : AObj) : Prop := ∃ k, m ≤ k ∧ k < ops.size ∧ Don listed k ∧ (rc k).n0 ≤ id ∧ id < (rc k).n1 ∧ (hs (k + 1)).t.get id = some o
/-- what is there when some of the operations have been done -/
def Sn (ops : Array Oper) (listed : Array Bool) (rc : Nat → Rec) (hs : Nat → Heap) (m id : Nat) (o : AObj) : Prop := (gD listed rc hs m).get id = some o ∨ Erl ops listed rc hs m id o

/-- the part of what holds that speaks of memory -/
structure MInv (ops : Array Oper) (hs : Nat → Heap) (rc : Nat → Rec) (top : Nat) (E0 : Env) (W0 : World) (listed : Array Bool) (E : Env) (W : World) : Prop where
  mem : ∃ m, FirstW listed rc ops.size m ∧ (∀ id o, Sn ops listed rc hs m id o → ∃ b c O, E id = some (b, c) ∧ W.heap[b]? = some O ∧ OR E id o O) ∧ (∀ i k oi ok b c d, Sn ops listed rc hs m i oi → Sn ops listed rc hs m k ok → E i = some (b, c) → E k = some (b, d) → i = k)
  free : ∀ k, k < ops.size → ¬ Don listed k → ∀ id, (rc k).n0 ≤ id → id < (rc k).n1 → E id = none
  far : ∀ i, (hs ops.size).next ≤ i → i < top → E i = none
  x : XI (hs 0) (hs ops.size) E0 E W0 W

structure DInv (P : Program) (ops : Array Oper) (as : Nat → AAct) (hs : Nat → Heap) (rc : Nat → Rec) (top : Nat) (E0 : Env) (W0 : World) (listed : Array Bool) (E : Env) (A : Act) (W : World) : Prop where
  sz : listed.size = ops.size
  cl : Closed ops (Don listed)
  tmsz : A.tmps.size = (as 0).size
  de : DR E (as 0).defers A.defers
  tm : ∀ t, ∃ m, m ≤ ops.size ∧ (∀ k o, ops[k]? = some o → o.dst = some t → (Don listed k ↔ k < m)) ∧ VR E ((as m).at t) (A.tmps.getD t undef)
  m : MInv ops hs rc top E0 W0 listed E W

/-! the temporaries -/
theorem DC.size (c : DC P ops as hs rc vs gs masks kinds) : ∀ {i : Nat}, i ≤ ops.size → (as i).size = (as 0).size ∧ (as i).defers = (as 0).defers
  | 0, _ => ⟨rfl, rfl⟩
  | i + 1, h => by
    obtain ⟨o, ho⟩ := c.has (show i < ops.size from h)
    have := c.put i o ho
    have ih := c.size (show i ≤ ops.size by omega)
    unfold AAct.put at this
    split at this
    · injection this with this; rw [← this]; exact ih
    · split at this
      · injection this with this; rw [← this]; exact ih
      · cases this
theorem DC.put_ne (c : DC P ops as hs rc vs gs masks kinds) {i : Nat} {o : Oper} (ho : ops[i]? = some o) {t : Nat} (ht : o.dst ≠ some t) : (as (i + 1)).at t = (as i).at t := by
  have := c.put i o ho
  unfold AAct.put at this
  split at this
  · injection this with this; rw [← this]
  · rename_i d hd
    split at this
    · injection this with this
      rw [← this]
      unfold AAct.at
      show (((as i).tmps.set d (vs i)).get t).getD aundef = _
      rw [T.get_set, if_neg (fun e => ht (by rw [hd, e]))]
    · cases this
theorem DC.put_eq (c : DC P ops as hs rc vs gs masks kinds) {i : Nat} {o : Oper} (ho : ops[i]? = some o) {t : Nat} (ht : o.dst = some t) : (as (i + 1)).at t = vs i ∧ t < (as i).size := by
  have := c.put i o ho
  unfold AAct.put at this
  rw [ht] at this
  simp only at this
  split at this
  · rename_i hb
    injection this with this
    rw [← this]
    refine ⟨?_, by simpa [Nat.blt_eq] using hb⟩
    unfold AAct.at
    show (((as i).tmps.set t (vs i)).get t).getD aundef = _
    rw [T.get_set, if_pos rfl]; rfl
  · cases this
theorem DC.at_eq (c : DC P ops as hs rc vs gs masks kinds) {t i : Nat} : ∀ {j : Nat}, i ≤ j → j ≤ ops.size → (∀ k o, i ≤ k → k < j → ops[k]? = some o → o.dst ≠ some t) → (as j).at t = (as i).at t
  | 0, h, _, _ => by obtain rfl : i = 0 := (by omega); rfl
  | j + 1, h, hj, hk => by
    rcases Nat.lt_or_ge i (j + 1) with h1 | h1
    · obtain ⟨o, ho⟩ := c.has (show j < ops.size from hj)
      rw [c.put_ne ho (hk j o (by omega) (Nat.lt_succ_self j) ho), c.at_eq (by omega) (by omega) fun k o g1 g2 => hk k o g1 (by omega)]
    · obtain rfl : i = j + 1 := by omega
      rfl
end
end Go.Proofs.YtkebbdpfjhhdhaaGreat.Ev

/- A region that draws its order: one step of any order. -/
namespace Go.Proofs.YtkebbdpfjhhdhaaGreat.Ev
variable {P : Program}
section
variable {ops : Array Oper} {as : Nat → AAct} {hs : Nat → Heap} {rc : Nat → Rec} {vs : Nat → AV} {gs : Nat → Heap} {masks kinds : List Nat}

theorem apartA_spec {ops : Array Oper} {x y : Oper} (h : apartA ops x y = true) : (∀ d, x.dst = some d → d ∉ tmpsOf ops y) ∧ (∀ d, x.dst = some d → y.dst ≠ some d) ∧ (∀ d, y.dst = some d → d ∉ tmpsOf ops x) := by
  unfold apartA at h
  simp only [Bool.and_eq_true] at h
  refine ⟨fun d hd => ?_, fun d hd => ?_, fun d hd => ?_⟩
  · rw [hd] at h
    have := h.1
    simp only [Bool.and_eq_true, Bool.not_eq_true', List.contains_eq_mem, decide_eq_false_iff_not] at this
    exact this.1
  · rw [hd] at h
    have := h.1
    simp only [Bool.and_eq_true, bne_iff_ne] at this
    exact this.2
  · rw [hd] at h
    have := h.2
    simp only [Bool.not_eq_true', List.contains_eq_mem, decide_eq_false_iff_not] at this
    exact this

theorem Don.set {listed : Array Bool} {i k : Nat} (hi : i < listed.size) : Don (listed.setIfInBounds i true) k ↔ Don listed k ∨ k = i := by
  unfold Don
  by_cases e : k = i
  · subst e; simp [Array.getD, hi]
  · simp [Array.getElem?_setIfInBounds_ne (Ne.symm e), e]

theorem wanted_eq' {E : Env} {ops : Array Oper} {a : AAct} {A : Act} (o : Oper) (hsz : A.tmps.size = a.size) (hl : ∀ t, t ∈ tmpsOf ops o → VR E (a.at t) (A.tmps.getD t undef)) : Region.wanted o (yielded ops A.tmps) = wantedA ops a o := by
  unfold Region.wanted wantedA
  cases hg : o.guard with
  | none => rfl
  | some p =>
    obtain ⟨j, want⟩ := p
    simp only
    unfold yielded yieldedA
    cases hd : (ops[j]?).bind (·.dst) with
    | none => simp
    | some t =>
      simp only [Option.bind_some]
      have h1 := hl t (by unfold tmpsOf; rw [hg]; simp only [hd, List.mem_append]; exact .inr (by simp))
      by_cases ht : t < a.size
      · have hb : Nat.blt t a.size = true := by simpa [Nat.blt_eq] using ht
        have hlt : t < A.tmps.size := by rw [hsz]; exact ht
        rw [hb]
        have hget : A.tmps[t]? = some (A.tmps.getD t undef) := by simp [Array.getD, hlt]
        rw [hget]
        show ((match some (A.tmps.getD t undef) with | some (.bool b) => some b | _ => none) == some want) = _
        generalize a.at t = v at h1 ⊢
        generalize A.tmps.getD t undef = V at h1 ⊢
        cases v <;> simp only [VR] at h1 <;> first
          | (subst h1; simp; done)
          | (obtain ⟨_, _, _, rfl⟩ := h1; simp; done)
          | (obtain ⟨_, _, _, _, _, rfl⟩ := h1; simp; done)
          | (obtain ⟨_, _, _, rfl, _⟩ := h1; simp; done)
          | (obtain ⟨_, rfl, _⟩ := h1; simp; done)
          | skip
      · have hb : Nat.blt t a.size = false := by
          cases hh : Nat.blt t a.size
          · rfl
          · exact absurd (by simpa [Nat.blt_eq] using hh) ht
        rw [hb]
        have hget : A.tmps[t]? = none := Array.getElem?_eq_none (by rw [hsz]; exact Nat.le_of_not_lt ht)
        rw [hget]
        simp

/-- what is known of an operation that may come next -/
structure Nx (ops : Array Oper) (masks : List Nat) (listed : Array Bool) (i : Nat) (o : Oper) : Prop where
  op : ops[i]? = some o
  lt : i < ops.size
  un : ¬ Don listed i
  ed : ∀ e ∈ o.after, Region.binds .any e = true → Don listed e.on
  pre : ∀ k, (masks.getD i 0).testBit k = true → Don listed k
  post : ∀ k, i < k → k < ops.size → (masks.getD k 0).testBit i = true → ¬ Don listed k
theorem DC.nx (c : DC P ops as hs rc vs gs masks kinds) {listed : Array Bool} (hsz : listed.size = ops.size) (hcl : Closed ops (Don listed)) {i : Nat} (hi : i ∈ Region.ready .any ops listed) : ∃ o, Nx ops masks listed i o := by
  obtain ⟨h0, o, ho, he⟩ := mem_ready.1 hi
  have hlt : i < ops.size := (Array.getElem?_eq_some_iff.1 ho).1
  have hun : ¬ Don listed i := by
    unfold Don
    have hl : i < listed.size := by omega
    simp only [Array.getD, hl, dif_pos] at h0 ⊢
    simpa using h0
  refine ⟨o, ho, hlt, hun, he, ?_, fun k hik hk hb hd => ?_⟩
  · exact c.bef i hlt (Don listed) hcl (fun o' ho' => by rw [ho] at ho'; cases ho'; exact he)
  · exact hun (c.bef k hk (Don listed) hcl (fun o' ho' e he' hb' => hcl k o' ho' hd e he' hb') i hb)

theorem DInv.look {top : Nat} {E0 E : Env} {W0 W : World} {A : Act} {listed : Array Bool} (c : DC P ops as hs rc vs gs masks kinds) (inv : DInv P ops as hs rc top E0 W0 listed E A W) {i : Nat} {o : Oper} (x : Nx ops masks listed i o) {t : Nat} (ht : t ∈ tmpsOf ops o) : VR E ((as i).at t) (A.tmps.getD t undef) := by
  obtain ⟨m, hm, hw, hv⟩ := inv.tm t
  rcases Nat.le_total m i with h | h
  · have : (as i).at t = (as m).at t := c.at_eq h (by have := x.lt; omega) fun k ok h1 h2 hk hd => by
      have h3 : ¬ Don listed k := fun hdn => by have := (hw k ok hk hd).1 hdn; omega
      rcases c.apart i o x.op k h2 with h4 | h4
      · exact h3 (x.pre k h4)
      · exact (apartA_spec (h4 ok hk)).1 t hd ht
    rw [this]; exact hv
  · have : (as m).at t = (as i).at t := c.at_eq h hm fun k ok h1 h2 hk hd => by
      have h3 : Don listed k := (hw k ok hk hd).2 h2
      rcases Nat.lt_or_ge i k with h4 | h4
      · rcases c.apart k ok hk i h4 with h5 | h5
        · exact x.post k h4 (by omega) h5 h3
        · exact (apartA_spec (h5 o x.op)).2.2 t hd ht
      · obtain rfl : k = i := by omega
        exact x.un h3
    rw [← this]; exact hv
theorem DInv.opR {top : Nat} {E0 E : Env} {W0 W : World} {A : Act} {listed : Array Bool} (c : DC P ops as hs rc vs gs masks kinds) (inv : DInv P ops as hs rc top E0 W0 listed E A W) {i : Nat} {o : Oper} (x : Nx ops masks listed i o) : OpR E (as i) A o.op.operands.toList := fun y hy v hv => by
  cases y with
  | tmp t =>
    simp only [AAct.eval] at hv
    cases hv
    exact inv.look c x (by unfold tmpsOf; simp only [List.mem_append, List.mem_filterMap]; exact .inl ⟨.tmp t, hy, rfl⟩)
  | const k => simp only [AAct.eval] at hv; exact abs_VR hv
  | global g => simp [AAct.eval] at hv
  | func f => simp only [AAct.eval] at hv; cases hv; simp only [VR]; exact ⟨.func f, [], [], rfl, VRs.nil, VRs.nil, rfl⟩

/-- the temporaries behind it -/
theorem DInv.tmStep {top : Nat} {E0 E E' : Env} {W0 W : World} {A : Act} {listed : Array Bool} (c : DC P ops as hs rc vs gs masks kinds) (inv : DInv P ops as hs rc top E0 W0 listed E A W) {i : Nat} {o : Oper} (x : Nx ops masks listed i o) (hle : E.le E') {V : Value} (hV : VR E' (vs i) V) :
    ∀ t, ∃ m, m ≤ ops.size ∧ (∀ k ok, ops[k]? = some ok → ok.dst = some t → (Don (listed.setIfInBounds i true) k ↔ k < m)) ∧ VR E' ((as m).at t) ((A.put o.dst V).tmps.getD t undef) := by
  have hil : i < listed.size := by rw [inv.sz]; exact x.lt
  intro t
  by_cases hd : o.dst = some t
  · refine ⟨i + 1, x.lt, fun k ok hk hkd => ?_, ?_⟩
    · rw [Don.set hil]
      rcases Nat.lt_trichotomy k i with h | h | h
      · have : Don listed k := by
          rcases c.apart i o x.op k h with h4 | h4
          · exact x.pre k h4
          · exact absurd hd ((apartA_spec (h4 ok hk)).2.1 t hkd)
        simp [this]; omega
      · subst h; simp
      · have : ¬ Don listed k := by
          rcases c.apart k ok hk i h with h4 | h4
          · exact x.post k h (Array.getElem?_eq_some_iff.1 hk).1 h4
          · exact absurd hkd ((apartA_spec (h4 o x.op)).2.1 t hd)
        simp [this]; omega
    · obtain ⟨h1, h2⟩ := c.put_eq x.op hd
      rw [h1]
      have h3 : t < A.tmps.size := by rw [inv.tmsz, ← (c.size (Nat.le_of_lt x.lt)).1]; exact h2
      rw [hd]
      simpa [Act.put, Array.getD, h3] using hV
  · obtain ⟨m, hm, hw, hv⟩ := inv.tm t
    refine ⟨m, hm, fun k ok hk hkd => ?_, ?_⟩
    · rw [Don.set hil]
      have : k ≠ i := by rintro rfl; rw [x.op] at hk; cases hk; exact hd hkd
      simp only [this, or_false]
      exact hw k ok hk hkd
    · have : (A.put o.dst V).tmps.getD t undef = A.tmps.getD t undef := by
        cases hod : o.dst with
        | none => rfl
        | some d =>
          have hne : d ≠ t := fun e => hd (by rw [hod, e])
          simp [Act.put, Array.getElem?_setIfInBounds_ne hne]
      rw [this]
      exact hv.mono hle
end
end Go.Proofs.YtkebbdpfjhhdhaaGreat.Ev

/- A region that draws its order: memory. -/
namespace Go.Proofs.YtkebbdpfjhhdhaaGreat.Ev
variable {P : Program}
section
variable {ops : Array Oper} {as : Nat → AAct} {hs : Nat → Heap} {rc : Nat → Rec} {vs : Nat → AV} {gs : Nat → Heap} {masks kinds : List Nat}

theorem gD_sub {listed : Array Bool} {i : Nat} (hil : i < listed.size) {m : Nat} (hr : (rc i).n1 = (rc i).n0) {id : Nat} {ob : AObj} (h : (gD (listed.setIfInBounds i true) rc hs m).get id = some ob) : (gD listed rc hs m).get id = some ob := by
  rw [gD_get] at h ⊢
  refine ⟨?_, h.2⟩
  rintro ⟨k, h1, h2, h3, h4⟩
  refine h.1 ⟨k, h1, fun hd => ?_, h3, h4⟩
  rcases (Don.set hil).1 hd with h5 | h5
  · exact h2 h5
  · subst h5; omega
theorem FirstW.set {listed : Array Bool} {N i m : Nat} (hil : i < listed.size) (hf : FirstW listed rc N m) (hi : m < N → i ≠ m) : FirstW (listed.setIfInBounds i true) rc N m :=
  ⟨hf.1, fun hm => ⟨(hf.2.1 hm).1, fun hd => ((Don.set hil).1 hd).elim (hf.2.1 hm).2 (fun e => hi hm e.symm)⟩, fun k hk h2 => (Don.set hil).2 (.inl (hf.2.2 k hk h2))⟩

/-- an operation that leaves memory alone -/
theorem MInv.still {top : Nat} {E0 E : Env} {W0 W : World} {listed : Array Bool} (c : DC P ops as hs rc vs gs masks kinds) (hsz : listed.size = ops.size) (inv : MInv ops hs rc top E0 W0 listed E W) {i : Nat} {o : Oper} (x : Nx ops masks listed i o) (hty : (rc i).ty = 0 ∨ (rc i).ty = 3) : MInv ops hs rc top E0 W0 (listed.setIfInBounds i true) E W := by
  have hil : i < listed.size := by rw [hsz]; exact x.lt
  obtain ⟨m, hf, hobj, hinj⟩ := inv.mem
  have hrange := c.range x.lt hty
  have hsn : ∀ id ob, Sn ops (listed.setIfInBounds i true) rc hs m id ob → Sn ops listed rc hs m id ob := fun id ob h => by
    rcases h with h | ⟨k, h1, h2, h3, h4, h5, h6⟩
    · exact .inl (gD_sub hil hrange h)
    · rcases (Don.set hil).1 h3 with h7 | h7
      · exact .inr ⟨k, h1, h2, h7, h4, h5, h6⟩
      · subst h7; omega
  refine ⟨⟨m, hf.set hil fun hm e => ?_, fun id ob h => hobj id ob (hsn id ob h), fun p q op oq b d d' hp hq => hinj p q op oq b d d' (hsn p op hp) (hsn q oq hq)⟩, fun k hk hd => inv.free k hk fun h => hd ((Don.set hil).2 (.inl h)), inv.far, inv.x⟩
  subst e
  have := (hf.2.1 hm).1
  omega

theorem XI.step {h0 hN h g : Heap} {E0 E E' : Env} {W0 W W' : World} (x : XI h0 hN E0 E W0 W) (y : Ext E E' h g W W') (hg : g.next ≤ hN.next) (hn : h0.next ≤ h.next) (hb : ∀ k b d, h.lo ≤ k → (h.get k).isSome → E k = some (b, d) → W0.heap.size ≤ b ∨ ∃ q d', h0.lo ≤ q ∧ (h0.get q).isSome ∧ E0 q = some (b, d')) : XI h0 hN E0 E' W0 W' := by
  refine ⟨E0.le_trans x.le y.le, fun i b c h1 h2 => ?_, Nat.le_trans x.size y.size, fun b hb' hk => ?_, y.os.trans x.os, y.tape.trans x.tape, y.output.trans x.output⟩
  · cases h3 : E i with
    | some p =>
      have := y.le i p h3
      rw [this] at h2
      cases h2
      exact x.fresh i b c h1 h3
    | none =>
      obtain ⟨g1, g2, g3⟩ := y.fresh i b c h3 h2
      refine ⟨Nat.le_trans hn g1, Nat.lt_of_lt_of_le g2 hg, ?_⟩
      rcases g3 with g3 | ⟨k, d, g4, g5, g6⟩
      · exact .inl (Nat.le_trans x.size g3)
      · exact hb k b d g4 g5 g6
  · have h1 := x.keepC b hb' hk
    refine (y.keepC b (Nat.lt_of_lt_of_le hb' x.size) fun k d g1 g2 g3 => ?_).trans h1
    rcases hb k b d g1 g2 g3 with h | ⟨q, d', q1, q2, q3⟩
    · omega
    · exact hk q d' q1 q2 q3

/-- an operation that has made memory of its own -/
theorem MInv.grown {top : Nat} {E0 E : Env} {W0 W : World} {listed : Array Bool} (c : DC P ops as hs rc vs gs masks kinds) (hsz : listed.size = ops.size) (inv : MInv ops hs rc top E0 W0 listed E W) {i : Nat} {o : Oper} (x : Nx ops masks listed i o)
    {m : Nat} (hf : FirstW listed rc ops.size m) (hobj : ∀ id o, Sn ops listed rc hs m id o → ∃ b c O, E id = some (b, c) ∧ W.heap[b]? = some O ∧ OR E id o O) (hinj : ∀ i k oi ok b c d, Sn ops listed rc hs m i oi → Sn ops listed rc hs m k ok → E i = some (b, c) → E k = some (b, d) → i = k)
    (him : m < ops.size → i ≠ m) {hv : Heap} (hvn : hv.next = (hs i).next) {E' : Env} {W' : World} (hnone : ∀ k d b, hv.lo ≤ k → (hv.get k).isSome → E k ≠ some (b, d)) (y : Ext E E' hv (gs i) W W') (hr' : HR (hs (i + 1)).next E' (gs i) W')
    (hsee2 : ∀ id ob, Sn ops (listed.setIfInBounds i true) rc hs m id ob → ((hs i).next ≤ id ∧ id < (hs (i + 1)).next ∧ (gs i).get id = some ob) ∨ (Sn ops listed rc hs m id ob ∧ ¬ ((hs i).next ≤ id ∧ id < (hs (i + 1)).next))) : MInv ops hs rc top E0 W0 (listed.setIfInBounds i true) E' W' := by
  have hil : i < listed.size := by rw [hsz]; exact x.lt
  have hi1 := x.lt
  have hnn := c.n0 hi1
  have hn1 := c.n1 hi1
  have hgn : (gs i).next = (hs (i + 1)).next := by rw [c.hs1 i o x.op]
  have hold : ∀ b, b < W.heap.size → W'.heap[b]? = W.heap[b]? := fun b hb => y.keepC b hb fun k d h1 h2 => hnone k d b h1 h2
  have hnew : ∀ id b d, E id = none → E' id = some (b, d) → (hs i).next ≤ id ∧ id < (hs (i + 1)).next ∧ W.heap.size ≤ b := fun id b d h1 h2 => by
    obtain ⟨g1, g2, g3⟩ := y.fresh id b d h1 h2
    rw [hvn] at g1
    rw [hgn] at g2
    refine ⟨g1, g2, ?_⟩
    rcases g3 with g3 | ⟨k, d', g4, g5, g6⟩
    · exact g3
    · exact absurd g6 (hnone k d' b g4 g5)
  have hblk : ∀ id ob b d, Sn ops listed rc hs m id ob → E id = some (b, d) → b < W.heap.size := fun id ob b d h1 h2 => by
    obtain ⟨b', d', O, e1, e2, _⟩ := hobj id ob h1
    rw [h2] at e1
    cases e1
    exact (Array.getElem?_eq_some_iff.1 e2).1
  have hEi : ∀ id, (hs i).next ≤ id → id < (hs (i + 1)).next → E id = none := fun id h1 h2 => inv.free i hi1 x.un id (by rw [hnn]; exact h1) (by rw [hn1]; exact h2)
  refine ⟨⟨m, hf.set hil him, fun id ob h => ?_, fun p q op oq b d d' hp hq ep eq => ?_⟩, fun k hk hd id h1 h2 => ?_, fun id h1 h2 => ?_, inv.x.step y ?_ ?_ ?_⟩
  · rcases hsee2 id ob h with ⟨_, _, h3⟩ | ⟨h3, _⟩
    · exact hr'.obj id ob h3
    · obtain ⟨b, d, O, e1, e2, e3⟩ := hobj id ob h3
      exact ⟨b, d, O, y.le _ _ e1, by rw [hold b (hblk id ob b d h3 e1)]; exact e2, e3.mono y.le⟩
  · rcases hsee2 p op hp with ⟨p1, p2, p3⟩ | ⟨p3, _⟩ <;> rcases hsee2 q oq hq with ⟨q1, q2, q3⟩ | ⟨q3, _⟩
    · exact hr'.inj p q b d d' (by rw [p3]; rfl) (by rw [q3]; rfl) ep eq
    · obtain ⟨b2, d2, O, e1, e2, e3⟩ := hobj q oq q3
      have h5 := y.le _ _ e1
      rw [eq] at h5
      cases h5
      have h6 := (hnew p b d (hEi p p1 p2) ep).2.2
      have h7 := hblk q oq _ _ q3 e1
      omega
    · obtain ⟨b2, d2, O, e1, e2, e3⟩ := hobj p op p3
      have h5 := y.le _ _ e1
      rw [ep] at h5
      cases h5
      have h6 := (hnew q b d' (hEi q q1 q2) eq).2.2
      have h7 := hblk p op _ _ p3 e1
      omega
    · obtain ⟨b2, d2, O, e1, e2, e3⟩ := hobj p op p3
      obtain ⟨b3, d3, O', f1, f2, f3⟩ := hobj q oq q3
      have h5 := y.le _ _ e1
      have h6 := y.le _ _ f1
      rw [ep] at h5
      rw [eq] at h6
      cases h5
      cases h6
      exact hinj p q op oq _ _ _ p3 q3 e1 f1
  · have hd' : ¬ Don listed k := fun h => hd ((Don.set hil).2 (.inl h))
    have hki : k ≠ i := fun h => hd ((Don.set hil).2 (.inr h))
    cases h3 : E' id with
    | none => rfl
    | some p =>
      obtain ⟨g1, g2, g3⟩ := hnew id p.1 p.2 (inv.free k hk hd' id h1 h2) h3
      exfalso
      rw [c.n0 hk] at h1
      rw [c.n1 hk] at h2
      rcases Nat.lt_or_ge k i with h4 | h4
      · have := (c.mono (show k + 1 ≤ i from h4) (Nat.le_of_lt hi1)).nx
        omega
      · have := (c.mono (show i + 1 ≤ k by omega) (Nat.le_of_lt hk)).nx
        omega
  · cases h3 : E' id with
    | none => rfl
    | some p =>
      obtain ⟨g1, g2, g3⟩ := hnew id p.1 p.2 (inv.far id h1 h2) h3
      have := (c.mono (show i + 1 ≤ ops.size from hi1) (Nat.le_refl _)).nx
      omega
  · rw [hgn]
    exact (c.mono (show i + 1 ≤ ops.size from hi1) (Nat.le_refl _)).nx
  · rw [hvn]
    exact (c.mono (Nat.zero_le i) (Nat.le_of_lt hi1)).nx
  · exact fun k b d h1 h2 h3 => absurd h3 (hnone k d b h1 h2)
theorem Erl.of_set {listed : Array Bool} {i m id : Nat} {ob : AObj} (hil : i < listed.size) (h : Erl ops (listed.setIfInBounds i true) rc hs m id ob) : Erl ops listed rc hs m id ob ∨ (m ≤ i ∧ (rc i).n0 ≤ id ∧ id < (rc i).n1 ∧ (hs (i + 1)).t.get id = some ob) := by
  obtain ⟨k, h1, h2, h3, h4, h5, h6⟩ := h
  rcases (Don.set hil).1 h3 with h7 | h7
  · exact .inl ⟨k, h1, h2, h7, h4, h5, h6⟩
  · subst h7; exact .inr ⟨h1, h4, h5, h6⟩
/-- what is made by one is not made by another -/
theorem DC.apart_rng (c : DC P ops as hs rc vs gs masks kinds) {i k id : Nat} (hi : i < ops.size) (hk : k < ops.size) (hne : k ≠ i) (h1 : (rc k).n0 ≤ id) (h2 : id < (rc k).n1) : ¬ ((hs i).next ≤ id ∧ id < (hs (i + 1)).next) := by
  rintro ⟨h3, h4⟩
  rw [c.n0 hk] at h1
  rw [c.n1 hk] at h2
  rcases Nat.lt_or_ge k i with h5 | h5
  · have := (c.mono (show k + 1 ≤ i from h5) (Nat.le_of_lt hi)).nx
    omega
  · have := (c.mono (show i + 1 ≤ k by omega) (Nat.le_of_lt hk)).nx
    omega

/-- an operation that reads, or makes memory of its own -/
theorem MInv.quiet {top : Nat} {E0 E : Env} {W0 W : World} {listed : Array Bool} (c : DC P ops as hs rc vs gs masks kinds) (h0 : ∀ r ∈ (hs 0).hid, r.2 ≤ (hs 0).next) (hsz : listed.size = ops.size) (inv : MInv ops hs rc top E0 W0 listed E W) {i : Nat} {o : Oper} (x : Nx ops masks listed i o) (hty : (rc i).ty = 1) :
    HR (hs (i + 1)).next E (evHeap 1 (masks.getD i 0) (recsAt rc [] i) (hs i)) W ∧
    ∀ E' W', Ext E E' (evHeap 1 (masks.getD i 0) (recsAt rc [] i) (hs i)) (gs i) W W' → HR (hs (i + 1)).next E' (gs i) W' → MInv ops hs rc top E0 W0 (listed.setIfInBounds i true) E' W' := by
  have hil : i < listed.size := by rw [hsz]; exact x.lt
  obtain ⟨m, hf, hobj, hinj⟩ := inv.mem
  have hmN := hf.1
  -- i stands before m
  have him : i < m := by
    rcases Nat.lt_trichotomy i m with h | h | h
    · exact h
    · subst h; have := (hf.2.1 x.lt).1; omega
    · exfalso
      have hm : m < ops.size := by have := x.lt; omega
      obtain ⟨h1, h2⟩ := hf.2.1 hm
      rcases c.free_ x.lt h with h3 | h3
      · exact h2 (x.pre m h3)
      · simp [Ev.free, h1, hty] at h3
  -- between i and m nothing writes
  have hnw : ∀ k, i ≤ k → k < m → (rc k).ty ≠ 2 := fun k h1 h2 h3 => by
    have hd := hf.2.2 k h2 h3
    rcases Nat.lt_or_ge i k with h4 | h4
    · have hk : k < ops.size := by omega
      rcases c.free_ hk h4 with h5 | h5
      · exact x.post k h4 hk h5 hd
      · simp [Ev.free, h3, hty] at h5
    · obtain rfl : k = i := by omega
      omega
  have hkeep : ∀ id, id < (hs i).next → (hs m).t.get id = (hs i).t.get id := fun id hid => c.keeps hid (by omega) hmN fun k h1 h2 => c.keep (by omega) (hnw k h1 h2) (Nat.lt_of_lt_of_le hid (c.mono h1 (by omega)).nx)
  have hkeep1 : ∀ id, id < (hs (i + 1)).next → (hs m).t.get id = (hs (i + 1)).t.get id := fun id hid => c.keeps hid (by omega) hmN fun k h1 h2 => c.keep (by omega) (hnw k (by omega) h2) (Nat.lt_of_lt_of_le hid (c.mono h1 (by omega)).nx)
  have hi1 := x.lt
  have hnn := c.n0 hi1
  have hn1 := c.n1 hi1
  have hev : evHeap 1 (masks.getD i 0) (recsAt rc [] i) (hs i) = { hs i with lo := (hs i).next, hid := hideOf (masks.getD i 0) (recsAt rc [] i) i ++ (hs i).hid } := by
    unfold evHeap
    rw [if_pos rfl, DC.len]
  -- what is seen by it is seen
  have hsee : ∀ id ob, (evHeap 1 (masks.getD i 0) (recsAt rc [] i) (hs i)).get id = some ob → (gD listed rc hs m).get id = some ob ∧ id < (hs i).next ∧ (hs i).t.get id = some ob := fun id ob h => by
    rw [hev] at h
    unfold Heap.get at h
    split at h
    · cases h
    · rename_i hh
      have hlt : id < (hs i).next := by
        rcases Nat.lt_or_ge id (hs i).next with h1 | h1
        · exact h1
        · have h' : (hs i).t.get id = some ob := h
          rw [c.clean (Nat.le_of_lt hi1) id h1] at h'; cases h'
      rw [hidden_any] at hh
      simp only [List.any_append, Bool.or_eq_true, not_or] at hh
      refine ⟨gD_get.2 ⟨?_, ?_⟩, hlt, h⟩
      · rintro ⟨k, h1, h2, h3, h4⟩
        have hki : k < i := by
          rcases Nat.lt_or_ge k i with h5 | h5
          · exact h5
          · rw [c.n0 (by omega)] at h3
            have := (c.mono h5 (by omega)).nx
            omega
        refine hh.1 ((hideOf_iff rc _ id i).2 ⟨k, hki, ?_, h3, h4⟩)
        cases hb : (masks.getD i 0).testBit k
        · rfl
        · exact absurd (x.pre k hb) h2
      · unfold Heap.get
        rw [Heap.hidden_eq (show (hs m).hid = (hs i).hid by rw [c.hidc hmN, c.hidc (Nat.le_of_lt hi1)]), hidden_any, if_neg hh.2, hkeep id hlt]
        exact h
  have hrI : HR (hs (i + 1)).next E (evHeap 1 (masks.getD i 0) (recsAt rc [] i) (hs i)) W := by
    refine ⟨fun id ob h => hobj id ob (.inl (hsee id ob h).1), fun p q b d d' hp hq => ?_, fun id h1 h2 => ?_, fun r hr' => ?_, fun id h1 => ?_⟩
    · obtain ⟨op, hop⟩ := Option.isSome_iff_exists.1 hp
      obtain ⟨oq, hoq⟩ := Option.isSome_iff_exists.1 hq
      exact hinj p q op oq b d d' (.inl (hsee p op hop).1) (.inl (hsee q oq hoq).1)
    · rw [evHeap_next] at h1
      exact inv.free i hi1 x.un id (by rw [hnn]; exact h1) (by rw [hn1]; exact h2)
    · rw [evHeap_next]
      rw [hev] at hr'
      have hr'' : r ∈ hideOf (masks.getD i 0) (recsAt rc [] i) i ++ (hs i).hid := hr'
      rcases List.mem_append.1 hr'' with h | h
      · have : ∀ {i : Nat} (_ : i ≤ ops.size) {r : Nat × Nat} {mk : Nat}, r ∈ hideOf mk (recsAt rc [] i) i → r.2 ≤ (hs i).next := by
          intro i
          induction i with
          | zero => intro _ r mk h; simp [recsAt, hideOf] at h
          | succ i ih =>
            intro hi r mk h
            simp only [recsAt, hideOf, Nat.add_sub_cancel] at h
            have hm' := (c.mono (show i ≤ i + 1 by omega) hi).nx
            split at h
            · exact Nat.le_trans (ih (by omega) h) hm'
            · rcases List.mem_cons.1 h with h | h
              · subst h; show (rc i).n1 ≤ _; rw [c.n1 (by omega)]; exact Nat.le_refl _
              · exact Nat.le_trans (ih (by omega) h) hm'
        exact this (Nat.le_of_lt hi1) h
      · rw [c.hidc (Nat.le_of_lt hi1)] at h
        exact Nat.le_trans (h0 r h) (c.mono (Nat.zero_le i) (Nat.le_of_lt hi1)).nx
    · rw [evHeap_next] at h1
      rw [evHeap_t]
      exact c.clean (Nat.le_of_lt hi1) id h1
  refine ⟨hrI, fun E' W' y hr' => ?_⟩
  have hlo : (evHeap 1 (masks.getD i 0) (recsAt rc [] i) (hs i)).lo = (hs i).next := by rw [hev]
  have hnone : ∀ k d b, (evHeap 1 (masks.getD i 0) (recsAt rc [] i) (hs i)).lo ≤ k → ((evHeap 1 (masks.getD i 0) (recsAt rc [] i) (hs i)).get k).isSome → E k ≠ some (b, d) := fun k d b h1 h2 => by
    obtain ⟨ob, hob⟩ := Option.isSome_iff_exists.1 h2
    have := (hsee k ob hob).2.1
    rw [hlo] at h1
    omega
  have hgs : (hs (i + 1)).t = (gs i).t := by rw [c.hs1 i o x.op]
  have hgh : (gs i).hid = hideOf (masks.getD i 0) (recsAt rc [] i) i ++ (hs i).hid := by
    rw [y.hid, hev]
  have hin1 := (c.mono (show i + 1 ≤ m from him) hmN).nx
  refine MInv.grown c hsz inv x hf hobj hinj (fun _ => Nat.ne_of_lt him) (evHeap_next _ _ _ _) hnone y hr' (fun id ob h => ?_)
  by_cases hin : (hs i).next ≤ id ∧ id < (hs (i + 1)).next
  · refine .inl ⟨hin.1, hin.2, ?_⟩
    rcases h with h | h
    · have h' := gD_get.1 h
      obtain ⟨hh, ht⟩ := Heap.get_some (h := hs m) (i := id) (by rw [h'.2]; rfl)
      rw [ht, hkeep1 id hin.2, hgs] at h'
      unfold Heap.get
      rw [if_neg]
      · exact h'.2
      · rw [hidden_any, hgh, List.any_append]
        simp only [Bool.or_eq_true, not_or]
        refine ⟨fun hx => ?_, ?_⟩
        · obtain ⟨k, h1, _, _, h4⟩ := (hideOf_iff rc _ id i).1 hx
          rw [c.n1 (by omega)] at h4
          have := (c.mono (show k + 1 ≤ i by omega) (Nat.le_of_lt hi1)).nx
          omega
        · rw [← hidden_any, Heap.hidden_eq (show (hs i).hid = (hs m).hid by rw [c.hidc hmN, c.hidc (Nat.le_of_lt hi1)]), hh]
          simp
    · exfalso
      rcases h.of_set hil with ⟨k, h1, h2, h3, h4, h5, h6⟩ | ⟨h1, _⟩
      · exact c.apart_rng hi1 h2 (by omega) h4 h5 hin
      · omega
  · refine .inr ⟨?_, hin⟩
    rcases h with h | h
    · have h' := gD_get.1 h
      refine .inl (gD_get.2 ⟨?_, h'.2⟩)
      rintro ⟨k, h1, h2, h3, h4⟩
      by_cases hk : k = i
      · subst hk; rw [hnn] at h3; rw [hn1] at h4; exact hin ⟨h3, h4⟩
      · exact h'.1 ⟨k, h1, fun hd => ((Don.set hil).1 hd).elim h2 hk, h3, h4⟩
    · rcases h.of_set hil with h | ⟨h1, _⟩
      · exact .inr h
      · omega

/-- an operation that reads no memory, and may have been done before one that writes and stands before it -/
theorem MInv.make {top : Nat} {E0 E : Env} {W0 W : World} {listed : Array Bool} (c : DC P ops as hs rc vs gs masks kinds) (hsz : listed.size = ops.size) (inv : MInv ops hs rc top E0 W0 listed E W) {i : Nat} {o : Oper} (x : Nx ops masks listed i o) (hty : (rc i).ty = 4) :
    HR (hs (i + 1)).next E (evHeap 4 (masks.getD i 0) (recsAt rc [] i) (hs i)) W ∧
    ∀ E' W', Ext E E' (evHeap 4 (masks.getD i 0) (recsAt rc [] i) (hs i)) (gs i) W W' → HR (hs (i + 1)).next E' (gs i) W' → MInv ops hs rc top E0 W0 (listed.setIfInBounds i true) E' W' := by
  have hil : i < listed.size := by rw [hsz]; exact x.lt
  obtain ⟨m, hf, hobj, hinj⟩ := inv.mem
  have hmN := hf.1
  have hi1 := x.lt
  have hnn := c.n0 hi1
  have hn1 := c.n1 hi1
  have him : m < ops.size → i ≠ m := fun hm e => by
    subst e
    have := (hf.2.1 hm).1
    omega
  have hev : evHeap 4 (masks.getD i 0) (recsAt rc [] i) (hs i) = { hs i with lo := (hs i).next, hid := [(0, (hs i).next)] } := by
    unfold evHeap
    rw [if_neg (by decide), if_neg (by decide), if_pos rfl]
  have hdark : ∀ id, (evHeap 4 (masks.getD i 0) (recsAt rc [] i) (hs i)).get id = none := fun id => by
    rw [hev]
    unfold Heap.get
    split
    · rfl
    · rename_i hh
      rw [hidden_any] at hh
      have h1 : (hs i).next ≤ id := by
        rcases Nat.lt_or_ge id (hs i).next with h1 | h1
        · exfalso
          refine hh ?_
          simp only [List.any_cons, Bool.or_eq_true]
          exact .inl (inR_iff.2 ⟨Nat.zero_le _, h1⟩)
        · exact h1
      exact c.clean (Nat.le_of_lt hi1) id h1
  refine ⟨⟨fun id ob h => (by rw [hdark id] at h; cases h), fun p q b d d' hp => (by rw [hdark p] at hp; cases hp), fun id h1 h2 => ?_, fun r hr' => ?_, fun id h1 => ?_⟩, fun E' W' y hr' => ?_⟩
  · rw [evHeap_next] at h1
    exact inv.free i hi1 x.un id (by rw [hnn]; exact h1) (by rw [hn1]; exact h2)
  · rw [evHeap_next]
    rw [hev] at hr'
    rw [List.mem_singleton.1 hr']
    exact Nat.le_refl _
  · rw [evHeap_next] at h1
    rw [evHeap_t]
    exact c.clean (Nat.le_of_lt hi1) id h1
  have hgs : (hs (i + 1)).t = (gs i).t := by rw [c.hs1 i o x.op]
  have hgh : (gs i).hid = [(0, (hs i).next)] := by rw [y.hid, hev]
  have hshow : ∀ id ob, (hs i).next ≤ id → (hs (i + 1)).t.get id = some ob → (gs i).get id = some ob := fun id ob h1 h2 => by
    unfold Heap.get
    rw [if_neg]
    · rw [← hgs]; exact h2
    · rw [hidden_any, hgh]
      simp only [List.any_cons, List.any_nil, Bool.or_false]
      intro hx
      have := inR_iff.1 hx
      omega
  refine MInv.grown c hsz inv x hf hobj hinj him (evHeap_next _ _ _ _) (fun k d b _ h2 => (by rw [hdark k] at h2; cases h2)) y hr' (fun id ob h => ?_)
  by_cases hin : (hs i).next ≤ id ∧ id < (hs (i + 1)).next
  · refine .inl ⟨hin.1, hin.2, hshow id ob hin.1 ?_⟩
    rcases h with h | h
    · have h' := gD_get.1 h
      obtain ⟨hh, ht⟩ := Heap.get_some (h := hs m) (i := id) (by rw [h'.2]; rfl)
      rw [ht] at h'
      have hlt : id < (hs m).next := by
        rcases Nat.lt_or_ge id (hs m).next with h1 | h1
        · exact h1
        · rw [c.clean hmN id h1] at h'; cases h'.2
      have him' : i < m := by
        rcases Nat.lt_or_ge i m with h1 | h1
        · exact h1
        · have := (c.mono h1 (Nat.le_of_lt hi1)).nx
          omega
      -- between i and m nothing writes
      have hnw : ∀ k, i ≤ k → k < m → (rc k).ty ≠ 2 := fun k h1 h2 h3 => by
        have hd := hf.2.2 k h2 h3
        rcases Nat.lt_or_ge i k with h4 | h4
        · have hk : k < ops.size := by omega
          rcases c.free_ hk h4 with h5 | h5
          · exact x.post k h4 hk h5 hd
          · simp [Ev.free, h3, hty] at h5
        · obtain rfl : k = i := by omega
          omega
      rw [← c.keeps hin.2 (show i + 1 ≤ m from him') hmN fun k h1 h2 => c.keep (by omega) (hnw k (by omega) h2) (Nat.lt_of_lt_of_le hin.2 (c.mono h1 (by omega)).nx)]
      exact h'.2
    · rcases h.of_set hil with ⟨k, h1, h2, h3, h4, h5, h6⟩ | ⟨h1, h2, h3, h4⟩
      · exfalso
        exact c.apart_rng hi1 h2 (fun e => x.un (e ▸ h3)) h4 h5 hin
      · exact h4
  · refine .inr ⟨?_, hin⟩
    rcases h with h | h
    · have h' := gD_get.1 h
      refine .inl (gD_get.2 ⟨?_, h'.2⟩)
      rintro ⟨k, h1, h2, h3, h4⟩
      by_cases hk : k = i
      · subst hk; rw [hnn] at h3; rw [hn1] at h4; exact hin ⟨h3, h4⟩
      · exact h'.1 ⟨k, h1, fun hd => ((Don.set hil).1 hd).elim h2 hk, h3, h4⟩
    · rcases h.of_set hil with h | ⟨h1, h2, h3, h4⟩
      · exact .inr h
      · rw [hnn] at h2
        rw [hn1] at h3
        exact absurd ⟨h2, h3⟩ hin
end
end Go.Proofs.YtkebbdpfjhhdhaaGreat.Ev

/- A region that draws its order: the operation that writes, and the one that loads. -/
namespace Go.Proofs.YtkebbdpfjhhdhaaGreat.Ev
variable {P : Program}
section
variable {ops : Array Oper} {as : Nat → AAct} {hs : Nat → Heap} {rc : Nat → Rec} {vs : Nat → AV} {gs : Nat → Heap} {masks kinds : List Nat}

theorem firstFrom (rc : Nat → Rec) (N : Nat) : ∀ {j : Nat}, j ≤ N → ∃ m, j ≤ m ∧ m ≤ N ∧ (m < N → (rc m).ty = 2) ∧ ∀ k, j ≤ k → k < m → (rc k).ty ≠ 2 := by
  intro j hj
  induction hd : N - j generalizing j with
  | zero =>
    obtain rfl : j = N := by omega
    exact ⟨j, Nat.le_refl _, Nat.le_refl _, fun h => by omega, fun k h1 h2 => by omega⟩
  | succ d ih =>
    by_cases h : (rc j).ty = 2
    · exact ⟨j, Nat.le_refl _, hj, fun _ => h, fun k h1 h2 => by omega⟩
    · obtain ⟨m, h1, h2, h3, h4⟩ := ih (j := j + 1) (by omega) (by omega)
      refine ⟨m, by omega, h2, h3, fun k g1 g2 => ?_⟩
      by_cases e : k = j
      · subst e; exact h
      · exact h4 k (by omega) g2

/-- the operation that writes -/
theorem MInv.write {top : Nat} {E0 E : Env} {W0 W : World} {listed : Array Bool} (c : DC P ops as hs rc vs gs masks kinds) (h0 : ∀ r ∈ (hs 0).hid, r.2 ≤ (hs 0).next) (hE0 : ∀ k, (hs 0).next ≤ k → k < (hs ops.size).next → E0 k = none) (hsz : listed.size = ops.size) (inv : MInv ops hs rc top E0 W0 listed E W) {i : Nat} {o : Oper} (x : Nx ops masks listed i o) (hty : (rc i).ty = 2) :
    HR (hs (i + 1)).next E (hs i) W ∧ ∀ E' W', Ext E E' (hs i) (gs i) W W' → HR (hs (i + 1)).next E' (gs i) W' → MInv ops hs rc top E0 W0 (listed.setIfInBounds i true) E' W' := by
  have hil : i < listed.size := by rw [hsz]; exact x.lt
  obtain ⟨m, hf, hobj, hinj⟩ := inv.mem
  have hmN := hf.1
  have hi1 := x.lt
  have him : i = m := by
    rcases Nat.lt_trichotomy i m with h | h | h
    · exact absurd (hf.2.2 i h hty) x.un
    · exact h
    · exfalso
      have hm : m < ops.size := by omega
      obtain ⟨h1, h2⟩ := hf.2.1 hm
      rcases c.free_ x.lt h with h3 | h3
      · exact h2 (x.pre m h3)
      · simp [Ev.free, h1, hty] at h3
  subst him
  have hnn := c.n0 hi1
  have hn1 := c.n1 hi1
  -- those that write behind it
  have hund : ∀ k, i < k → k < ops.size → (rc k).ty = 2 → ¬ Don listed k := fun k h1 h2 h3 => by
    rcases c.free_ h2 h1 with h5 | h5
    · exact x.post k h1 h2 h5
    · simp [Ev.free, h3, hty] at h5
  -- those before it
  have hdon : ∀ k, k < i → (rc k).ty = 1 ∨ (rc k).ty = 2 ∨ (rc k).ty = 4 → Don listed k := fun k h1 h3 => by
    rcases h3 with h3 | h3 | h3
    · rcases c.free_ hi1 h1 with h5 | h5
      · exact x.pre k h5
      · simp [Ev.free, h3, hty] at h5
    · exact hf.2.2 k h1 h3
    · rcases c.free_ hi1 h1 with h5 | h5
      · exact x.pre k h5
      · simp [Ev.free, h3, hty] at h5
  have hget : ∀ id ob, (hs i).get id = some ob → (gD listed rc hs i).get id = some ob := fun id ob h => by
    refine gD_get.2 ⟨?_, h⟩
    rintro ⟨k, h1, h2, h3, h4⟩
    have hk : k < ops.size := by omega
    have := c.tyle hk
    by_cases hr03 : (rc k).ty = 0 ∨ (rc k).ty = 3
    · have := c.range hk hr03; omega
    · exact h2 (hdon k h1 (by omega))
  have hvis : ∀ id ob, (hs i).get id = some ob → id < (hs i).next := fun id ob h => by
    obtain ⟨_, ht⟩ := Heap.get_some (h := hs i) (i := id) (by rw [h]; rfl)
    rcases Nat.lt_or_ge id (hs i).next with h5 | h5
    · exact h5
    · rw [ht, c.clean hmN id h5] at h; cases h
  refine ⟨⟨fun id ob h => hobj id ob (.inl (hget id ob h)), fun p q b d d' hp hq => ?_, fun id h1 h2 => inv.free i hi1 x.un id (by rw [hnn]; exact h1) (by rw [hn1]; exact h2), fun r h => ?_, c.clean hmN⟩, fun E' W' y hr' => ?_⟩
  · obtain ⟨op, hop⟩ := Option.isSome_iff_exists.1 hp
    obtain ⟨oq, hoq⟩ := Option.isSome_iff_exists.1 hq
    exact hinj p q op oq b d d' (.inl (hget p op hop)) (.inl (hget q oq hoq))
  · rw [c.hidc hmN] at h
    exact Nat.le_trans (h0 r h) (c.mono (Nat.zero_le i) hmN).nx
  · obtain ⟨m', g1, g2, g3, g4⟩ := firstFrom rc ops.size (j := i + 1) hi1
    have hgt : (hs (i + 1)).t = (gs i).t := by rw [c.hs1 i o x.op]
    have hgn : (gs i).next = (hs (i + 1)).next := by rw [c.hs1 i o x.op]
    have hii := (c.mono (show i ≤ i + 1 by omega) (show i + 1 ≤ ops.size from hi1)).nx
    have hdon' : ∀ k, k ≠ i → ¬ Don listed k → ¬ Don (listed.setIfInBounds i true) k := fun k h1 h2 hd => ((Don.set hil).1 hd).elim h2 h1
    -- what is there now: what the operation sees, or what had been made behind it
    have hsee : ∀ id ob, Sn ops (listed.setIfInBounds i true) rc hs m' id ob → (gs i).get id = some ob ∨ ((hs (i + 1)).next ≤ id ∧ Erl ops listed rc hs i id ob) := fun id ob h => by
      rcases h with h | h
      · have h' := gD_get.1 h
        obtain ⟨hh, ht⟩ := Heap.get_some (h := hs m') (i := id) (by rw [h'.2]; rfl)
        rw [ht] at h'
        have hlt : id < (hs m').next := by
          rcases Nat.lt_or_ge id (hs m').next with h1 | h1
          · exact h1
          · have := c.clean g2 id h1; rw [this] at h'; cases h'.2
        rcases Nat.lt_or_ge id (hs (i + 1)).next with hlt1 | hlt1
        · refine .inl ?_
          have hk := c.keeps (i := i + 1) hlt1 g1 g2 fun k k1 k2 => c.keep (by omega) (g4 k k1 k2) (Nat.lt_of_lt_of_le hlt1 (c.mono k1 (by omega)).nx)
          rw [hk, hgt] at h'
          unfold Heap.get
          rw [if_neg]
          · exact h'.2
          · rw [Heap.hidden_eq (show (gs i).hid = (hs m').hid by rw [y.hid, c.hidc g2, c.hidc hmN]), hh]
            simp
        · refine .inr ⟨hlt1, ?_⟩
          obtain ⟨k, k1, k2, k3, k4⟩ := c.owner hlt1 g1 g2 hlt
          have hk : k < ops.size := by omega
          have hd : Don (listed.setIfInBounds i true) k := by
            refine Classical.byContradiction fun hd => h'.1 ⟨k, k2, hd, k3, k4⟩
          have hd' : Don listed k := by
            rcases (Don.set hil).1 hd with h5 | h5
            · exact h5
            · omega
          have k4' : id < (hs (k + 1)).next := by rw [← c.n1 hk]; exact k4
          refine ⟨k, by omega, hk, hd', k3, k4, ?_⟩
          rw [← c.keeps k4' (show k + 1 ≤ m' from k2) g2 fun j j1 j2 => c.keep (by omega) (g4 j (by omega) j2) (Nat.lt_of_lt_of_le k4' (c.mono j1 (by omega)).nx)]
          exact h'.2
      · obtain ⟨k, h1, h2, h3, h4, h5, h6⟩ := h
        have hd' : Don listed k := by
          rcases (Don.set hil).1 h3 with h7 | h7
          · exact h7
          · omega
        refine .inr ⟨?_, k, by omega, h2, hd', h4, h5, h6⟩
        rw [c.n0 h2] at h4
        exact Nat.le_trans (c.mono (show i + 1 ≤ k by omega) (Nat.le_of_lt h2)).nx h4
    have hside : ∀ id ob b d, (hs (i + 1)).next ≤ id → Erl ops listed rc hs i id ob → E id = some (b, d) → ∀ k e, ((hs i).get k).isSome → E k ≠ some (b, e) := fun id ob b d h1 h2 h3 k e h4 h5 => by
      obtain ⟨ok, hok⟩ := Option.isSome_iff_exists.1 h4
      have := hinj k id ok ob b e d (.inl (hget k ok hok)) (.inr h2) h5 h3
      have := hvis k ok hok
      omega
    have hfar : ∀ p op, (gs i).get p = some op → ∀ q oq b d d', (hs (i + 1)).next ≤ q → Erl ops listed rc hs i q oq → E' p = some (b, d) → E' q = some (b, d') → False := fun p op hp q oq b d d' h1 h2 ep eq => by
      obtain ⟨b2, d2, O, e1, e2, _⟩ := hobj q oq (.inr h2)
      have h5 := y.le _ _ e1
      rw [eq] at h5
      cases h5
      have hb := (Array.getElem?_eq_some_iff.1 e2).1
      have hno := hside q oq _ _ h1 h2 e1
      cases he : E p with
      | none =>
        obtain ⟨q1, q2, q3⟩ := y.fresh p _ _ he ep
        rcases q3 with q3 | ⟨k, d3, q4, q5, q6⟩
        · omega
        · exact hno k d3 q5 q6
      | some r =>
        have h6 := y.le _ _ he
        rw [ep] at h6
        cases h6
        have hpl : p < (hs i).next := by
          rcases Nat.lt_or_ge p (hs i).next with h7 | h7
          · exact h7
          · exfalso
            have hpg : p < (hs (i + 1)).next := by
              rcases Nat.lt_or_ge p (hs (i + 1)).next with h8 | h8
              · exact h8
              · obtain ⟨_, ht⟩ := Heap.get_some (h := gs i) (i := p) (by rw [hp]; rfl)
                rw [ht, ← hgt, c.clean (show i + 1 ≤ ops.size from hi1) p h8] at hp
                cases hp
            rw [inv.free i hi1 x.un p (by rw [hnn]; exact h7) (by rw [hn1]; exact hpg)] at he
            cases he
        exact hno p d (y.dead p hpl (by rw [hp]; rfl)) he
    refine ⟨⟨m', ⟨g2, fun h => ⟨g3 h, hdon' m' (by omega) (hund m' (by omega) h (g3 h))⟩, fun k hk h2 => ?_⟩, fun id ob h => ?_, fun p q op oq b d d' hp hq ep eq => ?_⟩, fun k hk hd id h1 h2 => ?_, fun id h1 h2 => ?_, inv.x.step y ?_ ?_ ?_⟩
    · by_cases e : k = i
      · exact (Don.set hil).2 (.inr e)
      · rcases Nat.lt_or_ge k i with h5 | h5
        · exact (Don.set hil).2 (.inl (hdon k h5 (.inr (.inl h2))))
        · exact absurd h2 (g4 k (by omega) hk)
    · rcases hsee id ob h with h1 | ⟨h1, h2⟩
      · exact hr'.obj id ob h1
      · obtain ⟨b, d, O, e1, e2, e3⟩ := hobj id ob (.inr h2)
        refine ⟨b, d, O, y.le _ _ e1, ?_, e3.mono y.le⟩
        rw [y.keepC b (Array.getElem?_eq_some_iff.1 e2).1 fun k d' _ h4 => hside id ob b d h1 h2 e1 k d' h4]
        exact e2
    · rcases hsee p op hp with p1 | ⟨p1, p2⟩ <;> rcases hsee q oq hq with q1 | ⟨q1, q2⟩
      · exact hr'.inj p q b d d' (by rw [p1]; rfl) (by rw [q1]; rfl) ep eq
      · exact (hfar p op p1 q oq b d d' q1 q2 ep eq).elim
      · exact (hfar q oq q1 p op b d' d p1 p2 eq ep).elim
      · obtain ⟨b2, d2, O, e1, e2, e3⟩ := hobj p op (.inr p2)
        obtain ⟨b3, d3, O', f1, f2, f3⟩ := hobj q oq (.inr q2)
        have h5 := y.le _ _ e1
        have h6 := y.le _ _ f1
        rw [ep] at h5
        rw [eq] at h6
        cases h5
        cases h6
        exact hinj p q op oq _ _ _ (.inr p2) (.inr q2) e1 f1
    · have hki : k ≠ i := fun h => hd ((Don.set hil).2 (.inr h))
      have hd' : ¬ Don listed k := fun h => hd ((Don.set hil).2 (.inl h))
      cases h3 : E' id with
      | none => rfl
      | some p =>
        obtain ⟨q1, q2, _⟩ := y.fresh id p.1 p.2 (inv.free k hk hd' id h1 h2) h3
        exfalso
        rw [hgn] at q2
        exact c.apart_rng hi1 hk hki h1 h2 ⟨q1, q2⟩
    · cases h3 : E' id with
      | none => rfl
      | some p =>
        obtain ⟨q1, q2, _⟩ := y.fresh id p.1 p.2 (inv.far id h1 h2) h3
        rw [hgn] at q2
        have := (c.mono (show i + 1 ≤ ops.size from hi1) (Nat.le_refl _)).nx
        omega
    · rw [hgn]
      exact (c.mono (show i + 1 ≤ ops.size from hi1) (Nat.le_refl _)).nx
    · exact (c.mono (Nat.zero_le i) hmN).nx
    · intro k b d h1 h2 h3
      have ab := c.mono (Nat.zero_le i) hmN
      have hkn : k < (hs i).next := by
        rcases Nat.lt_or_ge k (hs i).next with h5 | h5
        · exact h5
        · obtain ⟨_, ht⟩ := Heap.get_some h2
          rw [ht, c.clean hmN k h5] at h2; cases h2
      cases he : E0 k with
      | none =>
        obtain ⟨q1, q2, q3⟩ := inv.x.fresh k b d he h3
        rcases q3 with q3 | ⟨q, d', q4, q5, q6⟩
        · exact .inl q3
        · exact .inr ⟨q, d', q4, q5, q6⟩
      | some p =>
        have := inv.x.le k p he
        rw [h3] at this
        cases this
        have hk0 : k < (hs 0).next := by
          rcases Nat.lt_or_ge k (hs 0).next with h5 | h5
          · exact h5
          · have := hE0 k h5 (Nat.lt_of_lt_of_le hkn (c.mono hmN (Nat.le_refl _)).nx)
            rw [this] at he; cases he
        refine .inr ⟨k, d, by rw [← ab.lo]; exact h1, ?_, he⟩
        obtain ⟨hh, ht⟩ := Heap.get_some h2
        rw [ht] at h2
        unfold Heap.get
        rw [if_neg]
        · exact ab.dead k hk0 h2
        · rw [← Heap.hidden_eq ab.hid, hh]; simp

/-- the block that an operation loads from is there -/
theorem MInv.sees {top : Nat} {E0 E : Env} {W0 W : World} {listed : Array Bool} (c : DC P ops as hs rc vs gs masks kinds) (hcl : Closed ops (Don listed)) (inv : MInv ops hs rc top E0 W0 listed E W) {i : Nat} {o : Oper} (x : Nx ops masks listed i o) (hty : (rc i).ty = 3) {B : Nat} {obj : AObj} (hB : (rc i).blk = some (B + 1)) (hg : (evHeap 3 (masks.getD i 0) (recsAt rc [] i) (hs i)).get B = some obj) :
    ∃ b d O, E B = some (b, d) ∧ W.heap[b]? = some O ∧ OR E B obj O := by
  obtain ⟨m, hf, hobj, _⟩ := inv.mem
  have hmN := hf.1
  have hi1 := x.lt
  have hev : evHeap 3 (masks.getD i 0) (recsAt rc [] i) (hs i) = { hs i with hid := hideOf (masks.getD i 0) (recsAt rc [] i) i ++ (hs i).hid } := by
    unfold evHeap
    rw [if_neg (by decide), if_pos rfl, DC.len]
  rw [hev] at hg
  unfold Heap.get at hg
  split at hg
  · cases hg
  rename_i hh
  have hgt : (hs i).t.get B = some obj := hg
  have hlt : B < (hs i).next := by
    rcases Nat.lt_or_ge B (hs i).next with h1 | h1
    · exact h1
    · rw [c.clean (Nat.le_of_lt hi1) B h1] at hgt; cases hgt
  rw [hidden_any] at hh
  simp only [List.any_append, Bool.or_eq_true, not_or] at hh
  have hvis : ∀ k, k < i → (rc k).n0 ≤ B → B < (rc k).n1 → (masks.getD i 0).testBit k = true := fun k h1 h2 h3 => by
    cases hb : (masks.getD i 0).testBit k
    · exact absurd ((hideOf_iff rc _ B i).2 ⟨k, h1, hb, h2, h3⟩) hh.1
    · rfl
  have hno : ¬ ∃ k, k < m ∧ ¬ Don listed k ∧ (rc k).n0 ≤ B ∧ B < (rc k).n1 := by
    rintro ⟨k, h1, h2, h3, h4⟩
    have hk : k < ops.size := by omega
    rcases Nat.lt_or_ge k i with h5 | h5
    · exact h2 (x.pre k (hvis k h5 h3 h4))
    · rw [c.n0 hk] at h3
      have := (c.mono h5 (Nat.le_of_lt hk)).nx
      omega
  -- one that writes, without order to this one, leaves the block alone
  have hst : ∀ k, k < ops.size → B < (hs k).next → (rc k).ty = 2 → Ev.free (rc k) (rc i) = true ∨ Ev.free (rc i) (rc k) = true → (hs (k + 1)).t.get B = (hs k).t.get B := fun k hk hBk h2 hf' => by
    obtain ⟨ok, hok⟩ := c.has hk
    rw [c.hs1 k ok hok]
    rcases (c.at_ k ok hok).how with ⟨_, h3, _⟩ | ⟨_, _, h3, _, _, _, _, _, h4⟩
    · omega
    · have hj : ∃ j, (rc k).blk = some j ∧ j ≠ B + 1 := by
        rcases hf' with hf' | hf'
        · unfold Ev.free at hf'
          rw [if_neg (by omega), if_pos h2, hB, hty] at hf'
          cases hj : (rc k).blk with
          | none => rw [hj] at hf'; simp at hf'
          | some j => rw [hj] at hf'; exact ⟨j, rfl, by simpa using hf'⟩
        · unfold Ev.free at hf'
          rw [if_neg (by omega), if_neg (by omega), if_pos h2, hB, hty] at hf'
          cases hj : (rc k).blk with
          | none => rw [hj] at hf'; simp at hf'
          | some j => rw [hj] at hf'; exact ⟨j, rfl, fun e => by simp [e] at hf'⟩
      obtain ⟨j, hj, hne⟩ := hj
      rw [h3] at hj
      exact h4 j hj B hBk (Ne.symm hne)
  have fin : (hs m).t.get B = some obj → ∃ b d O, E B = some (b, d) ∧ W.heap[b]? = some O ∧ OR E B obj O := fun hkeep => hobj B obj (.inl (gD_get.2 ⟨hno, by
    unfold Heap.get
    rw [Heap.hidden_eq (show (hs m).hid = (hs i).hid by rw [c.hidc hmN, c.hidc (Nat.le_of_lt hi1)]), hidden_any, if_neg hh.2]
    exact hkeep⟩))
  rcases Nat.le_total i m with h | h
  · refine fin ?_
    rw [c.keeps hlt h hmN fun k h1 h2 => ?_]
    · exact hgt
    · have hk : k < ops.size := by omega
      by_cases h3 : (rc k).ty = 2
      · have hd := hf.2.2 k h2 h3
        have hki : i < k := by
          rcases Nat.lt_or_ge i k with h4 | h4
          · exact h4
          · obtain rfl : k = i := by omega
            omega
        rcases c.free_ hk hki with h5 | h5
        · exact absurd hd (x.post k hki hk h5)
        · exact hst k hk (Nat.lt_of_lt_of_le hlt (c.mono h1 (Nat.le_of_lt hk)).nx) h3 (.inr h5)
      · exact c.keep hk h3 (Nat.lt_of_lt_of_le hlt (c.mono h1 (Nat.le_of_lt hk)).nx)
  · rcases Nat.lt_or_ge m ops.size with hm | hm
    · have hun := (hf.2.1 hm).2
      have hm2 := (hf.2.1 hm).1
      -- those that write behind m have not been done
      have hback : ∀ k, m ≤ k → k < ops.size → (rc k).ty = 2 → ¬ Don listed k := fun k h1 h2 h3 hd => by
        by_cases e : k = m
        · subst e; exact hun hd
        · rcases c.free_ h2 (show m < k by omega) with h5 | h5
          · exact hun (c.bef k h2 (Don listed) hcl (fun o' ho' e' he' hb' => hcl k o' ho' hd e' he' hb') m h5)
          · simp [Ev.free, h3, hm2] at h5
      have hstay : ∀ k, m ≤ k → k < i → B < (hs k).next → (hs (k + 1)).t.get B = (hs k).t.get B := fun k h1 h2 hBk => by
        have hk : k < ops.size := by omega
        by_cases h3 : (rc k).ty = 2
        · rcases c.free_ hi1 h2 with h5 | h5
          · exact absurd (x.pre k h5) (hback k h1 hk h3)
          · exact hst k hk hBk h3 (.inl h5)
        · exact c.keep hk h3 hBk
      rcases Nat.lt_or_ge B (hs m).next with hltm | h1
      · refine fin ?_
        rw [← c.keeps hltm h (Nat.le_of_lt hi1) fun k h1 h2 => hstay k h1 h2 (Nat.lt_of_lt_of_le hltm (c.mono h1 (by omega)).nx)]
        exact hgt
      · obtain ⟨k, k1, k2, k3, k4⟩ := c.owner h1 h (Nat.le_of_lt hi1) hlt
        have hk : k < ops.size := by omega
        have k4' : B < (hs (k + 1)).next := by rw [← c.n1 hk]; exact k4
        refine hobj B obj (.inr ⟨k, k1, hk, x.pre k (hvis k k2 k3 k4), k3, k4, ?_⟩)
        rw [← c.keeps k4' (show k + 1 ≤ i from k2) (Nat.le_of_lt hi1) fun j j1 j2 => hstay j (by omega) j2 (Nat.lt_of_lt_of_le k4' (c.mono j1 (by omega)).nx)]
        exact hgt
    · omega
end
end Go.Proofs.YtkebbdpfjhhdhaaGreat.Ev

/- A region that draws its order: all of it. -/
namespace Go.Proofs.YtkebbdpfjhhdhaaGreat.Ev
variable {P : Program}
section
variable {ops : Array Oper} {as : Nat → AAct} {hs : Nat → Heap} {rc : Nat → Rec} {vs : Nat → AV} {gs : Nat → Heap} {masks kinds : List Nat}

theorem DInv.done {top : Nat} {E0 E E' : Env} {W0 W W' : World} {A : Act} {listed : Array Bool} (c : DC P ops as hs rc vs gs masks kinds) (inv : DInv P ops as hs rc top E0 W0 listed E A W) {i : Nat} {o : Oper} (x : Nx ops masks listed i o) (hle : E.le E') {V : Value} (hV : VR E' (vs i) V)
    (hm : MInv ops hs rc top E0 W0 (listed.setIfInBounds i true) E' W') : DInv P ops as hs rc top E0 W0 (listed.setIfInBounds i true) E' (A.put o.dst V) W' := by
  have hil : i < listed.size := by rw [inv.sz]; exact x.lt
  refine ⟨by simp [inv.sz], fun k ok hk hd e he hb => (Don.set hil).2 (.inl ?_), ?_, ?_, inv.tmStep c x hle hV, hm⟩
  · rcases (Don.set hil).1 hd with h | h
    · exact inv.cl k ok hk h e he hb
    · subst h; rw [x.op] at hk; cases hk; exact x.ed e he hb
  · cases o.dst with
    | none => exact inv.tmsz
    | some d => simpa [Act.put] using inv.tmsz
  · have : (A.put o.dst V).defers = A.defers := by cases o.dst <;> rfl
    rw [this]; exact inv.de.mono hle

theorem DInv.step {top : Nat} {E0 E : Env} {W0 W : World} {A : Act} {listed : Array Bool} (c : DC P ops as hs rc vs gs masks kinds) (h0 : ∀ r ∈ (hs 0).hid, r.2 ≤ (hs 0).next) (hE0 : ∀ k, (hs 0).next ≤ k → k < (hs ops.size).next → E0 k = none) (htop : (hs ops.size).next ≤ top) (inv : DInv P ops as hs rc top E0 W0 listed E A W) {i : Nat} {o : Oper} (x : Nx ops masks listed i o)
    {rb : Option Nat} {n : Nat} {Q : Exit → Act → World → Prop} {K : Act → World → Prop} (hK : ∀ E' A' W', DInv P ops as hs rc top E0 W0 (listed.setIfInBounds i true) E' A' W' → K A' W') : wpOpIn (FF rb) n P ops Q i K A W := by
  unfold wpOpIn
  rw [x.op]
  simp only
  have hw := wanted_eq' (E := E) (a := as i) (A := A) o (by rw [inv.tmsz, (c.size (Nat.le_of_lt x.lt)).1]) (fun t ht => inv.look c x ht)
  rw [hw]
  have hR := inv.opR c x
  have hat := c.at_ i o x.op
  rcases hat.how with ⟨h1, h2, h3, h4⟩ | ⟨h1, h2, hblk, h4, h5, h6, h7, h8, h9⟩
  · rw [h1, if_neg (by simp)]
    refine ⟨fun _ _ => FF_fn _ _, hK E _ _ (inv.done c x E.le_refl (by rw [h3]; exact VR.undef) (inv.m.still c inv.sz x (.inl h2)))⟩
  · rw [h1, if_pos rfl]
    rw [DC.len] at h2 h4 h5 h6 h7 h8
    have hty := c.tyle x.lt
    have hk := c.kind i o x.op
    have hgn : (gs i).next = (hs (i + 1)).next := by rw [c.hs1 i o x.op]
    rcases (show (rc i).ty = 0 ∨ (rc i).ty = 1 ∨ (rc i).ty = 2 ∨ (rc i).ty = 3 ∨ (rc i).ty = 4 by omega) with ht | ht | ht | ht | ht
    · obtain ⟨_, hp⟩ := h7 (hk.1 (by rw [← h2, ht]))
      exact hp E W A rb n _ Q hR fun V hV => hK E _ _ (inv.done c x E.le_refl hV (inv.m.still c inv.sz x (.inl ht)))
    · obtain ⟨q1, q2⟩ := inv.m.quiet c h0 inv.sz x ht
      rw [ht] at h6
      exact h6.2 _ E W A rb n _ Q q1 (by rw [hgn]; exact Nat.le_refl _) hR fun E' W' V y hr' hV => hK E' _ _ (inv.done c x y.le hV (q2 E' W' y hr'))
    · obtain ⟨q1, q2⟩ := inv.m.write c h0 hE0 inv.sz x ht
      have hev : evHeap (rc i).ty (masks.getD i 0) (recsAt rc [] i) (hs i) = hs i := by
        unfold evHeap
        rw [if_neg (by omega), if_neg (by omega), if_neg (by omega)]
      rw [hev] at h6
      exact h6.2 _ E W A rb n _ Q q1 (by rw [hgn]; exact Nat.le_refl _) hR fun E' W' V y hr' hV => hK E' _ _ (inv.done c x y.le hV (q2 E' W' y hr'))
    · obtain ⟨_, hp0 | ⟨B, obj, hB, hg, hp⟩⟩ := h8 (hk.2.1 (by rw [← h2, ht]))
      · exact hp0 E W A rb n _ Q hR fun V hV => hK E _ _ (inv.done c x E.le_refl hV (inv.m.still c inv.sz x (.inr ht)))
      rw [ht] at hg
      exact hp E W A rb n _ Q hR (inv.m.sees c inv.cl x ht (by rw [hblk, hB]) hg) fun V hV => hK E _ _ (inv.done c x E.le_refl hV (inv.m.still c inv.sz x (.inr ht)))
    · obtain ⟨q1, q2⟩ := inv.m.make c inv.sz x ht
      rw [ht] at h6
      exact h6.2 _ E W A rb n _ Q q1 (by rw [hgn]; exact Nat.le_refl _) hR fun E' W' V y hr' hV => hK E' _ _ (inv.done c x y.le hV (q2 E' W' y hr'))

/-- how many are left -/
def left (listed : Array Bool) : Nat → Nat
  | 0 => 0
  | k + 1 => left listed k + (if listed.getD k false then 0 else 1)
theorem left_set {listed : Array Bool} {i : Nat} (hi : i < listed.size) (hd : ¬ Don listed i) : ∀ k, left (listed.setIfInBounds i true) k + (if i < k then 1 else 0) = left listed k
  | 0 => by simp [left]
  | k + 1 => by
    have ih := left_set hi hd k
    have hs := Don.set (k := k) hi
    unfold Don at hs hd
    simp only [left]
    by_cases hk : k = i
    · subst hk
      rw [if_pos (hs.2 (.inr rfl)), if_neg hd]
      simp at ih ⊢
      omega
    · have : (listed.setIfInBounds i true).getD k false = listed.getD k false := by
        cases h : listed.getD k false
        · cases h2 : (listed.setIfInBounds i true).getD k false
          · rfl
          · rcases hs.1 h2 with h3 | h3
            · rw [h] at h3; cases h3
            · exact absurd h3 hk
        · exact hs.2 (.inl h)
      rw [this]
      by_cases h2 : i < k
      · rw [if_pos h2] at ih; rw [if_pos (show i < k + 1 by omega)]; omega
      · rw [if_neg h2] at ih; rw [if_neg (show ¬ i < k + 1 by omega)]; omega
theorem left_zero {listed : Array Bool} : ∀ {n}, left listed n = 0 → ∀ k, k < n → Don listed k
  | 0, _, k, h => by omega
  | n + 1, h, k, hk => by
    simp only [left] at h
    by_cases e : k = n
    · subst e
      unfold Don
      split at h
      · assumption
      · omega
    · exact left_zero (n := n) (listed := listed) (by omega) k (by omega)

theorem all_done (c : DC P ops as hs rc vs gs masks kinds) {listed : Array Bool} (hsz : listed.size = ops.size) (h : Region.ready .any ops listed = []) : ∀ k, k < ops.size → Don listed k := by
  intro k
  induction k using Nat.strongRecOn with
  | _ k ih =>
    intro hk
    by_cases hd : Don listed k
    · exact hd
    · exfalso
      obtain ⟨o, ho⟩ := c.has hk
      have : k ∈ Region.ready .any ops listed := by
        refine mem_ready.2 ⟨?_, o, ho, fun e he hb => ?_⟩
        · unfold Don at hd
          have hl : k < listed.size := by omega
          simp only [Array.getD, hl, dif_pos] at hd ⊢
          simpa using hd
        · have h2 := c.edges k o ho e he hb
          exact ih e.on h2 (by omega)
      rw [h] at this
      cases this

theorem DInv.any {top : Nat} {E0 : Env} {W0 : World} (c : DC P ops as hs rc vs gs masks kinds) (h0 : ∀ r ∈ (hs 0).hid, r.2 ≤ (hs 0).next) (hE0 : ∀ k, (hs 0).next ≤ k → k < (hs ops.size).next → E0 k = none) (htop : (hs ops.size).next ≤ top) {rb : Option Nat} {n : Nat} {Q : Exit → Act → World → Prop}
    (hQ : ∀ listed E A W, DInv P ops as hs rc top E0 W0 listed E A W → (∀ k, k < ops.size → Don listed k) → Q .normal A W) :
    ∀ (fuel : Nat) {listed : Array Bool} {E : Env} {A : Act} {W : World}, left listed ops.size ≤ fuel → DInv P ops as hs rc top E0 W0 listed E A W → wpAnyIn (FF rb) n P .any ops Q fuel listed A W := by
  intro fuel
  induction fuel with
  | zero =>
    intro listed E A W hl inv
    have hall := left_zero (show left listed ops.size = 0 by omega)
    refine ⟨?_, hQ listed E A W inv hall⟩
    cases hr : Region.ready .any ops listed with
    | nil => rfl
    | cons i l =>
      exfalso
      obtain ⟨o, x⟩ := c.nx inv.sz inv.cl (i := i) (by rw [hr]; exact List.mem_cons_self)
      exact x.un (hall i x.lt)
  | succ fuel ih =>
    intro listed E A W hl inv
    refine ⟨fun hr => hQ listed E A W inv (all_done c inv.sz hr), fun i hi => ?_⟩
    obtain ⟨o, x⟩ := c.nx inv.sz inv.cl hi
    refine inv.step c h0 hE0 htop x fun E' A' W' inv' => ih ?_ inv'
    have := left_set (by rw [inv.sz]; exact x.lt) x.un ops.size
    rw [if_pos x.lt] at this
    omega

theorem HR.drew {top : Nat} {E : Env} {h : Heap} {W : World} (k : HR top E h W) : HR top E h { heap := W.heap, tape := W.tape, drawn := W.drawn + 1, os := W.os, output := W.output } := ⟨k.obj, k.inj, k.lt, k.hid, k.clean⟩

theorem DC.region (c : DC P ops as hs rc vs gs masks kinds) (hP : P.follows .mixedOrders = true) {top : Nat} {E : Env} {W : World} {A : Act} (k : HR top E (hs 0) W) (htop : (hs ops.size).next ≤ top) (ha : AR E (as 0) A) (rb : Option Nat) (n id : Nat) (v : AV) : (Code.region id ops true).wpIn (FF rb) n P (PC top E (hs 0) W ⟨.normal, v, as ops.size, hs ops.size⟩) A W := by
  have hE0 : ∀ i, (hs 0).next ≤ i → i < (hs ops.size).next → E i = none := fun i h1 h2 => k.lt i h1 (Nat.lt_of_lt_of_le h2 htop)
  refine wpIn_region_any hP (DInv.any (E0 := E) (W0 := W) (top := top) (E := E) c k.hid hE0 htop (fun listed E' A' W' inv hall => ?_) ops.size ?_ ?_)
  · have ab := c.mono (Nat.zero_le ops.size) (Nat.le_refl _)
    refine ⟨rfl, E', ⟨inv.m.x.le, ab.nx, ab.hid, ab.lo, ab.keep, fun i hi hs' => ?_, inv.m.x.fresh, inv.m.x.size, inv.m.x.keepC, inv.m.x.os, inv.m.x.tape, inv.m.x.output⟩, ?_, ⟨⟨?_, fun t => ?_⟩, ?_⟩⟩
    · obtain ⟨hh, ht⟩ := Heap.get_some hs'
      rw [ht] at hs'
      unfold Heap.get
      rw [if_neg]
      · exact ab.dead i hi hs'
      · rw [← Heap.hidden_eq ab.hid, hh]; simp
    · obtain ⟨m, hf, hobj, hinj⟩ := inv.m.mem
      have hm : m = ops.size := by
        rcases Nat.lt_or_ge m ops.size with h | h
        · exact absurd (hall m h) (hf.2.1 h).2
        · have := hf.1; omega
      subst hm
      have e : gD listed rc hs ops.size = hs ops.size := by
        have : unl listed rc ops.size = [] := by
          unfold unl
          rw [List.filterMap_eq_nil_iff]
          intro k hk
          have := hall k (by simpa using hk)
          unfold Don at this
          rw [if_pos this]
        unfold gD
        rw [this]
        rfl
      have hin : ∀ id o, (hs ops.size).get id = some o → Sn ops listed rc hs ops.size id o := fun id o h => .inl (by rw [e]; exact h)
      refine ⟨fun id o h => hobj id o (hin id o h), fun p q b d d' hp hq => ?_, inv.m.far, fun r hr => ?_, c.clean (Nat.le_refl _)⟩
      · obtain ⟨op, hop⟩ := Option.isSome_iff_exists.1 hp
        obtain ⟨oq, hoq⟩ := Option.isSome_iff_exists.1 hq
        exact hinj p q op oq b d d' (hin p op hop) (hin q oq hoq)
      · rw [c.hidc (Nat.le_refl _)] at hr
        exact Nat.le_trans (k.hid r hr) ab.nx
    · rw [inv.tmsz, (c.size (Nat.le_refl _)).1]
    · obtain ⟨m, hm, hw, hv⟩ := inv.tm t
      have : (as ops.size).at t = (as m).at t := c.at_eq hm (Nat.le_refl _) fun k ok h1 h2 hk hd => by
        have := (hw k ok hk hd).1 (hall k h2)
        omega
      unfold AAct.at at this hv
      rw [this]
      exact hv
    · rw [(c.size (Nat.le_refl _)).2]; exact inv.de
  · have : ∀ j, left (Array.replicate ops.size false) j = left (Array.replicate ops.size false) j := fun _ => rfl
    have hb : ∀ (l : Array Bool) j, left l j ≤ j := fun l j => by
      induction j with
      | zero => exact Nat.le_refl _
      | succ j ih => simp only [left]; split <;> omega
    exact hb _ _
  · have hno : ∀ k, ¬ Don (Array.replicate ops.size false) k := fun k h => by
      unfold Don at h
      by_cases hk : k < ops.size <;> simp [Array.getD, hk] at h
    obtain ⟨m, _, g2, g3, g4⟩ := firstFrom rc ops.size (j := 0) (Nat.zero_le _)
    have hget : ∀ id ob, (gD (Array.replicate ops.size false) rc hs m).get id = some ob → (hs 0).get id = some ob := fun id ob h => by
      have h' := gD_get.1 h
      obtain ⟨hh, ht⟩ := Heap.get_some (h := hs m) (i := id) (by rw [h'.2]; rfl)
      rw [ht] at h'
      have hlt : id < (hs 0).next := by
        rcases Nat.lt_or_ge id (hs 0).next with h1 | h1
        · exact h1
        · exfalso
          have hlt : id < (hs m).next := by
            rcases Nat.lt_or_ge id (hs m).next with h1 | h1
            · exact h1
            · have := c.clean g2 id h1; rw [this] at h'; cases h'.2
          obtain ⟨k, k1, k2, k3, k4⟩ := c.owner h1 (Nat.zero_le m) g2 hlt
          exact h'.1 ⟨k, k2, hno k, k3, k4⟩
      have hk := c.keeps (i := 0) hlt (Nat.zero_le m) g2 fun k k1 k2 => c.keep (by omega) (g4 k k1 k2) (Nat.lt_of_lt_of_le hlt (c.mono k1 (by omega)).nx)
      rw [hk] at h'
      unfold Heap.get
      rw [if_neg]
      · exact h'.2
      · rw [Heap.hidden_eq (show (hs 0).hid = (hs m).hid by rw [c.hidc g2]), hh]
        simp
    have hsn : ∀ id ob, Sn ops (Array.replicate ops.size false) rc hs m id ob → (hs 0).get id = some ob := fun id ob h => by
      rcases h with h | ⟨k, _, _, h3, _⟩
      · exact hget id ob h
      · exact absurd h3 (hno k)
    refine ⟨by simp, fun i o _ hd => absurd hd (hno i), ha.tm.1, ha.de, fun t => ⟨0, Nat.zero_le _, fun k o _ _ => ⟨fun hd => absurd hd (hno k), fun h => by omega⟩, ha.tm.2 t⟩, ⟨⟨m, ⟨g2, fun h => ⟨g3 h, hno m⟩, fun k hk h2 => absurd h2 (g4 k (Nat.zero_le _) hk)⟩, fun id ob h => k.obj id ob (hsn id ob h), fun p q op oq b d d' hp hq => k.inj p q b d d' (by rw [hsn p op hp]; rfl) (by rw [hsn q oq hq]; rfl)⟩, fun k hk _ id h1 h2 => ?_, fun i h1 h2 => k.lt i (Nat.le_trans (c.mono (Nat.zero_le _) (Nat.le_refl _)).nx h1) h2, ?_⟩⟩
    · rw [c.n0 hk] at h1
      rw [c.n1 hk] at h2
      exact hE0 id (Nat.le_trans (c.mono (Nat.zero_le k) (Nat.le_of_lt hk)).nx h1) (Nat.lt_of_lt_of_le h2 (c.mono (show k + 1 ≤ ops.size from hk) (Nat.le_refl _)).nx)
    · exact ⟨E.le_refl, fun i b d h1 h2 => (by rw [h1] at h2; cases h2), Nat.le_refl _, fun _ _ _ => rfl, rfl, rfl, rfl⟩

/-- the calculator's way through a region that draws its order holds for each order -/
theorem DTr.sound {a a' : AAct} {h h' : Heap} (hst : staticOk ops = true) (hcl : ∀ i, h.next ≤ i → h.t.get i = none)
    (t : DTr P ops (masksOf ops.toList []).reverse (kindsOf ops (masksOf ops.toList []).reverse) ops.toList [] a h a' h') (hP : P.follows .mixedOrders = true) {top : Nat} {E : Env} {W : World} {A : Act} (k : HR top E h W) (htop : h'.next ≤ top) (ha : AR E a A) (rb : Option Nat) (n id : Nat) (v : AV) : (Code.region id ops true).wpIn (FF rb) n P (PC top E h W ⟨.normal, v, a', h'⟩) A W := by
  obtain ⟨as, hs, rc, vs, gs, e1, e2, e3, e4, e5⟩ := t.funs
  simp only [Array.length_toList] at e3 e4
  obtain ⟨s1, s2, s3⟩ := static_spec hst
  have c : DC P ops as hs rc vs gs (masksOf ops.toList []).reverse (kindsOf ops (masksOf ops.toList []).reverse) := ⟨s1, s2, s3, fun i o ho => kinds_spec ho, fun i o ho => (e5 i o (by simpa using ho)).1, fun i o ho => (e5 i o (by simpa using ho)).2.1, fun i o ho => (e5 i o (by simpa using ho)).2.2, by rw [e2]; exact hcl⟩
  subst e1 e2 e3 e4
  exact c.region hP k htop ha rb n id v
end
end Go.Proofs.YtkebbdpfjhhdhaaGreat.Ev
