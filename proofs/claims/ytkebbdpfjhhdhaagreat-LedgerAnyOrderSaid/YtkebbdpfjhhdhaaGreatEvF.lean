/- A scope that nothing jumps in, in a fence. -/
import Derived.Test.YtkebbdpfjhhdhaaGreatEv3
import Derived.ControlIn
import Derived.Scope
import Derived.Below
namespace Go.Proofs.YtkebbdpfjhhdhaaGreat.Ev
variable {F : Fence} {n : Nat} {P : Program} {Q : Exit → Act → World → Prop} {a : Act} {w : World}
theorem stepR_scope {b : Frame} {k : List Item} {cs : List Frame} {c : Code} : step P (lone (b.atR a (.code (.scope c) :: k)) cs w) = .next (lone (b.atR a (.code c :: .inScope c :: k)) cs w) :=
  step_lone_go (by simp [stepG, stepG.exec, Frame.atR])
theorem stepR_inScope {b : Frame} {k : List Item} {cs : List Frame} {c : Code} : step P (lone (b.atR a (.inScope c :: k)) cs w) = .next (lone (b.atR a k) cs w) :=
  step_lone_go (by simp [stepG, stepG.exec, Frame.atR])
theorem wpIn_scope_straight {c : Code} (h : c.wpIn F n P (Exit.noGoto Q) a w) : (Code.scope c).wpIn F n P Q a w := by
  intro b k cs hro hb hr
  have h0 : (lone (b.atR a (.code (.scope c) :: k)) cs w).fenced P F := fenced_calm hb hr rfl
  obtain ⟨e, a₁, w₁, hq, harr⟩ := h b (.inScope c :: k) cs hro hb hr
  cases e with
  | normal => exact ⟨.normal, a₁, w₁, hq, .head h0 stepR_scope (StepsIn.trans harr (.one (fenced_calm hb hr rfl) stepR_inScope))⟩
  | exit id =>
    have hx : exitTo id (.inScope c :: k) = exitTo id k := by simp [exitTo]
    exact ⟨.exit id, a₁, w₁, hq, fun k' hk => .head h0 stepR_scope (harr.1 k' (by rw [hx]; exact hk)),
      fun hr' hk => let ⟨k₁, h1, h2⟩ := harr.2 hr' (by rw [hx]; exact hk); ⟨k₁, h1, .head h0 stepR_scope h2⟩⟩
  | goto l => exact hq.elim
  | ret => exact ⟨_, a₁, w₁, hq, .of_steps (.one h0 stepR_scope) harr⟩
  | panic ch => exact ⟨_, a₁, w₁, hq, .of_steps (.one h0 stepR_scope) harr⟩
  | outgrown => exact ⟨_, a₁, w₁, hq, .of_steps (.one h0 stepR_scope) harr⟩
end Go.Proofs.YtkebbdpfjhhdhaaGreat.Ev

/- What the calculator says holds. -/
namespace Go.Proofs.YtkebbdpfjhhdhaaGreat.Ev
variable {P : Program}

structure SoundB (P : Program) (r : Runs) : Prop where
  a : SoundA P r
  d : ∀ {ops masks kinds l recs a h o}, r (.drawn ops masks kinds l recs) a h = some o → o.ex = .normal ∧ DTr P ops masks kinds l recs a h o.a o.h
  b : AbsR r

theorem code_step (hP : P.follows .mixedOrders = true) {r : Runs} (s : SoundB P r) {rnd : Option Nat} {c : Code} {a : AAct} {h : Heap} {o : Out} (e : rCode r rnd c a h = some o) {top : Nat} {E : Env} {W : World} {A : Act} {rb : Option Nat} (k : HR top E h W) (ht : o.h.next ≤ top) (ha : AR E a A) (hrr : RR E rnd rb) (n : Nat) :
    c.wpIn (FF rb) n P (PC top E h W o) A W := by
  have hS := s.a
  cases c with
  | skip => cases e; exact wpIn_skip (PC.here k ha .normal aundef)
  | label l => cases e; exact wpIn_label (PC.here k ha .normal aundef)
  | exit id => cases e; exact wpIn_exit (PC.here k ha (.exit id) aundef)
  | ret => cases e; exact wpIn_ret (PC.here k ha .ret aundef)
  | scope c =>
    refine wpIn_scope_straight (wpIn_mono (hS.code (show r (.code rnd c) a h = some o from e) k ht ha hrr n) ?_)
    rintro e' A' W' p
    obtain ⟨rfl, rest⟩ := p
    obtain ⟨ex, v, a2, h2⟩ := o
    cases ex with
    | exit j => exact ⟨rfl, rest⟩
    | normal => exact ⟨rfl, rest⟩
    | ret => exact ⟨rfl, rest⟩
  | goto l => cases e
  | refuse m => cases e
  | region id ops b =>
    cases b with
    | false =>
      have h1 := hS.ops (i := 0) (show r (.ops ops ops.toList) a h = some o from e) (by simp) k ht ha (rb := rb) n
      rw [List.drop_zero] at h1
      exact wpIn_region h1
    | true =>
      unfold rCode at e
      simp only at e
      split at e
      · rename_i hst
        obtain ⟨h1, h2⟩ := s.d e
        obtain ⟨ex, v, a2, h3⟩ := o
        cases h1
        exact h2.sound hst k.clean hP k ht ha rb n id v
      · cases e
  | seq x y =>
    unfold rCode at e
    simp only [rSeq] at e
    split at e
    · rename_i v1 a1 h1 hr1
      have n2 := hS.next e
      refine wpIn_seq (wpIn_mono (hS.code hr1 k (Nat.le_trans n2 ht) ha hrr n) ?_)
      rintro e' A' W' ⟨rfl, E', x1, k1, ha1⟩
      exact wpIn_mono (hS.code e k1 ht ha1 (hrr.mono x1.le) n) fun _ _ _ p => PC.trans k k1 (Nat.le_trans n2 ht) x1 p
    · rename_i hne
      refine wpIn_seq (wpIn_mono (hS.code e k ht ha hrr n) ?_)
      rintro e' A' W' p
      have hex : o.ex.conc ≠ .normal := by
        obtain ⟨ex, v, a2, h2⟩ := o
        cases ex with
        | normal => exact absurd e (fun hh => hne _ _ _ hh)
        | exit id => simp [Ex.conc]
        | ret => simp [Ex.conc]
      obtain ⟨rfl, rest⟩ := p
      revert hex rest
      generalize hx : o.ex.conc = ec
      intro hex rest
      cases ec <;> first | exact absurd rfl hex | exact ⟨hx.symm, rest⟩
  | cond c x y =>
    unfold rCode at e
    simp only [rCond] at e
    split at e
    · rename_i b hb
      have h1 := ha.eval hb
      simp only [VR] at h1
      exact wpIn_cond h1 (hS.code e k ht ha hrr n)
    · cases e
  | block id c =>
    unfold rCode at e
    simp only [rBlock] at e
    split at e
    · rename_i j v1 a1 h1 hr1
      have hh : o.h = h1 ∧ o.a = a1 ∧ o.ex = if j = id then .normal else .exit j := by
        split at e
        · rename_i hj; cases e; exact ⟨rfl, rfl, by rw [if_pos hj]⟩
        · rename_i hj; cases e; exact ⟨rfl, rfl, by rw [if_neg hj]⟩
      refine wpIn_block (wpIn_mono (hS.code hr1 k (by rw [← hh.1]; exact ht) ha hrr n) ?_)
      rintro e' A' W' ⟨rfl, rest⟩
      show Exit.inBlock id _ (.exit j) A' W'
      unfold Exit.inBlock
      by_cases hj : j = id
      · rw [if_pos hj] at hh
        simp only [hj, if_true]
        refine ⟨by rw [hh.2.2]; rfl, ?_⟩
        rw [hh.1, hh.2.1]; exact rest
      · rw [if_neg hj] at hh
        simp only [hj, if_false]
        refine ⟨by rw [hh.2.2]; rfl, ?_⟩
        rw [hh.1, hh.2.1]; exact rest
    · rename_i hne
      refine wpIn_block (wpIn_mono (hS.code e k ht ha hrr n) ?_)
      rintro e' A' W' p
      obtain ⟨rfl, rest⟩ := p
      obtain ⟨ex, v, a2, h2⟩ := o
      cases ex with
      | exit j => exact absurd e (fun hh => hne _ _ _ _ hh)
      | normal => exact ⟨rfl, rest⟩
      | ret => exact ⟨rfl, rest⟩
  | loop b =>
    obtain ⟨m, hm⟩ := loop_step hS (show _ = some o from e)
    exact wpIn_loop_rounds m (hm k ht ha hrr n)
  | rangeFunc f ps assign body => exact range_step hS e k ht ha hrr n

theorem SoundB.step (hP : P.follows .mixedOrders = true) {r : Runs} (s : SoundB P r) : SoundB P (stepR P r) := by
  refine ⟨⟨?_, ?_, ?_, ?_, ?_, ?_⟩, ?_, stepR_abs s.b⟩
  · intro j a h o e; exact (chk_eq e).2
  · intro rnd c a h o e top E W A rb k ht ha hrr n; exact code_step hP s (chk_eq e).1 k ht ha hrr n
  · intro rnd b a h o e; exact loop_step s.a (show _ = some o from (chk_eq e).1)
  · intro ops l a h o e i hl top E W A rb k ht ha n; exact ops_step s.a (chk_eq e).1 hl k ht ha n
  · intro f args a h o e top E W Args k ht hv; exact call_step s.a (chk_eq e).1 k ht hv
  · intro l args a h o e top E W Args b c k ht hE hv n; exact round_step s.a (chk_eq e).1 k ht hE hv n
  · intro ops masks kinds l recs a h o e; exact drawn_step s.a s.b s.d (chk_eq e).1

theorem run_sound (hP : P.follows .mixedOrders = true) : ∀ n, SoundB P (run P n)
  | 0 => by
    refine ⟨⟨?_, ?_, ?_, ?_, ?_, ?_⟩, ?_, ?_⟩
    · intro j a h o e; cases e
    · intro rnd c a h o e; cases e
    · intro rnd b a h o e; cases e
    · intro ops l a h o e; cases e
    · intro f args a h o e; cases e
    · intro l args a h o e; cases e
    · intro ops masks kinds l recs a h o e; cases e
    · intro j a h o e; cases e
  | n + 1 => (run_sound hP n).step hP

theorem HR.empty (top : Nat) (W : World) : HR top (fun _ => none) emptyH W := by
  have hg : ∀ i, emptyH.get i = none := fun i => by
    unfold Heap.get emptyH
    split <;> rfl
  exact ⟨fun i o h => (by rw [hg] at h; cases h), fun i k b c d h => (by rw [hg] at h; cases h), fun _ _ _ => rfl, fun r h => (by cases h), fun i _ => rfl⟩

end Go.Proofs.YtkebbdpfjhhdhaaGreat.Ev

/- A closed call that is too long for one evaluation: its body in parts, between which only the memory that is needed is kept. -/
namespace Go.Proofs.YtkebbdpfjhhdhaaGreat.Ev
variable {P : Program}

def T.keep {α : Type} (t : T α) : List Nat → T α
  | [] => .nil
  | i :: l => match t.get i with
    | some x => (T.keep t l).set i x
    | none => T.keep t l
theorem T.keep_get {α : Type} {t : T α} : ∀ {l : List Nat} {i : Nat} {x : α}, (T.keep t l).get i = some x → t.get i = some x
  | [], i, x, h => by unfold T.keep at h; unfold T.get at h; cases h
  | j :: l, i, x, h => by
    unfold T.keep at h
    split at h
    · rename_i y hy
      rw [T.get_set] at h
      by_cases e : i = j
      · subst e
        rw [if_pos rfl] at h
        rw [hy, h]
      · rw [if_neg e] at h
        exact T.keep_get h
    · exact T.keep_get h
def Heap.keep (h : Heap) (l : List Nat) : Heap := ⟨h.t.keep l, h.next, h.lo, []⟩
theorem Heap.keep_get {h : Heap} {l : List Nat} {i : Nat} {o : AObj} (hh : h.hid = []) (k : (h.keep l).get i = some o) : h.get i = some o := by
  unfold Heap.get Heap.hidden Heap.keep at k
  unfold Heap.get Heap.hidden
  rw [hh]
  simp only [List.any_nil] at k ⊢
  exact T.keep_get k
theorem HR.keep {top : Nat} {E : Env} {h : Heap} {W : World} (k : HR top E h W) (hh : h.hid = []) (l : List Nat) : HR top E (h.keep l) W where
  obj := fun i o e => k.obj i o (Heap.keep_get hh e)
  inj := fun i j b c d h1 h2 => by
    obtain ⟨o1, e1⟩ := Option.isSome_iff_exists.1 h1
    obtain ⟨o2, e2⟩ := Option.isSome_iff_exists.1 h2
    exact k.inj i j b c d (by rw [Heap.keep_get hh e1]; rfl) (by rw [Heap.keep_get hh e2]; rfl)
  lt := k.lt
  hid := fun r hr => by cases hr
  clean := fun i hi => by
    cases e : (h.keep l).t.get i with
    | none => rfl
    | some x => have := T.keep_get e; rw [k.clean i hi] at this; cases this
theorem Ext.keep {E E' : Env} {h h' : Heap} {W W' : World} (x : Ext E E' h h' W W') (hh : h.hid = []) (hl : h.lo = 0) (l : List Nat) : Ext E E' h (h'.keep l) W W' := by
  have hh' : h'.hid = [] := x.hid.trans hh
  refine ⟨x.le, x.nx, hh.symm, x.lo, fun i _ hi => ?_, fun i hi hs => ?_, x.fresh, x.size, x.keepC, x.os, x.tape, x.output⟩
  · rcases hi with hi | hi
    · omega
    · unfold Heap.hidden at hi
      rw [hh] at hi
      cases hi
  · obtain ⟨o, e⟩ := Option.isSome_iff_exists.1 hs
    exact x.dead i hi (by rw [Heap.keep_get hh' e]; rfl)
/-- what a piece of code does, in all worlds like that -/
structure CodeOk (P : Program) (c : Code) (a : AAct) (h : Heap) (o : Out) : Prop where
  nx : h.next ≤ o.h.next
  ok : ∀ {top E W A rb}, HR top E h W → o.h.next ≤ top → AR E a A → RR E none rb → ∀ n, c.wpIn (FF rb) n P (PC top E h W o) A W
theorem CodeOk.run (hP : P.follows .mixedOrders = true) {n : Nat} {c : Code} {a : AAct} {h : Heap} {o : Out} (e : run P n (.code none c) a h = some o) : CodeOk P c a h o :=
  ⟨(run_sound hP n).a.next e, fun k ht ha hr m => (run_sound hP n).a.code e k ht ha hr m⟩
theorem CodeOk.keep {c : Code} {a : AAct} {h : Heap} {o : Out} (k : CodeOk P c a h o) (hh : h.hid = []) (hl : h.lo = 0) (l : List Nat) : CodeOk P c a h ⟨o.ex, o.v, o.a, o.h.keep l⟩ :=
  ⟨k.nx, fun hr ht ha hrr m => wpIn_mono (k.ok hr ht ha hrr m) fun _ _ _ ⟨h1, E', x, hr', ha'⟩ => ⟨h1, E', x.keep hh hl l, hr'.keep (x.hid.trans hh) l, ha'⟩⟩
theorem CodeOk.seq {x y : Code} {a a1 : AAct} {h h1 : Heap} {v : AV} {o : Out} (k : CodeOk P x a h ⟨.normal, v, a1, h1⟩) (k2 : CodeOk P y a1 h1 o) : CodeOk P (.seq x y) a h o :=
  ⟨Nat.le_trans k.nx k2.nx, fun hr ht ha hrr m => by
    refine wpIn_seq (wpIn_mono (k.ok hr (Nat.le_trans k2.nx ht) ha hrr m) ?_)
    rintro e' A' W' ⟨rfl, E', x1, hr1, ha1⟩
    exact wpIn_mono (k2.ok hr1 ht ha1 (hrr.mono x1.le) m) fun _ _ _ p => PC.trans hr hr1 (Nat.le_trans k2.nx ht) x1 p⟩
def restC : Nat → Code → Code
  | n + 1, .seq _ y => restC n y
  | _, c => c
def Heap.plainH (h : Heap) : Bool := (match h.hid with | [] => true | _ => false) && Nat.beq h.lo 0
theorem Heap.plainH_eq {h : Heap} (k : h.plainH = true) : h.hid = [] ∧ h.lo = 0 := by
  unfold Heap.plainH at k
  simp only [Bool.and_eq_true] at k
  refine ⟨?_, Nat.eq_of_beq_eq_true k.2⟩
  obtain ⟨k, _⟩ := k
  split at k
  · assumption
  · cases k
/-- the first k items of a body -/
def runK (P : Program) (n : Nat) : Nat → Code → AAct → Heap → Option (AAct × Heap)
  | 0, _, a, h => some (a, h)
  | k + 1, .seq x y, a, h => match run P n (.code none x) a h with
    | some ⟨.normal, _, a1, h1⟩ => cond h1.plainH (runK P n k y a1 h1) none
    | _ => none
  | _ + 1, _, _, _ => none
def keepR (l : List Nat) : Option (AAct × Heap) → Option (AAct × Heap)
  | some (a, h) => some (a, h.keep l)
  | none => none
/-- the first k items of a body, and of the memory behind them what is named -/
def segK (P : Program) (n k : Nat) (c : Code) (a : AAct) (h : Heap) (l : List Nat) : Option (AAct × Heap) := cond h.plainH (keepR l (runK P n k c a h)) none
theorem restC_add : ∀ (n m : Nat) (c : Code), restC m (restC n c) = restC (n + m) c
  | 0, m, c => by
    rw [Nat.zero_add]
    cases c <;> rfl
  | n + 1, m, c => by
    cases c with
    | seq x y =>
      rw [show n + 1 + m = (n + m) + 1 by omega]
      exact restC_add n m y
    | _ => cases m <;> rw [show restC (n + 1) _ = _ from rfl] <;> first | rfl | (rw [show n + 1 + (_ + 1) = (n + 1 + _) + 1 by omega]; rfl)
def isSeqC : Code → Bool
  | .seq _ _ => true
  | _ => false
/-- how a body begins that is called without arguments -/
def beginA (fn : Func) : AAct := ⟨initT [] 0, if Nat.ble 0 fn.ntmps then fn.ntmps else 0, []⟩
/-- the last part of a body says true -/
def lastTrue (P : Program) (n : Nat) (fn : Func) (c : Code) (a : AAct) (h : Heap) : Bool := match rEnd P fn (run P n (.code none c) a h) with
  | some ⟨_, .bool true, _, _⟩ => true
  | _ => false
open Classical in
theorem calls_of_code {f : Nat} {fn : Func} {x y : Code} (hf : enters P f = some fn) (hb : fn.body = some (.seq x y)) {o : Out} (ok : CodeOk P (.seq x y) (beginA fn) emptyH o) {ex : Ex} {a2 : AAct} {h2 : Heap} (he : rEnd P fn (some o) = some ⟨ex, .bool true, a2, h2⟩) (w : World) :
    Calls P f #[] w fun e w' => e = .returned (.bool true) ∧ RowKit.Below w.heap.size w w' := by
  let r : Runs := fun j a h => if j = .code none (.seq x y) ∧ a = beginA fn ∧ h = emptyH then some o else none
  have hr : ∀ {j a h o'}, r j a h = some o' → (j = .code none (.seq x y) ∧ a = beginA fn ∧ h = emptyH) ∧ o' = o := by
    intro j a h o' e
    show _ ∧ _
    by_cases hc : j = .code none (.seq x y) ∧ a = beginA fn ∧ h = emptyH
    · have : r j a h = some o := if_pos hc
      rw [this] at e
      cases e
      exact ⟨hc, rfl⟩
    · have : r j a h = none := if_neg hc
      rw [this] at e
      cases e
  have hS : SoundA P r := by
    refine ⟨?_, ?_, ?_, ?_, ?_, ?_⟩
    · intro j a h o' e
      obtain ⟨⟨_, _, rfl⟩, rfl⟩ := hr e
      exact ok.nx
    · intro rnd c a h o' e top E W A rb k ht ha hrr n
      obtain ⟨⟨hj, rfl, rfl⟩, rfl⟩ := hr e
      cases hj
      exact ok.ok k ht ha hrr n
    · intro rnd b a h o' e
      obtain ⟨⟨hj, _, _⟩, _⟩ := hr e
      cases hj
    · intro ops l a h o' e
      obtain ⟨⟨hj, _, _⟩, _⟩ := hr e
      cases hj
    · intro f args a h o' e
      obtain ⟨⟨hj, _, _⟩, _⟩ := hr e
      cases hj
    · intro l args a h o' e
      obtain ⟨⟨hj, _, _⟩, _⟩ := hr e
      cases hj
  have hcall : rCall P r f [] emptyH = some ⟨ex, .bool true, a2, h2⟩ := by
    unfold rCall
    rw [hf]
    simp only [hb]
    have : r (.code none (.seq x y)) (beginA fn) emptyH = some o := if_pos ⟨rfl, rfl, rfl⟩
    show rEnd P fn (r (.code none (.seq x y)) (beginA fn) emptyH) = _
    rw [this]
    exact he
  have h1 := (call_step hS hcall (HR.empty h2.next w) (Nat.le_refl _) (Args := []) VRs.nil).2 0
  refine callsIn_wide.1 (h1.mono ?_)
  rintro e w' ⟨V, E', rfl, x, _, hV⟩
  simp only [VR] at hV
  exact ⟨by rw [hV], x.os, x.tape, x.output, x.size, fun b hb => x.keepC b hb fun k d _ _ h => by cases h⟩
theorem calls_of_parts {f : Nat} {fn : Func} {c : Code} (hf : enters P f = some fn) (hb : fn.body = some c) (hs : isSeqC c = true) {o : Out} (ok : CodeOk P (restC 0 c) (beginA fn) emptyH o) {ex : Ex} {a2 : AAct} {h2 : Heap} (he : rEnd P fn (some o) = some ⟨ex, .bool true, a2, h2⟩) (w : World) :
    Calls P f #[] w fun e w' => e = .returned (.bool true) ∧ RowKit.Below w.heap.size w w' := by
  cases c with
  | seq x y => exact calls_of_code hf hb ok he w
  | _ => cases hs
end Go.Proofs.YtkebbdpfjhhdhaaGreat.Ev
