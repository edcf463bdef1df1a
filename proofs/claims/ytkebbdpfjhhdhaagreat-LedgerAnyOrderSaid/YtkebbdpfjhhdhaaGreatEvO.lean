/- More steps answer what fewer did; answers from a table beside the program. -/
import Derived.Test.YtkebbdpfjhhdhaaGreatEvF
import Derived.IntWalk
import Derived.Sort.OwnSortedInts
namespace Go.Proofs.YtkebbdpfjhhdhaaGreat.Ev
variable {P : Program}

def Runs.le (r q : Runs) : Prop := ∀ j a h o, r j a h = some o → q j a h = some o
theorem Runs.le.rfl {r : Runs} : r.le r := fun _ _ _ _ h => h
theorem chk_mono {h : Heap} {x y : Option Out} (k : ∀ o, x = some o → y = some o) {o : Out} (e : chk h x = some o) : chk h y = some o := by
  cases x with
  | none => cases e
  | some x => rw [k x rfl]; exact e
theorem rOp_mono {r q : Runs} (k : r.le q) {h : Heap} {a : AAct} {o : Oper} {v} (e : rOp P r h a o = some v) : rOp P q h a o = some v := by
  unfold rOp at e ⊢
  split at e
  · split at e
    · rename_i x _ hn
      rw [if_pos hn]
      obtain ⟨x, g⟩ := x
      cases x with
      | value v => exact e
      | skip => exact e
      | enter f args =>
        simp only [rOp2, Option.map_eq_some_iff] at e ⊢
        obtain ⟨o, h1, h2⟩ := e
        exact ⟨o, k _ _ _ _ h1, h2⟩
      | round l args =>
        simp only [rOp2, Option.map_eq_some_iff] at e ⊢
        obtain ⟨o, h1, h2⟩ := e
        exact ⟨o, k _ _ _ _ h1, h2⟩
    · cases e
  · cases e
theorem rPut_mono {r q : Runs} (k : r.le q) {a : AAct} {d : Option Tmp} {j : Job} {x y : Option (AV × Heap)} (hx : ∀ v, x = some v → y = some v) {o : Out} (e : rPut r a d j x = some o) : rPut q a d j y = some o := by
  cases x with
  | none => cases e
  | some x =>
    rw [hx x rfl]
    obtain ⟨v, h⟩ := x
    simp only [rPut] at e ⊢
    split at e
    · exact k _ _ _ _ e
    · cases e
theorem rLeave_mono {r q : Runs} (k : r.le q) {rnd : Option Nat} {a : AAct} {x} {o : Out} (e : rLeave r rnd a x = some o) : rLeave q rnd a x = some o := by
  unfold rLeave at e ⊢
  split at e
  · exact e
  · exact k _ _ _ _ e
  · cases e
theorem rCode_mono {r q : Runs} (k : r.le q) {rnd : Option Nat} {c : Code} {a : AAct} {h : Heap} {o : Out} (e : rCode r rnd c a h = some o) : rCode q rnd c a h = some o := by
  cases c with
  | skip => exact e
  | label l => exact e
  | exit id => exact e
  | ret => exact e
  | goto l => exact e
  | refuse m => exact e
  | scope b => exact k _ _ _ _ e
  | region i ops b =>
    cases b with
    | false => exact k _ _ _ _ e
    | true =>
      unfold rCode at e ⊢
      simp only at e ⊢
      split at e
      · rename_i hs; rw [if_pos hs]; exact k _ _ _ _ e
      · cases e
  | seq x y =>
    unfold rCode at e ⊢
    simp only [rSeq] at e ⊢
    cases hx : r (.code rnd x) a h with
    | none => rw [hx] at e; cases e
    | some p =>
      rw [k _ _ _ _ hx]
      rw [hx] at e
      obtain ⟨ex, v, a1, h1⟩ := p
      cases ex with
      | normal => exact k _ _ _ _ e
      | exit id => exact e
      | ret => exact e
  | cond c x y =>
    unfold rCode at e ⊢
    simp only [rCond] at e ⊢
    split at e
    · exact k _ _ _ _ e
    · cases e
  | block id b =>
    unfold rCode at e ⊢
    simp only [rBlock] at e ⊢
    cases hx : r (.code rnd b) a h with
    | none => rw [hx] at e; cases e
    | some p => rw [k _ _ _ _ hx]; rw [hx] at e; exact e
  | loop b =>
    unfold rCode at e ⊢
    simp only at e ⊢
    cases hx : r (.code rnd b) a h with
    | none => rw [hx] at e; cases e
    | some p =>
      rw [k _ _ _ _ hx]
      rw [hx] at e
      obtain ⟨ex, v, a1, h1⟩ := p
      cases ex with
      | normal => exact k _ _ _ _ e
      | exit id => exact e
      | ret => exact e
  | rangeFunc f ps assign body =>
    unfold rCode at e ⊢
    simp only [rRange] at e ⊢
    split at e
    · split at e
      · rename_i o' ho
        rw [k _ _ _ _ ho]
        exact rLeave_mono k e
      · cases e
    · cases e
theorem rOps_mono {r q : Runs} (k : r.le q) {ops : Array Oper} {a : AAct} {h : Heap} {l : List Oper} {o : Out} (e : rOps P r ops a h l = some o) : rOps P q ops a h l = some o := by
  unfold rOps at e ⊢
  split at e
  · exact e
  · refine rPut_mono k (fun v hv => ?_) e
    split at hv
    · rename_i hw; rw [if_pos hw]; exact rOp_mono k hv
    · rename_i hw; rw [if_neg hw]; exact hv
theorem rDrawn_mono {r q : Runs} (k : r.le q) {ops : Array Oper} {masks kinds : List Nat} {recs : List Rec} {a : AAct} {h : Heap} {l : List Oper} {o : Out} (e : rDrawn P r ops masks kinds recs a h l = some o) : rDrawn P q ops masks kinds recs a h l = some o := by
  unfold rDrawn at e ⊢
  split at e
  · exact e
  · split at e
    · rename_i hw
      rw [if_pos hw]
      unfold rDrawnAt at e ⊢
      split at e
      · rename_i v g hv
        rw [rOp_mono k hv]
        simp only
        split at e
        · rename_i hf; rw [if_pos hf]; exact rPut_mono k (fun _ h => h) e
        · cases e
      · cases e
    · rename_i hw
      rw [if_neg hw]
      exact rPut_mono k (fun _ h => h) e
theorem rCall_mono {r q : Runs} (k : r.le q) {f : Nat} {args : List AV} {h : Heap} {o : Out} (e : rCall P r f args h = some o) : rCall P q f args h = some o := by
  unfold rCall at e ⊢
  split at e
  · split at e
    · rename_i c _
      cases hx : r (.code none c) ⟨initT args 0, if Nat.ble args.length _ then _ else args.length, []⟩ h with
      | none => rw [hx] at e; cases e
      | some p => rw [k _ _ _ _ hx]; rw [hx] at e; exact e
    · cases e
  · cases e
theorem rRound_mono {r q : Runs} (k : r.le q) {l : Nat} {args : List AV} {h : Heap} {o : Out} (e : rRound r l args h = some o) : rRound q l args h = some o := by
  unfold rRound at e ⊢
  split at e
  · rename_i p hp
    split at e
    · rename_i hc
      rw [if_pos hc]
      cases hx : r (.code (some l) p.assign) ⟨setAll p.tmps p.size p.params.toList args, p.size, []⟩ h with
      | none => rw [hx] at e; cases e
      | some y =>
        rw [k _ _ _ _ hx]
        rw [hx] at e
        obtain ⟨ex, v, a1, h1⟩ := y
        cases ex with
        | exit id => cases e
        | ret => cases e
        | normal =>
          simp only [rBody] at e ⊢
          split at e
          · rename_i h2 hb
            cases hy : r (.code (some l) p.body) a1 h2 with
            | none => rw [hy] at e; cases e
            | some z => rw [k _ _ _ _ hy]; rw [hy] at e; exact e
          · cases e
    · cases e
  · cases e
theorem stepR_mono {r q : Runs} (k : r.le q) : (stepR P r).le (stepR P q) := by
  intro j a h o e
  unfold stepR at e ⊢
  refine chk_mono (fun o e => ?_) e
  cases j with
  | code rnd c => exact rCode_mono k e
  | ops ops l => exact rOps_mono k e
  | drawn ops masks kinds l recs => exact rDrawn_mono k e
  | call f args => exact rCall_mono k e
  | round l args => exact rRound_mono k e
/-! answers beside the program: B is asked first -/
def orR (B r : Runs) : Runs := fun j a h => match B j a h with
  | some o => some o
  | none => r j a h
theorem orR_mono {B r q : Runs} (k : r.le q) : (orR B r).le (orR B q) := by
  intro j a h o e
  unfold orR at e ⊢
  split at e
  · exact e
  · exact k _ _ _ _ e
def runB (P : Program) (B : Runs) : Nat → Runs
  | 0 => fun _ _ _ => none
  | n + 1 => orR B (stepR P (runB P B n))
theorem runB_le_succ (B : Runs) : ∀ n, (runB P B n).le (runB P B (n + 1))
  | 0 => fun _ _ _ _ e => by cases e
  | n + 1 => orR_mono (stepR_mono (runB_le_succ B n))
theorem runB_le {B : Runs} {n m : Nat} (h : n ≤ m) : (runB P B n).le (runB P B m) := by
  induction m with
  | zero => rw [Nat.le_zero.1 h]; exact Runs.le.rfl
  | succ m ih =>
    rcases Nat.lt_or_ge m n with g | g
    · rw [show n = m + 1 from by omega]; exact Runs.le.rfl
    · exact fun j a h o e => runB_le_succ B m _ _ _ _ (ih g _ _ _ _ e)
theorem AbsR.or {B r : Runs} (hB : AbsR B) (hr : AbsR r) : AbsR (orR B r) := by
  intro j a h o e
  unfold orR at e
  split at e
  · rename_i hb; cases e; exact hB hb
  · exact hr e
theorem runB_abs {B : Runs} (hB : AbsR B) : ∀ n, AbsR (runB P B n)
  | 0 => fun e => by cases e
  | n + 1 => hB.or (stepR_abs (runB_abs hB n))
theorem SoundB.or {B r : Runs} (hB : SoundB P B) (hr : SoundB P r) : SoundB P (orR B r) := by
  have key : ∀ {j a h o}, orR B r j a h = some o → B j a h = some o ∨ r j a h = some o := fun {j a h o} e => by
    unfold orR at e
    split at e
    · rename_i hb; cases e; exact .inl hb
    · exact .inr e
  refine ⟨⟨?_, ?_, ?_, ?_, ?_, ?_⟩, ?_, AbsR.or hB.b hr.b⟩
  · intro j a h o e; exact (key e).elim (fun e => hB.a.next e) (fun e => hr.a.next e)
  · intro rnd c a h o e top E W A rb k ht ha hrr n; exact (key e).elim (fun e => hB.a.code e k ht ha hrr n) (fun e => hr.a.code e k ht ha hrr n)
  · intro rnd b a h o e; exact (key e).elim (fun e => hB.a.loop e) (fun e => hr.a.loop e)
  · intro ops l a h o e i hl top E W A rb k ht ha n; exact (key e).elim (fun e => hB.a.ops e hl k ht ha n) (fun e => hr.a.ops e hl k ht ha n)
  · intro f args a h o e top E W Args k ht hv; exact (key e).elim (fun e => hB.a.call e k ht hv) (fun e => hr.a.call e k ht hv)
  · intro l args a h o e top E W Args b c k ht hE hv n; exact (key e).elim (fun e => hB.a.round e k ht hE hv n) (fun e => hr.a.round e k ht hE hv n)
  · intro ops masks kinds l recs a h o e; exact (key e).elim (fun e => hB.d e) (fun e => hr.d e)
theorem runB_sound (hP : P.follows .mixedOrders = true) {B : Runs} (hB : SoundB P B) : ∀ n, SoundB P (runB P B n)
  | 0 => by
    refine ⟨⟨?_, ?_, ?_, ?_, ?_, ?_⟩, ?_, ?_⟩
    · intro j a h o e; cases e
    · intro rnd c a h o e; cases e
    · intro rnd b a h o e; cases e
    · intro ops l a h o e; cases e
    · intro f args a h o e; cases e
    · intro l args a h o e; cases e
    · intro ops masks kinds l recs a h o e; cases e
    · intro j a h o e; cases e
  | n + 1 => hB.or ((runB_sound hP hB n).step hP)
/-- answers to calls: the value and the memory behind it -/
structure Base where
  ans : Nat → List AV → Heap → Option (AV × Heap)
  abs : ∀ {f args h v g}, ans f args h = some (v, g) → Abs h g
def noA : AAct := ⟨.nil, 0, []⟩
def asR (B : Base) : Runs := fun j _ h => match j with
  | .call f args => (B.ans f args h).map fun x => ⟨.normal, x.1, noA, x.2⟩
  | _ => none
theorem asR_eq {B : Base} {j : Job} {a : AAct} {h : Heap} {o : Out} (e : asR B j a h = some o) : ∃ f args v g, j = .call f args ∧ B.ans f args h = some (v, g) ∧ o = ⟨.normal, v, noA, g⟩ := by
  unfold asR at e
  split at e
  · rename_i f args
    simp only [Option.map_eq_some_iff] at e
    obtain ⟨⟨v, g⟩, h1, rfl⟩ := e
    exact ⟨f, args, v, g, rfl, h1, rfl⟩
  · cases e
theorem asR_abs (B : Base) : AbsR (asR B) := by
  intro j a h o e; obtain ⟨f, args, v, g, _, h2, rfl⟩ := asR_eq e; exact B.abs h2
/-- what is asked of such answers -/
def SoundC (P : Program) (B : Base) : Prop := ∀ {f args h v g}, B.ans f args h = some (v, g) → ∀ {top E W Args}, HR top E h W → g.next ≤ top → VRs E args Args → (∀ args w, (callFunc f args).run P w = .ok (.enter f args) w) ∧ ∀ n, CallsIn Fence.wide n P f Args.toArray W (PV top E h W ⟨.normal, v, noA, g⟩)
theorem SoundC.runs {B : Base} (k : SoundC P B) : SoundB P (asR B) := by
  refine ⟨⟨?_, ?_, ?_, ?_, ?_, ?_⟩, ?_, asR_abs B⟩
  · intro j a h o e; exact (asR_abs B e).nx
  · intro rnd c a h o e; obtain ⟨f, args, v, g, h1, _⟩ := asR_eq e; cases h1
  · intro rnd b a h o e; obtain ⟨f, args, v, g, h1, _⟩ := asR_eq e; cases h1
  · intro ops l a h o e; obtain ⟨f, args, v, g, h1, _⟩ := asR_eq e; cases h1
  · intro g args a h o e top E W Args k' ht hv
    obtain ⟨f, args', v, g, h1, h2, rfl⟩ := asR_eq e
    cases h1
    exact k h2 k' ht hv
  · intro l args a h o e; obtain ⟨f, args, v, g, h1, _⟩ := asR_eq e; cases h1
  · intro ops masks kinds l recs a h o e; obtain ⟨f, args, v, g, h1, _⟩ := asR_eq e; cases h1
def noB : Base := ⟨fun _ _ _ => none, fun e => by cases e⟩
theorem noB_sound : SoundC P noB := fun e => by cases e
def orA (B C : Base) (f : Nat) (args : List AV) (h : Heap) : Option (AV × Heap) := match B.ans f args h with
  | some x => some x
  | none => C.ans f args h
theorem orA_eq {B C : Base} {f args h v g} (e : orA B C f args h = some (v, g)) : B.ans f args h = some (v, g) ∨ C.ans f args h = some (v, g) := by
  unfold orA at e
  split at e
  · rename_i hb; cases e; exact .inl hb
  · exact .inr e
def orB (B C : Base) : Base := ⟨orA B C, fun e => (orA_eq e).elim B.abs C.abs⟩
theorem SoundC.or {B C : Base} (k : SoundC P B) (k' : SoundC P C) : SoundC P (orB B C) := fun e _ _ _ _ h1 h2 h3 => (orA_eq e).elim (fun e => k e h1 h2 h3) (fun e => k' e h1 h2 h3)
/-- a call without arguments that says true and leaves old memory as it was -/
def sayA (f : Nat) : Nat → List AV → Heap → Option (AV × Heap) := fun g args h => match args with
  | [] => if g = f then some (.bool true, h) else none
  | _ => none
theorem sayA_eq {f g : Nat} {args : List AV} {h h' : Heap} {v : AV} (e : sayA f g args h = some (v, h')) : g = f ∧ args = [] ∧ v = .bool true ∧ h' = h := by
  unfold sayA at e
  split at e
  · split at e
    · rename_i hg; cases e; exact ⟨hg, rfl, rfl, rfl⟩
    · cases e
  · cases e
def sayB (f : Nat) : Base := ⟨sayA f, fun e => by obtain ⟨_, _, _, rfl⟩ := sayA_eq e; exact Abs.refl _⟩
theorem HR.below {top : Nat} {E : Env} {h : Heap} {W W' : World} (k : HR top E h W) (hb : RowKit.Below W.heap.size W W') : HR top E h W' ∧ Ext E E h h W W' := by
  refine ⟨⟨fun i o hi => ?_, k.inj, k.lt, k.hid, k.clean⟩, E.le_refl, Nat.le_refl _, rfl, rfl, fun _ _ _ => rfl, fun _ _ k => k, fun i b c h1 h2 => (by rw [h1] at h2; cases h2), hb.size, fun b hb' _ => hb.block b hb', hb.os, hb.tape, hb.output⟩
  obtain ⟨b, c, O, e1, e2, e3⟩ := k.obj i o hi
  exact ⟨b, c, O, e1, (hb.block _ (k.block_lt hi e1)).trans e2, e3⟩
theorem sayB_sound {f : Nat} {fn : Func} (hf : enters P f = some fn) (hh : ∀ w, Calls P f #[] w fun e w' => e = .returned (.bool true) ∧ RowKit.Below w.heap.size w w') : SoundC P (sayB f) := by
  intro g args h v h' e top E W Args k ht hv
  obtain ⟨rfl, rfl, rfl, rfl⟩ := sayA_eq e
  simp only [VRs] at hv
  subst hv
  refine ⟨fun args w => (enter_run hf args w).1, fun n => ?_⟩
  refine (callsIn_wide.2 (hh W)).mono ?_
  rintro e w' ⟨rfl, hb⟩
  obtain ⟨h1, h2⟩ := k.below hb
  exact ⟨_, E, rfl, h2, h1, by simp [VR]⟩
end Go.Proofs.YtkebbdpfjhhdhaaGreat.Ev

/- Walks through code over the calculator's memory: frames. -/
namespace Go.Proofs.YtkebbdpfjhhdhaaGreat.Ev
variable {P : Program} {B : Base}

/-! ### what a job comes to, with enough steps -/
def Run (P : Program) (B : Base) (j : Job) (a : AAct) (h : Heap) (o : Out) : Prop := ∃ n, runB P (asR B) n j a h = some o
theorem runB_next {n : Nat} {j : Job} {a : AAct} {h : Heap} {o : Out} (e : runB P (asR B) n j a h = some o) : h.next ≤ o.h.next := by
  cases n with
  | zero => cases e
  | succ n =>
    have e' : orR (asR B) (stepR P (runB P (asR B) n)) j a h = some o := e
    unfold orR at e'
    split at e'
    · rename_i hb; cases e'; exact (asR_abs B hb).nx
    · exact (chk_eq (show chk h _ = some o from e')).2
theorem Run.next {j : Job} {a : AAct} {h : Heap} {o : Out} (k : Run P B j a h o) : h.next ≤ o.h.next := k.elim fun _ e => runB_next e
theorem chk_mk {h : Heap} {x : Option Out} {o : Out} (e : x = some o) (hn : h.next ≤ o.h.next) : chk h x = some o := by
  rw [e]; unfold chk; simp [hn]
theorem Run.code {n : Nat} {rnd : Option Nat} {c : Code} {a : AAct} {h : Heap} {o : Out} (e : rCode (runB P (asR B) n) rnd c a h = some o) (hn : h.next ≤ o.h.next) : Run P B (.code rnd c) a h o := ⟨n + 1, chk_mk e hn⟩
theorem Run.ops {n : Nat} {ops : Array Oper} {l : List Oper} {a : AAct} {h : Heap} {o : Out} (e : rOps P (runB P (asR B) n) ops a h l = some o) (hn : h.next ≤ o.h.next) : Run P B (.ops ops l) a h o := ⟨n + 1, chk_mk e hn⟩
theorem Run.drawn {n : Nat} {ops : Array Oper} {masks kinds : List Nat} {l : List Oper} {recs : List Rec} {a : AAct} {h : Heap} {o : Out} (e : rDrawn P (runB P (asR B) n) ops masks kinds recs a h l = some o) (hn : h.next ≤ o.h.next) : Run P B (.drawn ops masks kinds l recs) a h o := ⟨n + 1, chk_mk e hn⟩
theorem Run.call {n : Nat} {f : Nat} {args : List AV} {a : AAct} {h : Heap} {o : Out} (hB : B.ans f args h = none) (e : rCall P (runB P (asR B) n) f args h = some o) (hn : h.next ≤ o.h.next) : Run P B (.call f args) a h o := ⟨n + 1, by
  show orR (asR B) _ _ _ _ = _
  unfold orR
  rw [show asR B (.call f args) a h = none from by unfold asR; simp only [hB, Option.map_none]]
  exact chk_mk e hn⟩
theorem Run.round {n : Nat} {l : Nat} {args : List AV} {a : AAct} {h : Heap} {o : Out} (e : rRound (runB P (asR B) n) l args h = some o) (hn : h.next ≤ o.h.next) : Run P B (.round l args) a h o := ⟨n + 1, chk_mk e hn⟩
theorem Run.two {j1 j2 : Job} {a1 a2 : AAct} {h1 h2 : Heap} {o1 o2 : Out} (k1 : Run P B j1 a1 h1 o1) (k2 : Run P B j2 a2 h2 o2) : ∃ n, runB P (asR B) n j1 a1 h1 = some o1 ∧ runB P (asR B) n j2 a2 h2 = some o2 := by
  obtain ⟨n, e1⟩ := k1
  obtain ⟨m, e2⟩ := k2
  exact ⟨max n m, runB_le (Nat.le_max_left _ _) _ _ _ _ e1, runB_le (Nat.le_max_right _ _) _ _ _ _ e2⟩

/-! ### frames -/
inductive Fr where
  | job (j : Job)
  | blk (id : Nat)
  | busy (l : Nat)
def Ex.out (id : Nat) : Ex → Ex
  | .exit k => if k = id then .normal else .exit k
  | e => e
abbrev Post := Ex → AAct → Heap → Prop
def KRun (P : Program) (B : Base) (Q : Post) : List Fr → Ex → AAct → Heap → Prop
  | [], ex, a, h => Q ex a h
  | .job j :: K, .normal, a, h => ∃ o, Run P B j a h o ∧ KRun P B Q K o.ex o.a o.h
  | .job _ :: K, .exit id, a, h => KRun P B Q K (.exit id) a h
  | .job _ :: K, .ret, a, h => KRun P B Q K .ret a h
  | .blk id :: K, ex, a, h => KRun P B Q K (ex.out id) a h
  | .busy l :: K, .normal, a, h => ∃ g, busyA h l = some g ∧ KRun P B Q K .normal a g
  | .busy _ :: _, _, _, _ => False

variable {Q : Post} {K : List Fr} {rnd : Option Nat} {a : AAct} {h : Heap}
theorem KRun.skip (k : KRun P B Q K .normal a h) : KRun P B Q (.job (.code rnd .skip) :: K) .normal a h := ⟨⟨.normal, aundef, a, h⟩, Run.code (n := 0) rfl (Nat.le_refl _), k⟩
theorem KRun.label {l} (k : KRun P B Q K .normal a h) : KRun P B Q (.job (.code rnd (.label l)) :: K) .normal a h := ⟨⟨.normal, aundef, a, h⟩, Run.code (n := 0) rfl (Nat.le_refl _), k⟩
theorem KRun.exit {id} (k : KRun P B Q K (.exit id) a h) : KRun P B Q (.job (.code rnd (.exit id)) :: K) .normal a h := ⟨⟨.exit id, aundef, a, h⟩, Run.code (n := 0) rfl (Nat.le_refl _), k⟩
theorem KRun.ret (k : KRun P B Q K .ret a h) : KRun P B Q (.job (.code rnd .ret) :: K) .normal a h := ⟨⟨.ret, aundef, a, h⟩, Run.code (n := 0) rfl (Nat.le_refl _), k⟩
theorem KRun.seq {x y : Code} (k : KRun P B Q (.job (.code rnd x) :: .job (.code rnd y) :: K) .normal a h) : KRun P B Q (.job (.code rnd (.seq x y)) :: K) .normal a h := by
  obtain ⟨⟨ex, v, a1, h1⟩, r1, k1⟩ := k
  cases ex with
  | normal =>
    obtain ⟨o, r2, k2⟩ := k1
    obtain ⟨n, e1, e2⟩ := r1.two r2
    exact ⟨o, Run.code (n := n) (by simp only [rCode, rSeq, e1]; exact e2) (Nat.le_trans r1.next r2.next), k2⟩
  | exit i => obtain ⟨n, e1⟩ := _root_.id r1; exact ⟨_, Run.code (n := n) (by simp only [rCode, rSeq, e1]) r1.next, k1⟩
  | ret => obtain ⟨n, e1⟩ := _root_.id r1; exact ⟨_, Run.code (n := n) (by simp only [rCode, rSeq, e1]) r1.next, k1⟩
theorem KRun.cond {c : Operand} {x y : Code} {b : Bool} (hb : a.eval c = some (.bool b)) (k : KRun P B Q (.job (.code rnd (if b then x else y)) :: K) .normal a h) : KRun P B Q (.job (.code rnd (.cond c x y)) :: K) .normal a h := by
  obtain ⟨o, r, k⟩ := k
  obtain ⟨n, e⟩ := id r
  exact ⟨o, Run.code (n := n) (by simp only [rCode, rCond, hb]; exact e) r.next, k⟩
theorem KRun.block {id : Nat} {b : Code} (k : KRun P B Q (.job (.code rnd b) :: .blk id :: K) .normal a h) : KRun P B Q (.job (.code rnd (.block id b)) :: K) .normal a h := by
  obtain ⟨⟨ex, v, a1, h1⟩, r, k⟩ := k
  obtain ⟨n, e⟩ := r
  have hn : h.next ≤ h1.next := runB_next e
  cases ex with
  | normal => exact ⟨_, Run.code (n := n) (o := ⟨.normal, v, a1, h1⟩) (by simp only [rCode, rBlock, e]) hn, k⟩
  | ret => exact ⟨_, Run.code (n := n) (o := ⟨.ret, v, a1, h1⟩) (by simp only [rCode, rBlock, e]) hn, k⟩
  | exit j =>
    have k' : KRun P B Q K (if j = id then .normal else .exit j) a1 h1 := k
    by_cases hj : j = id
    · rw [if_pos hj] at k'
      exact ⟨_, Run.code (n := n) (o := ⟨.normal, aundef, a1, h1⟩) (by simp only [rCode, rBlock, e, if_pos hj]) hn, k'⟩
    · rw [if_neg hj] at k'
      exact ⟨_, Run.code (n := n) (o := ⟨.exit j, aundef, a1, h1⟩) (by simp only [rCode, rBlock, e, if_neg hj]) hn, k'⟩
theorem KRun.loop {b : Code} (k : KRun P B Q (.job (.code rnd b) :: .job (.code rnd (.loop b)) :: K) .normal a h) : KRun P B Q (.job (.code rnd (.loop b)) :: K) .normal a h := by
  obtain ⟨⟨ex, v, a1, h1⟩, r1, k1⟩ := k
  cases ex with
  | normal =>
    obtain ⟨o, r2, k2⟩ := k1
    obtain ⟨n, e1, e2⟩ := r1.two r2
    exact ⟨o, Run.code (n := n) (by simp only [rCode, e1]; exact e2) (Nat.le_trans r1.next r2.next), k2⟩
  | exit i => obtain ⟨n, e1⟩ := _root_.id r1; exact ⟨_, Run.code (n := n) (by simp only [rCode, e1]) r1.next, k1⟩
  | ret => obtain ⟨n, e1⟩ := _root_.id r1; exact ⟨_, Run.code (n := n) (by simp only [rCode, e1]) r1.next, k1⟩
theorem KRun.scope {b : Code} (k : KRun P B Q (.job (.code rnd b) :: K) .normal a h) : KRun P B Q (.job (.code rnd (.scope b)) :: K) .normal a h := by
  obtain ⟨o, r, k⟩ := k
  obtain ⟨n, e⟩ := id r
  exact ⟨o, Run.code (n := n) (by simp only [rCode]; exact e) r.next, k⟩
theorem KRun.region {i : Nat} {ops : Array Oper} (k : KRun P B Q (.job (.ops ops ops.toList) :: K) .normal a h) : KRun P B Q (.job (.code rnd (.region i ops false)) :: K) .normal a h := by
  obtain ⟨o, r, k⟩ := k
  obtain ⟨n, e⟩ := id r
  exact ⟨o, Run.code (n := n) (by simp only [rCode]; exact e) r.next, k⟩
theorem KRun.regionT {i : Nat} {ops : Array Oper} (hs : staticOk ops = true) (k : KRun P B Q (.job (.drawn ops (masksOf ops.toList []).reverse (kindsOf ops (masksOf ops.toList []).reverse) ops.toList []) :: K) .normal a h) : KRun P B Q (.job (.code rnd (.region i ops true)) :: K) .normal a h := by
  obtain ⟨o, r, k⟩ := k
  obtain ⟨n, e⟩ := id r
  exact ⟨o, Run.code (n := n) (by simp only [rCode, if_pos hs]; exact e) r.next, k⟩
/-- a range over a function -/
theorem KRun.range {f : Operand} {ps : Array Tmp} {assign body : Code} {g : Nat} {fs cs : List AV} {d : Nat} {mark : List Nat} {h1 g3 g4 : Heap} {v : AV} {pd : Option Code} (hf : a.eval f = some (.fn (.func g) fs cs)) (he : enterA h rnd = some (d, mark, h1)) (hn : h.next ≤ h1.next)
    (hr : ∃ a', Run P B (.call g (fs ++ [.fn (.yield h1.next) [] []] ++ cs)) a (h1.new (.loop ⟨.ready, none, a.tmps, a.size, ps, assign, body, d⟩)).2 ⟨.normal, v, a', g3⟩) (hl : leaveA g3 h1.next = some (pd, g4)) (hn4 : g3.next ≤ g4.next)
    (k : match pd with
      | none => KRun P B Q K .normal { a with defers := mark ++ a.defers } g4
      | some c => KRun P B Q (.job (.code rnd c) :: K) .normal { a with defers := mark ++ a.defers } g4) : KRun P B Q (.job (.code rnd (.rangeFunc f ps assign body)) :: K) .normal a h := by
  obtain ⟨a', r⟩ := hr
  have hnx : h.next ≤ g4.next := by
    have q1 := r.next
    have q2 : (h1.new (.loop ⟨.ready, none, a.tmps, a.size, ps, assign, body, d⟩)).2.next = h1.next + 1 := rfl
    rw [q2] at q1
    have q3 : h1.next + 1 ≤ g3.next := q1
    omega
  cases pd with
  | none =>
    obtain ⟨n, e⟩ := r
    exact ⟨⟨.normal, aundef, { a with defers := mark ++ a.defers }, g4⟩, Run.code (n := n) (by simp only [rCode, rRange, hf, he, e, hl, rLeave]) hnx, k⟩
  | some c =>
    obtain ⟨o, r2, k2⟩ := k
    obtain ⟨n, e1, e2⟩ := r.two r2
    exact ⟨o, Run.code (n := n) (by simp only [rCode, rRange, hf, he, e1, hl, rLeave]; exact e2) (Nat.le_trans hnx r2.next), k2⟩
theorem KRun.opsNil {ops : Array Oper} (k : KRun P B Q K .normal a h) : KRun P B Q (.job (.ops ops []) :: K) .normal a h := ⟨⟨.normal, aundef, a, h⟩, Run.ops (n := 0) rfl (Nat.le_refl _), k⟩
theorem KRun.drawnNil {ops : Array Oper} {masks kinds recs} (k : KRun P B Q K .normal a h) : KRun P B Q (.job (.drawn ops masks kinds [] recs) :: K) .normal a h := ⟨⟨.normal, aundef, a, h⟩, Run.drawn (n := 0) rfl (Nat.le_refl _), k⟩

theorem run_abs (n : Nat) : AbsR (runB P (asR B) n) := runB_abs (asR_abs B) n
/-- an operation, with the call that it makes -/
def ROp (P : Program) (B : Base) (h : Heap) (a : AAct) (o : Oper) (v : AV) (g : Heap) : Prop := ∃ n, rOp P (runB P (asR B) n) h a o = some (v, g)
theorem ROp.next {o : Oper} {v : AV} {g : Heap} (k : ROp P B h a o v g) : h.next ≤ g.next := by
  obtain ⟨n, e⟩ := k
  exact (rOp_abs (r := runB P (asR B) n) (run_abs n) e).nx
theorem KRun.op {ops : Array Oper} {o : Oper} {l : List Oper} {v : AV} {g : Heap} {a' : AAct} (hw : wantedA ops a o = true) (he : ROp P B h a o v g) (hp : a.put o.dst v = some a') (k : KRun P B Q (.job (.ops ops l) :: K) .normal a' g) : KRun P B Q (.job (.ops ops (o :: l)) :: K) .normal a h := by
  obtain ⟨x, r, k⟩ := k
  obtain ⟨n, e1⟩ := he
  obtain ⟨m, e2⟩ := r
  have e1' := rOp_mono (P := P) (runB_le (Nat.le_max_left n m)) e1
  have e2' := runB_le (P := P) (Nat.le_max_right n m) _ _ _ _ e2
  exact ⟨x, Run.ops (n := max n m) (by simp only [rOps, if_pos hw, e1', rPut, hp]; exact e2') (Nat.le_trans (ROp.next ⟨n, e1⟩) (runB_next e2)), k⟩
theorem KRun.opSkip {ops : Array Oper} {o : Oper} {l : List Oper} {a' : AAct} (hw : wantedA ops a o = false) (hp : a.put o.dst aundef = some a') (k : KRun P B Q (.job (.ops ops l) :: K) .normal a' h) : KRun P B Q (.job (.ops ops (o :: l)) :: K) .normal a h := by
  obtain ⟨x, r, k⟩ := k
  obtain ⟨m, e2⟩ := r
  exact ⟨x, Run.ops (n := m) (by simp only [rOps, hw, rPut, Bool.false_eq_true, if_false, hp]; exact e2) (runB_next e2), k⟩
/-- the same in a region that draws its order -/
theorem KRun.dop {ops : Array Oper} {masks kinds : List Nat} {recs : List Rec} {o : Oper} {l : List Oper} {v : AV} {g : Heap} {a' : AAct} (hw : wantedA ops a o = true) (he : ROp P B (evHeap (kinds.getD recs.length 0) (masks.getD recs.length 0) recs h) a o v g)
    (hf : freeAll (masks.getD recs.length 0) ⟨kinds.getD recs.length 0, blkOf a.eval o.op, h.next, g.next⟩ recs recs.length = true) (hp : a.put o.dst v = some a')
    (k : KRun P B Q (.job (.drawn ops masks kinds l (⟨kinds.getD recs.length 0, blkOf a.eval o.op, h.next, g.next⟩ :: recs)) :: K) .normal a' { g with lo := h.lo, hid := h.hid }) : KRun P B Q (.job (.drawn ops masks kinds (o :: l) recs) :: K) .normal a h := by
  obtain ⟨x, r, k⟩ := k
  obtain ⟨n, e1⟩ := he
  obtain ⟨m, e2⟩ := r
  have hn := ROp.next ⟨n, e1⟩
  rw [evHeap_next] at hn
  have e1' := rOp_mono (P := P) (runB_le (Nat.le_max_left n m)) e1
  have e2' := runB_le (P := P) (Nat.le_max_right n m) _ _ _ _ e2
  refine ⟨x, Run.drawn (n := max n m) ?_ (Nat.le_trans hn (runB_next (h := { g with lo := h.lo, hid := h.hid }) e2)), k⟩
  simp only [rDrawn, if_pos hw, rDrawnAt]
  unfold evHeap at e1'
  rw [e1']
  simp only [if_pos hf, rPut, hp]
  exact e2'
theorem KRun.dskip {ops : Array Oper} {masks kinds : List Nat} {recs : List Rec} {o : Oper} {l : List Oper} {a' : AAct} (hw : wantedA ops a o = false) (hp : a.put o.dst aundef = some a')
    (k : KRun P B Q (.job (.drawn ops masks kinds l (⟨0, none, h.next, h.next⟩ :: recs)) :: K) .normal a' h) : KRun P B Q (.job (.drawn ops masks kinds (o :: l) recs) :: K) .normal a h := by
  obtain ⟨x, r, k⟩ := k
  obtain ⟨m, e2⟩ := r
  exact ⟨x, Run.drawn (n := m) (by simp only [rDrawn, hw, rPut, Bool.false_eq_true, if_false, hp]; exact e2) (runB_next e2), k⟩
end Go.Proofs.YtkebbdpfjhhdhaaGreat.Ev

/- Walks through code over the calculator's memory: what is known of temporaries and of memory. -/
namespace Go.Proofs.YtkebbdpfjhhdhaaGreat.Ev
variable {P : Program}

/-! ### operands: who knows more of them gets the same -/
abbrev Env1 := Operand → Option AV
def Env1.le (e f : Env1) : Prop := ∀ x v, e x = some v → f x = some v
section
variable {e f : Env1} {h : Heap} {r : ANext × Heap}
theorem mapO_mono (k : e.le f) : ∀ {l : List Operand} {vs}, mapO e l = some vs → mapO f l = some vs
  | [], _, hh => hh
  | x :: l, vs, hh => by
    simp only [mapO] at hh ⊢
    split at hh
    · rename_i v ws hv hws; cases hh; rw [k _ _ hv, mapO_mono k hws]
    · cases hh
theorem mapP_mono (k : e.le f) : ∀ {l : List (Nat × Operand)} {vs}, mapP e l = some vs → mapP f l = some vs
  | [], _, hh => hh
  | (i, x) :: l, vs, hh => by
    simp only [mapP] at hh ⊢
    split at hh
    · rename_i v ws hv hws; cases hh; rw [k _ _ hv, mapP_mono k hws]
    · cases hh
theorem optO_mono (k : e.le f) : ∀ {x : Option Operand} {v}, optO e x = some v → optO f x = some v
  | none, _, hh => hh
  | some x, v, hh => by
    simp only [optO, Option.map_eq_some_iff] at hh ⊢
    obtain ⟨u, h1, h2⟩ := hh
    exact ⟨u, k _ _ h1, h2⟩
theorem evOp_mono (k : e.le f) {o : Oper} (hh : evOp P h e o = some r) : evOp P h f o = some r := by
  obtain ⟨dst, op, type, pos, after, guard⟩ := o
  cases op <;> simp only [evOp] at hh ⊢ <;> first | (cases hh; done) | exact hh | skip
  case move => unfold plainV at *; simp only [Option.map_eq_some_iff] at *; obtain ⟨v, h1, h2⟩ := hh; exact ⟨v, k _ _ h1, h2⟩
  case assign => unfold plainV at *; simp only [Option.map_eq_some_iff] at *; obtain ⟨v, h1, h2⟩ := hh; exact ⟨v, k _ _ h1, h2⟩
  case pick =>
    simp only [oPick] at *
    split at hh
    · rename_i b hb
      rw [k _ _ hb]
      unfold plainV at *
      simp only [Option.map_eq_some_iff] at *
      obtain ⟨v, h1, h2⟩ := hh
      refine ⟨v, ?_, h2⟩
      cases b <;> exact k _ _ h1
    · cases hh
  case box => simp only [oBox] at *; split at hh <;> first | (rename_i v hv; rw [k _ _ hv]; exact hh) | cases hh
  case build => simp only [oBuild] at *; split at hh <;> first | (rename_i v hv; rw [mapP_mono k hv]; exact hh) | cases hh
  case buildSlice => simp only [oBuildSlice] at *; split at hh <;> first | (rename_i v hv; rw [mapP_mono k hv]; exact hh) | cases hh
  case load => simp only [oLoad] at *; split at hh <;> first | (rename_i i off hv; rw [k _ _ hv]; exact hh) | cases hh
  case store => simp only [oStore] at *; split at hh <;> first | (rename_i h1 h2; rw [k _ _ h1, k _ _ h2]; exact hh) | cases hh
  case nilCheck => simp only [oNilCheck] at *; split at hh <;> first | (rename_i hv; rw [k _ _ hv]; exact hh) | cases hh
  case binOp => simp only [oBin] at *; split at hh <;> first | (rename_i h1 h2; rw [k _ _ h1, k _ _ h2]; exact hh) | cases hh
  case unOp => simp only [oUn] at *; split at hh <;> first | (rename_i hv; rw [k _ _ hv]; exact hh) | cases hh
  case convert => simp only [oConv] at *; split at hh <;> first | (rename_i hv; rw [k _ _ hv]; exact hh) | cases hh
  case makeFunc fn _ _ =>
    cases fn <;> simp only at hh ⊢ <;> first | (cases hh; done) | skip
    simp only [oMakeFunc] at *
    split at hh <;> first | (rename_i h1 h2; rw [mapO_mono k h1, mapO_mono k h2]; exact hh) | cases hh
  case makeMap => simp only [oMakeMap] at *; split at hh <;> first | (rename_i hv; rw [optO_mono k hv]; exact hh) | cases hh
  case makeSlice => simp only [oMakeSlice] at *; split at hh <;> first | (rename_i h1 h2 h3; rw [k _ _ h1, k _ _ h2, h3]; exact hh) | cases hh
  case slice => simp only [oSlice] at *; split at hh <;> first | (rename_i h1 h2 h3 h4; rw [k _ _ h1, optO_mono k h2, optO_mono k h3, optO_mono k h4]; exact hh) | cases hh
  case fieldAddr => simp only [oFieldAddr] at *; split at hh <;> first | (rename_i hv; rw [k _ _ hv]; exact hh) | cases hh
  case field => simp only [oField] at *; split at hh <;> first | (rename_i hv; rw [k _ _ hv]; exact hh) | cases hh
  case indexAddr => simp only [oIndexAddr] at *; split at hh <;> first | (rename_i h1 h2; rw [k _ _ h1, k _ _ h2]; exact hh) | cases hh
  case index => simp only [oIndex] at *; split at hh <;> first | (rename_i h1 h2; rw [k _ _ h1, k _ _ h2]; exact hh) | cases hh
  case lookup => simp only [oLookup] at *; split at hh <;> first | (rename_i h1 h2; rw [k _ _ h1, k _ _ h2]; exact hh) | cases hh
  case mapUpdate => simp only [oUpdate] at *; split at hh <;> first | (rename_i h1 h2 h3; rw [k _ _ h1, k _ _ h2, k _ _ h3]; exact hh) | cases hh
  case insert => simp only [oUpdate] at *; split at hh <;> first | (rename_i h1 h2 h3; rw [k _ _ h1, k _ _ h2, k _ _ h3]; exact hh) | cases hh
  case extract => simp only [oExtract] at *; split at hh <;> first | (rename_i hv; rw [k _ _ hv]; exact hh) | cases hh
  case range => simp only [oRange] at *; split at hh <;> first | (rename_i hv; rw [k _ _ hv]; exact hh) | cases hh
  case next x s => cases s <;> simp only [oNext] at * <;> first | (cases hh; done) | skip; split at hh <;> first | (rename_i hv; rw [k _ _ hv]; exact hh) | cases hh
  case entry => simp only [oEntry] at *; split at hh <;> first | (rename_i hv; rw [k _ _ hv]; exact hh) | cases hh
  case call c =>
    unfold oCall at *
    split at hh
    · split at hh
      · rename_i hv; rw [mapO_mono k hv]; exact hh
      · cases hh
    · split at hh
      · rename_i h1 h2; rw [k _ _ h1, mapO_mono k h2]; exact hh
      · rename_i h1 h2; rw [k _ _ h1, mapO_mono k h2]; exact hh
      · cases hh
    · cases hh
end

/-! ### temporaries -/
abbrev Sl := List (Nat × AV)
def fnd : Sl → Nat → Option AV
  | [], _ => none
  | (d, v) :: l, t => bif Nat.beq d t then some v else fnd l t
structure Sat (a : AAct) (N : Nat) (s : Sl) (D : List Nat) : Prop where
  size : a.size = N
  defers : a.defers = D
  at_ : ∀ t v, fnd s t = some v → a.at t = v
def evS (s : Sl) : Operand → Option AV
  | .tmp t => fnd s t
  | .const v => abs 4 v
  | .global _ => none
  | .func f => some (.fn (.func f) [] [])
def putS (s : Sl) : Option Nat → AV → Sl
  | none, _ => s
  | some d, v => (d, v) :: s
def okD (N : Nat) : Option Nat → Bool
  | none => true
  | some d => Nat.blt d N
variable {N : Nat} {s : Sl} {D : List Nat} {a : AAct}
theorem Sat.ev (k : Sat a N s D) : Env1.le (evS s) a.eval := by
  intro x v hx
  cases x with
  | tmp t => simp only [evS] at hx; simp only [AAct.eval, k.at_ t v hx]
  | const c => exact hx
  | global g => cases hx
  | func f => exact hx
theorem Sat.put (k : Sat a N s D) {d : Option Nat} (hd : okD N d = true) (v : AV) : ∃ a', a.put d v = some a' ∧ Sat a' N (putS s d v) D := by
  cases d with
  | none => exact ⟨a, rfl, k⟩
  | some d =>
    refine ⟨{ a with tmps := a.tmps.set d v }, ?_, k.size, k.defers, fun t u hu => ?_⟩
    · simp only [AAct.put, k.size]
      rw [if_pos (by simpa [okD] using hd)]
    · show ((a.tmps.set d v).get t).getD aundef = u
      rw [T.get_set]
      simp only [putS, fnd] at hu
      by_cases e : d = t
      · subst e; simp at hu; simp [hu]
      · rw [show Nat.beq d t = false from by cases hb : Nat.beq d t with | false => rfl | true => exact absurd (Nat.eq_of_beq_eq_true hb) e] at hu
        rw [if_neg (fun e' => e e'.symm)]
        exact k.at_ t u hu
theorem Sat.sub {s' : Sl} (k : Sat a N s D) (hs : ∀ t v, fnd s' t = some v → fnd s t = some v) : Sat a N s' D := ⟨k.size, k.defers, fun t v h => k.at_ t v (hs t v h)⟩
theorem fnd_cons {d t : Nat} {v : AV} {l : Sl} : fnd ((d, v) :: l) t = if t = d then some v else fnd l t := by
  simp only [fnd]
  by_cases e : d = t
  · subst e; simp
  · rw [show Nat.beq d t = false from by cases hb : Nat.beq d t with | false => rfl | true => exact absurd (Nat.eq_of_beq_eq_true hb) e, if_neg (fun e' => e e'.symm)]; rfl
theorem Sat.set (k : Sat a N s D) {t : Nat} {b c : AV} (hf : fnd s t = some b) (e : b = c) : Sat a N ((t, c) :: s) D := by
  subst e
  refine ⟨k.size, k.defers, fun u v hu => ?_⟩
  rw [fnd_cons] at hu
  split at hu
  · rename_i e; subst e; cases hu; exact k.at_ _ _ hf
  · exact k.at_ _ _ hu
/-- the slot that says whether an operation is wanted -/
def gslot (ops : Array Oper) (o : Oper) : Option Nat := match o.guard with
  | some (j, _) => (ops[j]?).bind (·.dst)
  | none => none
/-- is the operation wanted? -/
def wantS (ops : Array Oper) (s : Sl) (N : Nat) (o : Oper) : Option Bool :=
  match o.guard with
  | none => some true
  | some (j, want) => match (ops[j]?).bind (·.dst) with
    | some t => bif Nat.blt t N then (match fnd s t with
      | some (.bool b) => some (b == want)
      | some (.tup _) => some false
      | _ => none) else none
    | none => none
theorem wantS_eq (k : Sat a N s D) {ops : Array Oper} {o : Oper} {w : Bool} (h : wantS ops s N o = some w) : wantedA ops a o = w := by
  unfold wantS at h
  unfold wantedA
  split at h
  · rename_i hg; cases h; rw [hg]
  · rename_i j want hg
    rw [hg]
    simp only
    unfold yieldedA
    split at h
    · rename_i t ht
      rw [ht]
      simp only
      rw [k.size]
      cases hb : Nat.blt t N with
      | false => rw [hb] at h; cases h
      | true =>
        rw [hb] at h
        simp only [cond_true] at h
        split at h
        · rename_i b hv; cases h; rw [k.at_ _ _ hv]; simp
        · rename_i l hv; cases h; rw [k.at_ _ _ hv]; simp
        · cases h
    · cases h

/-! ### memory -/
abbrev Ob := List (Nat × AObj)
/-- as it should be -/
structure Gd (h : Heap) : Prop where
  lo : h.lo ≤ h.next
  hid : ∀ r ∈ h.hid, r.2 ≤ h.next
/-- from h0 to h: what was there is there still, but for what may be written; and what is held -/
structure SS (h0 : Heap) (W : List Nat) (L : Ob) (h : Heap) : Prop where
  gd : Gd h0
  nx : h0.next ≤ h.next
  lo : h.lo = h0.lo
  hid : h.hid = h0.hid
  keep : ∀ i, i < h0.next → i ∉ W → h.t.get i = h0.t.get i
  nodup : (L.map (·.1)).Nodup
  own : ∀ p ∈ L, h.get p.1 = some p.2 ∧ h0.lo ≤ p.1 ∧ p.1 < h.next ∧ (h0.next ≤ p.1 ∨ p.1 ∈ W)
variable {h0 h g : Heap} {W : List Nat} {L : Ob}
theorem SS.good (k : SS h0 W L h) : Gd h := ⟨by rw [k.lo]; exact Nat.le_trans k.gd.lo k.nx, fun r hr => by rw [k.hid] at hr; exact Nat.le_trans (k.gd.hid r hr) k.nx⟩
theorem SS.init (k : Gd h) : SS h [] [] h := ⟨k, Nat.le_refl _, rfl, rfl, fun _ _ _ => rfl, List.nodup_nil, fun _ hp => by cases hp⟩
theorem SS.old (k : SS h0 W L h) {i : Nat} (hi : i < h0.next) (hw : i ∉ W) : h.get i = h0.get i := by
  unfold Heap.get
  rw [Heap.hidden_eq k.hid, k.keep i hi hw]
theorem Gd.shown (k : Gd h) {i : Nat} (hi : h.next ≤ i) : h.hidden i = false := by
  unfold Heap.hidden
  rw [List.any_eq_false]
  intro r hr
  have := k.hid r hr
  simp [Nat.blt_eq]
  omega
theorem SS.sub (k : SS h0 W L h) {L' : Ob} (hs : L'.Sublist L) : SS h0 W L' h := ⟨k.gd, k.nx, k.lo, k.hid, k.keep, k.nodup.sublist (hs.map _), fun p hp => k.own p (hs.subset hp)⟩
theorem SS.perm (k : SS h0 W L h) {L' : Ob} (hs : L'.Perm L) : SS h0 W L' h := ⟨k.gd, k.nx, k.lo, k.hid, k.keep, ((hs.map (·.1)).nodup_iff).2 k.nodup, fun p hp => k.own p (hs.subset hp)⟩
theorem SS.new (k : SS h0 W L h) (o : AObj) : SS h0 W ((h.next, o) :: L) (h.new o).2 := by
  have hn : (h.new o).2.next = h.next + 1 := rfl
  have ht : ∀ i, (h.new o).2.t.get i = if i = h.next then some o else h.t.get i := fun i => T.get_set _ _ _ _
  refine ⟨k.gd, by rw [hn]; exact Nat.le_succ_of_le k.nx, k.lo, k.hid, fun i hi hw => ?_, ?_, fun p hp => ?_⟩
  · rw [ht, if_neg (by have := k.nx; omega)]; exact k.keep i hi hw
  · simp only [List.map_cons, List.nodup_cons]
    refine ⟨fun hm => ?_, k.nodup⟩
    obtain ⟨p, hp, e⟩ := List.mem_map.1 hm
    have := (k.own p hp).2.2.1
    omega
  · rcases List.mem_cons.1 hp with rfl | hp
    · refine ⟨?_, by have := k.good.lo; rw [k.lo] at this; exact this, by rw [hn]; exact Nat.lt_succ_self _, .inl k.nx⟩
      unfold Heap.get
      rw [show (h.new o).2.hidden h.next = h.hidden h.next from rfl, k.good.shown (Nat.le_refl _)]
      simp [ht]
    · obtain ⟨h1, h2, h3, h4⟩ := k.own p hp
      refine ⟨?_, h2, by rw [hn]; omega, h4⟩
      have hs : (h.get p.1).isSome := by rw [h1]; rfl
      obtain ⟨g1, g2⟩ := Heap.get_some hs
      rw [← h1, g2]
      unfold Heap.get
      rw [show (h.new o).2.hidden p.1 = h.hidden p.1 from rfl, g1, ht, if_neg (Nat.ne_of_lt h3)]
      simp
theorem SS.trans {W' : List Nat} {L' Lw Lk : Ob} (k : SS h0 W L h) (k' : SS h W' L' g) (hp : (Lw ++ Lk).Perm L) (hw : Lw.map (·.1) = W') : SS h0 W (L' ++ Lk) g := by
  have kp := k.perm hp
  have hsome : ∀ p ∈ Lw ++ Lk, p.1 < h.next := fun p hp => (kp.own p hp).2.2.1
  have nd : (∀ i, i ∈ Lw.map (·.1) → ∀ j, j ∈ Lk.map (·.1) → i ≠ j) ∧ (Lk.map (·.1)).Nodup := by
    have := kp.nodup
    rw [List.map_append, List.nodup_append] at this
    exact ⟨this.2.2, this.2.1⟩
  have hW' : ∀ i, i ∈ W' → ∃ p ∈ Lw ++ Lk, p.1 = i := fun i hi => by
    rw [← hw] at hi
    obtain ⟨p, hp, e⟩ := List.mem_map.1 hi
    exact ⟨p, List.mem_append.2 (.inl hp), e⟩
  refine ⟨k.gd, Nat.le_trans k.nx k'.nx, k'.lo.trans k.lo, k'.hid.trans k.hid, fun i hi hn => ?_, ?_, fun p hp => ?_⟩
  · rw [k'.keep i (Nat.lt_of_lt_of_le hi k.nx) ?_, k.keep i hi hn]
    intro hi'
    obtain ⟨p, hp, e⟩ := hW' i hi'
    rcases (kp.own p hp).2.2.2 with h1 | h1
    · omega
    · rw [e] at h1; exact hn h1
  · rw [List.map_append, List.nodup_append]
    refine ⟨k'.nodup, nd.2, fun i hi j hj e => ?_⟩
    subst e
    obtain ⟨p, hp, e⟩ := List.mem_map.1 hi
    obtain ⟨q, hq, e'⟩ := List.mem_map.1 hj
    rcases (k'.own p hp).2.2.2 with h1 | h1
    · have := hsome q (List.mem_append.2 (.inr hq)); omega
    · rw [← hw, e] at h1
      exact nd.1 i h1 i hj rfl
  · rcases List.mem_append.1 hp with hp | hp
    · obtain ⟨h1, h2, h3, h4⟩ := k'.own p hp
      refine ⟨h1, by rw [← k.lo]; exact h2, h3, ?_⟩
      rcases h4 with h4 | h4
      · exact .inl (Nat.le_trans k.nx h4)
      · obtain ⟨q, hq, e⟩ := hW' _ h4
        rw [← e]
        exact (kp.own q hq).2.2.2
    · have hpm : p ∈ Lw ++ Lk := List.mem_append.2 (.inr hp)
      obtain ⟨h1, h2, h3, h4⟩ := kp.own p hpm
      refine ⟨?_, h2, Nat.lt_of_lt_of_le h3 k'.nx, h4⟩
      rw [← h1]
      refine k'.old h3 fun hi => ?_
      rw [← hw] at hi
      exact nd.1 _ hi _ (List.mem_map.2 ⟨p, hp, rfl⟩) rfl
theorem SS.call {L' : Ob} (k : SS h0 W L h) (k' : SS h [] L' g) : SS h0 W (L' ++ L) g := k.trans (Lw := []) k' (List.Perm.refl _) rfl
theorem SS.store {A C : Ob} {i : Nat} {o o' : AObj} (k : SS h0 W (A ++ (i, o) :: C) h) : h.set i o' = some { h with t := h.t.set i o' } ∧ SS h0 W (A ++ (i, o') :: C) { h with t := h.t.set i o' } := by
  obtain ⟨h1, h2, h3, h4⟩ := k.own (i, o) (by simp)
  have hs : (h.get i).isSome := by rw [h1]; rfl
  have hget := Heap.get_set (o := o') hs
  refine ⟨?_, k.gd, k.nx, k.lo, k.hid, fun q hq hw => ?_, ?_, fun p hp => ?_⟩
  · unfold Heap.set
    rw [if_pos (by rw [k.lo]; simpa using h2), h1]
  · show (h.t.set i o').get q = _
    rw [T.get_set, if_neg, k.keep q hq hw]
    rintro rfl
    rcases h4 with h4 | h4
    · have h4' : h0.next ≤ q := h4
      omega
    · exact hw h4
  · have := k.nodup
    simpa using this
  · have nd : i ∉ A.map (·.1) ∧ i ∉ C.map (·.1) := by
      have := k.nodup
      rw [List.map_append, List.nodup_append] at this
      refine ⟨fun hm => this.2.2 i hm i (by simp) rfl, ?_⟩
      have h5 := this.2.1
      simp only [List.map_cons, List.nodup_cons] at h5
      exact h5.1
    by_cases e : p.1 = i
    · have : p = (i, o') := by
        rcases List.mem_append.1 hp with hp | hp
        · exact absurd (List.mem_map.2 ⟨p, hp, e⟩) nd.1
        · rcases List.mem_cons.1 hp with rfl | hp
          · rfl
          · exact absurd (List.mem_map.2 ⟨p, hp, e⟩) nd.2
      subst this
      exact ⟨by rw [hget, if_pos rfl], h2, h3, h4⟩
    · have hp' : p ∈ A ++ (i, o) :: C := by
        rcases List.mem_append.1 hp with hp | hp
        · exact List.mem_append.2 (.inl hp)
        · rcases List.mem_cons.1 hp with rfl | hp
          · exact absurd rfl e
          · exact List.mem_append.2 (.inr (List.mem_cons_of_mem _ hp))
      obtain ⟨g1, g2, g3, g4⟩ := k.own p hp'
      exact ⟨by rw [hget, if_neg e]; exact g1, g2, g3, g4⟩
end Go.Proofs.YtkebbdpfjhhdhaaGreat.Ev

/- Walks through code over the calculator's memory: contracts and rules. -/
namespace Go.Proofs.YtkebbdpfjhhdhaaGreat.Ev
variable {P : Program} {B : Base}

def RunC (P : Program) (B : Base) (f : Nat) (args : List AV) (h : Heap) (v : AV) (g : Heap) : Prop := ∃ a', ∀ a, Run P B (.call f args) a h ⟨.normal, v, a', g⟩
def RunR (P : Program) (B : Base) (l : Nat) (args : List AV) (h : Heap) (v : AV) (g : Heap) : Prop := ∃ a', ∀ a, Run P B (.round l args) a h ⟨.normal, v, a', g⟩
/-- a call's contract: what it returns, what it may write, and what there is behind it -/
def Con (P : Program) (B : Base) (f : Nat) (args : List AV) (h : Heap) (W : List Nat) (v : AV) (L : Ob) : Prop := ∃ g, RunC P B f args h v g ∧ SS h W L g
theorem Con.sub {f args h W v L L'} (k : Con P B f args h W v L) (hs : L'.Sublist L) : Con P B f args h W v L' := k.elim fun g k => ⟨g, k.1, k.2.sub hs⟩
theorem Con.bare {f args h W v L} (k : Con P B f args h W v L) : Con P B f args h W v [] := k.sub (List.nil_sublist _)

/-- from here on, whatever memory is like besides, the code comes to Q -/
def WR (P : Program) (B : Base) (Q : Post) (h0 : Heap) (W : List Nat) (N : Nat) (D : List Nat) (K : List Fr) (s : Sl) (L : Ob) : Prop := ∀ a h, Sat a N s D → SS h0 W L h → KRun P B Q K .normal a h

def Ret (P : Program) (fn : Func) (h0 : Heap) (W : List Nat) (R : AV → Ob → Prop) : Post := fun ex a h => (∀ i, ex ≠ .exit i) ∧ ∃ g l L, shutAll h a.defers = some g ∧ resultsA P g a fn.results.toList = some l ∧ SS h0 W L g ∧ R (oneOf l) L

def argS : List AV → Nat → Sl
  | [], _ => []
  | v :: l, i => (i, v) :: argS l (i + 1)
theorem argS_get : ∀ {l : List AV} {i t : Nat} {v : AV}, fnd (argS l i) t = some v → (initT l i).get t = some v
  | [], _, _, _, h => by cases h
  | u :: l, i, t, v, h => by
    simp only [argS, fnd] at h
    simp only [initT, T.get_set]
    by_cases e : i = t
    · subst e; simp at h; simp [h]
    · rw [show Nat.beq i t = false from by cases hb : Nat.beq i t with | false => rfl | true => exact absurd (Nat.eq_of_beq_eq_true hb) e] at h
      rw [if_neg (fun e' => e e'.symm)]
      exact argS_get h
def sizeN (n m : Nat) : Nat := if Nat.ble n m then m else n

theorem Con.enter {f : Nat} {fn : Func} {c : Code} {args : List AV} {h : Heap} {W : List Nat} {L0 : Ob} {R : AV → Ob → Prop} {N : Nat} (hB : B.ans f args h = none) (hf : enters P f = some fn) (hb : fn.body = some c) (hN : sizeN args.length fn.ntmps = N) (h0 : SS h W L0 h)
    (hw : WR P B (Ret P fn h W R) h W N [] [.job (.code none c)] (argS args 0) L0) : ∃ v L, Con P B f args h W v L ∧ R v L := by
  have hs : Sat ⟨initT args 0, N, []⟩ N (argS args 0) [] := ⟨rfl, rfl, fun t v ht => by
    show ((initT args 0).get t).getD aundef = v
    rw [argS_get ht]; rfl⟩
  obtain ⟨⟨ex, v, a1, h1⟩, r, k⟩ := hw _ _ hs h0
  have hq : Ret P fn h W R ex a1 h1 := by cases ex <;> exact k
  obtain ⟨hne, g, l, L, e1, e2, e3, e4⟩ := hq
  obtain ⟨n, e⟩ := r
  refine ⟨oneOf l, L, ⟨g, ⟨a1, fun a => Run.call (n := n) hB ?_ e3.nx⟩, e3⟩, e4⟩
  unfold rCall
  rw [hf]
  simp only [hb]
  have hN' : (if Nat.ble args.length fn.ntmps then fn.ntmps else args.length) = N := hN
  rw [hN', e]
  cases ex with
  | exit i => exact absurd rfl (hne i)
  | normal => simp only [rEnd, e1, e2]
  | ret => simp only [rEnd, e1, e2]
/-- the same, where the value is known, and what was made is given up -/
theorem Con.enterV {f : Nat} {fn : Func} {c : Code} {args : List AV} {h : Heap} {v : AV} {N : Nat} (hB : B.ans f args h = none) (hf : enters P f = some fn) (hb : fn.body = some c) (hN : sizeN args.length fn.ntmps = N) (h0 : Gd h)
    (hw : WR P B (Ret P fn h [] fun u _ => u = v) h [] N [] [.job (.code none c)] (argS args 0) []) : Con P B f args h [] v [] := by
  obtain ⟨u, L, k, rfl⟩ := Con.enter hB hf hb hN (SS.init h0) hw
  exact k.bare

section
variable {Q : Post} {h0 : Heap} {W : List Nat} {N : Nat} {D : List Nat} {K : List Fr} {s : Sl} {L : Ob} {rnd : Option Nat}
/-! ### code -/
theorem WR.skip (k : WR P B Q h0 W N D K s L) : WR P B Q h0 W N D (.job (.code rnd .skip) :: K) s L := fun a h ha hh => KRun.skip (k a h ha hh)
theorem WR.label {l} (k : WR P B Q h0 W N D K s L) : WR P B Q h0 W N D (.job (.code rnd (.label l)) :: K) s L := fun a h ha hh => KRun.label (k a h ha hh)
theorem WR.blk {i} (k : WR P B Q h0 W N D K s L) : WR P B Q h0 W N D (.blk i :: K) s L := fun a h ha hh => k a h ha hh
theorem WR.seq {x y} (k : WR P B Q h0 W N D (.job (.code rnd x) :: .job (.code rnd y) :: K) s L) : WR P B Q h0 W N D (.job (.code rnd (.seq x y)) :: K) s L := fun a h ha hh => KRun.seq (k a h ha hh)
theorem WR.block {i b} (k : WR P B Q h0 W N D (.job (.code rnd b) :: .blk i :: K) s L) : WR P B Q h0 W N D (.job (.code rnd (.block i b)) :: K) s L := fun a h ha hh => KRun.block (k a h ha hh)
theorem WR.loop {b} (k : WR P B Q h0 W N D (.job (.code rnd b) :: .job (.code rnd (.loop b)) :: K) s L) : WR P B Q h0 W N D (.job (.code rnd (.loop b)) :: K) s L := fun a h ha hh => KRun.loop (k a h ha hh)
theorem WR.scope {b} (k : WR P B Q h0 W N D (.job (.code rnd b) :: K) s L) : WR P B Q h0 W N D (.job (.code rnd (.scope b)) :: K) s L := fun a h ha hh => KRun.scope (k a h ha hh)
theorem WR.region {i ops} (k : WR P B Q h0 W N D (.job (.ops ops ops.toList) :: K) s L) : WR P B Q h0 W N D (.job (.code rnd (.region i ops false)) :: K) s L := fun a h ha hh => KRun.region (k a h ha hh)
theorem WR.opsNil {ops} (k : WR P B Q h0 W N D K s L) : WR P B Q h0 W N D (.job (.ops ops []) :: K) s L := fun a h ha hh => KRun.opsNil (k a h ha hh)
theorem WR.condT {c x y} {b : Bool} (hc : evS s c = some (.bool b)) (hb : b = true) (k : WR P B Q h0 W N D (.job (.code rnd x) :: K) s L) : WR P B Q h0 W N D (.job (.code rnd (.cond c x y)) :: K) s L := fun a h ha hh => KRun.cond (ha.ev _ _ hc) (by rw [hb]; exact k a h ha hh)
theorem WR.condF {c x y} {b : Bool} (hc : evS s c = some (.bool b)) (hb : b = false) (k : WR P B Q h0 W N D (.job (.code rnd y) :: K) s L) : WR P B Q h0 W N D (.job (.code rnd (.cond c x y)) :: K) s L := fun a h ha hh => KRun.cond (ha.ev _ _ hc) (by rw [hb]; exact k a h ha hh)
theorem WR.cond {c x y} {b : Bool} (hc : evS s c = some (.bool b)) (k : b = true → WR P B Q h0 W N D (.job (.code rnd x) :: K) s L) (k' : b = false → WR P B Q h0 W N D (.job (.code rnd y) :: K) s L) : WR P B Q h0 W N D (.job (.code rnd (.cond c x y)) :: K) s L := by
  cases b with
  | true => exact WR.condT hc rfl (k rfl)
  | false => exact WR.condF hc rfl (k' rfl)
/-- what is left behind a way out -/
def unwind : List Fr → Nat → List Fr
  | [], _ => []
  | .job _ :: K, i => unwind K i
  | .blk k :: K, i => bif Nat.beq i k then K else unwind K i
  | .busy l :: K, _ => .busy l :: K
def lands : List Fr → Nat → Bool
  | [], _ => false
  | .job _ :: K, i => lands K i
  | .blk k :: K, i => bif Nat.beq i k then true else lands K i
  | .busy _ :: _, _ => false
/-- nothing but code is left -/
def plainK : List Fr → Bool
  | [] => true
  | .busy _ :: _ => false
  | _ :: K => plainK K
theorem KRun.lands : ∀ {K : List Fr} {i : Nat} {a : AAct} {h : Heap}, lands K i = true → KRun P B Q (unwind K i) .normal a h → KRun P B Q K (.exit i) a h
  | [], _, _, _, h, _ => by cases h
  | .job _ :: K, i, _, _, h, k => KRun.lands (K := K) h k
  | .blk j :: K, i, a, hp, h, k => by
    simp only [Ev.lands, unwind] at h k
    show KRun P B Q K (if i = j then .normal else .exit i) a hp
    cases e : Nat.beq i j with
    | true => rw [e] at k; rw [if_pos (Nat.eq_of_beq_eq_true e)]; exact k
    | false => rw [e] at h k; rw [if_neg (fun e' => by subst e'; simp at e)]; exact KRun.lands h k
  | .busy _ :: _, _, _, _, h, _ => by cases h
/-- a way out that nothing here catches -/
def leaves : List Fr → Nat → Bool
  | [], _ => true
  | .job _ :: K, i => leaves K i
  | .blk k :: K, i => bif Nat.beq i k then false else leaves K i
  | .busy _ :: _, _ => false
theorem KRun.leaves : ∀ {K : List Fr} {i : Nat} {a : AAct} {h : Heap}, leaves K i = true → Q (.exit i) a h → KRun P B Q K (.exit i) a h
  | [], _, _, _, _, k => k
  | .job _ :: K, _, _, _, h, k => KRun.leaves (K := K) h k
  | .blk j :: K, i, a, hp, h, k => by
    simp only [Ev.leaves] at h
    show KRun P B Q K (if i = j then .normal else .exit i) a hp
    cases e : Nat.beq i j with
    | true => rw [e] at h; cases h
    | false => rw [e] at h; rw [if_neg (fun e' => by subst e'; simp at e)]; exact KRun.leaves h k
  | .busy _ :: _, _, _, _, h, _ => by cases h
theorem WR.exit {i K'} (hl : lands K i = true) (hu : unwind K i = K') (k : WR P B Q h0 W N D K' s L) : WR P B Q h0 W N D (.job (.code rnd (.exit i)) :: K) s L := fun a h ha hh => KRun.exit (KRun.lands hl (by rw [hu]; exact k a h ha hh))
theorem KRun.rets : ∀ {K : List Fr} {a : AAct} {h : Heap}, plainK K = true → Q .ret a h → KRun P B Q K .ret a h
  | [], _, _, _, k => k
  | .job _ :: K, _, _, h, k => KRun.rets (K := K) h k
  | .blk _ :: K, _, _, h, k => KRun.rets (K := K) h k
  | .busy _ :: _, _, _, h, _ => by cases h
def resT (s : Sl) : List ResultVar → Option (List AV)
  | [] => some []
  | .tmp t :: l => match fnd s t, resT s l with
    | some v, some vs => some (v :: vs)
    | _, _ => none
  | .cell _ _ :: _ => none
theorem resT_eq {a : AAct} {h : Heap} (k : Sat a N s D) : ∀ {l : List ResultVar} {vs}, resT s l = some vs → resultsA P h a l = some vs
  | [], _, e => e
  | .tmp t :: l, vs, e => by
    simp only [resT] at e
    split at e
    · rename_i v us h1 h2; cases e; simp only [resultsA, resT_eq k h2, k.at_ _ _ h1]
    · cases e
  | .cell _ _ :: _, _, e => by cases e
theorem WR.ret {fn R l} (hK : plainK K = true) (hr : resT s fn.results.toList = some l) (hR : R (oneOf l) L) : WR P B (Ret P fn h0 W R) h0 W N [] (.job (.code rnd .ret) :: K) s L := fun a h ha hh =>
  KRun.ret (KRun.rets hK ⟨fun _ e => by (cases e), h, l, L, by rw [ha.defers]; rfl, resT_eq ha hr, hh, hR⟩)
theorem WR.fin {fn R l} (hr : resT s fn.results.toList = some l) (hR : R (oneOf l) L) : WR P B (Ret P fn h0 W R) h0 W N [] [] s L := fun a h ha hh =>
  ⟨fun _ e => by (cases e), h, l, L, by rw [ha.defers]; rfl, resT_eq ha hr, hh, hR⟩
/-- less is known -/
theorem WR.sub {s' : Sl} {L' : Ob} (hs : ∀ t v, fnd s' t = some v → fnd s t = some v) (hl : L'.Sublist L) (k : WR P B Q h0 W N D K s' L') : WR P B Q h0 W N D K s L := fun a h ha hh => k a h (ha.sub hs) (hh.sub hl)
/-! a loop: rounds that are numbered by a measure -/
theorem WR.rounds {b} {ι : Sort _} (S : ι → Sl) (O : ι → Ob) (μ : ι → Nat) (i : ι)
    (k : ∀ i, (∀ j, μ j < μ i → WR P B Q h0 W N D (.job (.code rnd (.loop b)) :: K) (S j) (O j)) → WR P B Q h0 W N D (.job (.code rnd b) :: .job (.code rnd (.loop b)) :: K) (S i) (O i)) : WR P B Q h0 W N D (.job (.code rnd (.loop b)) :: K) (S i) (O i) := by
  have : ∀ n i, μ i < n → WR P B Q h0 W N D (.job (.code rnd (.loop b)) :: K) (S i) (O i) := by
    intro n
    induction n with
    | zero => intro i h; omega
    | succ n ih => intro i h; exact WR.loop (k i fun j hj => ih j (by omega))
  exact this _ i (Nat.lt_succ_self _)

/-! ### operations, in the order of the text -/
theorem WR.opE {ops o l v} {L' : Ob} (hw : wantS ops s N o = some true) (hd : okD N o.dst = true) (he : ∀ a h, Sat a N s D → SS h0 W L h → ∃ g, ROp P B h a o v g ∧ SS h0 W L' g)
    (k : WR P B Q h0 W N D (.job (.ops ops l) :: K) (putS s o.dst v) L') : WR P B Q h0 W N D (.job (.ops ops (o :: l)) :: K) s L := fun a h ha hh => by
  obtain ⟨g, h1, h2⟩ := he a h ha hh
  obtain ⟨a', h3, h4⟩ := ha.put hd v
  exact KRun.op (wantS_eq ha hw) h1 h3 (k a' g h4 h2)
theorem WR.opSkip {ops o l} (hw : wantS ops s N o = some false) (hd : okD N o.dst = true) (k : WR P B Q h0 W N D (.job (.ops ops l) :: K) (putS s o.dst aundef) L) : WR P B Q h0 W N D (.job (.ops ops (o :: l)) :: K) s L := fun a h ha hh => by
  obtain ⟨a', h3, h4⟩ := ha.put hd aundef
  exact KRun.opSkip (wantS_eq ha hw) h3 (k a' h h4 hh)
theorem ROp.value {a : AAct} {h g : Heap} {o : Oper} {v : AV} (ha : Sat a N s D) (he : evOp P h (evS s) o = some (.value v, g)) (hn : h.next ≤ g.next) : ROp P B h a o v g :=
  ⟨0, by unfold rOp; rw [evOp_mono ha.ev he]; simp [hn, rOp2]⟩
theorem ROp.skip {a : AAct} {h g : Heap} {o : Oper} (ha : Sat a N s D) (he : evOp P h (evS s) o = some (.skip, g)) (hn : h.next ≤ g.next) : ROp P B h a o aundef g :=
  ⟨0, by unfold rOp; rw [evOp_mono ha.ev he]; simp [hn, rOp2]⟩
theorem ROp.enter {a : AAct} {h g : Heap} {o : Oper} {f args v} (ha : Sat a N s D) (he : evOp P h (evS s) o = some (.enter f args, h)) (k : RunC P B f args h v g) : ROp P B h a o v g := by
  obtain ⟨a', k⟩ := k
  obtain ⟨n, e⟩ := k a
  exact ⟨n, by unfold rOp; rw [evOp_mono ha.ev he]; simp [rOp2, e]⟩
theorem ROp.round {a : AAct} {h g : Heap} {o : Oper} {l args v} (ha : Sat a N s D) (he : evOp P h (evS s) o = some (.round l args, h)) (k : RunR P B l args h v g) : ROp P B h a o v g := by
  obtain ⟨a', k⟩ := k
  obtain ⟨n, e⟩ := k a
  exact ⟨n, by unfold rOp; rw [evOp_mono ha.ev he]; simp [rOp2, e]⟩

theorem WR.pure {ops o l v} (hw : wantS ops s N o = some true) (he : ∀ h, evOp P h (evS s) o = some (.value v, h)) (hd : okD N o.dst = true) (k : WR P B Q h0 W N D (.job (.ops ops l) :: K) (putS s o.dst v) L) : WR P B Q h0 W N D (.job (.ops ops (o :: l)) :: K) s L :=
  WR.opE hw hd (fun _ h ha hh => ⟨h, ROp.value ha (he h) (Nat.le_refl _), hh⟩) k
/-- where an integer need not be wrapped -/
theorem WR.int {ops o l k n} (hw : wantS ops s N o = some true) (he : ∀ h, evOp P h (evS s) o = some (.value (.int k (k.wrap n)), h)) (hd : okD N o.dst = true) (hn : k.wrap n = n) (kk : WR P B Q h0 W N D (.job (.ops ops l) :: K) (putS s o.dst (.int k n)) L) : WR P B Q h0 W N D (.job (.ops ops (o :: l)) :: K) s L :=
  WR.opE hw hd (fun a h ha hh => ⟨h, ROp.value ha (by rw [he h, hn]) (Nat.le_refl _), hh⟩) kk
/-- the value is known by other words -/
theorem WR.eq {ops o l v u} (hw : wantS ops s N o = some true) (he : ∀ h, evOp P h (evS s) o = some (.value u, h)) (hd : okD N o.dst = true) (hv : u = v) (kk : WR P B Q h0 W N D (.job (.ops ops l) :: K) (putS s o.dst v) L) : WR P B Q h0 W N D (.job (.ops ops (o :: l)) :: K) s L := by
  subst hv; exact WR.pure hw he hd kk

/-- what stands in an object -/
def AObj.readN : AObj → Nat → Nat → Option (List AV)
  | .cells l _, off, n => takeN n (dropN off l)
  | .row l _ _, off, n => takeN n (dropN off l)
  | .view f, off, n => readF f off n
  | _, _, _ => none
def AObj.read1 : AObj → Nat → Option AV
  | .cells l _, off => nthN off l
  | .row l _ _, off => nthN off l
  | .view f, off => f off
  | _, _ => none
def AObj.load (P : Program) (o : AObj) (t : TypeId) (off : Nat) : Option AV :=
  match isAggT P t, sizeT P t with
  | some true, some s => (o.readN off s).map .agg
  | some false, _ => o.read1 off
  | _, _ => none
theorem evLoad_of {h : Heap} {t i off : Nat} {o : AObj} {v : AV} (hg : h.get i = some o) (k : o.load P t off = some v) : evLoad P h t i off = some v := by
  unfold AObj.load at k
  unfold evLoad Heap.loadN Heap.at1
  rw [hg]
  cases o <;> exact k
theorem evOp_load {h : Heap} {o : Oper} {t x i off v} (ho : o.op = .load t x) (hx : evS s x = some (.ptr i off)) (k : evLoad P h t i off = some v) : evOp P h (evS s) o = some (.value v, h) := by
  unfold evOp; rw [ho]; simp only [oLoad, hx, plainV, k, Option.map_some]
theorem WR.load {ops o l t x i off obj v} (hw : wantS ops s N o = some true) (ho : o.op = .load t x) (hx : evS s x = some (.ptr i off)) (hd : okD N o.dst = true) (hm : (i, obj) ∈ L) (hv : obj.load P t off = some v) (k : WR P B Q h0 W N D (.job (.ops ops l) :: K) (putS s o.dst v) L) : WR P B Q h0 W N D (.job (.ops ops (o :: l)) :: K) s L :=
  WR.opE hw hd (fun _ h ha hh => ⟨h, ROp.value ha (evOp_load ho hx (evLoad_of (hh.own _ hm).1 hv)) (Nat.le_refl _), hh⟩) k
theorem WR.alloc {ops o l t z} (hw : wantS ops s N o = some true) (ho : o.op = .alloc t) (hz : zeroT P t = some z) (hd : okD N o.dst = true) (k : ∀ j, h0.next ≤ j → WR P B Q h0 W N D (.job (.ops ops l) :: K) (putS s o.dst (.ptr j 0)) ((j, .cells z.cells t) :: L)) : WR P B Q h0 W N D (.job (.ops ops (o :: l)) :: K) s L := fun a h ha hh => by
  obtain ⟨a', h3, h4⟩ := ha.put hd (.ptr h.next 0)
  refine KRun.op (wantS_eq ha hw) (ROp.value (g := (h.new (.cells z.cells t)).2) ha ?_ (Nat.le_succ _)) h3 (k _ hh.nx a' _ h4 (hh.new _))
  unfold evOp; rw [ho]; simp only [oAlloc, hz, newV]; rfl
theorem WR.box {ops o l t x v} (hw : wantS ops s N o = some true) (ho : o.op = .box t x) (hx : evS s x = some v) (hd : okD N o.dst = true) (k : ∀ j, h0.next ≤ j → WR P B Q h0 W N D (.job (.ops ops l) :: K) (putS s o.dst (.ptr j 0)) ((j, .cells v.cells t) :: L)) : WR P B Q h0 W N D (.job (.ops ops (o :: l)) :: K) s L := fun a h ha hh => by
  obtain ⟨a', h3, h4⟩ := ha.put hd (.ptr h.next 0)
  refine KRun.op (wantS_eq ha hw) (ROp.value (g := (h.new (.cells v.cells t)).2) ha ?_ (Nat.le_succ _)) h3 (k _ hh.nx a' _ h4 (hh.new _))
  unfold evOp; rw [ho]; simp only [oBox, hx, newV]; rfl
/-- a new block, of whatever operation -/
theorem WR.make {ops o l} {ob : AObj} {f : Nat → AV} (hw : wantS ops s N o = some true) (he : ∀ h, evOp P h (evS s) o = newV h ob f) (hd : okD N o.dst = true) (k : ∀ j, h0.next ≤ j → WR P B Q h0 W N D (.job (.ops ops l) :: K) (putS s o.dst (f j)) ((j, ob) :: L)) : WR P B Q h0 W N D (.job (.ops ops (o :: l)) :: K) s L := fun a h ha hh => by
  obtain ⟨a', h3, h4⟩ := ha.put hd (f h.next)
  exact KRun.op (wantS_eq ha hw) (ROp.value (g := (h.new ob).2) ha (by rw [he]; rfl) (Nat.le_succ _)) h3 (k _ hh.nx a' _ h4 (hh.new _))
/-- what a store makes of an object -/
def AObj.put (o : AObj) (off : Nat) (xs : List AV) : Option AObj :=
  match o with
  | .cells l t => (overN off xs l).map fun l => .cells l t
  | .row l t sz => (overN off xs l).map fun l => .row l t sz
  | _ => none
def AObj.store (P : Program) (o : AObj) (t : TypeId) (off : Nat) (v : AV) : Option AObj :=
  match sizeT P t with
  | some s => if v.cells.length = s ∧ v.cells.all okCell then o.put off v.cells else none
  | none => none
theorem evStore_of {h g : Heap} {t i off : Nat} {o o' : AObj} {v : AV} (hg : h.get i = some o) (k : o.store P t off v = some o') (hs : h.set i o' = some g) : evStore P h t i off v = some g := by
  unfold AObj.store at k
  unfold evStore
  split at k
  · rename_i s hs'
    rw [hs']
    split at k
    · rename_i hc
      simp only [if_pos hc]
      unfold AObj.put at k
      unfold Heap.storeN
      cases o with
      | cells l t' =>
        simp only [Option.map_eq_some_iff] at k
        obtain ⟨q, k1, rfl⟩ := k
        simp [Heap.row, hg, k1, Heap.setRow, hs]
      | row l t' sz =>
        simp only [Option.map_eq_some_iff] at k
        obtain ⟨q, k1, rfl⟩ := k
        simp [Heap.row, hg, k1, Heap.setRow, hs]
      | _ => cases k
    · cases k
  · cases k
theorem WR.store {ops o l t x y i off obj obj' v} {A C : Ob} (hw : wantS ops s N o = some true) (ho : o.op = .store t x y) (hx : evS s x = some (.ptr i off)) (hy : evS s y = some v) (hd : okD N o.dst = true) (hL : L = A ++ (i, obj) :: C) (hv : obj.store P t off v = some obj') (k : WR P B Q h0 W N D (.job (.ops ops l) :: K) (putS s o.dst aundef) (A ++ (i, obj') :: C)) : WR P B Q h0 W N D (.job (.ops ops (o :: l)) :: K) s L := by
  subst hL
  refine WR.opE hw hd (fun a h ha hh => ?_) k
  obtain ⟨h1, h2⟩ := hh.store (o' := obj')
  refine ⟨{ h with t := h.t.set i obj' }, ROp.skip ha ?_ (Nat.le_refl _), h2⟩
  unfold evOp; rw [ho]
  simp only [oStore, hx, hy, evStore_of (hh.own (i, obj) (by simp)).1 hv h1, Option.map_some]
/-- a call -/
theorem WR.call {ops o l f args v} {L' : Ob} (hw : wantS ops s N o = some true) (he : ∀ h, evOp P h (evS s) o = some (.enter f args, h)) (hd : okD N o.dst = true) (hc : ∀ h, SS h0 W L h → Con P B f args h [] v L') (k : WR P B Q h0 W N D (.job (.ops ops l) :: K) (putS s o.dst v) (L' ++ L)) : WR P B Q h0 W N D (.job (.ops ops (o :: l)) :: K) s L :=
  WR.opE hw hd (fun _ h ha hh => (hc h hh).elim fun g hg => ⟨g, ROp.enter ha (he h) hg.1, hh.call hg.2⟩) k
/-- a call whose value is known by words alone -/
theorem WR.callR {ops o l f args} {R : AV → Ob → Prop} (hw : wantS ops s N o = some true) (he : ∀ h, evOp P h (evS s) o = some (.enter f args, h)) (hd : okD N o.dst = true) (hc : ∀ h, SS h0 W L h → ∃ v L', Con P B f args h [] v L' ∧ R v L') (k : ∀ v L', R v L' → WR P B Q h0 W N D (.job (.ops ops l) :: K) (putS s o.dst v) (L' ++ L)) : WR P B Q h0 W N D (.job (.ops ops (o :: l)) :: K) s L := fun a h ha hh => by
  obtain ⟨v, L', ⟨g, h1, h2⟩, hR⟩ := hc h hh
  obtain ⟨a', h3, h4⟩ := ha.put hd v
  exact KRun.op (wantS_eq ha hw) (ROp.enter ha (he h) h1) h3 (k v L' hR a' g h4 (hh.call h2))
/-- a call that writes to what is held -/
theorem WR.callW {ops o l f args v} {L' Lw Lk : Ob} {W' : List Nat} (hw : wantS ops s N o = some true) (he : ∀ h, evOp P h (evS s) o = some (.enter f args, h)) (hd : okD N o.dst = true) (hL : (Lw ++ Lk).Perm L) (hW : Lw.map (·.1) = W') (hc : ∀ h, SS h0 W L h → Con P B f args h W' v L') (k : WR P B Q h0 W N D (.job (.ops ops l) :: K) (putS s o.dst v) (L' ++ Lk)) : WR P B Q h0 W N D (.job (.ops ops (o :: l)) :: K) s L :=
  WR.opE hw hd (fun _ h ha hh => (hc h hh).elim fun g hg => ⟨g, ROp.enter ha (he h) hg.1, hh.trans hg.2 hL hW⟩) k
end
end Go.Proofs.YtkebbdpfjhhdhaaGreat.Ev

/- Walks through code over the calculator's memory: the rules in the form in which a walk uses them. -/
namespace Go.Proofs.YtkebbdpfjhhdhaaGreat.Ev
variable {P : Program} {B : Base}

theorem enters_of {f : Nat} {fn : Func} (hf : P.funcs[f]? = some fn) (hb : fn.body.isSome = true) (hn : (fn.name == "runtime.NumGoroutine") = false) : enters P f = some fn := by
  unfold enters; rw [hf]; simp [hb, hn]
structure WK (P : Program) (B : Base) (Q : Post) (h0 : Heap) (W : List Nat) (N : Nat) (D : List Nat) (K : List Fr) (s : Sl) (L : Ob) : Prop where
  run : WR P B Q h0 W N D K s L
theorem Con.start {f M : Nat} {fn : Func} {c : Code} {args : List AV} {h : Heap} {v : AV} {s : Sl} (hB : B.ans f args h = none) (hf : P.funcs[f]? = some fn) (hn : (fn.name == "runtime.NumGoroutine") = false) (hb : fn.body = some c) (hM : fn.ntmps = M) (hN : Nat.ble args.length M = true) (hs : argS args 0 = s) (h0 : Gd h)
    (hw : WK P B (Ret P fn h [] fun u _ => u = v) h [] M [] [.job (.code none c)] s []) : Con P B f args h [] v [] := by
  subst hs
  exact Con.enterV hB (enters_of hf (by rw [hb]; rfl) hn) hb (by rw [hM]; unfold sizeN; rw [if_pos hN]) h0 hw.run
theorem Con.startR {f M : Nat} {fn : Func} {c : Code} {args : List AV} {h : Heap} {W : List Nat} {L0 : Ob} {R : AV → Ob → Prop} {s : Sl} (hB : B.ans f args h = none) (hf : P.funcs[f]? = some fn) (hn : (fn.name == "runtime.NumGoroutine") = false) (hb : fn.body = some c) (hM : fn.ntmps = M) (hN : Nat.ble args.length M = true) (hs : argS args 0 = s) (h0 : SS h W L0 h)
    (hw : WK P B (Ret P fn h W R) h W M [] [.job (.code none c)] s L0) : ∃ v L, Con P B f args h W v L ∧ R v L := by
  subst hs
  exact Con.enter hB (enters_of hf (by rw [hb]; rfl) hn) hb (by rw [hM]; unfold sizeN; rw [if_pos hN]) h0 hw.run

section
variable {Q : Post} {h0 : Heap} {W : List Nat} {N : Nat} {D : List Nat} {K : List Fr} {s : Sl} {L : Ob} {rnd : Option Nat} {ops : Array Oper} {d : Nat} {op : Op} {ty : TypeId} {pos : String} {af : Array Edge} {gd : Option (Nat × Bool)} {l : List Oper}
theorem WK.skip (k : WK P B Q h0 W N D K s L) : WK P B Q h0 W N D (.job (.code rnd .skip) :: K) s L := ⟨WR.skip k.run⟩
theorem WK.label {j} (k : WK P B Q h0 W N D K s L) : WK P B Q h0 W N D (.job (.code rnd (.label j)) :: K) s L := ⟨WR.label k.run⟩
theorem WK.blk {i} (k : WK P B Q h0 W N D K s L) : WK P B Q h0 W N D (.blk i :: K) s L := ⟨WR.blk k.run⟩
theorem WK.seq {x y} (k : WK P B Q h0 W N D (.job (.code rnd x) :: .job (.code rnd y) :: K) s L) : WK P B Q h0 W N D (.job (.code rnd (.seq x y)) :: K) s L := ⟨WR.seq k.run⟩
theorem WK.block {i b} (k : WK P B Q h0 W N D (.job (.code rnd b) :: .blk i :: K) s L) : WK P B Q h0 W N D (.job (.code rnd (.block i b)) :: K) s L := ⟨WR.block k.run⟩
theorem WK.scope {b} (k : WK P B Q h0 W N D (.job (.code rnd b) :: K) s L) : WK P B Q h0 W N D (.job (.code rnd (.scope b)) :: K) s L := ⟨WR.scope k.run⟩
theorem WK.condT {c x y} (k : WK P B Q h0 W N D (.job (.code rnd x) :: K) s L) (hc : evS s c = some (.bool true) := by exact rfl) : WK P B Q h0 W N D (.job (.code rnd (.cond c x y)) :: K) s L := ⟨WR.condT hc rfl k.run⟩
theorem WK.condF {c x y} (k : WK P B Q h0 W N D (.job (.code rnd y) :: K) s L) (hc : evS s c = some (.bool false) := by exact rfl) : WK P B Q h0 W N D (.job (.code rnd (.cond c x y)) :: K) s L := ⟨WR.condF hc rfl k.run⟩
theorem WK.exit {i K'} (k : WK P B Q h0 W N D K' s L) (hl : lands K i = true := by exact rfl) (hu : unwind K i = K' := by exact rfl) : WK P B Q h0 W N D (.job (.code rnd (.exit i)) :: K) s L := ⟨WR.exit hl hu k.run⟩
theorem WK.fin {fn R l} (hr : resT s fn.results.toList = some l) (hR : R (oneOf l) L) : WK P B (Ret P fn h0 W R) h0 W N [] [] s L := ⟨WR.fin hr hR⟩
end

/-! ### what an operation sees -/
structure Vw (h0 : Heap) (W : List Nat) (V : Ob) (h : Heap) : Prop where
  gd : Gd h
  nx : h0.next ≤ h.next
  old : ∀ i, i < h0.next → i ∉ W → h.get i = h0.get i
  own : ∀ p ∈ V, h.get p.1 = some p.2 ∧ p.1 < h.next
theorem SS.vw {h0 h : Heap} {W : List Nat} {L : Ob} (k : SS h0 W L h) : Vw h0 W L h := ⟨k.good, k.nx, fun _ hi hw => k.old hi hw, fun p hp => ⟨(k.own p hp).1, (k.own p hp).2.2.1⟩⟩

/-! ### a region that draws its order -/
abbrev Tg := List (Nat × Nat × AObj)
def seenT (m : Nat) (T : Tg) : Ob := (T.filter fun p => m.testBit p.1).map (·.2)
def freeT (m ty : Nat) : List Nat → Nat → Bool
  | [], _ => true
  | t :: l, i => (m.testBit (i - 1) || ty == 0 || t == 0 || (!(ty == 2) && !(t == 2))) && freeT m ty l (i - 1)
theorem freeT_all {m : Nat} {r : Rec} : ∀ {recs : List Rec} {i : Nat}, freeT m r.ty (recs.map (·.ty)) i = true → freeAll m r recs i = true
  | [], _, _ => rfl
  | q :: recs, i, h => by
    simp only [List.map_cons, freeT, Bool.and_eq_true, Bool.or_eq_true, beq_iff_eq, Bool.not_eq_true'] at h
    simp only [freeAll, Bool.and_eq_true, Bool.or_eq_true]
    refine ⟨?_, freeT_all h.2⟩
    rcases h.1 with ((h1 | h1) | h1) | h1
    · exact .inl h1
    · exact .inr (by simp [free, h1])
    · exact .inr (by simp [free, h1])
    · right
      have h2 : ¬ r.ty = 2 := by simpa using h1.1
      have h3 : ¬ q.ty = 2 := by simpa using h1.2
      simp [free, h2, h3]
def masksR (ops : Array Oper) : List Nat := (masksOf ops.toList []).reverse
def kindsR (ops : Array Oper) : List Nat := kindsOf ops (masksR ops)
/-- the kinds before i, in reverse order -/
def kindsTo (ks : List Nat) : Nat → List Nat
  | 0 => []
  | i + 1 => ks.getD i 0 :: kindsTo ks i
def preOk (ms ks : List Nat) (n : Nat) : Bool := (List.range n).all fun i => freeT (ms.getD i 0) (ks.getD i 0) (kindsTo ks i) i
/-- what is asked of the text: no two operations without an order touch memory in ways that could differ -/
def staticAll (ops : Array Oper) : Bool := staticOk ops && (preOk (masksR ops) (kindsR ops) ops.size && (kindsR ops).all fun k => !(k == 4))
def maskAt (ops : Array Oper) (l : List Oper) (k : Nat) : Bool := ((masksR ops).getD (ops.toList.length - l.length) 0).testBit k
def kindAt (ops : Array Oper) (l : List Oper) : Nat := (kindsR ops).getD (ops.toList.length - l.length) 0
/-- the kinds of what has been done: as they are, or 0 where it was not wanted -/
def tyOk (ks : List Nat) : List Rec → Prop
  | [] => True
  | r :: recs => (r.ty = ks.getD recs.length 0 ∨ r.ty = 0) ∧ tyOk ks recs
theorem freeT_mono {m ty : Nat} {ks : List Nat} : ∀ {recs : List Rec}, tyOk ks recs → freeT m ty (kindsTo ks recs.length) recs.length = true → freeT m ty (recs.map (·.ty)) recs.length = true
  | [], _, _ => rfl
  | r :: recs, h, k => by
    simp only [List.length_cons, kindsTo, freeT, Nat.add_sub_cancel, Bool.and_eq_true] at k
    simp only [List.map_cons, List.length_cons, freeT, Nat.add_sub_cancel, Bool.and_eq_true]
    refine ⟨?_, freeT_mono h.2 k.2⟩
    rcases h.1 with h1 | h1
    · rw [h1]; exact k.1
    · rw [h1]; simp
theorem staticAll_free {ops : Array Oper} (h : staticAll ops = true) {recs : List Rec} (hlt : recs.length < ops.size) (hk : tyOk (kindsR ops) recs) {r : Rec} (hr : r.ty = (kindsR ops).getD recs.length 0) : freeAll ((masksR ops).getD recs.length 0) r recs recs.length = true := by
  unfold staticAll at h
  rw [Bool.and_eq_true, Bool.and_eq_true] at h
  have := List.all_eq_true.1 h.2.1 recs.length (List.mem_range.2 hlt)
  rw [← hr] at this
  exact freeT_all (freeT_mono hk this)
theorem staticAll_four {ops : Array Oper} (h : staticAll ops = true) (i : Nat) : (kindsR ops).getD i 0 ≠ 4 := fun e => by
  unfold staticAll at h
  rw [Bool.and_eq_true, Bool.and_eq_true] at h
  have h2 := List.all_eq_true.1 h.2.2
  rw [List.getD_eq_getElem?_getD] at e
  cases hk : (kindsR ops)[i]? with
  | none => rw [hk] at e; cases e
  | some k =>
    rw [hk] at e
    simp only [Option.getD_some] at e
    subst e
    have := h2 4 (List.mem_of_getElem? hk)
    simp at this
theorem hide_sub {m i : Nat} : ∀ {recs : List Rec} {n : Nat}, (hideOf m recs n).any (inR i) = true → ∃ r ∈ recs, r.n0 ≤ i ∧ i < r.n1
  | [], _, h => by simp [hideOf] at h
  | r :: recs, n, h => by
    simp only [hideOf] at h
    split at h
    · obtain ⟨q, h1, h2⟩ := hide_sub h; exact ⟨q, List.mem_cons_of_mem _ h1, h2⟩
    · simp only [List.any_cons, Bool.or_eq_true, inR_iff] at h
      rcases h with h | h
      · exact ⟨r, List.mem_cons_self, h⟩
      · obtain ⟨q, h1, h2⟩ := hide_sub h; exact ⟨q, List.mem_cons_of_mem _ h1, h2⟩
theorem hide_mem {m : Nat} : ∀ {recs : List Rec} {n : Nat} {x : Nat × Nat}, x ∈ hideOf m recs n → ∃ r ∈ recs, x = (r.n0, r.n1)
  | [], _, _, h => by simp [hideOf] at h
  | r :: recs, n, x, h => by
    simp only [hideOf] at h
    split at h
    · obtain ⟨q, h1, h2⟩ := hide_mem h; exact ⟨q, List.mem_cons_of_mem _ h1, h2⟩
    · rcases List.mem_cons.1 h with h | h
      · exact ⟨r, List.mem_cons_self, h⟩
      · obtain ⟨q, h1, h2⟩ := hide_mem h; exact ⟨q, List.mem_cons_of_mem _ h1, h2⟩
structure DS (h0 : Heap) (W : List Nat) (recs : List Rec) (L : Ob) (T : Tg) (h : Heap) : Prop where
  ss : SS h0 W (T.map (·.2) ++ L) h
  rng : ∀ r ∈ recs, h0.next ≤ r.n0 ∧ r.n1 ≤ h.next
  visL : ∀ p ∈ L, ∀ r ∈ recs, ¬ (r.n0 ≤ p.1 ∧ p.1 < r.n1)
  visW : ∀ i ∈ W, ∀ r ∈ recs, ¬ (r.n0 ≤ i ∧ i < r.n1)
  visT : ∀ x ∈ T, ∀ m, m.testBit x.1 = true → (hideOf m recs recs.length).any (inR x.2.1) = false
section
variable {h0 h g : Heap} {W : List Nat} {recs : List Rec} {L : Ob} {T : Tg}
theorem DS.init (k : SS h0 W L h) : DS h0 W [] L [] h := ⟨k, fun _ h => (by cases h), fun _ _ _ h => (by cases h), fun _ _ _ h => (by cases h), fun _ h => (by cases h)⟩
theorem evHeap_get (ty m : Nat) {i : Nat} (h4 : ty ≠ 4) (hi : (hideOf m recs recs.length).any (inR i) = false) : (evHeap ty m recs h).get i = h.get i := by
  have key : ∀ lo, (⟨h.t, h.next, lo, hideOf m recs recs.length ++ h.hid⟩ : Heap).get i = h.get i := fun lo => by
    unfold Heap.get
    rw [hidden_any, hidden_any]
    simp only [List.any_append, hi, Bool.false_or]
  unfold evHeap
  split
  · exact key _
  · split
    · exact key _
    · first | rfl | rw [if_neg h4]
theorem DS.gd (k : DS h0 W recs L T h) (ty m : Nat) : Gd (evHeap ty m recs h) := by
  have hgd : ∀ r ∈ (hideOf m recs recs.length ++ h.hid), r.2 ≤ h.next := fun r hr => by
    rcases List.mem_append.1 hr with hr | hr
    · obtain ⟨q, h1, rfl⟩ := hide_mem hr; exact (k.rng q h1).2
    · exact k.ss.good.hid r hr
  unfold evHeap
  split
  · exact ⟨Nat.le_refl _, hgd⟩
  · split
    · exact ⟨k.ss.good.lo, hgd⟩
    · split
      · exact ⟨Nat.le_refl _, fun r hr => by rw [List.mem_singleton.1 hr]; exact Nat.le_refl _⟩
      · exact k.ss.good
theorem DS.vw (k : DS h0 W recs L T h) (ty m : Nat) (h4 : ty ≠ 4) : Vw h0 W (seenT m T ++ L) (evHeap ty m recs h) := by
  have hn := evHeap_next ty m recs h
  refine ⟨k.gd ty m, by rw [hn]; exact k.ss.nx, fun i hi hw => ?_, fun p hp => ?_⟩
  · rw [evHeap_get _ _ h4, k.ss.old hi hw]
    cases e : (hideOf m recs recs.length).any (inR i) with
    | false => rfl
    | true => obtain ⟨r, h1, h2, h3⟩ := hide_sub e; have := (k.rng r h1).1; omega
  · rw [hn]
    rcases List.mem_append.1 hp with hp | hp
    · obtain ⟨x, hx, rfl⟩ := List.mem_map.1 hp
      obtain ⟨hx, hb⟩ := List.mem_filter.1 hx
      have := k.ss.own x.2 (List.mem_append.2 (.inl (List.mem_map.2 ⟨x, hx, rfl⟩)))
      exact ⟨by rw [evHeap_get ty m h4 (k.visT x hx m hb)]; exact this.1, this.2.2.1⟩
    · have := k.ss.own p (List.mem_append.2 (.inr hp))
      refine ⟨?_, this.2.2.1⟩
      rw [evHeap_get _ _ h4, this.1]
      cases e : (hideOf m recs recs.length).any (inR p.1) with
      | false => rfl
      | true => obtain ⟨r, h1, h2⟩ := hide_sub e; exact absurd h2 (k.visL p hp r h1)
theorem SS.back {ty m : Nat} {L' : Ob} (hgd : Gd h) (k : SS (evHeap ty m recs h) [] L' g) : SS h [] L' { g with lo := h.lo, hid := h.hid } := by
  have hn := evHeap_next ty m recs h
  have ht := evHeap_t ty m recs h
  have hnx : h.next ≤ g.next := by rw [← hn]; exact k.nx
  refine ⟨hgd, hnx, rfl, rfl, fun i hi hw => ?_, k.nodup, fun p hp => ?_⟩
  · show g.t.get i = _
    rw [k.keep i (by rw [hn]; exact hi) hw, ht]
  · obtain ⟨h1, h2, h3, h4⟩ := k.own p hp
    have h5 : h.next ≤ p.1 := by
      rcases h4 with h4 | h4
      · rw [hn] at h4; exact h4
      · cases h4
    refine ⟨?_, Nat.le_trans hgd.lo h5, h3, .inl h5⟩
    have hs : (g.get p.1).isSome := by rw [h1]; rfl
    rw [← h1, (Heap.get_some hs).2]
    unfold Heap.get
    rw [show ({ g with lo := h.lo, hid := h.hid } : Heap).hidden p.1 = h.hidden p.1 from rfl, hgd.shown h5]
    simp
theorem DS.step {ty m : Nat} {L' : Ob} {r : Rec} (k : DS h0 W recs L T h) (k' : SS (evHeap ty m recs h) [] L' g) (hr0 : r.n0 = h.next) (hr1 : r.n1 = g.next) (hw : ∀ i ∈ W, i < h.next) : DS h0 W (r :: recs) L (L'.map (fun p => (recs.length, p)) ++ T) { g with lo := h.lo, hid := h.hid } := by
  have kb := SS.back k.ss.good k'
  have hnx : h.next ≤ g.next := kb.nx
  refine ⟨?_, fun q hq => ?_, fun p hp q hq => ?_, fun i hi q hq => ?_, fun x hx m' hm => ?_⟩
  · have := k.ss.call kb
    rw [List.map_append, List.map_map, List.append_assoc]
    simpa [Function.comp_def] using this
  · rcases List.mem_cons.1 hq with rfl | hq
    · exact ⟨by rw [hr0]; exact k.ss.nx, by rw [hr1]; exact Nat.le_refl _⟩
    · exact ⟨(k.rng q hq).1, Nat.le_trans (k.rng q hq).2 hnx⟩
  · rcases List.mem_cons.1 hq with rfl | hq
    · have := (k.ss.own p (List.mem_append.2 (.inr hp))).2.2.1
      omega
    · exact k.visL p hp q hq
  · rcases List.mem_cons.1 hq with rfl | hq
    · have := hw i hi; omega
    · exact k.visW i hi q hq
  · have hold : ∀ j, h.next ≤ j → (hideOf m' recs recs.length).any (inR j) = false := fun j hj => by
      cases e : (hideOf m' recs recs.length).any (inR j) with
      | false => rfl
      | true => obtain ⟨q, h1, h2, h3⟩ := hide_sub e; have := (k.rng q h1).2; omega
    simp only [List.length_cons, hideOf, Nat.add_sub_cancel]
    rcases List.mem_append.1 hx with hx | hx
    · obtain ⟨p, hp, rfl⟩ := List.mem_map.1 hx
      have hm' : m'.testBit recs.length = true := hm
      rw [hm']
      simp only [Bool.true_or, if_true]
      refine hold _ ?_
      rcases (kb.own p hp).2.2.2 with h4 | h4
      · exact h4
      · cases h4
    · have h1 := k.visT x hx m' hm
      split
      · exact h1
      · simp only [List.any_cons, h1, Bool.or_false]
        have := (k.ss.own x.2 (List.mem_append.2 (.inl (List.mem_map.2 ⟨x, hx, rfl⟩)))).2.2.1
        cases e : inR x.2.1 (r.n0, r.n1) with
        | false => rfl
        | true => rw [inR_iff] at e; rw [hr0] at e; have := e.1; simp only at this; omega
theorem DS.stored {A C : Ob} {i : Nat} {o o' : AObj} {r : Rec} (k : DS h0 W recs (A ++ (i, o) :: C) T h) (hr0 : r.n0 = h.next) (hr1 : r.n1 = h.next) : h.set i o' = some { h with t := h.t.set i o' } ∧ DS h0 W (r :: recs) (A ++ (i, o') :: C) T { h with t := h.t.set i o' } := by
  have k1 : SS h0 W ((T.map (·.2) ++ A) ++ (i, o) :: C) h := by rw [List.append_assoc]; exact k.ss
  obtain ⟨h1, h2⟩ := k1.store (o' := o')
  refine ⟨h1, by rw [← List.append_assoc]; exact h2, fun q hq => ?_, fun p hp q hq => ?_, fun j hj q hq => ?_, fun x hx m hm => ?_⟩
  · rcases List.mem_cons.1 hq with rfl | hq
    · exact ⟨by rw [hr0]; exact k.ss.nx, by rw [hr1]; exact Nat.le_refl _⟩
    · exact k.rng q hq
  · rcases List.mem_cons.1 hq with rfl | hq
    · omega
    · have hp' : ∃ q ∈ A ++ (i, o) :: C, q.1 = p.1 := by
        rcases List.mem_append.1 hp with hp | hp
        · exact ⟨p, List.mem_append.2 (.inl hp), rfl⟩
        · rcases List.mem_cons.1 hp with rfl | hp
          · exact ⟨(i, o), by simp, rfl⟩
          · exact ⟨p, List.mem_append.2 (.inr (List.mem_cons_of_mem _ hp)), rfl⟩
      obtain ⟨p', hp1, hp2⟩ := hp'
      rw [← hp2]
      exact k.visL p' hp1 q hq
  · rcases List.mem_cons.1 hq with rfl | hq
    · omega
    · exact k.visW j hj q hq
  · simp only [List.length_cons, hideOf, hr0, hr1]
    rw [if_pos (by simp)]
    exact k.visT x hx m hm
end

/-- from here on in a region: md says whether its order is drawn -/
structure WO (P : Program) (B : Base) (Q : Post) (h0 : Heap) (W : List Nat) (N : Nat) (D : List Nat) (K : List Fr) (md : Bool) (ops : Array Oper) (l : List Oper) (s : Sl) (L : Ob) (T : Tg) : Prop where
  seq : md = false → WR P B Q h0 W N D (.job (.ops ops l) :: K) s L
  drawn : md = true → ∀ a h recs, Sat a N s D → DS h0 W recs L T h → tyOk (kindsR ops) recs → ops.toList.drop recs.length = l → staticAll ops = true → (∀ i ∈ W, i < h0.next) → KRun P B Q (.job (.drawn ops (masksR ops) (kindsR ops) l recs) :: K) .normal a h
section
variable {Q : Post} {h0 : Heap} {W : List Nat} {N : Nat} {D : List Nat} {K : List Fr} {s : Sl} {L : Ob} {T : Tg} {rnd : Option Nat} {md : Bool} {ops : Array Oper} {d : Nat} {op : Op} {ty : TypeId} {pos : String} {af : Array Edge} {gd : Option (Nat × Bool)} {l : List Oper} {o : Oper}
theorem WK.region {i} (k : WO P B Q h0 W N D K false ops ops.toList s L []) : WK P B Q h0 W N D (.job (.code rnd (.region i ops false)) :: K) s L := ⟨WR.region (k.seq rfl)⟩
theorem WK.regionD {i} (k : WO P B Q h0 W N D K true ops ops.toList s L []) (hs : staticAll ops = true := by decide +kernel) (hW : (∀ i ∈ W, i < h0.next) := by first | assumption | exact fun _ h => by cases h) : WK P B Q h0 W N D (.job (.code rnd (.region i ops true)) :: K) s L :=
  ⟨fun a h ha hh => KRun.regionT (by unfold staticAll at hs; rw [Bool.and_eq_true] at hs; exact hs.1) (k.drawn rfl a h [] ha (DS.init hh) trivial rfl hs hW)⟩
theorem WO.nil (k : WK P B Q h0 W N D K s L) (hT : T = [] := by exact rfl) : WO P B Q h0 W N D K md ops [] s L T := by
  subst hT
  exact ⟨fun _ => (fun a h ha hh => KRun.opsNil (k.run a h ha hh)), fun _ a h recs ha hh _ _ _ _ => KRun.drawnNil (k.run a h ha hh.ss)⟩
theorem WO.nil1 {i p} (k : WK P B Q h0 W N D K s (p :: L)) (hT : T = [(i, p)] := by exact rfl) : WO P B Q h0 W N D K true ops [] s L T := by
  subst hT
  exact ⟨fun e => (by cases e), fun _ a h recs ha hh _ _ _ _ => KRun.drawnNil (k.run a h ha hh.ss)⟩
theorem WO.nil2 {i p j q} (k : WK P B Q h0 W N D K s (p :: q :: L)) (hT : T = [(i, p), (j, q)] := by exact rfl) : WO P B Q h0 W N D K true ops [] s L T := by
  subst hT
  exact ⟨fun e => (by cases e), fun _ a h recs ha hh _ _ _ _ => KRun.drawnNil (k.run a h ha hh.ss)⟩
theorem WO.nil3 {i p j q i' p'} (k : WK P B Q h0 W N D K s (p :: q :: p' :: L)) (hT : T = [(i, p), (j, q), (i', p')] := by exact rfl) : WO P B Q h0 W N D K true ops [] s L T := by
  subst hT
  exact ⟨fun e => (by cases e), fun _ a h recs ha hh _ _ _ _ => KRun.drawnNil (k.run a h ha hh.ss)⟩
theorem drop_next {ops : Array Oper} {n : Nat} {o : Oper} {l : List Oper} (h : ops.toList.drop n = o :: l) : n < ops.size ∧ ops.toList.drop (n + 1) = l ∧ ops.toList.length - (o :: l).length = n := by
  have h1 : n < ops.toList.length := by
    rcases Nat.lt_or_ge n ops.toList.length with g | g
    · exact g
    · rw [List.drop_eq_nil_of_le g] at h; cases h
  refine ⟨by simpa using h1, ?_, ?_⟩
  · rw [← List.drop_drop, h]; rfl
  · have := congrArg List.length h
    rw [List.length_drop] at this
    omega
/-- an operation that leaves old memory as it is; in a region that draws its order it sees what was made in order before it -/
theorem WO.opV {v} {Tv : Tg} (hw : wantS ops s N o = some true) (hd : okD N o.dst = true) (hv : ∀ x ∈ Tv, x ∈ T ∧ (md = true → maskAt ops (o :: l) x.1 = true)) (h1 : md = false → T = []) (he : ∀ a h, Sat a N s D → Vw h0 W (Tv.map (·.2) ++ L) h → ∃ g, ROp P B h a o v g ∧ SS h [] [] g) (k : WO P B Q h0 W N D K md ops l (putS s o.dst v) L T) : WO P B Q h0 W N D K md ops (o :: l) s L T := by
  constructor
  · rintro rfl a h ha hh
    have hTv : Tv = [] := by
      have hT := h1 rfl
      cases Tv with
      | nil => rfl
      | cons x Tv => have := (hv x List.mem_cons_self).1; rw [hT] at this; cases this
    subst hTv
    obtain ⟨g, h1, h2⟩ := he a h ha hh.vw
    obtain ⟨a', h3, h4⟩ := ha.put hd v
    exact KRun.op (wantS_eq ha hw) h1 h3 (k.seq rfl a' g h4 (hh.call h2))
  · rintro rfl a h recs ha hh ht hl hst hW
    obtain ⟨q1, q2, q3⟩ := drop_next hl
    have hvw := hh.vw ((kindsR ops).getD recs.length 0) ((masksR ops).getD recs.length 0) (staticAll_four hst _)
    obtain ⟨g, h1, h2⟩ := he a (evHeap ((kindsR ops).getD recs.length 0) ((masksR ops).getD recs.length 0) recs h) ha ⟨hvw.gd, hvw.nx, hvw.old, fun p hp => by
      refine hvw.own p ?_
      rcases List.mem_append.1 hp with hp | hp
      · obtain ⟨x, hx, rfl⟩ := List.mem_map.1 hp
        obtain ⟨g1, g2⟩ := hv x hx
        have g3 := g2 rfl
        unfold maskAt at g3
        rw [q3] at g3
        exact List.mem_append.2 (.inl (List.mem_map.2 ⟨x, List.mem_filter.2 ⟨g1, g3⟩, rfl⟩))
      · exact List.mem_append.2 (.inr hp)⟩
    obtain ⟨a', h3, h4⟩ := ha.put hd v
    refine KRun.dop (wantS_eq ha hw) h1 ?_ h3 ?_
    · exact staticAll_free hst q1 ht rfl
    · have := hh.step (r := ⟨(kindsR ops).getD recs.length 0, blkOf a.eval o.op, h.next, g.next⟩) h2 rfl rfl (fun i hi => Nat.lt_of_lt_of_le (hW i hi) hh.ss.nx)
      exact k.drawn rfl a' _ _ h4 this ⟨.inl rfl, ht⟩ q2 hst hW
theorem WO.opE {v} (hw : wantS ops s N o = some true) (hd : okD N o.dst = true) (he : ∀ a h, Sat a N s D → Vw h0 W L h → ∃ g, ROp P B h a o v g ∧ SS h [] [] g) (k : WO P B Q h0 W N D K md ops l (putS s o.dst v) L T) : WO P B Q h0 W N D K md ops (o :: l) s L T := by
  constructor
  · rintro rfl a h ha hh
    obtain ⟨g, h1, h2⟩ := he a h ha hh.vw
    obtain ⟨a', h3, h4⟩ := ha.put hd v
    exact KRun.op (wantS_eq ha hw) h1 h3 (k.seq rfl a' g h4 (hh.call h2))
  · intro e
    subst e
    exact (WO.opV (Tv := []) hw hd (fun _ h => by cases h) (fun e => by cases e) he k).drawn rfl
theorem WO.skip (hw : wantS ops s N o = some false) (hd : okD N o.dst = true) (k : WO P B Q h0 W N D K md ops l (putS s o.dst aundef) L T) : WO P B Q h0 W N D K md ops (o :: l) s L T := by
  constructor
  · rintro rfl a h ha hh
    obtain ⟨a', h3, h4⟩ := ha.put hd aundef
    exact KRun.opSkip (wantS_eq ha hw) h3 (k.seq rfl a' h h4 hh)
  · rintro rfl a h recs ha hh ht hl hst hW
    obtain ⟨q1, q2, q3⟩ := drop_next hl
    obtain ⟨a', h3, h4⟩ := ha.put hd aundef
    refine KRun.dskip (wantS_eq ha hw) h3 ?_
    have h5 : SS (evHeap 0 0 recs h) [] [] h := SS.init hh.ss.good
    have := hh.step (r := ⟨0, none, h.next, h.next⟩) h5 rfl rfl (fun i hi => Nat.lt_of_lt_of_le (hW i hi) hh.ss.nx)
    exact k.drawn rfl a' _ _ h4 this ⟨.inr rfl, ht⟩ q2 hst hW
theorem WO.split {t b} (_ht : gslot ops o = some t) (hf : fnd s t = some (.bool b)) (k : b = true → WO P B Q h0 W N D K md ops (o :: l) ((t, .bool true) :: s) L T) (k' : b = false → WO P B Q h0 W N D K md ops (o :: l) ((t, .bool false) :: s) L T) : WO P B Q h0 W N D K md ops (o :: l) s L T := by
  cases b with
  | true => exact ⟨fun e a h ha hh => (k rfl).seq e a h (ha.set hf rfl) hh, fun e a h recs ha => (k rfl).drawn e a h recs (ha.set hf rfl)⟩
  | false => exact ⟨fun e a h ha hh => (k' rfl).seq e a h (ha.set hf rfl) hh, fun e a h recs ha => (k' rfl).drawn e a h recs (ha.set hf rfl)⟩
/-- an operation that makes something -/
theorem WO.op1 {v : Nat → AV} {ob : Nat → AObj} (hw : wantS ops s N o = some true) (hd : okD N o.dst = true) (he : ∀ a h, Sat a N s D → Vw h0 W L h → ∃ g j, ROp P B h a o (v j) g ∧ SS h [] [(j, ob j)] g) (k : ∀ j, h0.next ≤ j → WO P B Q h0 W N D K false ops l (putS s o.dst (v j)) ((j, ob j) :: L) []) : WO P B Q h0 W N D K false ops (o :: l) s L [] := by
  constructor
  · rintro - a h ha hh
    obtain ⟨g, j, h1, h2⟩ := he a h ha hh.vw
    obtain ⟨a', h3, h4⟩ := ha.put hd (v j)
    have hj : h0.next ≤ j := by
      rcases (h2.own _ (List.mem_singleton.2 rfl)).2.2.2 with h5 | h5
      · exact Nat.le_trans hh.nx h5
      · cases h5
    exact KRun.op (wantS_eq ha hw) h1 h3 ((k j hj).seq rfl a' g h4 (hh.call h2))
  · intro e; cases e
theorem WO.op1D {v : Nat → AV} {ob : Nat → AObj} {i : Nat} {Tv : Tg} (hw : wantS ops s N o = some true) (hd : okD N o.dst = true) (hv : ∀ x ∈ Tv, x ∈ T ∧ maskAt ops (o :: l) x.1 = true) (hi : ops.toList.length - (o :: l).length = i) (he : ∀ a h, Sat a N s D → Vw h0 W (Tv.map (·.2) ++ L) h → ∃ g j, ROp P B h a o (v j) g ∧ SS h [] [(j, ob j)] g) (k : ∀ j, h0.next ≤ j → WO P B Q h0 W N D K true ops l (putS s o.dst (v j)) L ((i, j, ob j) :: T)) : WO P B Q h0 W N D K true ops (o :: l) s L T := by
  constructor
  · intro e; cases e
  · rintro - a h recs ha hh ht hl hst hW
    obtain ⟨q1, q2, q3⟩ := drop_next hl
    rw [q3] at hi
    subst hi
    have hvw := hh.vw ((kindsR ops).getD recs.length 0) ((masksR ops).getD recs.length 0) (staticAll_four hst _)
    obtain ⟨g, j, h1, h2⟩ := he a (evHeap ((kindsR ops).getD recs.length 0) ((masksR ops).getD recs.length 0) recs h) ha ⟨hvw.gd, hvw.nx, hvw.old, fun p hp => by
      refine hvw.own p ?_
      rcases List.mem_append.1 hp with hp | hp
      · obtain ⟨x, hx, rfl⟩ := List.mem_map.1 hp
        obtain ⟨g1, g3⟩ := hv x hx
        unfold maskAt at g3
        rw [q3] at g3
        exact List.mem_append.2 (.inl (List.mem_map.2 ⟨x, List.mem_filter.2 ⟨g1, g3⟩, rfl⟩))
      · exact List.mem_append.2 (.inr hp)⟩
    obtain ⟨a', h3, h4⟩ := ha.put hd (v j)
    have hj : h0.next ≤ j := by
      rcases (h2.own _ (List.mem_singleton.2 rfl)).2.2.2 with h5 | h5
      · rw [evHeap_next] at h5; exact Nat.le_trans hh.ss.nx h5
      · cases h5
    refine KRun.dop (wantS_eq ha hw) h1 ?_ h3 ?_
    · exact staticAll_free hst q1 ht rfl
    · have := hh.step (r := ⟨(kindsR ops).getD recs.length 0, blkOf a.eval o.op, h.next, g.next⟩) h2 rfl rfl (fun i hi => Nat.lt_of_lt_of_le (hW i hi) hh.ss.nx)
      exact (k j hj).drawn rfl a' _ _ h4 this ⟨.inl rfl, ht⟩ q2 hst hW
end
end Go.Proofs.YtkebbdpfjhhdhaaGreat.Ev

/- Walks through code over the calculator's memory: one rule for each kind of operation. -/
namespace Go.Proofs.YtkebbdpfjhhdhaaGreat.Ev
variable {P : Program} {B : Base}
theorem wrap_ok {n : Int} (h : -9223372036854775808 ≤ n ∧ n ≤ 9223372036854775807) : IntKind.wrap .i64 n = n := by rw [IntKind.wrap_i64]; omega
theorem Gd.ss {h : Heap} (k : Gd h) : SS h [] [] h := SS.init k

section
variable {Q : Post} {h0 : Heap} {W : List Nat} {N : Nat} {D : List Nat} {K : List Fr} {s : Sl} {L : Ob} {T : Tg} {md : Bool} {ops : Array Oper} {d : Nat} {op : Op} {ty : TypeId} {pos : String} {af : Array Edge} {gd : Option (Nat × Bool)} {l : List Oper}
theorem WO.pure {o v} (hw : wantS ops s N o = some true) (hd : okD N o.dst = true) (he : ∀ h, evOp P h (evS s) o = some (.value v, h)) (k : WO P B Q h0 W N D K md ops l (putS s o.dst v) L T) : WO P B Q h0 W N D K md ops (o :: l) s L T :=
  WO.opE hw hd (fun _ h ha hh => ⟨h, ROp.value ha (he h) (Nat.le_refl _), hh.gd.ss⟩) k

theorem St.move {x v} (k : WO P B Q h0 W N D K md ops l ((d, v) :: s) L T) (hw : wantS ops s N ⟨some d, .move x, ty, pos, af, gd⟩ = some true := by exact rfl) (hd : Nat.blt d N = true := by exact rfl) (hx : evS s x = some v := by exact rfl) : WO P B Q h0 W N D K md ops (⟨some d, .move x, ty, pos, af, gd⟩ :: l) s L T :=
  WO.pure hw hd (fun h => by unfold evOp; simp [plainV, hx]) k
theorem St.assign {x v} (k : WO P B Q h0 W N D K md ops l ((d, v) :: s) L T) (hw : wantS ops s N ⟨some d, .assign x, ty, pos, af, gd⟩ = some true := by exact rfl) (hd : Nat.blt d N = true := by exact rfl) (hx : evS s x = some v := by exact rfl) : WO P B Q h0 W N D K md ops (⟨some d, .assign x, ty, pos, af, gd⟩ :: l) s L T :=
  WO.pure hw hd (fun h => by unfold evOp; simp [plainV, hx]) k
theorem St.bin {o t x y t' u v r} (k : WO P B Q h0 W N D K md ops l ((d, r) :: s) L T) (hw : wantS ops s N ⟨some d, (.binOp o t x y t'), ty, pos, af, gd⟩ = some true := by exact rfl) (hd : Nat.blt d N = true := by exact rfl) (hx : evS s x = some u := by exact rfl) (hy : evS s y = some v := by exact rfl) (he : evBin P o t u v = some r := by exact rfl) : WO P B Q h0 W N D K md ops (⟨some d, (.binOp o t x y t'), ty, pos, af, gd⟩ :: l) s L T :=
  WO.pure hw hd (fun h => by unfold evOp; simp [oBin, plainV, hx, hy, he]) k
theorem St.binX {o t x y t' u v r} (he : evBin P o t u v = some r) (hx : evS s x = some u) (hy : evS s y = some v) (k : WO P B Q h0 W N D K md ops l ((d, r) :: s) L T) (hw : wantS ops s N ⟨some d, (.binOp o t x y t'), ty, pos, af, gd⟩ = some true := by exact rfl) (hd : Nat.blt d N = true := by exact rfl) : WO P B Q h0 W N D K md ops (⟨some d, (.binOp o t x y t'), ty, pos, af, gd⟩ :: l) s L T := WO.pure hw hd (fun h => by unfold evOp; simp [oBin, plainV, hx, hy, he]) k
theorem St.binI {o t x y t' u v i n} (k : WO P B Q h0 W N D K md ops l ((d, .int i n) :: s) L T) (hw : wantS ops s N ⟨some d, (.binOp o t x y t'), ty, pos, af, gd⟩ = some true := by exact rfl) (hd : Nat.blt d N = true := by exact rfl) (hx : evS s x = some u := by exact rfl) (hy : evS s y = some v := by exact rfl) (he : evBin P o t u v = some (.int i (i.wrap n)) := by exact rfl) (hn : i.wrap n = n := by exact wrap_ok (by omega)) : WO P B Q h0 W N D K md ops (⟨some d, (.binOp o t x y t'), ty, pos, af, gd⟩ :: l) s L T :=
  WO.pure hw hd (fun h => by rw [hn] at he; unfold evOp; simp [oBin, plainV, hx, hy, he]) k
theorem St.un {o t x u r} (k : WO P B Q h0 W N D K md ops l ((d, r) :: s) L T) (hw : wantS ops s N ⟨some d, (.unOp o t x), ty, pos, af, gd⟩ = some true := by exact rfl) (hd : Nat.blt d N = true := by exact rfl) (hx : evS s x = some u := by exact rfl) (he : evUn o u = some r := by exact rfl) : WO P B Q h0 W N D K md ops (⟨some d, (.unOp o t x), ty, pos, af, gd⟩ :: l) s L T :=
  WO.pure hw hd (fun h => by unfold evOp; simp [oUn, plainV, hx, he]) k
theorem St.unI {o t x u i n} (k : WO P B Q h0 W N D K md ops l ((d, .int i n) :: s) L T) (hw : wantS ops s N ⟨some d, (.unOp o t x), ty, pos, af, gd⟩ = some true := by exact rfl) (hd : Nat.blt d N = true := by exact rfl) (hx : evS s x = some u := by exact rfl) (he : evUn o u = some (.int i (i.wrap n)) := by exact rfl) (hn : i.wrap n = n := by exact wrap_ok (by omega)) : WO P B Q h0 W N D K md ops (⟨some d, (.unOp o t x), ty, pos, af, gd⟩ :: l) s L T :=
  WO.pure hw hd (fun h => by rw [hn] at he; unfold evOp; simp [oUn, plainV, hx, he]) k
theorem St.conv {t t' x u r} (k : WO P B Q h0 W N D K md ops l ((d, r) :: s) L T) (hw : wantS ops s N ⟨some d, (.convert t t' x), ty, pos, af, gd⟩ = some true := by exact rfl) (hd : Nat.blt d N = true := by exact rfl) (hx : evS s x = some u := by exact rfl) (he : evConv P t t' u = some r := by exact rfl) : WO P B Q h0 W N D K md ops (⟨some d, (.convert t t' x), ty, pos, af, gd⟩ :: l) s L T :=
  WO.pure hw hd (fun h => by unfold evOp; simp [oConv, plainV, hx, he]) k
theorem St.fieldAddr {t x i off n fs o' sz nm ft em tg pk bo} (k : WO P B Q h0 W N D K md ops l ((d, AV.ptr i (off + o')) :: s) L T) (hw : wantS ops s N ⟨some d, .fieldAddr t x n, ty, pos, af, gd⟩ = some true := by exact rfl) (hd : Nat.blt d N = true := by exact rfl) (hx : evS s x = some (.ptr i off) := by exact rfl) (ht : P.underlying t = some (.struct fs) := by exact rfl) (hf' : fs[n]? = some ⟨nm, ft, o', em, tg, pk, bo⟩ := by exact rfl) (hs : sizeT P ft = some sz := by exact rfl) (h0' : (sz == 0) = false := by exact rfl) : WO P B Q h0 W N D K md ops (⟨some d, .fieldAddr t x n, ty, pos, af, gd⟩ :: l) s L T :=
  WO.pure hw hd (fun h => by unfold evOp; simp [oFieldAddr, plainV, hx, evFieldAddr, ht, hf', hs, show ¬ sz = 0 from by simpa using h0']) k
theorem St.field {t x n u r} (k : WO P B Q h0 W N D K md ops l ((d, r) :: s) L T) (hw : wantS ops s N ⟨some d, .field t x n, ty, pos, af, gd⟩ = some true := by exact rfl) (hd : Nat.blt d N = true := by exact rfl) (hx : evS s x = some u := by exact rfl) (he : evField P t u n = some r := by exact rfl) : WO P B Q h0 W N D K md ops (⟨some d, .field t x n, ty, pos, af, gd⟩ :: l) s L T :=
  WO.pure hw hd (fun h => by unfold evOp; simp [oField, plainV, hx, he]) k
theorem St.extract {x n u r} (k : WO P B Q h0 W N D K md ops l ((d, r) :: s) L T) (hw : wantS ops s N ⟨some d, .extract x n, ty, pos, af, gd⟩ = some true := by exact rfl) (hd : Nat.blt d N = true := by exact rfl) (hx : evS s x = some (.tup u) := by exact rfl) (he : nthN n u = some r := by exact rfl) : WO P B Q h0 W N D K md ops (⟨some d, .extract x n, ty, pos, af, gd⟩ :: l) s L T :=
  WO.pure hw hd (fun h => by unfold evOp; simp [oExtract, plainV, hx, he]) k
theorem St.build {t ps u r} (k : WO P B Q h0 W N D K md ops l ((d, r) :: s) L T) (hw : wantS ops s N ⟨some d, .build t ps, ty, pos, af, gd⟩ = some true := by exact rfl) (hd : Nat.blt d N = true := by exact rfl) (hx : mapP (evS s) ps.toList = some u := by exact rfl) (he : evBuild P t u = some r := by exact rfl) : WO P B Q h0 W N D K md ops (⟨some d, .build t ps, ty, pos, af, gd⟩ :: l) s L T :=
  WO.pure hw hd (fun h => by unfold evOp; simp [oBuild, plainV, hx, he]) k
theorem St.pick {c x y b u v} (k : WO P B Q h0 W N D K md ops l ((d, .bool (bif b then u else v)) :: s) L T) (hw : wantS ops s N ⟨some d, .pick c x y, ty, pos, af, gd⟩ = some true := by exact rfl) (hd : Nat.blt d N = true := by exact rfl) (hc : evS s c = some (.bool b) := by exact rfl) (hx : evS s x = some (.bool u) := by exact rfl) (hy : evS s y = some (.bool v) := by exact rfl) : WO P B Q h0 W N D K md ops (⟨some d, .pick c x y, ty, pos, af, gd⟩ :: l) s L T :=
  WO.pure hw hd (fun h => by unfold evOp; simp only [oPick, hc]; cases b <;> simp [plainV, hx, hy]) k
theorem St.pickT {c x y v} (k : WO P B Q h0 W N D K md ops l ((d, v) :: s) L T) (hw : wantS ops s N ⟨some d, .pick c x y, ty, pos, af, gd⟩ = some true := by exact rfl) (hd : Nat.blt d N = true := by exact rfl) (hc : evS s c = some (.bool true) := by exact rfl) (hx : evS s x = some v := by exact rfl) : WO P B Q h0 W N D K md ops (⟨some d, .pick c x y, ty, pos, af, gd⟩ :: l) s L T :=
  WO.pure hw hd (fun h => by unfold evOp; simp [oPick, hc, plainV, hx]) k
theorem St.pickF {c x y v} (k : WO P B Q h0 W N D K md ops l ((d, v) :: s) L T) (hw : wantS ops s N ⟨some d, .pick c x y, ty, pos, af, gd⟩ = some true := by exact rfl) (hd : Nat.blt d N = true := by exact rfl) (hc : evS s c = some (.bool false) := by exact rfl) (hx : evS s y = some v := by exact rfl) : WO P B Q h0 W N D K md ops (⟨some d, .pick c x y, ty, pos, af, gd⟩ :: l) s L T :=
  WO.pure hw hd (fun h => by unfold evOp; simp [oPick, hc, plainV, hx]) k
theorem St.len {x i off n c t e} (k : WO P B Q h0 W N D K md ops l ((d, .int .i64 ((n : Nat) : Int)) :: s) L T) (hw : wantS ops s N ⟨some d, .call ⟨.builtin .len, #[x], #[t]⟩, ty, pos, af, gd⟩ = some true := by exact rfl) (hd : Nat.blt d N = true := by exact rfl) (hx : evS s x = some (.slice i off n c) := by exact rfl) (ht : P.underlying t = some (.slice e) := by exact rfl) : WO P B Q h0 W N D K md ops (⟨some d, .call ⟨.builtin .len, #[x], #[t]⟩, ty, pos, af, gd⟩ :: l) s L T :=
  WO.pure hw hd (fun h => by unfold evOp; simp [oCall, mapO, hx, evBuiltin, lenA, ht, aint]) k
theorem St.len0 {x t e} (k : WO P B Q h0 W N D K md ops l ((d, .int .i64 0) :: s) L T) (hw : wantS ops s N ⟨some d, .call ⟨.builtin .len, #[x], #[t]⟩, ty, pos, af, gd⟩ = some true := by exact rfl) (hd : Nat.blt d N = true := by exact rfl) (hx : evS s x = some .slice0 := by exact rfl) (ht : P.underlying t = some (.slice e) := by exact rfl) : WO P B Q h0 W N D K md ops (⟨some d, .call ⟨.builtin .len, #[x], #[t]⟩, ty, pos, af, gd⟩ :: l) s L T :=
  WO.pure hw hd (fun h => by unfold evOp; simp [oCall, mapO, hx, evBuiltin, lenA, ht, aint]) k
theorem St.lenZ {x t e} (k : WO P B Q h0 W N D K md ops l ((d, .int .i64 0) :: s) L T) (hw : wantS ops s N ⟨some d, .call ⟨.builtin .len, #[x], #[t]⟩, ty, pos, af, gd⟩ = some true := by exact rfl) (hd : Nat.blt d N = true := by exact rfl) (hx : evS s x = some .sliceZ := by exact rfl) (ht : P.underlying t = some (.slice e) := by exact rfl) : WO P B Q h0 W N D K md ops (⟨some d, .call ⟨.builtin .len, #[x], #[t]⟩, ty, pos, af, gd⟩ :: l) s L T :=
  WO.pure hw hd (fun h => by unfold evOp; simp [oCall, mapO, hx, evBuiltin, lenA, ht, aint]) k
theorem St.at {x ix b off n c j i sz t e} (k : WO P B Q h0 W N D K md ops l ((d, AV.ptr b (off + i.toNat * sz)) :: s) L T) (hw : wantS ops s N ⟨some d, .indexAddr t x ix, ty, pos, af, gd⟩ = some true := by exact rfl) (hd : Nat.blt d N = true := by exact rfl) (hx : evS s x = some (.slice b off n c) := by exact rfl) (hi : evS s ix = some (.int j i) := by exact rfl) (ht : P.underlying t = some (.slice e) := by exact rfl) (hs : sizeT P e = some sz := by exact rfl) (h1 : 0 ≤ i := by omega) (h2 : i < n := by omega) : WO P B Q h0 W N D K md ops (⟨some d, .indexAddr t x ix, ty, pos, af, gd⟩ :: l) s L T :=
  WO.pure hw hd (fun h => by unfold evOp; simp [oIndexAddr, hx, hi, evIndexAddr, ht, hs, h1, h2, plainV]) k
theorem St.atA {x ix b off n j i sz t e} (k : WO P B Q h0 W N D K md ops l ((d, AV.ptr b (off + i.toNat * sz)) :: s) L T) (hw : wantS ops s N ⟨some d, .indexAddr t x ix, ty, pos, af, gd⟩ = some true := by exact rfl) (hd : Nat.blt d N = true := by exact rfl) (hx : evS s x = some (.ptr b off) := by exact rfl) (hi : evS s ix = some (.int j i) := by exact rfl) (ht : P.underlying t = some (.array n e) := by exact rfl) (hs : sizeT P e = some sz := by exact rfl) (h1 : 0 ≤ i := by omega) (h2 : i < n := by omega) : WO P B Q h0 W N D K md ops (⟨some d, .indexAddr t x ix, ty, pos, af, gd⟩ :: l) s L T :=
  WO.pure hw hd (fun h => by unfold evOp; simp [oIndexAddr, hx, hi, evIndexAddr, ht, hs, h1, h2, plainV]) k
theorem St.fn {f fs cs u v} (k : WO P B Q h0 W N D K md ops l ((d, .fn (.func f) u v) :: s) L T) (hw : wantS ops s N ⟨some d, .makeFunc (.func f) fs cs, ty, pos, af, gd⟩ = some true := by exact rfl) (hd : Nat.blt d N = true := by exact rfl) (hx : mapO (evS s) fs.toList = some u := by exact rfl) (hy : mapO (evS s) cs.toList = some v := by exact rfl) : WO P B Q h0 W N D K md ops (⟨some d, .makeFunc (.func f) fs cs, ty, pos, af, gd⟩ :: l) s L T :=
  WO.pure hw hd (fun h => by unfold evOp; simp [oMakeFunc, hx, hy]) k
theorem St.nilP {x i off} (k : WO P B Q h0 W N D K md ops l ((d, .ptr i off) :: s) L T) (hw : wantS ops s N ⟨some d, .nilCheck x, ty, pos, af, gd⟩ = some true := by exact rfl) (hd : Nat.blt d N = true := by exact rfl) (hx : evS s x = some (.ptr i off) := by exact rfl) : WO P B Q h0 W N D K md ops (⟨some d, .nilCheck x, ty, pos, af, gd⟩ :: l) s L T :=
  WO.pure hw hd (fun h => by unfold evOp; simp [oNilCheck, hx]) k
theorem St.nilF {x f u c} (k : WO P B Q h0 W N D K md ops l ((d, .fn (.func f) u c) :: s) L T) (hw : wantS ops s N ⟨some d, .nilCheck x, ty, pos, af, gd⟩ = some true := by exact rfl) (hd : Nat.blt d N = true := by exact rfl) (hx : evS s x = some (.fn (.func f) u c) := by exact rfl) : WO P B Q h0 W N D K md ops (⟨some d, .nilCheck x, ty, pos, af, gd⟩ :: l) s L T :=
  WO.pure hw hd (fun h => by unfold evOp; simp [oNilCheck, hx]) k
theorem St.max {xs v u ts r} (k : WO P B Q h0 W N D K md ops l ((d, r) :: s) L T) (hw : wantS ops s N ⟨some d, .call ⟨.builtin .max, xs, ts⟩, ty, pos, af, gd⟩ = some true := by exact rfl) (hd : Nat.blt d N = true := by exact rfl) (hx : mapO (evS s) xs.toList = some (v :: u) := by exact rfl) (he : foldI (fun x y => if y > x then y else x) v u = some r := by exact rfl) : WO P B Q h0 W N D K md ops (⟨some d, .call ⟨.builtin .max, xs, ts⟩, ty, pos, af, gd⟩ :: l) s L T :=
  WO.pure hw hd (fun h => by unfold evOp; simp [oCall, hx, evBuiltin, he]) k
theorem St.min {xs v u ts r} (k : WO P B Q h0 W N D K md ops l ((d, r) :: s) L T) (hw : wantS ops s N ⟨some d, .call ⟨.builtin .min, xs, ts⟩, ty, pos, af, gd⟩ = some true := by exact rfl) (hd : Nat.blt d N = true := by exact rfl) (hx : mapO (evS s) xs.toList = some (v :: u) := by exact rfl) (he : foldI (fun x y => if y < x then y else x) v u = some r := by exact rfl) : WO P B Q h0 W N D K md ops (⟨some d, .call ⟨.builtin .min, xs, ts⟩, ty, pos, af, gd⟩ :: l) s L T :=
  WO.pure hw hd (fun h => by unfold evOp; simp [oCall, hx, evBuiltin, he]) k
theorem St.any {v} (k : WO P B Q h0 W N D K md ops l ((d, v) :: s) L T) (hw : wantS ops s N ⟨some d, op, ty, pos, af, gd⟩ = some true := by exact rfl) (hd : Nat.blt d N = true := by exact rfl) (he : ∀ h, evOp P h (evS s) ⟨some d, op, ty, pos, af, gd⟩ = some (.value v, h) := by exact fun _ => rfl) : WO P B Q h0 W N D K md ops (⟨some d, op, ty, pos, af, gd⟩ :: l) s L T := WO.pure hw hd he k
theorem St.skip (k : WO P B Q h0 W N D K md ops l ((d, aundef) :: s) L T) (hw : wantS ops s N ⟨some d, op, ty, pos, af, gd⟩ = some false := by exact rfl) (hd : Nat.blt d N = true := by exact rfl) : WO P B Q h0 W N D K md ops (⟨some d, op, ty, pos, af, gd⟩ :: l) s L T := WO.skip hw hd k
theorem St.skipN (k : WO P B Q h0 W N D K md ops l s L T) (hw : wantS ops s N ⟨none, op, ty, pos, af, gd⟩ = some false := by exact rfl) : WO P B Q h0 W N D K md ops (⟨none, op, ty, pos, af, gd⟩ :: l) s L T := WO.skip hw rfl k
theorem St.load {t x i off obj v} (k : WO P B Q h0 W N D K md ops l ((d, v) :: s) L T) (hw : wantS ops s N ⟨some d, .load t x, ty, pos, af, gd⟩ = some true := by exact rfl) (hd : Nat.blt d N = true := by exact rfl) (hx : evS s x = some (.ptr i off) := by exact rfl) (hm : (i, obj) ∈ L := by first | exact List.Mem.head _ | (apply List.Mem.tail; first | exact List.Mem.head _ | (apply List.Mem.tail; first | exact List.Mem.head _ | (apply List.Mem.tail; first | exact List.Mem.head _ | (apply List.Mem.tail; first | exact List.Mem.head _ | (apply List.Mem.tail; first | exact List.Mem.head _ | (apply List.Mem.tail; first | exact List.Mem.head _ | (apply List.Mem.tail; first | exact List.Mem.head _ | (apply List.Mem.tail; first | exact List.Mem.head _ | (apply List.Mem.tail; first | exact List.Mem.head _ | (apply List.Mem.tail; first | exact List.Mem.head _ | (apply List.Mem.tail; first | exact List.Mem.head _ | (apply List.Mem.tail; first | exact List.Mem.head _ | (apply List.Mem.tail; first | exact List.Mem.head _ | (apply List.Mem.tail; first | exact List.Mem.head _ | (apply List.Mem.tail; first | exact List.Mem.head _ | (apply List.Mem.tail; first | exact List.Mem.head _ | (apply List.Mem.tail; first | exact List.Mem.head _ | (apply List.Mem.tail; first | exact List.Mem.head _ | (apply List.Mem.tail; first | exact List.Mem.head _ | (apply List.Mem.tail; exact List.Mem.head _))))))))))))))))))))) (hv : obj.load P t off = some v := by exact rfl) : WO P B Q h0 W N D K md ops (⟨some d, .load t x, ty, pos, af, gd⟩ :: l) s L T :=
  WO.opE hw hd (fun _ h ha hh => ⟨h, ROp.value ha (evOp_load rfl hx (evLoad_of (hh.own _ hm).1 hv)) (Nat.le_refl _), hh.gd.ss⟩) k
theorem St.loadX {t x i off v} (hv : ∀ h, Vw h0 W L h → evLoad P h t i off = some v) (k : WO P B Q h0 W N D K md ops l ((d, v) :: s) L T) (hw : wantS ops s N ⟨some d, .load t x, ty, pos, af, gd⟩ = some true := by exact rfl) (hd : Nat.blt d N = true := by exact rfl) (hx : evS s x = some (.ptr i off) := by exact rfl) : WO P B Q h0 W N D K md ops (⟨some d, .load t x, ty, pos, af, gd⟩ :: l) s L T :=
  WO.opE hw hd (fun _ h ha hh => ⟨h, ROp.value ha (evOp_load rfl hx (hv h hh)) (Nat.le_refl _), hh.gd.ss⟩) k
theorem St.alloc {t z} (k : ∀ j, h0.next ≤ j → WO P B Q h0 W N D K false ops l ((d, AV.ptr j 0) :: s) ((j, AObj.cells z.cells t) :: L) []) (hw : wantS ops s N ⟨some d, .alloc t, ty, pos, af, gd⟩ = some true := by exact rfl) (hd : Nat.blt d N = true := by exact rfl) (hz : zeroT P t = some z := by exact rfl) : WO P B Q h0 W N D K false ops (⟨some d, .alloc t, ty, pos, af, gd⟩ :: l) s L [] :=
  WO.op1 (v := fun j => AV.ptr j 0) (ob := fun _ => AObj.cells z.cells t) hw hd (fun _ h ha hh => ⟨(h.new (AObj.cells z.cells t)).2, h.next, ROp.value ha (by unfold evOp; simp only [oAlloc, hz, newV]; rfl) (Nat.le_succ _), hh.gd.ss.new _⟩) k
theorem StD.alloc {t z i} (k : ∀ j, h0.next ≤ j → WO P B Q h0 W N D K true ops l ((d, AV.ptr j 0) :: s) L ((i, j, AObj.cells z.cells t) :: T)) (hw : wantS ops s N ⟨some d, .alloc t, ty, pos, af, gd⟩ = some true := by exact rfl) (hd : Nat.blt d N = true := by exact rfl) (hi : ops.toList.length - (⟨some d, .alloc t, ty, pos, af, gd⟩ :: l).length = i := by exact rfl) (hz : zeroT P t = some z := by exact rfl) : WO P B Q h0 W N D K true ops (⟨some d, .alloc t, ty, pos, af, gd⟩ :: l) s L T :=
  WO.op1D (v := fun j => AV.ptr j 0) (ob := fun _ => AObj.cells z.cells t) (Tv := []) hw hd (fun _ h => by cases h) hi (fun _ h ha hh => ⟨(h.new (AObj.cells z.cells t)).2, h.next, ROp.value ha (by unfold evOp; simp only [oAlloc, hz, newV]; rfl) (Nat.le_succ _), hh.gd.ss.new _⟩) k
theorem St.box {t x v} (k : ∀ j, h0.next ≤ j → WO P B Q h0 W N D K false ops l ((d, AV.ptr j 0) :: s) ((j, AObj.cells v.cells t) :: L) []) (hw : wantS ops s N ⟨some d, .box t x, ty, pos, af, gd⟩ = some true := by exact rfl) (hd : Nat.blt d N = true := by exact rfl) (hx : evS s x = some v := by exact rfl) : WO P B Q h0 W N D K false ops (⟨some d, .box t x, ty, pos, af, gd⟩ :: l) s L [] :=
  WO.op1 (v := fun j => AV.ptr j 0) (ob := fun _ => AObj.cells v.cells t) hw hd (fun _ h ha hh => ⟨(h.new (AObj.cells v.cells t)).2, h.next, ROp.value ha (by unfold evOp; simp only [oBox, hx, newV]; rfl) (Nat.le_succ _), hh.gd.ss.new _⟩) k
theorem StD.box {t x v i} (k : ∀ j, h0.next ≤ j → WO P B Q h0 W N D K true ops l ((d, AV.ptr j 0) :: s) L ((i, j, AObj.cells v.cells t) :: T)) (hw : wantS ops s N ⟨some d, .box t x, ty, pos, af, gd⟩ = some true := by exact rfl) (hd : Nat.blt d N = true := by exact rfl) (hi : ops.toList.length - (⟨some d, .box t x, ty, pos, af, gd⟩ :: l).length = i := by exact rfl) (hx : evS s x = some v := by exact rfl) : WO P B Q h0 W N D K true ops (⟨some d, .box t x, ty, pos, af, gd⟩ :: l) s L T :=
  WO.op1D (v := fun j => AV.ptr j 0) (ob := fun _ => AObj.cells v.cells t) (Tv := []) hw hd (fun _ h => by cases h) hi (fun _ h ha hh => ⟨(h.new (AObj.cells v.cells t)).2, h.next, ROp.value ha (by unfold evOp; simp only [oBox, hx, newV]; rfl) (Nat.le_succ _), hh.gd.ss.new _⟩) k
theorem St.make {ob f} (k : ∀ j, h0.next ≤ j → WO P B Q h0 W N D K false ops l ((d, f j) :: s) ((j, ob) :: L) []) (hw : wantS ops s N ⟨some d, op, ty, pos, af, gd⟩ = some true := by exact rfl) (hd : Nat.blt d N = true := by exact rfl) (he : ∀ h, evOp P h (evS s) ⟨some d, op, ty, pos, af, gd⟩ = newV h ob f := by exact fun _ => rfl) : WO P B Q h0 W N D K false ops (⟨some d, op, ty, pos, af, gd⟩ :: l) s L [] :=
  WO.op1 (v := fun j => f j) (ob := fun _ => ob) hw hd (fun _ h ha hh => ⟨(h.new (ob)).2, h.next, ROp.value ha (by rw [he]; rfl) (Nat.le_succ _), hh.gd.ss.new _⟩) k
theorem StD.make {ob f i} (k : ∀ j, h0.next ≤ j → WO P B Q h0 W N D K true ops l ((d, f j) :: s) L ((i, j, ob) :: T)) (hw : wantS ops s N ⟨some d, op, ty, pos, af, gd⟩ = some true := by exact rfl) (hd : Nat.blt d N = true := by exact rfl) (hi : ops.toList.length - (⟨some d, op, ty, pos, af, gd⟩ :: l).length = i := by exact rfl) (he : ∀ h, evOp P h (evS s) ⟨some d, op, ty, pos, af, gd⟩ = newV h ob f := by exact fun _ => rfl) : WO P B Q h0 W N D K true ops (⟨some d, op, ty, pos, af, gd⟩ :: l) s L T :=
  WO.op1D (v := fun j => f j) (ob := fun _ => ob) (Tv := []) hw hd (fun _ h => by cases h) hi (fun _ h ha hh => ⟨(h.new (ob)).2, h.next, ROp.value ha (by rw [he]; rfl) (Nat.le_succ _), hh.gd.ss.new _⟩) k
theorem WO.store {t y i off obj obj' v} {z : Operand} {A C : Ob} (hw : wantS ops s N ⟨none, .store t z y, ty, pos, af, gd⟩ = some true) (h2 : md = true → kindAt ops (⟨none, .store t z y, ty, pos, af, gd⟩ :: l) = 2) (hx : evS s z = some (.ptr i off)) (hy : evS s y = some v) (hL : L = A ++ (i, obj) :: C) (hv : obj.store P t off v = some obj') (k : WO P B Q h0 W N D K md ops l s (A ++ (i, obj') :: C) T) : WO P B Q h0 W N D K md ops (⟨none, .store t z y, ty, pos, af, gd⟩ :: l) s L T := by
  subst hL
  have hst' : ∀ {h : Heap} {a : AAct}, Sat a N s D → h.get i = some obj → h.set i obj' = some { h with t := h.t.set i obj' } → ROp P B h a ⟨none, .store t z y, ty, pos, af, gd⟩ aundef { h with t := h.t.set i obj' } := fun {h a} ha hg hs => by
    refine ROp.skip (g := { h with t := h.t.set i obj' }) ha ?_ (Nat.le_refl _)
    unfold evOp
    simp only [oStore, hx, hy, evStore_of hg hv hs, Option.map_some]
  constructor
  · rintro rfl a h ha hh
    obtain ⟨h1, h3⟩ := hh.store (o' := obj')
    exact KRun.op (wantS_eq ha hw) (hst' ha (hh.own (i, obj) (by simp)).1 h1) rfl (k.seq rfl a _ ha h3)
  · rintro rfl a h recs ha hh ht hl hst hW
    obtain ⟨q1, q2, q3⟩ := drop_next hl
    have h2' : (kindsR ops).getD recs.length 0 = 2 := by have := h2 rfl; unfold kindAt at this; rw [q3] at this; exact this
    obtain ⟨h1, h3⟩ := hh.stored (o' := obj') (r := ⟨(kindsR ops).getD recs.length 0, blkOf a.eval (.store t z y), h.next, h.next⟩) rfl rfl
    refine KRun.dop (v := aundef) (g := { h with t := h.t.set i obj' }) (wantS_eq ha hw) ?_ ?_ rfl ?_
    · rw [h2']
      exact hst' ha (hh.ss.own (i, obj) (by simp)).1 h1
    · exact staticAll_free hst q1 ht rfl
    · exact k.drawn rfl a _ _ ha h3 ⟨.inl rfl, ht⟩ q2 hst hW
theorem St.store0 {t x y i off obj obj' v K0} (k : WO P B Q h0 W N D K false ops l s ((i, obj') :: K0) T) (hw : wantS ops s N ⟨none, .store t x y, ty, pos, af, gd⟩ = some true := by exact rfl) (hx : evS s x = some (.ptr i off) := by exact rfl) (hy : evS s y = some v := by exact rfl) (hL : L = (i, obj) :: K0 := by exact rfl) (hv : obj.store P t off v = some obj' := by exact rfl) : WO P B Q h0 W N D K false ops (⟨none, .store t x y, ty, pos, af, gd⟩ :: l) s L T :=
  WO.store (A := []) hw (fun e => by cases e) hx hy hL hv k
theorem StD.store0 {t x y i off obj obj' v K0} (k : WO P B Q h0 W N D K true ops l s ((i, obj') :: K0) T) (hw : wantS ops s N ⟨none, .store t x y, ty, pos, af, gd⟩ = some true := by exact rfl) (hx : evS s x = some (.ptr i off) := by exact rfl) (hy : evS s y = some v := by exact rfl) (hL : L = (i, obj) :: K0 := by exact rfl) (hv : obj.store P t off v = some obj' := by exact rfl) (h2 : kindAt ops (⟨none, .store t x y, ty, pos, af, gd⟩ :: l) = 2 := by decide +kernel) : WO P B Q h0 W N D K true ops (⟨none, .store t x y, ty, pos, af, gd⟩ :: l) s L T :=
  WO.store (A := []) hw (fun _ => h2) hx hy hL hv k
theorem St.store1 {t x y i off obj obj' v K0 p0} (k : WO P B Q h0 W N D K false ops l s (p0 :: (i, obj') :: K0) T) (hw : wantS ops s N ⟨none, .store t x y, ty, pos, af, gd⟩ = some true := by exact rfl) (hx : evS s x = some (.ptr i off) := by exact rfl) (hy : evS s y = some v := by exact rfl) (hL : L = p0 :: (i, obj) :: K0 := by exact rfl) (hv : obj.store P t off v = some obj' := by exact rfl) : WO P B Q h0 W N D K false ops (⟨none, .store t x y, ty, pos, af, gd⟩ :: l) s L T :=
  WO.store (A := [p0]) hw (fun e => by cases e) hx hy hL hv k
theorem StD.store1 {t x y i off obj obj' v K0 p0} (k : WO P B Q h0 W N D K true ops l s (p0 :: (i, obj') :: K0) T) (hw : wantS ops s N ⟨none, .store t x y, ty, pos, af, gd⟩ = some true := by exact rfl) (hx : evS s x = some (.ptr i off) := by exact rfl) (hy : evS s y = some v := by exact rfl) (hL : L = p0 :: (i, obj) :: K0 := by exact rfl) (hv : obj.store P t off v = some obj' := by exact rfl) (h2 : kindAt ops (⟨none, .store t x y, ty, pos, af, gd⟩ :: l) = 2 := by decide +kernel) : WO P B Q h0 W N D K true ops (⟨none, .store t x y, ty, pos, af, gd⟩ :: l) s L T :=
  WO.store (A := [p0]) hw (fun _ => h2) hx hy hL hv k
theorem St.store2 {t x y i off obj obj' v K0 p0 p1} (k : WO P B Q h0 W N D K false ops l s (p0 :: p1 :: (i, obj') :: K0) T) (hw : wantS ops s N ⟨none, .store t x y, ty, pos, af, gd⟩ = some true := by exact rfl) (hx : evS s x = some (.ptr i off) := by exact rfl) (hy : evS s y = some v := by exact rfl) (hL : L = p0 :: p1 :: (i, obj) :: K0 := by exact rfl) (hv : obj.store P t off v = some obj' := by exact rfl) : WO P B Q h0 W N D K false ops (⟨none, .store t x y, ty, pos, af, gd⟩ :: l) s L T :=
  WO.store (A := [p0, p1]) hw (fun e => by cases e) hx hy hL hv k
theorem StD.store2 {t x y i off obj obj' v K0 p0 p1} (k : WO P B Q h0 W N D K true ops l s (p0 :: p1 :: (i, obj') :: K0) T) (hw : wantS ops s N ⟨none, .store t x y, ty, pos, af, gd⟩ = some true := by exact rfl) (hx : evS s x = some (.ptr i off) := by exact rfl) (hy : evS s y = some v := by exact rfl) (hL : L = p0 :: p1 :: (i, obj) :: K0 := by exact rfl) (hv : obj.store P t off v = some obj' := by exact rfl) (h2 : kindAt ops (⟨none, .store t x y, ty, pos, af, gd⟩ :: l) = 2 := by decide +kernel) : WO P B Q h0 W N D K true ops (⟨none, .store t x y, ty, pos, af, gd⟩ :: l) s L T :=
  WO.store (A := [p0, p1]) hw (fun _ => h2) hx hy hL hv k
theorem St.store3 {t x y i off obj obj' v K0 p0 p1 p2} (k : WO P B Q h0 W N D K false ops l s (p0 :: p1 :: p2 :: (i, obj') :: K0) T) (hw : wantS ops s N ⟨none, .store t x y, ty, pos, af, gd⟩ = some true := by exact rfl) (hx : evS s x = some (.ptr i off) := by exact rfl) (hy : evS s y = some v := by exact rfl) (hL : L = p0 :: p1 :: p2 :: (i, obj) :: K0 := by exact rfl) (hv : obj.store P t off v = some obj' := by exact rfl) : WO P B Q h0 W N D K false ops (⟨none, .store t x y, ty, pos, af, gd⟩ :: l) s L T :=
  WO.store (A := [p0, p1, p2]) hw (fun e => by cases e) hx hy hL hv k
theorem StD.store3 {t x y i off obj obj' v K0 p0 p1 p2} (k : WO P B Q h0 W N D K true ops l s (p0 :: p1 :: p2 :: (i, obj') :: K0) T) (hw : wantS ops s N ⟨none, .store t x y, ty, pos, af, gd⟩ = some true := by exact rfl) (hx : evS s x = some (.ptr i off) := by exact rfl) (hy : evS s y = some v := by exact rfl) (hL : L = p0 :: p1 :: p2 :: (i, obj) :: K0 := by exact rfl) (hv : obj.store P t off v = some obj' := by exact rfl) (h2 : kindAt ops (⟨none, .store t x y, ty, pos, af, gd⟩ :: l) = 2 := by decide +kernel) : WO P B Q h0 W N D K true ops (⟨none, .store t x y, ty, pos, af, gd⟩ :: l) s L T :=
  WO.store (A := [p0, p1, p2]) hw (fun _ => h2) hx hy hL hv k
theorem St.store4 {t x y i off obj obj' v K0 p0 p1 p2 p3} (k : WO P B Q h0 W N D K false ops l s (p0 :: p1 :: p2 :: p3 :: (i, obj') :: K0) T) (hw : wantS ops s N ⟨none, .store t x y, ty, pos, af, gd⟩ = some true := by exact rfl) (hx : evS s x = some (.ptr i off) := by exact rfl) (hy : evS s y = some v := by exact rfl) (hL : L = p0 :: p1 :: p2 :: p3 :: (i, obj) :: K0 := by exact rfl) (hv : obj.store P t off v = some obj' := by exact rfl) : WO P B Q h0 W N D K false ops (⟨none, .store t x y, ty, pos, af, gd⟩ :: l) s L T :=
  WO.store (A := [p0, p1, p2, p3]) hw (fun e => by cases e) hx hy hL hv k
theorem StD.store4 {t x y i off obj obj' v K0 p0 p1 p2 p3} (k : WO P B Q h0 W N D K true ops l s (p0 :: p1 :: p2 :: p3 :: (i, obj') :: K0) T) (hw : wantS ops s N ⟨none, .store t x y, ty, pos, af, gd⟩ = some true := by exact rfl) (hx : evS s x = some (.ptr i off) := by exact rfl) (hy : evS s y = some v := by exact rfl) (hL : L = p0 :: p1 :: p2 :: p3 :: (i, obj) :: K0 := by exact rfl) (hv : obj.store P t off v = some obj' := by exact rfl) (h2 : kindAt ops (⟨none, .store t x y, ty, pos, af, gd⟩ :: l) = 2 := by decide +kernel) : WO P B Q h0 W N D K true ops (⟨none, .store t x y, ty, pos, af, gd⟩ :: l) s L T :=
  WO.store (A := [p0, p1, p2, p3]) hw (fun _ => h2) hx hy hL hv k
theorem St.store5 {t x y i off obj obj' v K0 p0 p1 p2 p3 p4} (k : WO P B Q h0 W N D K false ops l s (p0 :: p1 :: p2 :: p3 :: p4 :: (i, obj') :: K0) T) (hw : wantS ops s N ⟨none, .store t x y, ty, pos, af, gd⟩ = some true := by exact rfl) (hx : evS s x = some (.ptr i off) := by exact rfl) (hy : evS s y = some v := by exact rfl) (hL : L = p0 :: p1 :: p2 :: p3 :: p4 :: (i, obj) :: K0 := by exact rfl) (hv : obj.store P t off v = some obj' := by exact rfl) : WO P B Q h0 W N D K false ops (⟨none, .store t x y, ty, pos, af, gd⟩ :: l) s L T :=
  WO.store (A := [p0, p1, p2, p3, p4]) hw (fun e => by cases e) hx hy hL hv k
theorem StD.store5 {t x y i off obj obj' v K0 p0 p1 p2 p3 p4} (k : WO P B Q h0 W N D K true ops l s (p0 :: p1 :: p2 :: p3 :: p4 :: (i, obj') :: K0) T) (hw : wantS ops s N ⟨none, .store t x y, ty, pos, af, gd⟩ = some true := by exact rfl) (hx : evS s x = some (.ptr i off) := by exact rfl) (hy : evS s y = some v := by exact rfl) (hL : L = p0 :: p1 :: p2 :: p3 :: p4 :: (i, obj) :: K0 := by exact rfl) (hv : obj.store P t off v = some obj' := by exact rfl) (h2 : kindAt ops (⟨none, .store t x y, ty, pos, af, gd⟩ :: l) = 2 := by decide +kernel) : WO P B Q h0 W N D K true ops (⟨none, .store t x y, ty, pos, af, gd⟩ :: l) s L T :=
  WO.store (A := [p0, p1, p2, p3, p4]) hw (fun _ => h2) hx hy hL hv k
theorem St.store6 {t x y i off obj obj' v K0 p0 p1 p2 p3 p4 p5} (k : WO P B Q h0 W N D K false ops l s (p0 :: p1 :: p2 :: p3 :: p4 :: p5 :: (i, obj') :: K0) T) (hw : wantS ops s N ⟨none, .store t x y, ty, pos, af, gd⟩ = some true := by exact rfl) (hx : evS s x = some (.ptr i off) := by exact rfl) (hy : evS s y = some v := by exact rfl) (hL : L = p0 :: p1 :: p2 :: p3 :: p4 :: p5 :: (i, obj) :: K0 := by exact rfl) (hv : obj.store P t off v = some obj' := by exact rfl) : WO P B Q h0 W N D K false ops (⟨none, .store t x y, ty, pos, af, gd⟩ :: l) s L T :=
  WO.store (A := [p0, p1, p2, p3, p4, p5]) hw (fun e => by cases e) hx hy hL hv k
theorem St.store7 {t x y i off obj obj' v K0 p0 p1 p2 p3 p4 p5 p6} (k : WO P B Q h0 W N D K false ops l s (p0 :: p1 :: p2 :: p3 :: p4 :: p5 :: p6 :: (i, obj') :: K0) T) (hw : wantS ops s N ⟨none, .store t x y, ty, pos, af, gd⟩ = some true := by exact rfl) (hx : evS s x = some (.ptr i off) := by exact rfl) (hy : evS s y = some v := by exact rfl) (hL : L = p0 :: p1 :: p2 :: p3 :: p4 :: p5 :: p6 :: (i, obj) :: K0 := by exact rfl) (hv : obj.store P t off v = some obj' := by exact rfl) : WO P B Q h0 W N D K false ops (⟨none, .store t x y, ty, pos, af, gd⟩ :: l) s L T :=
  WO.store (A := [p0, p1, p2, p3, p4, p5, p6]) hw (fun e => by cases e) hx hy hL hv k
/-- a round's contract -/
def ConR (P : Program) (B : Base) (l : Nat) (args : List AV) (h : Heap) (W : List Nat) (v : AV) (L : Ob) : Prop := ∃ g, RunR P B l args h v g ∧ SS h W L g
theorem St.call {f args v} (he : ∀ h, evOp P h (evS s) ⟨some d, op, ty, pos, af, gd⟩ = some (.enter f args, h)) (hc : ∀ h, Vw h0 W L h → Con P B f args h [] v []) (k : WO P B Q h0 W N D K md ops l ((d, v) :: s) L T) (hw : wantS ops s N ⟨some d, op, ty, pos, af, gd⟩ = some true := by exact rfl) (hd : Nat.blt d N = true := by exact rfl) : WO P B Q h0 W N D K md ops (⟨some d, op, ty, pos, af, gd⟩ :: l) s L T :=
  WO.opE hw hd (fun _ h ha hh => (hc h hh).elim fun g hg => ⟨g, ROp.enter ha (he h) hg.1, hg.2⟩) k
theorem St.call1 {f args} {v : Nat → AV} {ob : Nat → AObj} (he : ∀ h, evOp P h (evS s) ⟨some d, op, ty, pos, af, gd⟩ = some (.enter f args, h)) (hc : ∀ h, Vw h0 W L h → ∃ j, Con P B f args h [] (v j) [(j, ob j)]) (k : ∀ j, h0.next ≤ j → WO P B Q h0 W N D K false ops l ((d, v j) :: s) ((j, ob j) :: L) []) (hw : wantS ops s N ⟨some d, op, ty, pos, af, gd⟩ = some true := by exact rfl) (hd : Nat.blt d N = true := by exact rfl) : WO P B Q h0 W N D K false ops (⟨some d, op, ty, pos, af, gd⟩ :: l) s L [] :=
  WO.op1 hw hd (fun _ h ha hh => (hc h hh).elim fun j hj => hj.elim fun g hg => ⟨g, j, ROp.enter ha (he h) hg.1, hg.2⟩) k
theorem St.callW {f args v} {L' Lw Lk : Ob} {W' : List Nat} (he : ∀ h, evOp P h (evS s) ⟨some d, op, ty, pos, af, gd⟩ = some (.enter f args, h)) (hc : ∀ h, SS h0 W L h → Con P B f args h W' v L') (hL : (Lw ++ Lk).Perm L) (hW : Lw.map (·.1) = W') (k : WO P B Q h0 W N D K false ops l ((d, v) :: s) (L' ++ Lk) []) (hw : wantS ops s N ⟨some d, op, ty, pos, af, gd⟩ = some true := by exact rfl) (hd : Nat.blt d N = true := by exact rfl) : WO P B Q h0 W N D K false ops (⟨some d, op, ty, pos, af, gd⟩ :: l) s L [] := by
  constructor
  · rintro - a h ha hh
    obtain ⟨g, h1, h2⟩ := hc h hh
    obtain ⟨a', h3, h4⟩ := ha.put (d := some d) hd v
    exact KRun.op (wantS_eq ha hw) (ROp.enter ha (he h) h1) h3 (k.seq rfl a' g h4 (hh.trans h2 hL hW))
  · intro e; cases e
theorem St.callR {f args} {R : AV → Ob → Prop} (he : ∀ h, evOp P h (evS s) ⟨some d, op, ty, pos, af, gd⟩ = some (.enter f args, h)) (hc : ∀ h, Vw h0 W L h → ∃ v L', Con P B f args h [] v L' ∧ R v L') (k : ∀ v L', R v L' → WO P B Q h0 W N D K false ops l ((d, v) :: s) (L' ++ L) []) (hw : wantS ops s N ⟨some d, op, ty, pos, af, gd⟩ = some true := by exact rfl) (hd : Nat.blt d N = true := by exact rfl) : WO P B Q h0 W N D K false ops (⟨some d, op, ty, pos, af, gd⟩ :: l) s L [] := by
  constructor
  · rintro - a h ha hh
    obtain ⟨v, L', ⟨g, h1, h2⟩, hR⟩ := hc h hh.vw
    obtain ⟨a', h3, h4⟩ := ha.put (d := some d) hd v
    exact KRun.op (wantS_eq ha hw) (ROp.enter ha (he h) h1) h3 ((k v L' hR).seq rfl a' g h4 (hh.call h2))
  · intro e; cases e
theorem St.split {b t} (k : b = true → WO P B Q h0 W N D K md ops (⟨some d, op, ty, pos, af, gd⟩ :: l) ((t, .bool true) :: s) L T) (k' : b = false → WO P B Q h0 W N D K md ops (⟨some d, op, ty, pos, af, gd⟩ :: l) ((t, .bool false) :: s) L T) (ht : gslot ops ⟨some d, op, ty, pos, af, gd⟩ = some t := by exact rfl) (hf : fnd s t = some (.bool b) := by exact rfl) : WO P B Q h0 W N D K md ops (⟨some d, op, ty, pos, af, gd⟩ :: l) s L T := WO.split ht hf k k'
theorem St.splitC {rnd t x y b} (k : b = true → WK P B Q h0 W N D (.job (.code rnd x) :: K) ((t, .bool true) :: s) L) (k' : b = false → WK P B Q h0 W N D (.job (.code rnd y) :: K) ((t, .bool false) :: s) L) (hf : fnd s t = some (.bool b) := by exact rfl) : WK P B Q h0 W N D (.job (.code rnd (.cond (.tmp t) x y)) :: K) s L := by
  refine ⟨fun a h ha hh => ?_⟩
  cases b with
  | true => exact WR.condT (c := .tmp t) hf rfl (fun a h ha hh => (k rfl).run a h (ha.set hf rfl) hh) a h ha hh
  | false => exact WR.condF (c := .tmp t) hf rfl (fun a h ha hh => (k' rfl).run a h (ha.set hf rfl) hh) a h ha hh
/-- what a function hands back -/
inductive ResR (P : Program) (s : Sl) (L : Ob) : List ResultVar → List AV → Prop
  | nil : ResR P s L [] []
  | tmp {t l v vs} (r : ResR P s L l vs) (h : fnd s t = some v := by exact rfl) : ResR P s L (.tmp t :: l) (v :: vs)
  | cell {p t l i off obj v vs} (r : ResR P s L l vs) (h : fnd s p = some (.ptr i off) := by exact rfl) (hm : (i, obj) ∈ L := by first | exact List.Mem.head _ | (apply List.Mem.tail; first | exact List.Mem.head _ | (apply List.Mem.tail; first | exact List.Mem.head _ | (apply List.Mem.tail; first | exact List.Mem.head _ | (apply List.Mem.tail; first | exact List.Mem.head _ | (apply List.Mem.tail; first | exact List.Mem.head _ | (apply List.Mem.tail; first | exact List.Mem.head _ | (apply List.Mem.tail; first | exact List.Mem.head _ | (apply List.Mem.tail; first | exact List.Mem.head _ | (apply List.Mem.tail; first | exact List.Mem.head _ | (apply List.Mem.tail; first | exact List.Mem.head _ | (apply List.Mem.tail; first | exact List.Mem.head _ | (apply List.Mem.tail; first | exact List.Mem.head _ | (apply List.Mem.tail; first | exact List.Mem.head _ | (apply List.Mem.tail; first | exact List.Mem.head _ | (apply List.Mem.tail; first | exact List.Mem.head _ | (apply List.Mem.tail; first | exact List.Mem.head _ | (apply List.Mem.tail; first | exact List.Mem.head _ | (apply List.Mem.tail; first | exact List.Mem.head _ | (apply List.Mem.tail; first | exact List.Mem.head _ | (apply List.Mem.tail; exact List.Mem.head _))))))))))))))))))))) (hv : obj.load P t off = some v := by exact rfl) : ResR P s L (.cell p t :: l) (v :: vs)
theorem ResR.eq {a : AAct} {h : Heap} (k : Sat a N s D) (hh : SS h0 W L h) : ∀ {l : List ResultVar} {vs}, ResR P s L l vs → resultsA P h a l = some vs
  | _, _, .nil => rfl
  | _, _, .tmp r h => by simp only [resultsA, ResR.eq k hh r, k.at_ _ _ h]
  | _, _, .cell r h hm hv => by simp only [resultsA, ResR.eq k hh r, k.at_ _ _ h, evLoad_of (hh.own _ hm).1 hv]
theorem St.ret {rnd fn R vs} (hr : ResR P s L fn.results.toList vs) (hR : R (oneOf vs) L) (hK : plainK K = true := by exact rfl) : WK P B (Ret P fn h0 W R) h0 W N [] (.job (.code rnd .ret) :: K) s L := ⟨fun a h ha hh =>
  KRun.ret (KRun.rets hK ⟨fun _ e => by (cases e), h, vs, L, by rw [ha.defers]; rfl, hr.eq ha hh, hh, hR⟩)⟩
end

/-! what is known of one cell -/
structure Rd (h : Heap) (b off : Nat) (v : AV) : Prop where
  lt : b < h.next
  at_ : h.at1 b off = some v
theorem Vw.rd {h0 h : Heap} {W : List Nat} {L : Ob} {b off : Nat} {v : AV} (k : Vw h0 W L h) (hw : b ∉ W) (r : Rd h0 b off v) : Rd h b off v := by
  refine ⟨Nat.lt_of_lt_of_le r.lt k.nx, ?_⟩
  have := r.at_
  unfold Heap.at1 at this ⊢
  rw [k.old _ r.lt hw]
  exact this
theorem Rd.one {h : Heap} {b off : Nat} {v : AV} {t : TypeId} (r : Rd h b off v) (ht : isAggT P t = some false) : evLoad P h t b off = some v := by
  unfold evLoad
  rw [ht]
  exact r.at_
/-- cells one behind the other -/
def Rds (h : Heap) (b : Nat) : Nat → List AV → Prop
  | _, [] => True
  | off, v :: l => Rd h b off v ∧ Rds h b (off + 1) l
theorem Vw.rds {h0 h : Heap} {W : List Nat} {L : Ob} {b : Nat} (k : Vw h0 W L h) (hw : b ∉ W) : ∀ {l : List AV} {off : Nat}, Rds h0 b off l → Rds h b off l
  | [], _, _ => trivial
  | _ :: _, _, r => ⟨k.rd hw r.1, k.rds hw r.2⟩
theorem Rds.readF {h : Heap} {b : Nat} {f : Nat → Option AV} (hg : h.get b = some (.view f)) : ∀ {l : List AV} {off : Nat}, Rds h b off l → readF f off l.length = some l
  | [], _, _ => rfl
  | v :: l, off, r => by
    have h1 := r.1.at_
    unfold Heap.at1 at h1
    rw [hg] at h1
    simp only [List.length_cons, Ev.readF, h1, Rds.readF hg r.2]
theorem Rds.take {h : Heap} {b : Nat} {q : List AV} (hg : ∀ off, h.at1 b off = nthN off q) : ∀ {l : List AV} {off : Nat}, Rds h b off l → takeN l.length (dropN off q) = some l
  | [], _, _ => by simp [takeN]
  | v :: l, off, r => by
    have h1 := r.1.at_
    rw [hg, nthN_eq] at h1
    have h2 := Rds.take hg r.2
    rw [dropN_eq] at h2 ⊢
    have hlt := (List.getElem?_eq_some_iff.1 h1).1
    rw [List.drop_eq_getElem_cons hlt, List.length_cons, takeN, h2]
    simp [(List.getElem?_eq_some_iff.1 h1).2]
theorem Rds.loadN {h : Heap} {b off n : Nat} {l : List AV} (r : Rds h b off l) (hl : l ≠ []) (hn : l.length = n) : h.loadN b off n = some l := by
  subst hn
  have h0 : (h.at1 b off).isSome := by
    cases l with
    | nil => exact absurd rfl hl
    | cons v l => rw [r.1.at_]; rfl
  unfold Heap.loadN
  unfold Heap.at1 at h0
  split
  · rename_i q t hg; exact r.take fun off => by unfold Heap.at1; rw [hg]
  · rename_i q t sz hg; exact r.take fun off => by unfold Heap.at1; rw [hg]
  · rename_i f hg; exact r.readF hg
  · rename_i h1 h2 h3; split at h0 <;> first | (rename_i hg; exact absurd hg (h1 _ _)) | (rename_i hg; exact absurd hg (h2 _ _ _)) | (rename_i hg; exact absurd hg (h3 _)) | cases h0
theorem Rds.agg {h : Heap} {b off n : Nat} {l : List AV} {t : TypeId} (r : Rds h b off l) (hl : l ≠ []) (ht : isAggT P t = some true) (hs : sizeT P t = some n) (hn : l.length = n) : evLoad P h t b off = some (.agg l) := by
  unfold evLoad
  rw [ht, hs]
  simp [r.loadN hl hn]
end Go.Proofs.YtkebbdpfjhhdhaaGreat.Ev
namespace Go.Proofs.YtkebbdpfjhhdhaaGreat.Ev
variable {P : Program} {B : Base}
/-! what is known is known by less -/
def leS : Sl → Sl → Prop
  | [], _ => True
  | (t, v) :: l, s => fnd s t = some v ∧ leS l s
theorem leS_fnd {s : Sl} : ∀ {l : Sl}, leS l s → ∀ t v, fnd l t = some v → fnd s t = some v
  | [], _, t, v, h => by cases h
  | (d, u) :: l, k, t, v, h => by
    rw [fnd_cons] at h
    split at h
    · rename_i e; subst e; cases h; exact k.1
    · exact leS_fnd k.2 t v h
section
variable {Q : Post} {h0 : Heap} {W : List Nat} {N : Nat} {D : List Nat} {K : List Fr} {s : Sl} {L : Ob} {rnd : Option Nat}
theorem WK.le {s' : Sl} {L' : Ob} (hs : leS s' s) (hl : L'.Sublist L) (k : WK P B Q h0 W N D K s' L') : WK P B Q h0 W N D K s L := ⟨k.run.sub (leS_fnd hs) hl⟩
/-- a loop with what holds before each round -/
theorem WK.inv {b} {ι : Type} (S : ι → Sl) (O : ι → Ob) (I : ι → Prop) (μ : ι → Nat) (i : ι) (hi : I i) (hs : leS (S i) s) (hl : (O i).Sublist L)
    (k : ∀ i, I i → (∀ j, I j → μ j < μ i → WK P B Q h0 W N D (.job (.code rnd (.loop b)) :: K) (S j) (O j)) → WK P B Q h0 W N D (.job (.code rnd b) :: .job (.code rnd (.loop b)) :: K) (S i) (O i)) : WK P B Q h0 W N D (.job (.code rnd (.loop b)) :: K) s L := by
  refine WK.le hs hl ?_
  exact ⟨WR.rounds (ι := {i // I i}) (fun i => S i.1) (fun i => O i.1) (fun i => μ i.1) ⟨i, hi⟩ fun i ih => (k i.1 i.2 fun j hj hm => ⟨ih ⟨j, hj⟩ hm⟩).run⟩
end
end Go.Proofs.YtkebbdpfjhhdhaaGreat.Ev

/- Walks through code over the calculator's memory: ranging over functions. -/
namespace Go.Proofs.YtkebbdpfjhhdhaaGreat.Ev
variable {P : Program} {B : Base}

/-- what is known of an activation when its parameters are laid -/
def setS : List Nat → List AV → Sl → Sl
  | p :: ps, v :: vs, s => setS ps vs ((p, v) :: s)
  | _, _, s => s
def allLt (N : Nat) : List Nat → Bool
  | [] => true
  | p :: ps => Nat.blt p N && allLt N ps
theorem setAll_sat {N : Nat} : ∀ {ps : List Nat} {vs : List AV} {t : T AV} {s : Sl}, allLt N ps = true → Sat ⟨t, N, []⟩ N s [] → Sat ⟨setAll t N ps vs, N, []⟩ N (setS ps vs s) []
  | [], _, _, _, _, k => by simpa [setAll, setS] using k
  | _ :: _, [], _, _, _, k => by simpa [setAll, setS] using k
  | p :: ps, v :: vs, t, s, h, k => by
    simp only [allLt, Bool.and_eq_true] at h
    simp only [setAll, setS, if_pos h.1]
    refine setAll_sat h.2 ⟨rfl, rfl, fun u x hu => ?_⟩
    show ((t.set p v).get u).getD aundef = x
    rw [T.get_set]
    rw [fnd_cons] at hu
    split at hu
    · rename_i e; cases hu; simp [e]
    · rename_i e; rw [if_neg e]; exact k.at_ u x hu

/-! ### a round: the body of a range over a function, called by the function -/
def RQ (l : Nat) (h0 : Heap) (W : List Nat) (R : AV → Ob → Prop) : Post := fun ex _ h => ∃ g L, endA h l ex = some g ∧ SS h0 W L g ∧ R (.bool ex.isNormal) L
theorem ConR.enter {l : Nat} {args : List AV} {h : Heap} {W : List Nat} {L0 : Ob} {q : ALoop} {R : AV → Ob → Prop} {s0 s : Sl} (h0 : SS h W L0 h) (hl : h.get l = some (.loop q)) (hst : q.state = .ready) (hn : args.length = q.params.size) (hlt : allLt q.size q.params.toList = true) (hT : Sat ⟨q.tmps, q.size, []⟩ q.size s0 []) (hs : setS q.params.toList args s0 = s)
    (hw : WK P B (RQ l h W R) h W q.size [] [.job (.code (some l) q.assign), .busy l, .job (.code (some l) q.body)] s L0) : ∃ v L, ConR P B l args h W v L ∧ R v L := by
  subst hs
  obtain ⟨⟨ex, v1, a1, h1⟩, r1, k1⟩ := hw.run _ _ (setAll_sat (vs := args) hlt hT) h0
  cases ex with
  | exit i => exact absurd k1 (by simp [KRun])
  | ret => exact absurd k1 (by simp [KRun])
  | normal =>
    obtain ⟨h2, hb, ⟨ex2, v2, a2, h3⟩, r2, k2⟩ := k1
    have k3 : RQ l h W R ex2 a2 h3 := by cases ex2 <;> exact k2
    obtain ⟨g, L, e1, e2, e3⟩ := k3
    obtain ⟨n, q1, q2⟩ := r1.two r2
    refine ⟨_, L, ⟨g, ⟨a2, fun a => Run.round (n := n) ?_ e2.nx⟩, e2⟩, e3⟩
    unfold rRound
    rw [hl]
    simp only
    rw [if_pos ⟨hn, hst⟩, q1]
    simp only [rBody, hb, q2, rEndR, e1]

section
variable {Q : Post} {h0 : Heap} {W : List Nat} {N : Nat} {D : List Nat} {K : List Fr} {s : Sl} {L : Ob} {rnd : Option Nat}
theorem WK.busy {A C : Ob} {l : Nat} {pd tm n ps as bd dq} (hL : L = A ++ (l, .loop ⟨.ready, pd, tm, n, ps, as, bd, dq⟩) :: C) (k : WK P B Q h0 W N D K s (A ++ (l, .loop ⟨.busy, pd, tm, n, ps, as, bd, dq⟩) :: C)) : WK P B Q h0 W N D (.busy l :: K) s L := by
  subst hL
  refine ⟨fun a h ha hh => ?_⟩
  obtain ⟨h1, h2⟩ := hh.store (o' := .loop ⟨.busy, pd, tm, n, ps, as, bd, dq⟩)
  refine ⟨_, ?_, k.run a _ ha h2⟩
  unfold busyA
  rw [(hh.own (l, _) (List.mem_append.2 (.inr List.mem_cons_self))).1]
  simp only [if_true]
  exact h1
theorem RQ.end_ {A C : Ob} {l : Nat} {a : AAct} {h : Heap} {ex : Ex} {st pd tm n ps as bd dq} {R : AV → Ob → Prop} (hh : SS h0 W (A ++ (l, .loop ⟨st, pd, tm, n, ps, as, bd, dq⟩) :: C) h)
    (hR : R (.bool ex.isNormal) (A ++ (l, .loop ⟨if ex.isNormal then .ready else .done, ex.jump, tm, n, ps, as, bd, dq⟩) :: C)) : RQ l h0 W R ex a h := by
  obtain ⟨h1, h2⟩ := hh.store (o' := .loop ⟨if ex.isNormal then .ready else .done, ex.jump, tm, n, ps, as, bd, dq⟩)
  refine ⟨_, _, ?_, h2, hR⟩
  unfold endA
  rw [(hh.own (l, _) (List.mem_append.2 (.inr List.mem_cons_self))).1]
  exact h1
theorem WK.retR {A C : Ob} {l : Nat} {st pd tm n ps as bd dq} {R : AV → Ob → Prop} (hL : L = A ++ (l, .loop ⟨st, pd, tm, n, ps, as, bd, dq⟩) :: C) (hR : R (.bool false) (A ++ (l, .loop ⟨.done, some .ret, tm, n, ps, as, bd, dq⟩) :: C)) (hK : plainK K = true := by exact rfl) : WK P B (RQ l h0 W R) h0 W N D (.job (.code rnd .ret) :: K) s L := by
  subst hL
  exact ⟨fun a h ha hh => KRun.ret (KRun.rets hK (RQ.end_ (ex := .ret) hh hR))⟩

/-- a range over a function, in a function's own body -/
theorem WK.range {f : Operand} {ps : Array Tmp} {as bd : Code} {g : Nat} {fs cs : List AV} {Lw Lk : Ob} {R : Option Code → Ob → Prop} (hf : evS s f = some (.fn (.func g) fs cs)) (hL : (Lw ++ Lk).Perm L)
    (hc : ∀ dq r tm h, Sat ⟨tm, N, []⟩ N s [] → SS h0 W ((r, .loop ⟨.ready, none, tm, N, ps, as, bd, dq⟩) :: (dq, .deferred true) :: L) h → ∃ v pd st L', st ≠ LoopState.busy ∧ Con P B g (fs ++ [.fn (.yield r) [] []] ++ cs) h (r :: Lw.map (·.1)) v ((r, .loop ⟨st, pd, tm, N, ps, as, bd, dq⟩) :: L') ∧ R pd L')
    (k : ∀ dq L', R none L' → WK P B Q h0 W N (dq :: D) K s (L' ++ (dq, .deferred true) :: Lk)) (k' : ∀ dq c L', R (some c) L' → WK P B Q h0 W N (dq :: D) (.job (.code none c) :: K) s (L' ++ (dq, .deferred true) :: Lk)) :
    WK P B Q h0 W N D (.job (.code none (.rangeFunc f ps as bd)) :: K) s L := by
  refine ⟨fun a h ha hh => ?_⟩
  have hh1 := hh.new (.deferred true)
  have hh2 := hh1.new (.loop ⟨.ready, none, a.tmps, N, ps, as, bd, h.next⟩)
  have hT : Sat ⟨a.tmps, N, []⟩ N s [] := ⟨rfl, rfl, ha.at_⟩
  obtain ⟨v, pd, st, L', hst, ⟨g3, ⟨a', hr⟩, hs3⟩, hR⟩ := hc h.next (h.new (.deferred true)).2.next a.tmps _ hT hh2
  have hp : (((((h.new (.deferred true)).2.next, AObj.loop ⟨.ready, none, a.tmps, N, ps, as, bd, h.next⟩) :: Lw) ++ (h.next, AObj.deferred true) :: Lk)).Perm (((h.new (.deferred true)).2.next, AObj.loop ⟨.ready, none, a.tmps, N, ps, as, bd, h.next⟩) :: (h.next, AObj.deferred true) :: L) := by
    rw [List.cons_append]
    refine List.Perm.cons _ ?_
    refine List.perm_middle.trans ?_
    exact List.Perm.cons _ hL
  have hs4 := hh2.trans hs3 hp (by simp)
  obtain ⟨e1, e2⟩ := (show SS h0 W ([] ++ ((h.new (.deferred true)).2.next, AObj.loop ⟨st, pd, a.tmps, N, ps, as, bd, h.next⟩) :: (L' ++ (h.next, AObj.deferred true) :: Lk)) g3 from hs4).store (o' := .loop ⟨.exhausted, pd, a.tmps, N, ps, as, bd, h.next⟩)
  have hl : leaveA g3 (h.new (.deferred true)).2.next = some (pd, { g3 with t := g3.t.set (h.new (.deferred true)).2.next (.loop ⟨.exhausted, pd, a.tmps, N, ps, as, bd, h.next⟩) }) := by
    unfold leaveA
    rw [(hs4.own ((h.new (.deferred true)).2.next, _) List.mem_cons_self).1]
    simp only
    rw [if_neg hst, e1]
    rfl
  have e3 := e2.sub (L' := L' ++ (h.next, AObj.deferred true) :: Lk) (List.sublist_cons_self _ _)
  refine KRun.range (ha.ev _ _ hf) (d := h.next) (mark := [h.next]) (h1 := (h.new (.deferred true)).2) rfl (Nat.le_succ _) ⟨a', by rw [ha.size]; exact hr a⟩ hl (Nat.le_refl _) ?_
  have hs' : Sat { a with defers := [h.next] ++ a.defers } N s (h.next :: D) := ⟨ha.size, by simp [ha.defers], ha.at_⟩
  cases pd with
  | none => exact (k h.next L' hR).run _ _ hs' e3
  | some c => exact (k' h.next c L' hR).run _ _ hs' e3
end
end Go.Proofs.YtkebbdpfjhhdhaaGreat.Ev
namespace Go.Proofs.YtkebbdpfjhhdhaaGreat.Ev
variable {P : Program} {B : Base}
section
variable {Q : Post} {h0 : Heap} {W : List Nat} {N : Nat} {D : List Nat} {K : List Fr} {s : Sl} {L : Ob} {T : Tg} {md : Bool} {ops : Array Oper} {d : Nat} {ty : TypeId} {pos : String} {af : Array Edge} {gd : Option (Nat × Bool)} {l : List Oper}
theorem foldI_max {k : IntKind} {a b : Int} : foldI (fun x y => if y > x then y else x) (.int k a) [.int k b] = some (.int k (max a b)) := by
  have : (if b > a then b else a) = max a b := by split <;> omega
  simp [foldI, this]
theorem foldI_min {k : IntKind} {a b : Int} : foldI (fun x y => if y < x then y else x) (.int k a) [.int k b] = some (.int k (min a b)) := by
  have : (if b < a then b else a) = min a b := by split <;> omega
  simp [foldI, this]
theorem St.maxI {xs ts} {i : IntKind} {a b : Int} (k : WO P B Q h0 W N D K md ops l ((d, .int i (Max.max a b)) :: s) L T) (hw : wantS ops s N ⟨some d, .call ⟨.builtin .max, xs, ts⟩, ty, pos, af, gd⟩ = some true := by exact rfl) (hd : Nat.blt d N = true := by exact rfl) (hx : mapO (evS s) xs.toList = some [.int i a, .int i b] := by exact rfl) : WO P B Q h0 W N D K md ops (⟨some d, .call ⟨.builtin .max, xs, ts⟩, ty, pos, af, gd⟩ :: l) s L T := St.max k hw hd hx foldI_max
theorem St.minI {xs ts} {i : IntKind} {a b : Int} (k : WO P B Q h0 W N D K md ops l ((d, .int i (Min.min a b)) :: s) L T) (hw : wantS ops s N ⟨some d, .call ⟨.builtin .min, xs, ts⟩, ty, pos, af, gd⟩ = some true := by exact rfl) (hd : Nat.blt d N = true := by exact rfl) (hx : mapO (evS s) xs.toList = some [.int i a, .int i b] := by exact rfl) : WO P B Q h0 W N D K md ops (⟨some d, .call ⟨.builtin .min, xs, ts⟩, ty, pos, af, gd⟩ :: l) s L T := St.min k hw hd hx foldI_min
end
/-- a call that makes one thing which it hands on -/
theorem Con.one {f : Nat} {args : List AV} {h : Heap} {V : Nat → AV} {O : Nat → AObj} (k : ∃ v L, Con P B f args h [] v L ∧ ∃ j, v = V j ∧ (j, O j) ∈ L) : ∃ j, Con P B f args h [] (V j) [(j, O j)] := by
  obtain ⟨v, L, h1, j, rfl, h2⟩ := k
  exact ⟨j, h1.sub (List.singleton_sublist.2 h2)⟩
theorem SS.keys {h0 h : Heap} {W : List Nat} {L : Ob} (k : SS h0 W L h) {p : Nat × AObj} (hp : p ∈ L) : h.get p.1 = some p.2 ∧ p.1 < h.next := ⟨(k.own p hp).1, (k.own p hp).2.2.1⟩
/-- a call that writes: what it holds at its beginning is what its caller lets it write -/
theorem SS.lend {h0 h : Heap} {W : List Nat} {L : Ob} (k : SS h0 W L h) : SS h (L.map (·.1)) L h := ⟨k.good, Nat.le_refl _, rfl, rfl, fun _ _ _ => rfl, k.nodup, fun p hp => ⟨(k.own p hp).1, by rw [k.lo]; exact (k.own p hp).2.1, (k.own p hp).2.2.1, .inr (List.mem_map.2 ⟨p, hp, rfl⟩)⟩⟩
end Go.Proofs.YtkebbdpfjhhdhaaGreat.Ev

/- Walks through code over the calculator's memory: append. -/
namespace Go.Proofs.YtkebbdpfjhhdhaaGreat.Ev
variable {P : Program} {B : Base}

theorem SS.take {h0 h : Heap} {W : List Nat} {A C : Ob} {i : Nat} {o o' : AObj} (k : SS h0 W (A ++ (i, o) :: C) h) : ∃ g, h.take i o' = some (h.next, g) ∧ g.next = h.next + 1 ∧ g.lo = h.lo ∧ g.hid = h.hid ∧ SS h0 W ((h.next, o') :: (A ++ C)) g := by
  obtain ⟨h1, h2, h3, h4⟩ := k.own (i, o) (by simp)
  refine ⟨{ h with t := (h.t.del i).set h.next o', next := h.next + 1 }, ?_, rfl, rfl, rfl, k.gd, Nat.le_succ_of_le k.nx, k.lo, k.hid, fun q hq hw => ?_, ?_, fun p hp => ?_⟩
  · unfold Heap.take
    rw [if_pos (by rw [k.lo]; simpa using h2), h1]
  · show ((h.t.del i).set h.next o').get q = _
    have := k.nx
    rw [T.get_set, if_neg (by omega), T.get_del, if_neg, k.keep q hq hw]
    rintro rfl
    rcases h4 with h4 | h4
    · have h4' : h0.next ≤ q := h4; omega
    · exact hw h4
  · have nd := (k.sub (L' := A ++ C) (List.Sublist.append (List.Sublist.refl _) (List.sublist_cons_self _ _))).nodup
    simp only [List.map_cons, List.nodup_cons]
    refine ⟨fun hm => ?_, nd⟩
    obtain ⟨p, hp, e⟩ := List.mem_map.1 hm
    have := (k.own p (by
      rcases List.mem_append.1 hp with hp | hp
      · exact List.mem_append.2 (.inl hp)
      · exact List.mem_append.2 (.inr (List.mem_cons_of_mem _ hp)))).2.2.1
    omega
  · rcases List.mem_cons.1 hp with rfl | hp
    · refine ⟨?_, by have := k.good.lo; rw [k.lo] at this; exact this, Nat.lt_succ_self _, .inl k.nx⟩
      unfold Heap.get
      rw [show (Heap.hidden { h with t := (h.t.del i).set h.next o', next := h.next + 1 } h.next) = h.hidden h.next from rfl, k.good.shown (Nat.le_refl _)]
      simp [T.get_set]
    · have hp' : p ∈ A ++ (i, o) :: C := by
        rcases List.mem_append.1 hp with hp | hp
        · exact List.mem_append.2 (.inl hp)
        · exact List.mem_append.2 (.inr (List.mem_cons_of_mem _ hp))
      obtain ⟨g1, g2, g3, g4⟩ := k.own p hp'
      have hne : p.1 ≠ i := fun e => by
        have := k.nodup
        rw [List.map_append, List.nodup_append, List.map_cons, List.nodup_cons] at this
        rcases List.mem_append.1 hp with hp | hp
        · exact this.2.2 p.1 (List.mem_map.2 ⟨p, hp, rfl⟩) i (by simp) e
        · exact this.2.1.1 (List.mem_map.2 ⟨p, hp, e⟩)
      refine ⟨?_, g2, Nat.lt_succ_of_lt g3, g4⟩
      have hs : (h.get p.1).isSome := by rw [g1]; rfl
      obtain ⟨q1, q2⟩ := Heap.get_some hs
      rw [← g1, q2]
      unfold Heap.get
      rw [show (Heap.hidden { h with t := (h.t.del i).set h.next o', next := h.next + 1 } p.1) = h.hidden p.1 from rfl, q1]
      show (if false = true then none else ((h.t.del i).set h.next o').get p.1) = _
      rw [T.get_set, if_neg (Nat.ne_of_lt g3), T.get_del, if_neg hne]
      simp

/-- what append is asked: types and the cells that come -/
structure AppQ (P : Program) (s : Sl) (x y : Operand) (t tx : TypeId) (v u : AV) (e : TypeId) (sz n : Nat) (new : List AV) (i2 off2 : Nat) (c2 : ACap) : Prop where
  hx : evS s x = some v
  hy : evS s y = some u
  ht : P.underlying t = some (.slice e)
  htx : P.underlying tx = some (.slice e)
  hs : sizeT P e = some sz
  hz : ((zeroT P e).bind fun z => some (z.cells.length == sz)) = some true
  hb : ((bytesT P e).bind fun b => some (Nat.ble b 1000000)) = some true
  h0 : Nat.blt 0 sz = true
  hu : u = .slice i2 off2 n c2
  hn : Nat.ble n 1000000 = true
  hl : (new.length == n * sz) = true
  ho : new.all okCell = true
theorem AppQ.ev {s : Sl} {x y : Operand} {t tx e : TypeId} {v u : AV} {sz n : Nat} {new : List AV} {i2 off2 : Nat} {c2 : ACap} {o : Oper} {h : Heap} (q : AppQ P s x y t tx v u e sz n new i2 off2 c2) (ho : o.op = .call ⟨.builtin .append, #[x, y], #[t, tx]⟩) (hld : h.loadN i2 off2 (n * sz) = some new) :
    evOp P h (evS s) o = (evOnto h e sz v n new).map fun r => (.value r.1, r.2) := by
  obtain ⟨hx, hy, ht, htx, hs, hz, hb, h0, hu, hn, hl, hok⟩ := q
  subst hu
  simp only [Option.bind_eq_some_iff] at hz hb
  obtain ⟨z, hz1, hz2⟩ := hz
  obtain ⟨b, hb1, hb2⟩ := hb
  have c1 : 0 < sz ∧ z.cells.length = sz ∧ b ≤ 1000000 ∧ n ≤ 1000000 ∧ new.length = n * sz ∧ new.all okCell = true := by
    refine ⟨by simpa [Nat.blt_eq] using h0, by simpa using hz2, by simpa using hb2, by simpa using hn, by simpa using hl, hok⟩
  unfold evOp
  rw [ho]
  simp only [oCall, mapO, hx, hy, evBuiltin, evAppend]
  have k0 : (#[t, tx] : Array TypeId)[0]? = some t := rfl
  have k1 : (#[t, tx] : Array TypeId)[1]? = some tx := rfl
  rw [k0, k1]
  simp only [ht, hs, hb1, hz1, evNews, htx, isSeqD, if_true, lenOfA, firstA, hld, Option.map_some]
  rw [if_pos c1]
section
variable {Q : Post} {h0 : Heap} {W : List Nat} {N : Nat} {D : List Nat} {K : List Fr} {s : Sl} {L : Ob} {T : Tg} {md : Bool} {ops : Array Oper} {d : Nat} {ty : TypeId} {pos : String} {af : Array Edge} {gd : Option (Nat × Bool)} {l : List Oper}
variable {x y : Operand} {t tx e : TypeId} {u : AV} {sz n : Nat} {new : List AV} {i2 off2 : Nat} {c2 : ACap} {ob2 : AObj}
theorem readN_load {h : Heap} {i off n : Nat} {o : AObj} {l : List AV} (hg : h.get i = some o) (k : o.readN off n = some l) : h.loadN i off n = some l := by
  unfold Heap.loadN
  rw [hg]
  cases o <;> exact k
theorem takeN_all {α : Type} : ∀ l : List α, takeN l.length l = some l
  | [] => rfl
  | x :: l => by simp [takeN, takeN_all l]
/-- append to a list that is nil -/
theorem St.appNil (k : ∀ j, h0.next ≤ j → WO P B Q h0 W N D K false ops l ((d, .slice j 0 n (.m 0)) :: s) ((j, .row new e sz) :: L) []) (q : AppQ P s x y t tx .slice0 u e sz n new i2 off2 c2) (hm : (i2, ob2) ∈ L) (hr : ob2.readN off2 (n * sz) = some new) (h1 : (n == 0) = false)
    (hw : wantS ops s N ⟨some d, .call ⟨.builtin .append, #[x, y], #[t, tx]⟩, ty, pos, af, gd⟩ = some true := by exact rfl) (hd : Nat.blt d N = true := by exact rfl) : WO P B Q h0 W N D K false ops (⟨some d, .call ⟨.builtin .append, #[x, y], #[t, tx]⟩, ty, pos, af, gd⟩ :: l) s L [] := by
  refine WO.op1 (v := fun j => .slice j 0 n (.m 0)) (ob := fun _ => .row new e sz) hw hd (fun a h ha hh => ⟨_, h.next, ROp.value ha ?_ (Nat.le_succ _), hh.gd.ss.new _⟩) k
  rw [q.ev rfl (readN_load (hh.own _ hm).1 hr)]
  simp only [evOnto, show ¬ n = 0 from by simpa using h1, if_false, evGrow, Option.map_some]
/-- append to a list of one's own -/
theorem WO.appRow {A C : Ob} {i len : Nat} {old : List AV} (hL : L = A ++ (i, .row old e sz) :: C) (k : ∀ j, h0.next ≤ j → WO P B Q h0 W N D K false ops l ((d, .slice j 0 (len + n) (.m 0)) :: s) ((j, .row (old ++ new) e sz) :: (A ++ C)) []) (q : AppQ P s x y t tx (.slice i 0 len (.m 0)) u e sz n new i2 off2 c2) (hm : (i2, ob2) ∈ L) (hr : ob2.readN off2 (n * sz) = some new) (hlen : old.length = len * sz) (h1 : 0 < n) (h2 : len + n ≤ 1000000)
    (hw : wantS ops s N ⟨some d, .call ⟨.builtin .append, #[x, y], #[t, tx]⟩, ty, pos, af, gd⟩ = some true := by exact rfl) (hd : Nat.blt d N = true := by exact rfl) : WO P B Q h0 W N D K false ops (⟨some d, .call ⟨.builtin .append, #[x, y], #[t, tx]⟩, ty, pos, af, gd⟩ :: l) s L [] := by
  subst hL
  have hsz : 0 < sz := by have := q.h0; simpa [Nat.blt_eq] using this
  constructor
  · rintro - a h ha hh
    obtain ⟨g, e1, e2, _, _, e3⟩ := hh.take (o' := .row (old ++ new) e sz)
    obtain ⟨a', h3, h4⟩ := ha.put (d := some d) hd (.slice h.next 0 (len + n) (.m 0))
    have hg := (hh.own (i, .row old e sz) (by simp)).1
    have hk : knownN h i sz = len := by
      unfold knownN
      rw [hg]
      simp only [if_true]
      rw [hlen, Nat.mul_div_cancel _ hsz]
    have hl : h.loadN i 0 (len * sz) = some old := readN_load hg (by
      simp only [AObj.readN, dropN_eq, List.drop_zero]
      rw [← hlen]
      exact takeN_all old)
    refine KRun.op (wantS_eq ha hw) (ROp.value ha (v := .slice h.next 0 (len + n) (.m 0)) (g := g) ?_ (by rw [e2]; exact Nat.le_succ _)) h3 ((k _ hh.nx).seq rfl a' g h4 e3)
    rw [q.ev rfl (readN_load (hh.own _ hm).1 hr)]
    simp only [evOnto, hk, Nat.add_zero]
    rw [if_neg (by omega), if_pos ⟨h2, trivial, trivial⟩, hg, hl]
    simp only [if_true, true_and, e1, Option.map_some]
  · intro e; cases e
end
end Go.Proofs.YtkebbdpfjhhdhaaGreat.Ev

/- A walk through a region that draws its order, where a store has no order with loads from other blocks. -/
namespace Go.Proofs.YtkebbdpfjhhdhaaGreat.Ev
variable {P : Program} {B : Base}
/-- what is known of what has been done, in reverse order: the kind, and the label of the block that it loads from or stores into -/
abbrev Rl := List (Nat × Option Nat)
/-- label 0: no block; label b + 1: block b of the list -/
def blkL (cls : List Nat) : Option Nat → Option Nat
  | none => none
  | some 0 => some 0
  | some (b + 1) => (cls[b]?).map (· + 1)
def recsL (cls : List Nat) (n : Nat) (rl : Rl) : List Rec := rl.map fun q => ⟨q.1, blkL cls q.2, n, n⟩
def apartL (n : Nat) : Option Nat → Option Nat → Bool
  | some i, some k => !(i == k) && Nat.ble i n && Nat.ble k n
  | _, _ => false
def freeL (n m : Nat) (x : Nat × Option Nat) : Rl → Nat → Bool
  | [], _ => true
  | q :: l, i => (m.testBit (i - 1) || q.1 == 0 || (x.1 == 0 || x.1 == 4) || (!(q.1 == 2) && !(x.1 == 2)) || (((q.1 == 2 && x.1 == 3) || (q.1 == 3 && x.1 == 2)) && apartL n q.2 x.2)) && freeL n m x l (i - 1)
theorem blkL_some {cls : List Nat} : ∀ {a : Nat}, a ≤ cls.length → ∃ i, blkL cls (some a) = some i ∧ ((a = 0 ∧ i = 0) ∨ ∃ b k, a = b + 1 ∧ i = k + 1 ∧ cls[b]? = some k)
  | 0, _ => ⟨0, rfl, .inl ⟨rfl, rfl⟩⟩
  | b + 1, h => by
    have hb : b < cls.length := h
    exact ⟨cls[b] + 1, by simp [blkL, hb], .inr ⟨b, cls[b], rfl, rfl, by simp [hb]⟩⟩
theorem apartL_ne {cls : List Nat} (hc : cls.Nodup) {p q : Option Nat} (h : apartL cls.length p q = true) : ∃ i k, blkL cls p = some i ∧ blkL cls q = some k ∧ i ≠ k := by
  unfold apartL at h
  split at h
  · rename_i a b
    simp only [Bool.and_eq_true, Bool.not_eq_true', beq_eq_false_iff_ne, Nat.ble_eq] at h
    obtain ⟨⟨h1, h2⟩, h3⟩ := h
    obtain ⟨i, e1, c1⟩ := blkL_some h2
    obtain ⟨k, e2, c2⟩ := blkL_some h3
    refine ⟨i, k, e1, e2, fun e => ?_⟩
    rcases c1 with ⟨rfl, rfl⟩ | ⟨b1, k1, rfl, rfl, g1⟩ <;> rcases c2 with ⟨rfl, rfl⟩ | ⟨b2, k2, rfl, rfl, g2⟩
    · exact h1 rfl
    · omega
    · omega
    · obtain rfl : k1 = k2 := by omega
      obtain ⟨l1, r1⟩ := List.getElem?_eq_some_iff.1 g1
      obtain ⟨l2, r2⟩ := List.getElem?_eq_some_iff.1 g2
      have hp := List.pairwise_iff_getElem.1 hc
      rcases Nat.lt_or_gt_of_ne (show b1 ≠ b2 from fun e => h1 (by rw [e])) with h4 | h4
      · exact hp b1 b2 l1 l2 h4 (by rw [r1, r2])
      · exact hp b2 b1 l2 l1 h4 (by rw [r1, r2])
  · cases h
structure WB (P : Program) (B : Base) (Q : Post) (h0 : Heap) (W : List Nat) (N : Nat) (D : List Nat) (K : List Fr) (ops : Array Oper) (l : List Oper) (s : Sl) (L : Ob) (cls : List Nat) (n : Nat) (rl : Rl) : Prop where
  run : ∀ a h, Sat a N s D → SS h0 W L h → cls.Nodup → cls.length = n → KRun P B Q (.job (.drawn ops (masksR ops) (kindsR ops) l (recsL cls h.next rl)) :: K) .normal a h
section
variable {Q : Post} {h0 : Heap} {W : List Nat} {N : Nat} {D : List Nat} {K : List Fr} {s : Sl} {L : Ob} {rnd : Option Nat} {cls : List Nat} {n : Nat} {rl : Rl} {ops : Array Oper} {d : Nat} {op : Op} {ty : TypeId} {pos : String} {af : Array Edge} {gd : Option (Nat × Bool)} {l : List Oper}
end
theorem DS.storedT {h0 h : Heap} {W : List Nat} {recs : List Rec} {L : Ob} {T : Tg} {i1 i : Nat} {o o' : AObj} {r : Rec} (k : DS h0 W recs L ((i1, i, o) :: T) h) (hr0 : r.n0 = h.next) (hr1 : r.n1 = h.next) : h.set i o' = some { h with t := h.t.set i o' } ∧ DS h0 W (r :: recs) L ((i1, i, o') :: T) { h with t := h.t.set i o' } := by
  have k1 : SS h0 W ([] ++ (i, o) :: (T.map (·.2) ++ L)) h := k.ss
  obtain ⟨h1, h2⟩ := k1.store (o' := o')
  refine ⟨h1, h2, fun q hq => ?_, fun p hp q hq => ?_, fun j hj q hq => ?_, fun x hx m hm => ?_⟩
  · rcases List.mem_cons.1 hq with rfl | hq
    · exact ⟨by rw [hr0]; exact k.ss.nx, by rw [hr1]; exact Nat.le_refl _⟩
    · exact k.rng q hq
  · rcases List.mem_cons.1 hq with rfl | hq
    · omega
    · exact k.visL p hp q hq
  · rcases List.mem_cons.1 hq with rfl | hq
    · omega
    · exact k.visW j hj q hq
  · simp only [List.length_cons, hideOf, hr0, hr1]
    rw [if_pos (by simp)]
    rcases List.mem_cons.1 hx with rfl | hx
    · exact k.visT (i1, i, o) List.mem_cons_self m hm
    · exact k.visT x (List.mem_cons_of_mem _ hx) m hm
section
variable {Q : Post} {h0 : Heap} {W : List Nat} {N : Nat} {D : List Nat} {K : List Fr} {s : Sl} {L : Ob} {T : Tg} {ops : Array Oper} {ty : TypeId} {pos : String} {af : Array Edge} {gd : Option (Nat × Bool)} {l : List Oper}
/-- a store, in order with all others that touch memory, into a block that the region has made itself -/
theorem StD.storeT {t y i1 i off obj obj' v T'} {z : Operand} (k : WO P B Q h0 W N D K true ops l s L ((i1, i, obj') :: T')) (hw : wantS ops s N ⟨none, .store t z y, ty, pos, af, gd⟩ = some true := by exact rfl) (hx : evS s z = some (.ptr i off) := by exact rfl) (hy : evS s y = some v := by exact rfl) (hT : T = (i1, i, obj) :: T' := by exact rfl) (hv : obj.store P t off v = some obj' := by exact rfl)
    (h2 : kindAt ops (⟨none, .store t z y, ty, pos, af, gd⟩ :: l) = 2 := by decide +kernel) : WO P B Q h0 W N D K true ops (⟨none, .store t z y, ty, pos, af, gd⟩ :: l) s L T := by
  subst hT
  refine ⟨fun e => (by cases e), fun _ a h recs ha hh ht hl hst hW => ?_⟩
  obtain ⟨q1, q2, q3⟩ := drop_next hl
  have h2' : (kindsR ops).getD recs.length 0 = 2 := by unfold kindAt at h2; rw [q3] at h2; exact h2
  obtain ⟨h1, h3⟩ := hh.storedT (o' := obj') (r := ⟨(kindsR ops).getD recs.length 0, blkOf a.eval (.store t z y), h.next, h.next⟩) rfl rfl
  refine KRun.dop (v := aundef) (g := { h with t := h.t.set i obj' }) (wantS_eq ha hw) ?_ ?_ rfl ?_
  · rw [h2']
    show ROp P B h a _ aundef _
    refine ROp.skip (g := { h with t := h.t.set i obj' }) ha ?_ (Nat.le_refl _)
    unfold evOp
    simp only [oStore, hx, hy, evStore_of (hh.ss.own (i, obj) (by simp)).1 hv h1, Option.map_some]
  · exact staticAll_free hst q1 ht rfl
  · exact k.drawn rfl a _ _ ha h3 ⟨.inl rfl, ht⟩ q2 hst hW
end
end Go.Proofs.YtkebbdpfjhhdhaaGreat.Ev

/- Walks through a region that draws its order: append, in order with all others that touch memory. -/
namespace Go.Proofs.YtkebbdpfjhhdhaaGreat.Ev
variable {P : Program} {B : Base}
theorem DS.took {h0 h : Heap} {W : List Nat} {recs : List Rec} {A C : Ob} {T : Tg} {i : Nat} {o o' : AObj} {r : Rec} (k : DS h0 W recs (A ++ (i, o) :: C) T h) (hr0 : r.n0 = h.next) (hr1 : r.n1 = h.next + 1) (hw : ∀ i ∈ W, i < h0.next) :
    ∃ g, h.take i o' = some (h.next, g) ∧ g.next = h.next + 1 ∧ g.lo = h.lo ∧ g.hid = h.hid ∧ DS h0 W (r :: recs) (A ++ C) ((recs.length, h.next, o') :: T) g := by
  have k1 : SS h0 W ((T.map (·.2) ++ A) ++ (i, o) :: C) h := by rw [List.append_assoc]; exact k.ss
  obtain ⟨g, e1, e2, e3, e4, e5⟩ := k1.take (o' := o')
  refine ⟨g, e1, e2, e3, e4, ⟨by rw [List.append_assoc] at e5; exact e5, fun q hq => ?_, fun p hp q hq => ?_, fun j hj q hq => ?_, fun x hx m hm => ?_⟩⟩
  · rcases List.mem_cons.1 hq with rfl | hq
    · exact ⟨by rw [hr0]; exact k.ss.nx, by rw [hr1, e2]; exact Nat.le_refl _⟩
    · exact ⟨(k.rng q hq).1, by have := (k.rng q hq).2; omega⟩
  · have hp' : p ∈ A ++ (i, o) :: C := by
      rcases List.mem_append.1 hp with hp | hp
      · exact List.mem_append.2 (.inl hp)
      · exact List.mem_append.2 (.inr (List.mem_cons_of_mem _ hp))
    rcases List.mem_cons.1 hq with rfl | hq
    · have := (k.ss.own p (List.mem_append.2 (.inr hp'))).2.2.1
      omega
    · exact k.visL p hp' q hq
  · rcases List.mem_cons.1 hq with rfl | hq
    · have := hw j hj; have := k.ss.nx; omega
    · exact k.visW j hj q hq
  · have hold : ∀ j, h.next ≤ j → (hideOf m recs recs.length).any (inR j) = false := fun j hj => by
      cases e : (hideOf m recs recs.length).any (inR j) with
      | false => rfl
      | true => obtain ⟨q, h1, h2, h3⟩ := hide_sub e; have := (k.rng q h1).2; omega
    simp only [List.length_cons, hideOf, Nat.add_sub_cancel]
    rcases List.mem_cons.1 hx with rfl | hx
    · have hm' : m.testBit recs.length = true := hm
      rw [hm']
      simp only [Bool.true_or, if_true]
      exact hold _ (Nat.le_refl _)
    · have h1 := k.visT x hx m hm
      split
      · exact h1
      · simp only [List.any_cons, h1, Bool.or_false]
        have := (k.ss.own x.2 (List.mem_append.2 (.inl (List.mem_map.2 ⟨x, hx, rfl⟩)))).2.2.1
        cases e : inR x.2.1 (r.n0, r.n1) with
        | false => rfl
        | true => rw [inR_iff] at e; rw [hr0] at e; have := e.1; simp only at this; omega
section
variable {Q : Post} {h0 : Heap} {W : List Nat} {N : Nat} {D : List Nat} {K : List Fr} {s : Sl} {L : Ob} {T : Tg} {ops : Array Oper} {d : Nat} {ty : TypeId} {pos : String} {af : Array Edge} {gd : Option (Nat × Bool)} {l : List Oper}
variable {x y : Operand} {t tx e : TypeId} {u : AV} {sz n : Nat} {new : List AV} {i2 off2 : Nat} {c2 : ACap} {ob2 : AObj}
/-- append to a list that is nil; what comes was made in the region (the operation i1) -/
theorem StD.appNil {i i1 : Nat} (k : ∀ j, h0.next ≤ j → WO P B Q h0 W N D K true ops l ((d, .slice j 0 n (.m 0)) :: s) L ((i, j, .row new e sz) :: T)) (q : AppQ P s x y t tx .slice0 u e sz n new i2 off2 c2) (hm : (i1, i2, ob2) ∈ T) (hr : ob2.readN off2 (n * sz) = some new) (h1 : (n == 0) = false)
    (hw : wantS ops s N ⟨some d, .call ⟨.builtin .append, #[x, y], #[t, tx]⟩, ty, pos, af, gd⟩ = some true := by exact rfl) (hd : Nat.blt d N = true := by exact rfl) (hk : maskAt ops (⟨some d, .call ⟨.builtin .append, #[x, y], #[t, tx]⟩, ty, pos, af, gd⟩ :: l) i1 = true := by decide +kernel) (hi : ops.toList.length - (⟨some d, .call ⟨.builtin .append, #[x, y], #[t, tx]⟩, ty, pos, af, gd⟩ :: l : List Oper).length = i := by exact rfl) : WO P B Q h0 W N D K true ops (⟨some d, .call ⟨.builtin .append, #[x, y], #[t, tx]⟩, ty, pos, af, gd⟩ :: l) s L T := by
  refine WO.op1D (v := fun j => .slice j 0 n (.m 0)) (ob := fun _ => .row new e sz) (Tv := [(i1, i2, ob2)]) hw hd (fun z hz => by cases List.mem_singleton.1 hz; exact ⟨hm, hk⟩) hi (fun a h ha hh => ⟨_, h.next, ROp.value ha ?_ (Nat.le_succ _), hh.gd.ss.new _⟩) k
  rw [q.ev rfl (readN_load (hh.own (i2, ob2) (by simp)).1 hr)]
  simp only [evOnto, show ¬ n = 0 from by simpa using h1, if_false, evGrow, Option.map_some]
/-- append to a list of one's own; what comes was made in the region -/
theorem StD.appRow {A C : Ob} {i i1 j1 len : Nat} {old : List AV} (hL : L = A ++ (j1, .row old e sz) :: C) (k : ∀ j, h0.next ≤ j → WO P B Q h0 W N D K true ops l ((d, .slice j 0 (len + n) (.m 0)) :: s) (A ++ C) ((i, j, .row (old ++ new) e sz) :: T)) (q : AppQ P s x y t tx (.slice j1 0 len (.m 0)) u e sz n new i2 off2 c2) (hm : (i1, i2, ob2) ∈ T) (hr : ob2.readN off2 (n * sz) = some new) (hlen : old.length = len * sz) (h1 : 0 < n) (h2 : len + n ≤ 1000000)
    (hw : wantS ops s N ⟨some d, .call ⟨.builtin .append, #[x, y], #[t, tx]⟩, ty, pos, af, gd⟩ = some true := by exact rfl) (hd : Nat.blt d N = true := by exact rfl) (hi : ops.toList.length - (⟨some d, .call ⟨.builtin .append, #[x, y], #[t, tx]⟩, ty, pos, af, gd⟩ :: l : List Oper).length = i := by exact rfl) (h3 : kindAt ops (⟨some d, .call ⟨.builtin .append, #[x, y], #[t, tx]⟩, ty, pos, af, gd⟩ :: l) = 2 := by decide +kernel) : WO P B Q h0 W N D K true ops (⟨some d, .call ⟨.builtin .append, #[x, y], #[t, tx]⟩, ty, pos, af, gd⟩ :: l) s L T := by
  subst hL
  have hsz : 0 < sz := by have := q.h0; simpa [Nat.blt_eq] using this
  refine ⟨fun e => (by cases e), fun _ a h recs ha hh ht hl' hst hW => ?_⟩
  obtain ⟨q1, q2, q3⟩ := drop_next hl'
  rw [q3] at hi
  subst hi
  have h2' : (kindsR ops).getD recs.length 0 = 2 := by unfold kindAt at h3; rw [q3] at h3; exact h3
  obtain ⟨g, e1, e2, e3, e4, e5⟩ := hh.took (o' := .row (old ++ new) e sz) (r := ⟨(kindsR ops).getD recs.length 0, blkOf a.eval (.call ⟨.builtin .append, #[x, y], #[t, tx]⟩), h.next, h.next + 1⟩) rfl rfl hW
  obtain ⟨a', h4, h5⟩ := ha.put (d := some d) hd (.slice h.next 0 (len + n) (.m 0))
  have hg := (hh.ss.own (j1, .row old e sz) (by simp)).1
  have hg2 := (hh.ss.own (i2, ob2) (List.mem_append.2 (.inl (List.mem_map.2 ⟨_, hm, rfl⟩)))).1
  have hk : knownN h j1 sz = len := by
    unfold knownN
    rw [hg]
    simp only [if_true]
    rw [hlen, Nat.mul_div_cancel _ hsz]
  have hl : h.loadN j1 0 (len * sz) = some old := readN_load hg (by
    simp only [AObj.readN, dropN_eq, List.drop_zero]
    rw [← hlen]
    exact takeN_all old)
  have hgg : ({ g with lo := h.lo, hid := h.hid } : Heap) = g := by
    cases g
    simp only at e3 e4
    subst e3 e4
    rfl
  refine KRun.dop (v := .slice h.next 0 (len + n) (.m 0)) (g := g) (wantS_eq ha hw) ?_ ?_ h4 ?_
  · rw [h2']
    show ROp P B h a _ _ g
    refine ROp.value ha ?_ (by rw [e2]; exact Nat.le_succ _)
    rw [q.ev rfl (readN_load hg2 hr)]
    simp only [evOnto, hk, Nat.add_zero]
    rw [if_neg (by omega), if_pos ⟨h2, trivial, trivial⟩, hg, hl]
    simp only [if_true, true_and, e1, Option.map_some]
  · exact staticAll_free hst q1 ht rfl
  · rw [hgg]
    rw [e2]
    exact (k _ hh.ss.nx).drawn rfl a' _ _ h5 e5 ⟨.inl rfl, ht⟩ q2 hst hW
end
end Go.Proofs.YtkebbdpfjhhdhaaGreat.Ev

/- Lists that a call makes and appends to; rounds that hold new memory. -/
namespace Go.Proofs.YtkebbdpfjhhdhaaGreat.Ev
variable {P : Program} {B : Base}

/-- v is a slice of len elements (each of sz cells, of type e), whose cells are l; Lv is what is held of it -/
inductive IsL (e : TypeId) (sz len : Nat) (l : List AV) : AV → Ob → Prop where
  | nil : len = 0 → l = [] → IsL e sz len l .slice0 []
  | cells (i c : Nat) (rest : List AV) (t : TypeId) : l.length = len * sz → (l ++ rest).length = c * sz → len ≤ c → IsL e sz len l (.slice i 0 len (.k c)) [(i, .cells (l ++ rest) t)]
  | row (i : Nat) : l.length = len * sz → IsL e sz len l (.slice i 0 len (.m 0)) [(i, .row l e sz)]
/-- what is held of a slice that is not nil -/
def AObj.has (o : AObj) (l : List AV) : Prop := (∃ r t, o = .cells (l ++ r) t) ∨ ∃ r t sz, o = .row (l ++ r) t sz
theorem AObj.has_row (l : List AV) (t : TypeId) (sz : Nat) : (AObj.row l t sz).has l := .inr ⟨[], t, sz, by rw [List.append_nil]⟩
theorem AObj.has_cells (l : List AV) (t : TypeId) : (AObj.cells l t).has l := .inl ⟨[], t, by rw [List.append_nil]⟩
theorem AObj.has.left {o : AObj} {l m : List AV} (k : o.has (l ++ m)) : o.has l := by
  rcases k with ⟨r, t, rfl⟩ | ⟨r, t, sz, rfl⟩
  · exact .inl ⟨m ++ r, t, by rw [List.append_assoc]⟩
  · exact .inr ⟨m ++ r, t, sz, by rw [List.append_assoc]⟩
theorem IsL.open_ {e : TypeId} {sz len : Nat} {l : List AV} {v : AV} {Lv : Ob} (k : IsL e sz len l v Lv) : (v = .slice0 ∧ Lv = [] ∧ len = 0 ∧ l = []) ∨ ∃ i c o, v = .slice i 0 len c ∧ Lv = [(i, o)] ∧ o.has l ∧ l.length = len * sz := by
  cases k with
  | nil h1 h2 => exact .inl ⟨rfl, rfl, h1, h2⟩
  | cells i c rest t h1 h2 h3 => exact .inr ⟨i, _, _, rfl, rfl, .inl ⟨rest, t, rfl⟩, h1⟩
  | row i h1 => exact .inr ⟨i, _, _, rfl, rfl, AObj.has_row _ _ _, h1⟩
theorem IsL.ne {e : TypeId} {sz len : Nat} {l : List AV} {v : AV} {Lv : Ob} (k : IsL e sz len l v Lv) (h : 0 < len) : ∃ i c o, v = .slice i 0 len c ∧ Lv = [(i, o)] ∧ o.has l ∧ l.length = len * sz := by
  rcases k.open_ with ⟨_, _, h1, _⟩ | h1
  · omega
  · exact h1
theorem AObj.has.at1 {o : AObj} {l : List AV} (k : o.has l) {h : Heap} {i off : Nat} (hg : h.get i = some o) (ho : off < l.length) : h.at1 i off = some l[off] := by
  unfold Heap.at1
  rw [hg]
  rcases k with ⟨r, t, rfl⟩ | ⟨r, t, sz, rfl⟩
  · simp only [nthN_eq]
    rw [List.getElem?_append_left ho, List.getElem?_eq_getElem ho]
  · simp only [nthN_eq]
    rw [List.getElem?_append_left ho, List.getElem?_eq_getElem ho]
theorem Vw.rdL {h0 h : Heap} {W : List Nat} {V : Ob} {j off : Nat} {o : AObj} {l : List AV} {v : AV} (k : Vw h0 W V h) (hm : (j, o) ∈ V) (hl : o.has l) (hv : l[off]? = some v) : Rd h j off v := by
  obtain ⟨h1, h2⟩ := List.getElem?_eq_some_iff.1 hv
  exact ⟨(k.own _ hm).2, by rw [hl.at1 (k.own _ hm).1 h1, h2]⟩
theorem overN_mk {α : Type} : ∀ {off : Nat} {xs l : List α}, off + xs.length ≤ l.length → overN off xs l = some (l.take off ++ xs ++ l.drop (off + xs.length))
  | 0, [], l, _ => by simp [overN]
  | 0, x :: xs, [], h => by simp at h
  | 0, x :: xs, y :: l, h => by
    simp only [overN]
    rw [overN_mk (off := 0) (by simp at h ⊢; omega)]
    simp
  | n + 1, xs, [], h => by simp at h
  | n + 1, xs, y :: l, h => by
    simp only [overN]
    rw [overN_mk (by simp at h ⊢; omega)]
    simp [show n + 1 + xs.length = (n + xs.length) + 1 from by omega]
theorem takeN_left {α : Type} : ∀ (l r : List α), takeN l.length (l ++ r) = some l
  | [], _ => rfl
  | x :: l, r => by simp [takeN, takeN_left l r]

section
variable {Q : Post} {h0 : Heap} {W : List Nat} {N : Nat} {D : List Nat} {K : List Fr} {s : Sl} {L : Ob} {T : Tg} {md : Bool} {ops : Array Oper} {d : Nat} {ty : TypeId} {pos : String} {af : Array Edge} {gd : Option (Nat × Bool)} {l : List Oper}
variable {x y : Operand} {t tx e : TypeId} {u : AV} {sz n : Nat} {new : List AV} {i2 off2 : Nat} {c2 : ACap} {ob2 : AObj}
theorem WK.perm {L' : Ob} (hp : L'.Perm L) (k : WK P B Q h0 W N D K s L') : WK P B Q h0 W N D K s L := ⟨fun a h ha hh => k.run a h ha (hh.perm hp)⟩
theorem WO.permF {L' : Ob} (hp : L'.Perm L) (k : WO P B Q h0 W N D K false ops l s L' []) : WO P B Q h0 W N D K false ops l s L [] := ⟨fun _ => (fun a h ha hh => k.seq rfl a h ha (hh.perm hp)), fun e => (by cases e)⟩
end
end Go.Proofs.YtkebbdpfjhhdhaaGreat.Ev

/- Rounds that hold new memory; appends in regions that draw their order, to lists that a call makes. -/
namespace Go.Proofs.YtkebbdpfjhhdhaaGreat.Ev
variable {P : Program} {B : Base}
section
variable {Q : Post} {h0 : Heap} {W : List Nat} {N : Nat} {D : List Nat} {K : List Fr} {s : Sl} {L : Ob} {T : Tg} {md : Bool} {ops : Array Oper} {d : Nat} {op : Op} {ty : TypeId} {pos : String} {af : Array Edge} {gd : Option (Nat × Bool)} {l : List Oper}
theorem DS.perm {recs : List Rec} {h : Heap} {L' : Ob} (k : DS h0 W recs L T h) (hp : L'.Perm L) : DS h0 W recs L' T h :=
  ⟨k.ss.perm (List.Perm.append_left _ hp), k.rng, fun p hp' => k.visL p (hp.subset hp'), k.visW, k.visT⟩
theorem WO.permD {L' : Ob} (hp : L'.Perm L) (k : WO P B Q h0 W N D K true ops l s L' T) : WO P B Q h0 W N D K true ops l s L T :=
  ⟨fun e => (by cases e), fun _ a h recs ha hh h1 h2 h3 h4 => k.drawn rfl a h recs ha (hh.perm hp) h1 h2 h3 h4⟩
end
/-- a list that is nil, or a row of the call's own -/
inductive IsR (e : TypeId) (sz len : Nat) (l : List AV) : AV → Ob → Prop where
  | nil : len = 0 → l = [] → IsR e sz len l .slice0 []
  | row (i : Nat) : l.length = len * sz → IsR e sz len l (.slice i 0 len (.m 0)) [(i, .row l e sz)]
theorem IsR.isL {e : TypeId} {sz len : Nat} {l : List AV} {v : AV} {Lv : Ob} (k : IsR e sz len l v Lv) : IsL e sz len l v Lv := by
  cases k with
  | nil h1 h2 => exact .nil h1 h2
  | row i h1 => exact .row i h1
section
variable {Q : Post} {h0 : Heap} {W : List Nat} {N : Nat} {D : List Nat} {K : List Fr} {s : Sl} {L : Ob} {T : Tg} {ops : Array Oper} {d : Nat} {ty : TypeId} {pos : String} {af : Array Edge} {gd : Option (Nat × Bool)} {l : List Oper}
variable {x y : Operand} {t tx e : TypeId} {u : AV} {sz n : Nat} {new : List AV} {i2 off2 : Nat} {c2 : ACap} {ob2 : AObj}
theorem StD.appL {i i1 len : Nat} {old : List AV} {v : AV} {Lv Lk : Ob} (hv : IsR e sz len old v Lv) (hp : (Lv ++ Lk).Perm L) (k : ∀ j, h0.next ≤ j → WO P B Q h0 W N D K true ops l ((d, .slice j 0 (len + n) (.m 0)) :: s) Lk ((i, j, .row (old ++ new) e sz) :: T)) (q : AppQ P s x y t tx v u e sz n new i2 off2 c2) (hm : (i1, i2, ob2) ∈ T) (hr : ob2.readN off2 (n * sz) = some new) (h1 : 0 < n) (h2 : len + n ≤ 1000000)
    (hw : wantS ops s N ⟨some d, .call ⟨.builtin .append, #[x, y], #[t, tx]⟩, ty, pos, af, gd⟩ = some true := by exact rfl) (hd : Nat.blt d N = true := by exact rfl) (hk : maskAt ops (⟨some d, .call ⟨.builtin .append, #[x, y], #[t, tx]⟩, ty, pos, af, gd⟩ :: l) i1 = true := by decide +kernel) (hi : ops.toList.length - (⟨some d, .call ⟨.builtin .append, #[x, y], #[t, tx]⟩, ty, pos, af, gd⟩ :: l : List Oper).length = i := by exact rfl) (h3 : kindAt ops (⟨some d, .call ⟨.builtin .append, #[x, y], #[t, tx]⟩, ty, pos, af, gd⟩ :: l) = 2 := by decide +kernel) : WO P B Q h0 W N D K true ops (⟨some d, .call ⟨.builtin .append, #[x, y], #[t, tx]⟩, ty, pos, af, gd⟩ :: l) s L T := by
  refine WO.permD hp ?_
  cases hv with
  | nil g1 g2 =>
    subst g1 g2
    refine StD.appNil (i := i) (i1 := i1) (fun j hj => ?_) q hm hr (by simp; omega) hw hd hk hi
    have := k j hj
    rw [Nat.zero_add] at this
    exact this
  | row j1 g1 => exact StD.appRow (A := []) (C := Lk) (len := len) rfl k q hm hr g1 h1 h2 hw hd hi h3
end
end Go.Proofs.YtkebbdpfjhhdhaaGreat.Ev

/- The model's memory, read as the calculator's; what a walk shows, said of the model. -/
namespace Go.Proofs.YtkebbdpfjhhdhaaGreat.Ev
variable {P : Program} {B : Base}

/-- a cell's value, where the blocks have their own numbers -/
def absC (n : Nat) : Value → Option AV
  | .bool b => some (.bool b)
  | .int k m => some (.int k m)
  | .string s => some (.str s.data.toList)
  | .pointer none => some .ptr0
  | .pointer (some ⟨b, off, none⟩) => if b < n then some (.ptr b off) else none
  | .slice none 0 0 => some .slice0
  | .slice (some _) 0 0 => some .sliceZ
  | .slice (some ⟨b, off, none⟩) len cap => if b < n then some (.slice b off len (.k cap)) else none
  | .map none => some .map0
  | .nilFunc => some .fn0
  | .nilIface => some .nilI
  | _ => none
def idE (n : Nat) : Env := fun i => if i < n then some (i, 0) else none
theorem absC_VR {n : Nat} {V : Value} {v : AV} (h : absC n V = some v) : VR (idE n) v V := by
  unfold absC at h
  split at h
  · cases h; simp [VR]
  · cases h; simp [VR]
  · cases h; simp only [VR]
  · cases h; simp [VR]
  · split at h
    · rename_i hb; cases h; simp only [VR]; exact ⟨_, 0, if_pos hb, rfl⟩
    · cases h
  · cases h; simp [VR]
  · cases h; simp only [VR]; exact ⟨_, _, rfl⟩
  · split at h
    · rename_i hb; cases h; simp only [VR]; exact ⟨_, 0, if_pos hb, rfl⟩
    · cases h
  · cases h; simp [VR]
  · cases h; simp [VR]
  · cases h; simp [VR]
  · cases h
def absO (n : Nat) : Obj → Option AObj
  | .cells C _ _ => some (.view fun o => (C[o]?).bind (absC n))
  | _ => none
def absT (W : World) : Nat → T AObj
  | 0 => .nil
  | i + 1 => match (W.heap[i]?).bind (absO W.heap.size) with
    | some o => (absT W i).set i o
    | none => absT W i
theorem absT_get (W : World) : ∀ (n i : Nat), (absT W n).get i = if i < n then (W.heap[i]?).bind (absO W.heap.size) else none
  | 0, i => by simp [absT, T.get]
  | n + 1, i => by
    unfold absT
    split
    · rename_i o ho
      rw [T.get_set, absT_get W n i]
      by_cases e : i = n
      · subst e; rw [if_pos rfl, if_pos (Nat.lt_succ_self _), ho]
      · rw [if_neg e]
        by_cases h : i < n
        · rw [if_pos h, if_pos (by omega)]
        · rw [if_neg h, if_neg (by omega)]
    · rename_i ho
      rw [absT_get W n i]
      by_cases e : i = n
      · subst e; rw [if_neg (Nat.lt_irrefl _), if_pos (Nat.lt_succ_self _), ho]
      · by_cases h : i < n
        · rw [if_pos h, if_pos (by omega)]
        · rw [if_neg h, if_neg (by omega)]
/-- the model's memory as the calculator's -/
def absH (W : World) : Heap := ⟨absT W W.heap.size, W.heap.size, W.heap.size, []⟩
theorem absH_get (W : World) (i : Nat) : (absH W).get i = (W.heap[i]?).bind (absO W.heap.size) := by
  unfold Heap.get Heap.hidden absH
  simp only [List.any_nil, Bool.false_eq_true, if_false, absT_get]
  by_cases h : i < W.heap.size
  · rw [if_pos h]
  · rw [if_neg h, Array.getElem?_eq_none (by omega)]; rfl
theorem absH_good (W : World) : Gd (absH W) := ⟨Nat.le_refl _, fun _ h => by cases h⟩
theorem absH_HR (top : Nat) (W : World) : HR top (idE W.heap.size) (absH W) W := by
  refine ⟨fun i o h => ?_, fun i k b c d _ _ h1 h2 => ?_, fun i h _ => if_neg (by have h' : W.heap.size ≤ i := h; omega), fun _ h => (by cases h), fun i h => ?_⟩
  · rw [absH_get] at h
    simp only [Option.bind_eq_some_iff] at h
    obtain ⟨O, h1, h2⟩ := h
    have hlt := (Array.getElem?_eq_some_iff.1 h1).1
    refine ⟨i, 0, O, if_pos hlt, h1, ?_⟩
    unfold absO at h2
    split at h2
    · rename_i C t fr
      cases h2
      refine ⟨C, t, fr, i, 0, rfl, if_pos hlt, fun o v hv => ?_⟩
      simp only [Option.bind_eq_some_iff] at hv
      obtain ⟨V, h3, h4⟩ := hv
      exact ⟨V, h3, absC_VR h4⟩
    · cases h2
  · unfold idE at h1 h2
    split at h1 <;> cases h1
    split at h2 <;> cases h2
    rfl
  · have h' : W.heap.size ≤ i := h
    show (absT W W.heap.size).get i = none
    rw [absT_get, if_neg (by omega)]
theorem absH_rd {W : World} {b off : Nat} {V : Value} {v : AV} (h : W.cell? ⟨b, off, none⟩ = some V) (hv : absC W.heap.size V = some v) : Rd (absH W) b off v := by
  unfold World.cell? at h
  split at h
  · rename_i C t fr hb
    refine ⟨(Array.getElem?_eq_some_iff.1 hb).1, ?_⟩
    unfold Heap.at1
    rw [absH_get, hb]
    show (C[off]?).bind (absC W.heap.size) = some v
    split at h
    · cases h
    · have h' : C[off]? = some V := by simpa using h
      rw [h']; exact hv
  · cases h

/-- a contract of the calculator's memory, said of the model -/
theorem Con.calls (hP : P.follows .mixedOrders = true) (hB : SoundC P B) {f : Nat} {args : List AV} {Args : List Value} {W : World} {v : AV} (hc : Con P B f args (absH W) [] v []) (hv : VRs (idE W.heap.size) args Args) :
    Calls P f Args.toArray W fun e w' => ∃ V E', e = .returned V ∧ VR E' v V ∧ RowKit.Below W.heap.size W w' := by
  obtain ⟨g, ⟨a', hr⟩, hs⟩ := hc
  obtain ⟨n, ho⟩ := hr ⟨.nil, 0, []⟩
  have h1 := ((runB_sound hP hB.runs n).a.call ho (absH_HR g.next W) (Nat.le_refl _) hv).2 0
  refine callsIn_wide.1 (h1.mono ?_)
  rintro e w' ⟨V, E', rfl, x, _, hV⟩
  refine ⟨V, E', rfl, hV, x.os, x.tape, x.output, x.size, fun b hb => x.keepC b hb fun k d hk hs he => ?_⟩
  unfold idE at he
  split at he
  · rename_i hlt
    have hk' : W.heap.size ≤ k := hk
    omega
  · cases he

/-! contracts that were shown of the model itself, as answers -/
theorem Con.base {f : Nat} {args : List AV} {h : Heap} {v : AV} (hB : B.ans f args h = some (v, h)) (g : Gd h) : Con P B f args h [] v [] := by
  refine ⟨h, ⟨noA, fun a => ⟨1, ?_⟩⟩, SS.init g⟩
  show orR (asR B) _ _ _ _ = _
  unfold orR
  rw [show asR B (.call f args) a h = some ⟨.normal, v, noA, h⟩ from by unfold asR; simp only [hB, Option.map_some]]
/-- answers by words: S says of a call what it returns; no memory is touched that was there -/
def specB (S : Nat → List AV → Heap → Option AV) : Base := ⟨fun f args h => (S f args h).map fun v => (v, h), fun e => by
  simp only [Option.map_eq_some_iff] at e
  obtain ⟨v, _, e⟩ := e
  cases e
  exact Abs.refl _⟩
/-- the other way: what is read in the calculator's memory stands in the model's -/
theorem HR.rd {top : Nat} {E : Env} {h : Heap} {W : World} (k : HR top E h W) {i off : Nat} {v : AV} (r : Rd h i off v) {b : Nat} {c : Nat × Nat} (hE : E i = some (b, c)) : ∃ V, W.cell? ⟨b, off + c.2, none⟩ = some V ∧ VR E v V := by
  have hv := r.at_
  have row : ∀ {q : List AV}, h.row i = some q → nthN off q = some v → ∃ V, W.cell? ⟨b, off + c.2, none⟩ = some V ∧ VR E v V := fun {q} hr hv => by
    obtain ⟨b', c', Z, L, X, t', e1, e2, e3, e4⟩ := k.rowAt hr
    rw [hE] at e1
    cases e1
    rw [nthN_eq] at hv
    obtain ⟨V, h1, h2⟩ := e3.get hv
    refine ⟨V, ?_, h2⟩
    rw [cell_row e2]
    have := (List.getElem?_eq_some_iff.1 h1).1
    rw [← e4, Nat.add_comm off]
    simp [List.getElem?_append_right, List.getElem?_append_left this, h1]
  unfold Heap.at1 at hv
  split at hv
  · rename_i r t hg; exact row (show h.row i = some r by unfold Heap.row; rw [hg]) hv
  · rename_i r t sz hg; exact row (show h.row i = some r by unfold Heap.row; rw [hg]) hv
  · rename_i f hg
    obtain ⟨b', c', O, e1, e2, C, t, fr, b3, c3, rfl, e4, e3⟩ := k.obj i _ hg
    rw [hE] at e1 e4
    cases e1
    cases e4
    obtain ⟨V, h1, h2⟩ := e3 off v hv
    exact ⟨V, by rw [cell_row' e2, h1], h2⟩
  · cases hv
end Go.Proofs.YtkebbdpfjhhdhaaGreat.Ev

/- Answers for the library's functions that write a slice of ints in place (Sort, Compact), from contracts that were shown of the model. -/
namespace Go.Proofs.YtkebbdpfjhhdhaaGreat.Ev
variable {P : Program}
open Go.Sort

def intsA : List AV → Option (List Int)
  | [] => some []
  | .int .i64 n :: l => (intsA l).map (n :: ·)
  | _ => none
def intsTo : Nat → List AV → Option (List Int × List AV)
  | 0, l => some ([], l)
  | n + 1, .int .i64 k :: l => (intsTo n l).map fun r => (k :: r.1, r.2)
  | _ + 1, _ => none
theorem intsTo_eq : ∀ {n : Nat} {l : List AV} {zs r}, intsTo n l = some (zs, r) → l = zs.map (AV.int .i64) ++ r ∧ zs.length = n
  | 0, l, zs, r, h => by cases h; exact ⟨rfl, rfl⟩
  | n + 1, l, zs, r, h => by
    unfold intsTo at h
    split at h
    · rename_i h0; omega
    · rename_i n' k l' h0
      cases h0
      simp only [Option.map_eq_some_iff] at h
      obtain ⟨⟨q, s⟩, h1, h2⟩ := h
      cases h2
      obtain ⟨h3, h4⟩ := intsTo_eq h1
      subst h3
      exact ⟨rfl, by simp [h4]⟩
    · cases h
theorem intsTo_mk : ∀ (zs : List Int) (r : List AV), intsTo zs.length (zs.map (AV.int .i64) ++ r) = some (zs, r)
  | [], r => by simp [intsTo]
  | n :: zs, r => by simp [intsTo, intsTo_mk zs r]
theorem VRs.ints {E : Env} : ∀ (zs : List Int), VRs E (zs.map (AV.int .i64)) (zs.map (Value.int .i64))
  | [] => VRs.nil
  | n :: zs => VRs.cons (by simp [VR]) (VRs.ints zs)
theorem VRs.ints_eq {E : Env} : ∀ {zs : List Int} {L : List Value}, VRs E (zs.map (AV.int .i64)) L → L = zs.map (Value.int .i64)
  | [], L, h => by simpa only [List.map_nil, VRs] using h
  | n :: zs, L, h => by
    simp only [List.map_cons, VRs] at h
    obtain ⟨V, L', rfl, h1, h2⟩ := h
    simp only [VR] at h1
    rw [h1, VRs.ints_eq h2]; rfl
theorem putCells_all {Z L X : List Value} {ss : List Int} (hl : ss.length = L.length) : putCells (Value.int .i64) Z.length ss.toArray (Z ++ (L ++ X)).toArray = (Z ++ (ss.map (Value.int .i64) ++ X)).toArray := by
  apply Array.ext
  · simp [putCells, hl]
  · intro i h1 h2
    simp only [putCells, Array.getElem_mapIdx]
    by_cases hz : i < Z.length
    · rw [if_neg (by omega)]
      simp [List.getElem_append_left, hz]
    · by_cases hi : i < Z.length + ss.length
      · have hk : i - Z.length < ss.length := by omega
        rw [if_pos (by simp; omega)]
        simp only [List.getElem_toArray]
        rw [List.getElem_append_right (by omega), List.getElem_append_left (by simpa using hk)]
        simp [hk]
      · rw [if_neg (by simp; omega)]
        simp only [List.getElem_toArray]
        rw [List.getElem_append_right (by omega), List.getElem_append_right (by omega), List.getElem_append_right (by omega), List.getElem_append_right (by simp; omega)]
        simp [hl]
theorem heap_putI {w : World} {g n z : Nat} {cur : Array Value} {e : TypeId} {fr : Nat × Nat} (d : Array Int) (hb : w.heap[g]? = some (.cells cur e fr)) :
    (putRow (Value.int .i64) (Go.Sort.ahead w n) g z d).heap[g]? = some (.cells (putCells (Value.int .i64) z d cur) e fr) := by
  simp [putRow, mapBlock, Go.Sort.ahead, Array.getElem?_modify, hb, onCells]
/-- a row that begins with ints, which are written over, and new blocks -/
theorem HR.ints {top : Nat} {E : Env} {h g : Heap} {W : World} (k : HR top E h W) {i : Nat} {l r : List AV} {zs ss : List Int} (hr : h.row i = some l) (hl : l = zs.map (AV.int .i64) ++ r) (hs : h.setRow i (ss.map (AV.int .i64) ++ r) = some g) (hlen : ss.length = zs.length) (ht : g.next ≤ top) {b : Nat} {c : Nat × Nat} (hE : E i = some (b, c)) (n : Nat) (os : Array Obj) :
    HR top E g (grow (putRow (Value.int .i64) (Go.Sort.ahead W n) b c.2 ss.toArray) os) ∧ Ext E E h g W (grow (putRow (Value.int .i64) (Go.Sort.ahead W n) b c.2 ss.toArray) os) := by
  have key : HR top E g (putRow (Value.int .i64) (Go.Sort.ahead W n) b c.2 ss.toArray) ∧ Ext E E h g W (putRow (Value.int .i64) (Go.Sort.ahead W n) b c.2 ss.toArray) := by
    have hother : ∀ q, q ≠ b → (putRow (Value.int .i64) (Go.Sort.ahead W n) b c.2 ss.toArray).heap[q]? = W.heap[q]? := fun q hq => by
      simp [putRow, mapBlock, Go.Sort.ahead, Array.getElem?_modify, Ne.symm hq]
    unfold Heap.setRow at hs
    split at hs
    · rename_i l' t hg
      obtain ⟨b', c', O, e1, e2, L, b3, c3, e3, rfl, e6, e7⟩ := k.obj i _ hg
      rw [hE] at e1 e6
      cases e1
      cases e6
      have hl' : l' = l := by unfold Heap.row at hr; rw [hg] at hr; cases hr; rfl
      subst hl'
      rw [hl] at e3
      obtain ⟨A, X, rfl, e4, e5⟩ := VRs.split e3
      obtain rfl := VRs.ints_eq e4
      have hp := heap_putI (n := n) (z := c.2) ss.toArray e2
      have hq := putCells_all (Z := []) (X := X) (show ss.length = (zs.map (Value.int .i64)).length by simpa using hlen)
      simp only [List.nil_append, List.length_nil] at hq
      have hq' : putCells (Value.int .i64) c.2 ss.toArray (zs.map (Value.int .i64) ++ X).toArray = (ss.map (Value.int .i64) ++ X).toArray := by rw [e7]; exact hq
      rw [hq'] at hp
      exact k.set hs hE _ _ hp ⟨_, b, c, (VRs.ints ss).append e5, rfl, hE, e7⟩ hother (by simp) rfl rfl rfl
    · rename_i l' t sz hg
      obtain ⟨b', c', O, e1, e2, Z, L, X, b2, c2, e3, rfl, e4, e5, e6, e7⟩ := k.obj i _ hg
      rw [hE] at e1 e4
      cases e1
      cases e4
      have hl' : l' = l := by unfold Heap.row at hr; rw [hg] at hr; cases hr; rfl
      subst hl'
      rw [hl] at e3
      obtain ⟨A, Y, rfl, f4, f5⟩ := VRs.split e3
      obtain rfl := VRs.ints_eq f4
      rw [List.append_assoc] at e2
      have hp := heap_putI (n := n) (z := c.2) ss.toArray e2
      rw [← e7, putCells_all (by simpa using hlen), ← List.append_assoc (ss.map _)] at hp
      rw [e7] at hp
      exact k.set hs hE _ _ hp ⟨Z, _, X, b, c, (VRs.ints ss).append f5, rfl, hE, by rw [← e5]; simp; omega, e6, e7⟩ hother (by simp) rfl rfl rfl
    · cases hs
  obtain ⟨k1, k2⟩ := key
  have hb : RowKit.Below (putRow (Value.int .i64) (Go.Sort.ahead W n) b c.2 ss.toArray).heap.size (putRow (Value.int .i64) (Go.Sort.ahead W n) b c.2 ss.toArray) (grow (putRow (Value.int .i64) (Go.Sort.ahead W n) b c.2 ss.toArray) os) :=
    ⟨rfl, rfl, rfl, by simp, fun q hq => heap_grow_old _ _ hq⟩
  obtain ⟨k3, k4⟩ := k1.below hb
  exact ⟨k3, k2.trans k k1 ht k4⟩

/-- the capacity in the model -/
def capV (c : Nat) : ACap → Nat
  | .k n => n
  | .m d => c - d
/-- is the capacity's word right? -/
def capOk (h : Heap) (i n : Nat) : ACap → Bool
  | .k m => match h.get i with
    | some (.cells _ _) => Nat.ble n m
    | _ => false
  | .m d => match h.get i with
    | some (.row _ _ sz) => Nat.beq sz 1 && Nat.beq d 0
    | _ => false
def inplA (f : Nat) (F : List Int → List Int) (R : Nat → List Int → ACap → AV) : Nat → List AV → Heap → Option (AV × Heap) := fun g args h => bif Nat.beq g f then (match args with
  | [.slice i 0 n c] => match h.row i with
    | some l => match intsTo n l with
      | some (zs, r) => if n < 1000000 ∧ 0 < n ∧ capOk h i n c = true then (h.setRow i ((F zs).map (AV.int .i64) ++ r)).map fun g => (R i zs c, g) else none
      | none => none
    | none => none
  | _ => none) else none
theorem inplA_eq {f g : Nat} {F R} {args : List AV} {h h' : Heap} {v : AV} (e : inplA f F R g args h = some (v, h')) : ∃ i n c l zs r, args = [.slice i 0 n c] ∧ h.row i = some l ∧ intsTo n l = some (zs, r) ∧ g = f ∧ n < 1000000 ∧ 0 < n ∧ capOk h i n c = true ∧ h.setRow i ((F zs).map (AV.int .i64) ++ r) = some h' ∧ v = R i zs c := by
  unfold inplA at e
  cases hg : Nat.beq g f with
  | false => rw [hg] at e; cases e
  | true =>
  rw [hg] at e
  have hg := Nat.eq_of_beq_eq_true hg
  simp only [cond_true] at e
  split at e
  · rename_i i n c
    split at e
    · rename_i l hl
      split at e
      · rename_i zs r hz
        split at e
        · rename_i hc
          simp only [Option.map_eq_some_iff] at e
          obtain ⟨q, h1, h2⟩ := e
          cases h2
          exact ⟨i, n, c, l, zs, r, rfl, hl, hz, hg, hc.1, hc.2.1, hc.2.2, h1, rfl⟩
        · cases e
      · cases e
    · cases e
  · cases e
theorem setRow_set {h g : Heap} {i : Nat} {l : List AV} (e : h.setRow i l = some g) : ∃ o, h.set i o = some g := by
  unfold Heap.setRow at e
  split at e
  · exact ⟨_, e⟩
  · exact ⟨_, e⟩
  · cases e
def inplB (f : Nat) (F : List Int → List Int) (R : Nat → List Int → ACap → AV) : Base := ⟨inplA f F R, fun e => by
  obtain ⟨i, n, c, l, zs, r, _, _, _, _, _, _, _, h1, _⟩ := inplA_eq e
  obtain ⟨o, h2⟩ := setRow_set h1
  exact (Abs.set h2).1⟩
theorem holds_ints {W : World} {b z : Nat} {zs : List Int} {Z X : List Value} {t : TypeId} (h : W.heap[b]? = some (.cells (Z ++ (zs.map (Value.int .i64) ++ X)).toArray t (0, 0))) (hz : Z.length = z) : Holds (Value.int .i64) W b z zs.toArray := by
  subst hz
  intro j hj
  have hj' : j < zs.length := by simpa using hj
  refine ⟨?_, by simp [World.frozen?, h]⟩
  simp only [World.cell?, h]
  simp [List.getElem?_append_right, List.getElem?_append_left, hj']
theorem inplB_sound {f : Nat} {fn : Func} {F : List Int → List Int} {R : Nat → List Int → ACap → AV} {V : Nat → Nat → Nat → List Int → Value} (hf : enters P f = some fn) (hF : ∀ zs, (F zs).length = zs.length)
    (hR : ∀ {E : Env} {i b : Nat} {c : Nat × Nat} (zs : List Int) (ac : ACap), E i = some (b, c) → VR E (R i zs ac) (V b c.2 (capV c.1 ac) zs))
    (hc : ∀ (b o cap : Nat) (zs : List Int) (w : World), Holds (Value.int .i64) w b o zs.toArray → b < w.heap.size → zs.length < 1000000 → zs.length ≤ cap → Calls P f #[.slice (some ⟨b, o, none⟩) zs.length cap] w fun e w' => e = .returned (V b o cap zs) ∧ ∃ n os, w' = grow (putRow (Value.int .i64) (Go.Sort.ahead w n) b o (F zs).toArray) os) : SoundC P (inplB f F R) := by
  intro g args h v h' e top E W Args k ht hv
  obtain ⟨i, n, ac, l, zs, r, rfl, hl, hz, rfl, hn2, hn0, hcap, hs, rfl⟩ := inplA_eq e
  obtain ⟨hz', hn⟩ := intsTo_eq hz
  subst hn
  simp only [VRs, VR] at hv
  obtain ⟨_, _, rfl, ⟨b, c, hE, rfl⟩, rfl⟩ := hv
  refine ⟨fun args w => (enter_run hf args w).1, fun q => ?_⟩
  have key : ∃ Z X t, W.heap[b]? = some (.cells (Z ++ (zs.map (Value.int .i64) ++ X)).toArray t (0, 0)) ∧ Z.length = c.2 ∧ zs.length ≤ capV c.1 ac := by
    have hl0 := hl
    unfold Heap.row at hl
    cases hg : h.get i with
    | none => rw [hg] at hl; cases hl
    | some ob =>
      rw [hg] at hl
      obtain ⟨b', c', O, e1, e2, e3⟩ := k.obj i _ hg
      rw [hE] at e1
      cases e1
      cases ob with
      | cells l' t =>
        cases hl
        obtain ⟨L, b3, c3, e4, rfl, f1, f2⟩ := e3
        rw [hE] at f1
        cases f1
        rw [hz'] at e4
        obtain ⟨A, X, rfl, e5, e6⟩ := VRs.split e4
        obtain rfl := VRs.ints_eq e5
        refine ⟨[], X, t, e2, f2.symm, ?_⟩
        cases ac with
        | k m => simp only [capOk, hg] at hcap; exact Nat.le_of_ble_eq_true hcap
        | m d => simp only [capOk, hg] at hcap; cases hcap
      | row l' t sz =>
        cases hl
        obtain ⟨Z, L, X, b2, c2, e4, rfl, e5, e6, e7, f7⟩ := e3
        rw [hE] at e5
        cases e5
        rw [hz'] at e4
        obtain ⟨A, Y, rfl, e8, e9⟩ := VRs.split e4
        obtain rfl := VRs.ints_eq e8
        refine ⟨Z, Y ++ X, t, by rw [← List.append_assoc (zs.map _)]; exact e2, f7, ?_⟩
        cases ac with
        | k m => simp only [capOk, hg] at hcap; cases hcap
        | m d =>
          simp only [capOk, hg, Bool.and_eq_true] at hcap
          have q1 := Nat.eq_of_beq_eq_true hcap.1
          have q2 := Nat.eq_of_beq_eq_true hcap.2
          subst q1 q2
          rw [List.length_append, List.length_append, List.length_map] at e6
          simp only [capV, Nat.sub_zero]
          omega
      | _ => cases hl
  obtain ⟨Z, X, t, e2, e3, hcap'⟩ := key
  have hcall := hc b c.2 (capV c.1 ac) zs W (holds_ints e2 e3) (Array.getElem?_eq_some_iff.1 e2).1 hn2 hcap'
  rw [← Nat.zero_add c.2] at hcall
  have hcall' : Calls P g #[.slice (some ⟨b, 0 + c.2, none⟩) zs.length (capV c.1 ac)] W fun e w' => e = .returned (V b c.2 (capV c.1 ac) zs) ∧ ∃ n os, w' = grow (putRow (Value.int .i64) (Go.Sort.ahead W n) b c.2 (F zs).toArray) os := by simpa using hcall
  refine (callsIn_wide.2 hcall').mono ?_
  rintro e w' ⟨rfl, m, os, rfl⟩
  obtain ⟨k1, k2⟩ := k.ints hl hz' hs (hF zs) ht hE m os
  exact ⟨_, E, rfl, k2, k1, hR zs ac hE⟩
theorem inplA_is {f : Nat} {F R} {h : Heap} {i n : Nat} {c : ACap} {l r : List AV} {zs : List Int} {g : Heap} (h1 : h.row i = some l) (h2 : intsTo n l = some (zs, r)) (h4 : n < 1000000) (h5 : 0 < n) (h6 : capOk h i n c = true) (h7 : h.setRow i ((F zs).map (AV.int .i64) ++ r) = some g) : inplA f F R f [.slice i 0 n c] h = some (R i zs c, g) := by
  unfold inplA
  rw [show Nat.beq f f = true from Nat.beq_refl f]
  simp only [cond_true, h1, h2, h7, Option.map_some]
  rw [if_pos ⟨h4, h5, h6⟩]
/-- such a call, as a contract (F may leave zeros behind the list that it hands back) -/
theorem Con.inpl {B : Base} {f : Nat} {F : List Int → List Int} {R : Nat → List Int → ACap → AV} {h : Heap} {e n : Nat} {v : AV} {Lv : Ob} {zs : List Int} (hv : IsL e 1 n (zs.map (AV.int .i64)) v Lv) (hB : ∀ i c, B.ans f [.slice i 0 n c] h = inplA f F R f [.slice i 0 n c] h) (k : SS h (Lv.map (·.1)) Lv h) (h4 : n < 1000000) (h5 : 0 < n) (hF : (F zs).length = zs.length) :
    ∃ i c o o', v = .slice i 0 n c ∧ Lv = [(i, o)] ∧ IsL e 1 n ((F zs).map (AV.int .i64)) (.slice i 0 n c) [(i, o')] ∧ Con P B f [v] h (Lv.map (·.1)) (R i zs c) [(i, o')] := by
  have fin : ∀ i c o o' r, v = .slice i 0 n c → Lv = [(i, o)] → h.row i = some (zs.map (AV.int .i64) ++ r) → zs.length = n → capOk h i n c = true → (∀ g, h.set i o' = some g → h.setRow i ((F zs).map (AV.int .i64) ++ r) = some g) → IsL e 1 n ((F zs).map (AV.int .i64)) (.slice i 0 n c) [(i, o')] → ∃ i c o o', v = .slice i 0 n c ∧ Lv = [(i, o)] ∧ IsL e 1 n ((F zs).map (AV.int .i64)) (.slice i 0 n c) [(i, o')] ∧ Con P B f [v] h (Lv.map (·.1)) (R i zs c) [(i, o')] := fun i c o o' r q1 q2 q3 q4 q5 q6 q7 => by
    subst q1 q2
    obtain ⟨e1, e2⟩ := (show SS h [i] ([] ++ (i, o) :: []) h from k).store (o' := o')
    refine ⟨i, c, o, o', rfl, rfl, q7, { h with t := h.t.set i o' }, ⟨noA, fun a => ⟨1, ?_⟩⟩, e2⟩
    have hans : B.ans f [.slice i 0 n c] h = some (R i zs c, { h with t := h.t.set i o' }) := by
      rw [hB]
      exact inplA_is q3 (by rw [← q4]; exact intsTo_mk zs r) h4 h5 q5 (q6 _ e1)
    show orR (asR B) _ _ _ _ = _
    unfold orR
    rw [show asR B (.call f [.slice i 0 n c]) a h = some ⟨.normal, R i zs c, noA, { h with t := h.t.set i o' }⟩ from by unfold asR; simp only [hans, Option.map_some]]
  cases hv with
  | nil h1 _ => omega
  | cells i c rest t h1 h2 h3 =>
    have hg := (k.own (i, .cells (zs.map (AV.int .i64) ++ rest) t) (by simp)).1
    refine fin i (.k c) _ (.cells ((F zs).map (AV.int .i64) ++ rest) t) rest rfl rfl (by unfold Heap.row; rw [hg]) (by simpa using h1) (by simp only [capOk, hg]; exact Nat.ble_eq_true_of_le h3) (fun g hs => by unfold Heap.setRow; rw [hg]; exact hs) (.cells i c rest t (by rw [List.length_map, hF]; simpa using h1) (by rw [← h2]; simp [hF]) h3)
  | row i h1 =>
    have hg := (k.own (i, .row (zs.map (AV.int .i64)) e 1) (by simp)).1
    refine fin i (.m 0) _ (.row ((F zs).map (AV.int .i64)) e 1) [] rfl rfl (by unfold Heap.row; rw [hg]; simp) (by simpa using h1) (by simp only [capOk, hg]; rfl) (fun g hs => by unfold Heap.setRow; rw [hg]; simpa using hs) (.row i (by rw [List.length_map, hF]; simpa using h1))
end Go.Proofs.YtkebbdpfjhhdhaaGreat.Ev

/- A call that is known otherwise and rewrites a row of pairs of ints in place, handed a function that captures nothing (slices.SortFunc). -/
namespace Go.Proofs.YtkebbdpfjhhdhaaGreat.Ev
variable {P : Program}
open Go.Sort Go.RowKit

/-- the call of f with a row and the function g0: F says what the row holds behind it, cell by cell -/
def inpfA (f g0 : Nat) (F : List Int → List Int) : Nat → List AV → Heap → Option (AV × Heap) := fun g args h => bif Nat.beq g f then (match args with
  | [.slice i 0 n (.m 0), .fn (.func g1) [] []] => match h.get i with
    | some (.row l e sz) => match intsTo (n * 2) l with
      | some (zs, []) => if n < 500000 ∧ 0 < n ∧ sz = 2 ∧ g1 = g0 then (h.set i (.row ((F zs).map (AV.int .i64)) e sz)).map fun g => (.tup [], g) else none
      | _ => none
    | _ => none
  | _ => none) else none
theorem inpfA_eq {f g0 g : Nat} {F} {args : List AV} {h h' : Heap} {v : AV} (e : inpfA f g0 F g args h = some (v, h')) : ∃ i n t zs, args = [.slice i 0 n (.m 0), .fn (.func g0) [] []] ∧ h.get i = some (.row (zs.map (AV.int .i64)) t 2) ∧ zs.length = n * 2 ∧ g = f ∧ n < 500000 ∧ 0 < n ∧ h.set i (.row ((F zs).map (AV.int .i64)) t 2) = some h' ∧ v = .tup [] := by
  unfold inpfA at e
  cases hg : Nat.beq g f with
  | false => rw [hg] at e; cases e
  | true =>
  rw [hg] at e
  have hg := Nat.eq_of_beq_eq_true hg
  simp only [cond_true] at e
  split at e
  · rename_i i n g1
    split at e
    · rename_i l t sz hl
      split at e
      · rename_i zs hz
        split at e
        · rename_i hc
          obtain ⟨c1, c2, rfl, rfl⟩ := hc
          simp only [Option.map_eq_some_iff] at e
          obtain ⟨q, h1, h2⟩ := e
          cases h2
          obtain ⟨z1, z2⟩ := intsTo_eq hz
          rw [List.append_nil] at z1
          subst z1
          exact ⟨i, n, t, zs, rfl, hl, z2, hg, c1, c2, h1, rfl⟩
        · cases e
      · cases e
    · cases e
  · cases e
def inpfB (f g0 : Nat) (F : List Int → List Int) : Base := ⟨inpfA f g0 F, fun e => by
  obtain ⟨i, n, t, zs, _, _, _, _, _, _, h1, _⟩ := inpfA_eq e
  exact (Abs.set h1).1⟩
/-- the same, or what is appended to a row, in a region in order -/
theorem St.appR {Q : Post} {h0 : Heap} {W : List Nat} {N : Nat} {D : List Nat} {K : List Fr} {s : Sl} {L : Ob} {B : Base} {ops : Array Oper} {d : Nat} {ty : TypeId} {pos : String} {af : Array Edge} {gd : Option (Nat × Bool)} {l : List Oper} {x y : Operand} {t tx e : TypeId} {u : AV} {sz n : Nat} {new : List AV} {i2 off2 : Nat} {c2 : ACap} {ob2 : AObj} {A C : Ob} {i len : Nat} {old : List AV} (hL : L = A ++ (i, .row old e sz) :: C) (k : ∀ j, h0.next ≤ j → WO P B Q h0 W N D K false ops l ((d, .slice j 0 (len + n) (.m 0)) :: s) ((j, .row (old ++ new) e sz) :: (A ++ C)) []) (q : AppQ P s x y t tx (.slice i 0 len (.m 0)) u e sz n new i2 off2 c2) (hm : (i2, ob2) ∈ L) (hr : ob2.readN off2 (n * sz) = some new) (g1 : old.length = len * sz) (h1 : 0 < n) (h2 : len + n ≤ 1000000)
    (hw : wantS ops s N ⟨some d, .call ⟨.builtin .append, #[x, y], #[t, tx]⟩, ty, pos, af, gd⟩ = some true := by exact rfl) (hd : Nat.blt d N = true := by exact rfl) : WO P B Q h0 W N D K false ops (⟨some d, .call ⟨.builtin .append, #[x, y], #[t, tx]⟩, ty, pos, af, gd⟩ :: l) s L [] := WO.appRow (A := A) (C := C) (len := len) hL k q hm hr g1 h1 h2 hw hd
/-- what append is asked where nothing comes -/
structure App0 (P : Program) (s : Sl) (x y : Operand) (t tx : TypeId) (v u : AV) (e : TypeId) (sz : Nat) : Prop where
  hx : evS s x = some v
  hy : evS s y = some u
  ht : P.underlying t = some (.slice e)
  htx : P.underlying tx = some (.slice e)
  hs : sizeT P e = some sz
  hz : ((zeroT P e).bind fun z => some (z.cells.length == sz)) = some true
  hb : ((bytesT P e).bind fun b => some (Nat.ble b 1000000)) = some true
  h0 : Nat.blt 0 sz = true
  hu : lenOfA u = some 0
theorem App0.ev {s : Sl} {x y : Operand} {t tx e : TypeId} {v u : AV} {sz : Nat} {o : Oper} {h : Heap} (q : App0 P s x y t tx v u e sz) (ho : o.op = .call ⟨.builtin .append, #[x, y], #[t, tx]⟩) (hld : firstA h sz 0 u = some []) :
    evOp P h (evS s) o = (evOnto h e sz v 0 []).map fun r => (.value r.1, r.2) := by
  obtain ⟨hx, hy, ht, htx, hs, hz, hb, h0, hu⟩ := q
  simp only [Option.bind_eq_some_iff] at hz hb
  obtain ⟨z, hz1, hz2⟩ := hz
  obtain ⟨b, hb1, hb2⟩ := hb
  have c1 : 0 < sz ∧ z.cells.length = sz ∧ b ≤ 1000000 ∧ 0 ≤ 1000000 ∧ ([] : List AV).length = 0 * sz ∧ ([] : List AV).all okCell = true := by
    refine ⟨by simpa [Nat.blt_eq] using h0, by simpa using hz2, by simpa using hb2, by simp, by simp, rfl⟩
  unfold evOp
  rw [ho]
  simp only [oCall, mapO, hx, hy, evBuiltin, evAppend]
  have k0 : (#[t, tx] : Array TypeId)[0]? = some t := rfl
  have k1 : (#[t, tx] : Array TypeId)[1]? = some tx := rfl
  rw [k0, k1]
  simp only [ht, hs, hb1, hz1, evNews, htx, isSeqD, if_true, hu, hld, Option.map_some]
  rw [if_pos c1]
theorem overN_nil {α : Type} {l : List α} {off : Nat} (h : off ≤ l.length) : overN off [] l = some l := by
  rw [overN_mk (by simpa using h)]
  simp
/-- nothing is appended to a list that the call has made -/
theorem St.app0 {Q : Post} {h0 : Heap} {W : List Nat} {N : Nat} {D : List Nat} {K : List Fr} {s : Sl} {L : Ob} {B : Base} {ops : Array Oper} {d : Nat} {ty : TypeId} {pos : String} {af : Array Edge} {gd : Option (Nat × Bool)} {l : List Oper} {x y : Operand} {t tx e : TypeId} {u : AV} {sz : Nat} {Lv Lk : Ob} {v : AV} {len : Nat} {old : List AV} (hv : IsL e sz len old v Lv) (hp : (Lv ++ Lk).Perm L) (k : WO P B Q h0 W N D K false ops l ((d, v) :: s) (Lv ++ Lk) []) (q : App0 P s x y t tx v u e sz) (hrd : ∀ h, Vw h0 W L h → firstA h sz 0 u = some [])
    (hw : wantS ops s N ⟨some d, .call ⟨.builtin .append, #[x, y], #[t, tx]⟩, ty, pos, af, gd⟩ = some true := by exact rfl) (hd : Nat.blt d N = true := by exact rfl) : WO P B Q h0 W N D K false ops (⟨some d, .call ⟨.builtin .append, #[x, y], #[t, tx]⟩, ty, pos, af, gd⟩ :: l) s L [] := by
  have hsz : 0 < sz := by have := q.h0; simpa [Nat.blt_eq] using this
  constructor
  · rintro - a h ha hh
    have hh' := hh.perm hp
    have hld := hrd h hh.vw
    have fin : ∀ (g : Heap), evOnto h e sz v 0 [] = some (v, g) → h.next ≤ g.next → SS h0 W (Lv ++ Lk) g → KRun P B Q (.job (.ops ops (⟨some d, .call ⟨.builtin .append, #[x, y], #[t, tx]⟩, ty, pos, af, gd⟩ :: l)) :: K) .normal a h := fun g e1 e2 e3 => by
      obtain ⟨a', h3, h4⟩ := ha.put (d := some d) hd v
      exact KRun.op (wantS_eq ha hw) (ROp.value ha (v := v) (g := g) (by rw [q.ev rfl hld, e1]; rfl) e2) h3 (k.seq rfl a' g h4 e3)
    cases hv with
    | nil g1 g2 =>
      subst g1 g2
      exact fin h (by simp [evOnto]) (Nat.le_refl _) hh'
    | cells i c rest t' g1 g2 g3 =>
      have hg := (hh'.own (i, .cells (old ++ rest) t') (by simp)).1
      have hrow : h.row i = some (old ++ rest) := by unfold Heap.row; rw [hg]
      have ho := overN_nil (l := old ++ rest) (off := len * sz) (by rw [List.length_append, g1]; omega)
      obtain ⟨e1, e2⟩ := (show SS h0 W ([] ++ (i, .cells (old ++ rest) t') :: Lk) h from hh').store (o' := .cells (old ++ rest) t')
      refine fin { h with t := h.t.set i (.cells (old ++ rest) t') } ?_ (Nat.le_refl _) e2
      simp only [evOnto]
      rw [if_pos (by omega)]
      simp only [Heap.storeN, Nat.zero_add, Option.bind_eq_bind, hrow, Option.bind_some, ho, Heap.setRow, hg, e1, Option.map_some, Nat.add_zero]
    | row i g1 =>
      have hg := (hh'.own (i, .row old e sz) (by simp)).1
      have hrow : h.row i = some old := by unfold Heap.row; rw [hg]
      have ho := overN_nil (l := old) (off := len * sz) (by rw [g1]; omega)
      have hk : knownN h i sz = len := by
        unfold knownN
        rw [hg]
        simp only [if_true]
        rw [g1, Nat.mul_div_cancel _ hsz]
      obtain ⟨e1, e2⟩ := (show SS h0 W ([] ++ (i, .row old e sz) :: Lk) h from hh').store (o' := .row old e sz)
      refine fin { h with t := h.t.set i (.row old e sz) } ?_ (Nat.le_refl _) e2
      simp only [evOnto, hk, Nat.add_zero]
      rw [if_pos (by omega)]
      simp only [Heap.storeN, Nat.zero_add, Option.bind_eq_bind, hrow, Option.bind_some, ho, Heap.setRow, hg, e1, Option.map_some]
  · intro e; cases e
end Go.Proofs.YtkebbdpfjhhdhaaGreat.Ev
