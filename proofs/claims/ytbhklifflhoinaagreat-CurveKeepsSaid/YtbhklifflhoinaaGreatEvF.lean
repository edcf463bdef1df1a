/- A scope that nothing jumps in, in a fence. -/
import Derived.Test.YtbhklifflhoinaaGreatEv3
import Derived.ControlIn
import Derived.Scope
import Derived.Below
namespace Go.Proofs.YtbhklifflhoinaaGreat.Ev
variable {F : Fence} {n : Nat} {P : Program} {Q : Exit → Act → World → Prop} {a : Act} {w : World}
theorem stepR_scope {b : Frame} {k : List Item} {cs : List Frame} {c : Code} : step P (lone (b.atR a (.code (.scope c) :: k)) cs w) = .next (lone (b.atR a (.code c :: .inScope c :: k)) cs w) :=
  step_lone_go (by simp [stepG, stepG.exec, Frame.atR])
theorem stepR_inScope {b : Frame} {k : List Item} {cs : List Frame} {c : Code} : step P (lone (b.atR a (.inScope c :: k)) cs w) = .next (lone (b.atR a k) cs w) :=
  step_lone_go (by simp [stepG, stepG.exec, Frame.atR])
theorem wpIn_scope_straight {c : Code} (h : c.wpIn F n P (Exit.noGoto Q) a w) : (Code.scope c).wpIn F n P Q a w := by
  intro b k cs hro hb hr
  have h0 : (lone (b.atR a (.code (.scope c) :: k)) cs w).fenced P F := fenced_calm hb hr rfl
  obtain ⟨e, a₁, w₁, hq, harr⟩ := h b (.inScope c :: k) cs hro hb hr
  cases e with
  | normal => exact ⟨.normal, a₁, w₁, hq, .head h0 stepR_scope (StepsIn.trans harr (.one (fenced_calm hb hr rfl) stepR_inScope))⟩
  | exit id =>
    have hx : exitTo id (.inScope c :: k) = exitTo id k := by simp [exitTo]
    exact ⟨.exit id, a₁, w₁, hq, fun k' hk => .head h0 stepR_scope (harr.1 k' (by rw [hx]; exact hk)),
      fun hr' hk => let ⟨k₁, h1, h2⟩ := harr.2 hr' (by rw [hx]; exact hk); ⟨k₁, h1, .head h0 stepR_scope h2⟩⟩
  | goto l => exact hq.elim
  | ret => exact ⟨_, a₁, w₁, hq, .of_steps (.one h0 stepR_scope) harr⟩
  | panic ch => exact ⟨_, a₁, w₁, hq, .of_steps (.one h0 stepR_scope) harr⟩
  | outgrown => exact ⟨_, a₁, w₁, hq, .of_steps (.one h0 stepR_scope) harr⟩
end Go.Proofs.YtbhklifflhoinaaGreat.Ev

/- What the calculator says holds. -/
namespace Go.Proofs.YtbhklifflhoinaaGreat.Ev
variable {P : Program}

structure SoundB (P : Program) (r : Runs) : Prop where
  a : SoundA P r
  d : ∀ {ops masks kinds l recs a h o}, r (.drawn ops masks kinds l recs) a h = some o → o.ex = .normal ∧ DTr P ops masks kinds l recs a h o.a o.h
  b : AbsR r

theorem code_step (hP : P.follows .mixedOrders = true) {r : Runs} (s : SoundB P r) {rnd : Option Nat} {c : Code} {a : AAct} {h : Heap} {o : Out} (e : rCode r rnd c a h = some o) {top : Nat} {E : Env} {W : World} {A : Act} {rb : Option Nat} (k : HR top E h W) (ht : o.h.next ≤ top) (ha : AR E a A) (hrr : RR E rnd rb) (n : Nat) :
    c.wpIn (FF rb) n P (PC top E h W o) A W := by
  have hS := s.a
  cases c with
  | skip => cases e; exact wpIn_skip (PC.here k ha .normal aundef)
  | label l => cases e; exact wpIn_label (PC.here k ha .normal aundef)
  | exit id => cases e; exact wpIn_exit (PC.here k ha (.exit id) aundef)
  | ret => cases e; exact wpIn_ret (PC.here k ha .ret aundef)
  | scope c =>
    refine wpIn_scope_straight (wpIn_mono (hS.code (show r (.code rnd c) a h = some o from e) k ht ha hrr n) ?_)
    rintro e' A' W' p
    obtain ⟨rfl, rest⟩ := p
    obtain ⟨ex, v, a2, h2⟩ := o
    cases ex with
    | exit j => exact ⟨rfl, rest⟩
    | normal => exact ⟨rfl, rest⟩
    | ret => exact ⟨rfl, rest⟩
  | goto l => cases e
  | refuse m => cases e
  | region id ops b =>
    cases b with
    | false =>
      have h1 := hS.ops (i := 0) (show r (.ops ops ops.toList) a h = some o from e) (by simp) k ht ha (rb := rb) n
      rw [List.drop_zero] at h1
      exact wpIn_region h1
    | true =>
      unfold rCode at e
      simp only at e
      split at e
      · rename_i hst
        obtain ⟨h1, h2⟩ := s.d e
        obtain ⟨ex, v, a2, h3⟩ := o
        cases h1
        exact h2.sound hst k.clean hP k ht ha rb n id v
      · cases e
  | seq x y =>
    unfold rCode at e
    simp only [rSeq] at e
    split at e
    · rename_i v1 a1 h1 hr1
      have n2 := hS.next e
      refine wpIn_seq (wpIn_mono (hS.code hr1 k (Nat.le_trans n2 ht) ha hrr n) ?_)
      rintro e' A' W' ⟨rfl, E', x1, k1, ha1⟩
      exact wpIn_mono (hS.code e k1 ht ha1 (hrr.mono x1.le) n) fun _ _ _ p => PC.trans k k1 (Nat.le_trans n2 ht) x1 p
    · rename_i hne
      refine wpIn_seq (wpIn_mono (hS.code e k ht ha hrr n) ?_)
      rintro e' A' W' p
      have hex : o.ex.conc ≠ .normal := by
        obtain ⟨ex, v, a2, h2⟩ := o
        cases ex with
        | normal => exact absurd e (fun hh => hne _ _ _ hh)
        | exit id => simp [Ex.conc]
        | ret => simp [Ex.conc]
      obtain ⟨rfl, rest⟩ := p
      revert hex rest
      generalize hx : o.ex.conc = ec
      intro hex rest
      cases ec <;> first | exact absurd rfl hex | exact ⟨hx.symm, rest⟩
  | cond c x y =>
    unfold rCode at e
    simp only [rCond] at e
    split at e
    · rename_i b hb
      have h1 := ha.eval hb
      simp only [VR] at h1
      exact wpIn_cond h1 (hS.code e k ht ha hrr n)
    · cases e
  | block id c =>
    unfold rCode at e
    simp only [rBlock] at e
    split at e
    · rename_i j v1 a1 h1 hr1
      have hh : o.h = h1 ∧ o.a = a1 ∧ o.ex = if j = id then .normal else .exit j := by
        split at e
        · rename_i hj; cases e; exact ⟨rfl, rfl, by rw [if_pos hj]⟩
        · rename_i hj; cases e; exact ⟨rfl, rfl, by rw [if_neg hj]⟩
      refine wpIn_block (wpIn_mono (hS.code hr1 k (by rw [← hh.1]; exact ht) ha hrr n) ?_)
      rintro e' A' W' ⟨rfl, rest⟩
      show Exit.inBlock id _ (.exit j) A' W'
      unfold Exit.inBlock
      by_cases hj : j = id
      · rw [if_pos hj] at hh
        simp only [hj, if_true]
        refine ⟨by rw [hh.2.2]; rfl, ?_⟩
        rw [hh.1, hh.2.1]; exact rest
      · rw [if_neg hj] at hh
        simp only [hj, if_false]
        refine ⟨by rw [hh.2.2]; rfl, ?_⟩
        rw [hh.1, hh.2.1]; exact rest
    · rename_i hne
      refine wpIn_block (wpIn_mono (hS.code e k ht ha hrr n) ?_)
      rintro e' A' W' p
      obtain ⟨rfl, rest⟩ := p
      obtain ⟨ex, v, a2, h2⟩ := o
      cases ex with
      | exit j => exact absurd e (fun hh => hne _ _ _ _ hh)
      | normal => exact ⟨rfl, rest⟩
      | ret => exact ⟨rfl, rest⟩
  | loop b =>
    obtain ⟨m, hm⟩ := loop_step hS (show _ = some o from e)
    exact wpIn_loop_rounds m (hm k ht ha hrr n)
  | rangeFunc f ps assign body => exact range_step hS e k ht ha hrr n

theorem SoundB.step (hP : P.follows .mixedOrders = true) {r : Runs} (s : SoundB P r) : SoundB P (stepR P r) := by
  refine ⟨⟨?_, ?_, ?_, ?_, ?_, ?_⟩, ?_, stepR_abs s.b⟩
  · intro j a h o e; exact (chk_eq e).2
  · intro rnd c a h o e top E W A rb k ht ha hrr n; exact code_step hP s (chk_eq e).1 k ht ha hrr n
  · intro rnd b a h o e; exact loop_step s.a (show _ = some o from (chk_eq e).1)
  · intro ops l a h o e i hl top E W A rb k ht ha n; exact ops_step s.a (chk_eq e).1 hl k ht ha n
  · intro f args a h o e top E W Args k ht hv; exact call_step s.a (chk_eq e).1 k ht hv
  · intro l args a h o e top E W Args b c k ht hE hv n; exact round_step s.a (chk_eq e).1 k ht hE hv n
  · intro ops masks kinds l recs a h o e; exact drawn_step s.a s.b s.d (chk_eq e).1

theorem run_sound (hP : P.follows .mixedOrders = true) : ∀ n, SoundB P (run P n)
  | 0 => by
    refine ⟨⟨?_, ?_, ?_, ?_, ?_, ?_⟩, ?_, ?_⟩
    · intro j a h o e; cases e
    · intro rnd c a h o e; cases e
    · intro rnd b a h o e; cases e
    · intro ops l a h o e; cases e
    · intro f args a h o e; cases e
    · intro l args a h o e; cases e
    · intro ops masks kinds l recs a h o e; cases e
    · intro j a h o e; cases e
  | n + 1 => (run_sound hP n).step hP

theorem HR.empty (top : Nat) (W : World) : HR top (fun _ => none) emptyH W := by
  have hg : ∀ i, emptyH.get i = none := fun i => by
    unfold Heap.get emptyH
    split <;> rfl
  exact ⟨fun i o h => (by rw [hg] at h; cases h), fun i k b c d h => (by rw [hg] at h; cases h), fun _ _ _ => rfl, fun r h => (by cases h), fun i _ => rfl⟩

theorem calls_sound (hP : P.follows .mixedOrders = true) {n f : Nat} {args : List AV} {v : AV} (h : calls P n f args = some v) {Args : List Value} (hv : VRs (fun _ => none) args Args) (w : World) :
    Calls P f Args.toArray w fun e w' => ∃ V E', e = .returned V ∧ VR E' v V ∧ RowKit.Below w.heap.size w w' := by
  unfold calls at h
  simp only [Option.map_eq_some_iff] at h
  obtain ⟨o, ho, rfl⟩ := h
  have h1 := ((run_sound hP n).a.call ho (HR.empty o.h.next w) (Nat.le_refl _) hv).2 0
  refine callsIn_wide.1 (h1.mono ?_)
  rintro e w' ⟨V, E', rfl, x, _, hV⟩
  exact ⟨V, E', rfl, hV, x.os, x.tape, x.output, x.size, fun b hb => x.keepC b hb fun k d _ _ h => by cases h⟩

theorem saysTrue_sound (hP : P.follows .mixedOrders = true) {n f : Nat} (h : saysTrue P n f = true) (w : World) :
    Calls P f #[] w fun e w' => e = .returned (.bool true) ∧ RowKit.Below w.heap.size w w' := by
  unfold saysTrue at h
  split at h
  · rename_i hc
    refine (calls_sound hP hc VRs.nil w).mono ?_
    rintro e w' ⟨V, E', rfl, hV, hb⟩
    simp only [VR] at hV
    exact ⟨by rw [hV], hb⟩
  · cases h
end Go.Proofs.YtbhklifflhoinaaGreat.Ev
