/- Ranging over an iterator that is known by its rounds (as in layer 2): one text for all of layer 9. -/
import Derived.Test.YtilpinmbngikgaaGreatMa
namespace Go.Proofs.YtilpinmbngikgaaGreat
open Go.Proofs.YtilpinmbngikgaaGreat.Ev

namespace Ev
variable {P : Program} {B : Base} {Q : Post} {h0 : Heap} {W : List Nat} {N : Nat} {D : List Nat} {K : List Fr} {s : Sl} {L : Ob} {T : Tg} {ops : Array Oper} {d : Nat} {op : Op} {ty : TypeId} {pos : String} {af : Array Edge} {gd : Option (Nat × Bool)} {l : List Oper}
theorem Vw.none {h0 h : Heap} {V : Ob} (k : Vw h0 W V h) : Vw h0 W [] h := ⟨k.gd, k.nx, k.old, fun _ h => by cases h⟩
/-- what is lent to a call that may write it; hb is as it was long before -/
structure Lent (hb : Heap) (L : Ob) (h : Heap) : Prop where
  vw : Vw hb [] [] h
  ss : SS h (L.map (·.1)) L h
  hold : ∀ x ∈ L.map (·.1), hb.next ≤ x
theorem Lent.of {hb h h2 : Heap} {L0 X : Ob} (hv : Vw hb [] [] h) (hold : ∀ x ∈ W, hb.next ≤ x) (hh : SS h W L h2) (hp : (L0 ++ X).Perm L) : Lent hb L0 h2 := by
  have h1 := (hh.perm hp).sub (L' := L0) (List.sublist_append_left _ _)
  refine ⟨(hv.trans' hh.vw hold).none, h1.lend, fun x hx => ?_⟩
  obtain ⟨p, hp, rfl⟩ := List.mem_map.1 hx
  rcases (h1.own p hp).2.2.2 with h3 | h3
  · exact Nat.le_trans hv.nx h3
  · exact hold _ h3
theorem Lent.next {hb h h2 : Heap} {L L' L0 X : Ob} (k : Lent hb L h) (hh : SS h (L.map (·.1)) L' h2) (hp : (L0 ++ X).Perm L') : Lent hb L0 h2 := Lent.of k.vw k.hold hh hp
theorem Lent.to {hb h h2 : Heap} {L L' : Ob} (k : Lent hb L h) (hh : Vw h (L.map (·.1)) L' h2) : Vw hb [] L' h2 := k.vw.trans' hh k.hold
theorem Con.pick {f : Nat} {args : List AV} {h : Heap} {R : AV → Ob → Prop} (k : ∃ v L, Con P B f args h W v L ∧ ∃ L0 X : Ob, (L0 ++ X).Perm L ∧ R v L0) : ∃ v L, Con P B f args h W v L ∧ R v L := by
  obtain ⟨v, L, ⟨g, h1, h2⟩, L0, X, hp, hr⟩ := k
  exact ⟨v, L0, ⟨g, h1, (h2.perm hp).sub (List.sublist_append_left _ _)⟩, hr⟩
theorem ConR.pick {r : Nat} {args : List AV} {h : Heap} {R : AV → Ob → Prop} (k : ∃ v L, ConR P B r args h W v L ∧ ∃ L0 X : Ob, (L0 ++ X).Perm L ∧ R v L0) : ∃ v L, ConR P B r args h W v L ∧ R v L := by
  obtain ⟨v, L, ⟨g, h1, h2⟩, L0, X, hp, hr⟩ := k
  exact ⟨v, L0, ⟨g, h1, (h2.perm hp).sub (List.sublist_append_left _ _)⟩, hr⟩
theorem SS.monoW {h h2 : Heap} {W' : List Nat} (k : SS h W L h2) (hW : ∀ i ∈ W, i ∈ W') : SS h W' L h2 := ⟨k.gd, k.nx, k.lo, k.hid, fun i hi hn => k.keep i hi fun hm => hn (hW i hm), k.nodup, fun p hp => ⟨(k.own p hp).1, (k.own p hp).2.1, (k.own p hp).2.2.1, (k.own p hp).2.2.2.imp id (hW _)⟩⟩
theorem Con.monoW {f : Nat} {args : List AV} {h : Heap} {W' : List Nat} {v : AV} (k : Con P B f args h W v L) (hW : ∀ i ∈ W, i ∈ W') : Con P B f args h W' v L := k.elim fun g k => ⟨g, k.1, k.2.monoW hW⟩
/-- a map that a drawn region writes to -/
theorem StD.mapUpd {A C : Ob} {t : TypeId} {m x y : Operand} {r c c' : Nat} {es es' : List (AV × AV × Nat)} (hL : L = A ++ (r, .map es c) :: C) (he : ∀ h g, h.get r = some (.map es c) → h.set r (.map es' c') = some g → evOp P h (evS s) ⟨none, .mapUpdate t m x y, ty, pos, af, gd⟩ = some (.skip, g)) (k : WO P B Q h0 W N D K true ops l s (A ++ (r, .map es' c') :: C) T)
    (hw : wantS ops s N ⟨none, .mapUpdate t m x y, ty, pos, af, gd⟩ = some true := by exact rfl) (h2 : kindAt ops (⟨none, .mapUpdate t m x y, ty, pos, af, gd⟩ :: l) = 2 := by decide +kernel) : WO P B Q h0 W N D K true ops (⟨none, .mapUpdate t m x y, ty, pos, af, gd⟩ :: l) s L T := by
  subst hL
  refine ⟨fun e => (by cases e), ?_⟩
  rintro - a h recs ha hh ht hl hst hW
  obtain ⟨q1, q2, q3⟩ := drop_next hl
  have h2' : (kindsR ops).getD recs.length 0 = 2 := by have := h2; unfold kindAt at this; rw [q3] at this; exact this
  obtain ⟨h1, h3⟩ := hh.stored (o' := .map es' c') (r := ⟨(kindsR ops).getD recs.length 0, blkOf a.eval (.mapUpdate t m x y), h.next, h.next⟩) rfl rfl
  refine KRun.dop (v := aundef) (g := { h with t := h.t.set r (.map es' c') }) (wantS_eq ha hw) ?_ ?_ rfl ?_
  · rw [h2']
    exact ROp.skip (g := { h with t := h.t.set r (.map es' c') }) ha (he h _ (hh.ss.own (r, .map es c) (by simp)).1 h1) (Nat.le_refl _)
  · exact staticAll_free hst q1 ht rfl
  · exact k.drawn rfl a _ _ ha h3 ⟨.inl rfl, ht⟩ q2 hst hW
end Ev
/-- the rounds of a range: what they get, what they hand back -/
def Rnd (hb : Heap) (r : Nat) (q : ALoop) (n : Nat) (args : Nat → List AV) (I : Nat → Ob → Prop) (F : ALoop → Ob → Prop) : Prop :=
  ∀ k Lk h, k < n → I k Lk → Lent hb ((r, .loop q) :: Lk) h → ∃ v L', ConR Tryz.prog Bs r (args k) h (((r, AObj.loop q) :: Lk).map (·.1)) v L' ∧ ∃ b q' Lk', v = .bool b ∧ L' = (r, .loop q') :: Lk' ∧ (b = true → q' = q ∧ I (k + 1) Lk') ∧ (b = false → F q' Lk')
/-- an iterator: it hands on args 0, args 1 .., n of them, until a round says that it is enough -/
def YieldsOf (g : Nat) (hb : Heap) (o1 o2 : AObj) (n : Nat) (args : Nat → List AV) : Prop :=
  ∀ (h : Heap) (r jw js : Nat) (q : ALoop) (L0 : Ob) (I : Nat → Ob → Prop) (F : ALoop → Ob → Prop), Lent hb ((r, .loop q) :: (jw, o1) :: (js, o2) :: L0) h → I 0 L0 → Rnd hb r q n args I F →
    ∃ v L, Con Tryz.prog Bs g ([] ++ [.fn (.yield r) [] []] ++ [.ptr jw 0, .ptr js 0]) h (r :: jw :: js :: L0.map (·.1)) v L ∧ ∃ q' Ln, v = .tup [] ∧ L = (r, .loop q') :: Ln ∧ ((q' = q ∧ I n Ln) ∨ F q' Ln)
/-- what a round hands back -/
def RR (r : Nat) (q : ALoop) (I : Nat → Ob → Prop) (F : Option Code → Ob → Prop) (k : Nat) : AV → Ob → Prop := fun v L' =>
  ∃ L0 X : Ob, (L0 ++ X).Perm L' ∧ ∃ b pd Lk, v = .bool b ∧ L0 = (r, .loop (q.left pd)) :: Lk ∧ (b = true → pd = none ∧ I (k + 1) Lk) ∧ (b = false → pd.isSome = true ∧ F pd Lk)
section
variable {Q : Post} {h0 : Heap} {W : List Nat} {N : Nat} {D : List Nat} {K : List Fr} {s : Sl} {L : Ob} {rnd : Option Nat} {r k : Nat} {q : ALoop} {I : Nat → Ob → Prop} {F : Option Code → Ob → Prop} {Lk X : Ob}
end
end Go.Proofs.YtilpinmbngikgaaGreat
