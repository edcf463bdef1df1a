/- Steppers over the calculator's memory: a closure that counts minutes; a map of such closures. -/
import Derived.Test.YtekpffjcffeanaaUb
import Derived.Test.YtekpffjcffeanaaWp
namespace Go.Proofs.Ytekpffjcffeanaa
open Go.Proofs.Ytekpffjcffeanaa.Ev

namespace Ev
variable {P : Program} {B : Base} {Q : Post} {h0 : Heap} {W : List Nat} {N : Nat} {D : List Nat} {K : List Fr} {s : Sl} {L : Ob} {T : Tg} {ops : Array Oper} {d : Nat} {op : Op} {ty : TypeId} {pos : String} {af : Array Edge} {gd : Option (Nat × Bool)} {l : List Oper}
theorem Vw.trans' {h0 h1 h2 : Heap} {V1 V2 : Ob} {W : List Nat} (k1 : Vw h0 [] V1 h1) (k2 : Vw h1 W V2 h2) (hW : ∀ x ∈ W, h0.next ≤ x) : Vw h0 [] V2 h2 := ⟨k2.gd, Nat.le_trans k1.nx k2.nx, fun i hi _ => (k2.old i (Nat.lt_of_lt_of_le hi k1.nx) (fun hm => absurd (hW i hm) (by omega))).trans (k1.old i hi (by simp)), k2.own⟩
theorem Vw.none {h0 h : Heap} {V : Ob} (k : Vw h0 W V h) : Vw h0 W [] h := ⟨k.gd, k.nx, k.old, fun _ h => by cases h⟩
/-- what is lent to a call that may write it; hb is as it was long before -/
structure Lent (hb : Heap) (L : Ob) (h : Heap) : Prop where
  vw : Vw hb [] [] h
  ss : SS h (L.map (·.1)) L h
  hold : ∀ x ∈ L.map (·.1), hb.next ≤ x
theorem Lent.of {hb h h2 : Heap} {L0 X : Ob} (hv : Vw hb [] [] h) (hold : ∀ x ∈ W, hb.next ≤ x) (hh : SS h W L h2) (hp : (L0 ++ X).Perm L) : Lent hb L0 h2 := by
  have h1 := (hh.perm hp).sub (L' := L0) (List.sublist_append_left _ _)
  refine ⟨(hv.trans' hh.vw hold).none, h1.lend, fun x hx => ?_⟩
  obtain ⟨p, hp, rfl⟩ := List.mem_map.1 hx
  rcases (h1.own p hp).2.2.2 with h3 | h3
  · exact Nat.le_trans hv.nx h3
  · exact hold _ h3
theorem Lent.next {hb h h2 : Heap} {L L' L0 X : Ob} (k : Lent hb L h) (hh : SS h (L.map (·.1)) L' h2) (hp : (L0 ++ X).Perm L') : Lent hb L0 h2 := Lent.of k.vw k.hold hh hp
theorem Lent.to {hb h h2 : Heap} {L L' : Ob} (k : Lent hb L h) (hh : Vw h (L.map (·.1)) L' h2) : Vw hb [] L' h2 := k.vw.trans' hh k.hold
theorem Con.pick {f : Nat} {args : List AV} {h : Heap} {R : AV → Ob → Prop} (k : ∃ v L, Con P B f args h W v L ∧ ∃ L0 X : Ob, (L0 ++ X).Perm L ∧ R v L0) : ∃ v L, Con P B f args h W v L ∧ R v L := by
  obtain ⟨v, L, ⟨g, h1, h2⟩, L0, X, hp, hr⟩ := k
  exact ⟨v, L0, ⟨g, h1, (h2.perm hp).sub (List.sublist_append_left _ _)⟩, hr⟩
theorem ConR.pick {r : Nat} {args : List AV} {h : Heap} {R : AV → Ob → Prop} (k : ∃ v L, ConR P B r args h W v L ∧ ∃ L0 X : Ob, (L0 ++ X).Perm L ∧ R v L0) : ∃ v L, ConR P B r args h W v L ∧ R v L := by
  obtain ⟨v, L, ⟨g, h1, h2⟩, L0, X, hp, hr⟩ := k
  exact ⟨v, L0, ⟨g, h1, (h2.perm hp).sub (List.sublist_append_left _ _)⟩, hr⟩
theorem SS.monoW {h h2 : Heap} {W' : List Nat} (k : SS h W L h2) (hW : ∀ i ∈ W, i ∈ W') : SS h W' L h2 := ⟨k.gd, k.nx, k.lo, k.hid, fun i hi hn => k.keep i hi fun hm => hn (hW i hm), k.nodup, fun p hp => ⟨(k.own p hp).1, (k.own p hp).2.1, (k.own p hp).2.2.1, (k.own p hp).2.2.2.imp id (hW _)⟩⟩
theorem Con.monoW {f : Nat} {args : List AV} {h : Heap} {W' : List Nat} {v : AV} (k : Con P B f args h W v L) (hW : ∀ i ∈ W, i ∈ W') : Con P B f args h W' v L := k.elim fun g k => ⟨g, k.1, k.2.monoW hW⟩
/-- a map that a drawn region writes to -/
theorem StD.mapUpd {A C : Ob} {t : TypeId} {m x y : Operand} {r c c' : Nat} {es es' : List (AV × AV × Nat)} (hL : L = A ++ (r, .map es c) :: C) (he : ∀ h g, h.get r = some (.map es c) → h.set r (.map es' c') = some g → evOp P h (evS s) ⟨none, .mapUpdate t m x y, ty, pos, af, gd⟩ = some (.skip, g)) (k : WO P B Q h0 W N D K true ops l s (A ++ (r, .map es' c') :: C) T)
    (hw : wantS ops s N ⟨none, .mapUpdate t m x y, ty, pos, af, gd⟩ = some true := by exact rfl) (h2 : kindAt ops (⟨none, .mapUpdate t m x y, ty, pos, af, gd⟩ :: l) = 2 := by decide +kernel) : WO P B Q h0 W N D K true ops (⟨none, .mapUpdate t m x y, ty, pos, af, gd⟩ :: l) s L T := by
  subst hL
  refine ⟨fun e => (by cases e), ?_⟩
  rintro - a h recs ha hh ht hl hst hW
  obtain ⟨q1, q2, q3⟩ := drop_next hl
  have h2' : (kindsR ops).getD recs.length 0 = 2 := by have := h2; unfold kindAt at this; rw [q3] at this; exact this
  obtain ⟨h1, h3⟩ := hh.stored (o' := .map es' c') (r := ⟨(kindsR ops).getD recs.length 0, blkOf a.eval (.mapUpdate t m x y), h.next, h.next⟩) rfl rfl
  refine KRun.dop (v := aundef) (g := { h with t := h.t.set r (.map es' c') }) (wantS_eq ha hw) ?_ ?_ rfl ?_
  · rw [h2']
    exact ROp.skip (g := { h with t := h.t.set r (.map es' c') }) ha (he h _ (hh.ss.own (r, .map es c) (by simp)).1 h1) (Nat.le_refl _)
  · exact staticAll_free hst q1 ht rfl
  · exact k.drawn rfl a _ _ ha h3 ⟨.inl rfl, ht⟩ q2 hst hW
/-- a round, in a region in order; what it hands back may be new -/
theorem St.roundR {r : Nat} {args : List AV} {Lw Lk : Ob} {W' : List Nat} {R : AV → Ob → Prop} (he : ∀ h, evOp P h (evS s) ⟨some d, op, ty, pos, af, gd⟩ = some (.round r args, h)) (hc : ∀ h, SS h0 W L h → ∃ v L', ConR P B r args h W' v L' ∧ R v L') (hL : (Lw ++ Lk).Perm L) (hW : Lw.map (·.1) = W') (k : ∀ v L', R v L' → WO P B Q h0 W N D K false ops l ((d, v) :: s) (L' ++ Lk) [])
    (hw : wantS ops s N ⟨some d, op, ty, pos, af, gd⟩ = some true := by exact rfl) (hd : Nat.blt d N = true := by exact rfl) : WO P B Q h0 W N D K false ops (⟨some d, op, ty, pos, af, gd⟩ :: l) s L [] := by
  constructor
  · rintro - a h ha hh
    obtain ⟨v, L', ⟨g, h1, h2⟩, hR⟩ := hc h hh
    obtain ⟨a', h3, h4⟩ := ha.put (d := some d) hd v
    exact KRun.op (wantS_eq ha hw) (ROp.round ha (he h) h1) h3 ((k v L' hR).seq rfl a' g h4 (hh.trans h2 hL hW))
  · intro e; cases e
theorem swapM {α : Type} (A Y X : List α) : (A ++ (Y ++ X)).Perm (Y ++ (A ++ X)) := by
  rw [← List.append_assoc, ← List.append_assoc]
  exact List.Perm.append_right _ List.perm_append_comm
end Ev
/-- a stepper's own memory: the cycle, which height is next, and how long it stays -/
abbrev Ad := Nat × Nat × Nat
def stO (w : Cw) (t : Int) (a : Ad) : Ob := [(a.2.2, .cells [.int .i64 (lS w.c t)] 3), (a.2.1, .cells [.int .i64 (kS w.c t)] 3), (a.1, .cells [.int .i64 w.c.id, .int .i64 w.c.bg, .int .i64 w.c.ev, w.v] 28)]
def stF (a : Ad) : AV := .fn (.func 135) [] [.ptr a.1 0, .ptr a.2.1 0, .ptr a.2.2 0]
set_option maxRecDepth 100000 in
set_option maxHeartbeats 8000000 in
theorem stepper_con (h : Heap) (g : Gd h) (w : Cw) (t : Int) (hv : ItV h w.v w.c.hs) (k : CyOk w.c) (t1 : -1099511627776 ≤ t) (t2 : t ≤ 1099511627776) :
    ∃ u L, Con Try.prog Bs 134 [.agg [.int .i64 w.c.id, .int .i64 w.c.bg, .int .i64 w.c.ev, w.v], .int .i64 t] h [] u L ∧ ∃ a, u = stF a ∧ L = stO w t a := by
  obtain ⟨⟨id, bg, ev, hs⟩, v⟩ := w
  change ∃ u L, Con Try.prog Bs 134 [.agg [.int .i64 id, .int .i64 bg, .int .i64 ev, v], .int .i64 t] h [] u L ∧ ∃ a, u = stF a ∧ L = stO ⟨⟨id, bg, ev, hs⟩, v⟩ t a
  obtain ⟨l1, l2⟩ := len_pos k
  have b1 := k.ev1
  have b2 := k.ev2
  have b3 := k.n1
  have b4 := k.n2
  simp only at b1 b2 b3 b4 hv
  have p1 := Int.emod_nonneg (t - bg) (show ev * (hs.length : Int) ≠ 0 by omega)
  have p2 := Int.emod_lt_of_pos (t - bg) l1
  have e1 := kS_phase k t
  have e2 := lS_phase (c := ⟨id, bg, ev, hs⟩) t
  have r1 := Int.emod_nonneg ((t - bg) % (ev * (hs.length : Int))) (show ev ≠ 0 by omega)
  have r2 := Int.emod_lt_of_pos ((t - bg) % (ev * (hs.length : Int))) (show 0 < ev by omega)
  have k1 := kS_bd k t
  simp only at e1 e2 k1
  refine Con.pick (Con.startR rfl Try.func134 rfl rfl Try.ntmps134 rfl rfl (SS.init g) ?_)
  (refine WK.seq ?_; refine WK.region ?_; refine St.box fun _ _ => ?_; refine St.assign ?_; refine WO.nil ?_; refine WK.seq ?_; refine WK.region ?_; refine St.load ?_; refine St.move ?_)
  rename_i p hp
  refine St.call (fun _ => rfl) (fun h2 hh => phase_con h2 hh.gd id bg ev t v hs (hv.vw hh) k t1 t2) ?_
  (refine St.assign ?_; refine WO.nil ?_; refine WK.seq ?_)
  generalize hph : (t - bg) % (ev * (hs.length : Int)) = ph at *
  refine WK.regionE (n := 1) [(p, .cells [.int .i64 id, .int .i64 bg, .int .i64 ev, v] 28)] (by (repeat (first | exact List.Sublist.refl _ | exact List.nil_sublist _ | apply List.Sublist.cons_cons | apply List.Sublist.cons))) ?_
  (repeat (first | refine WE.move ?_ | refine WE.assign ?_ | refine WE.binI ?_ | refine WE.bin ?_ | refine WE.fieldAddr ?_ | refine WE.load 0 ?_ | refine WE.load 1 ?_ | refine WE.load 2 ?_ | refine WE.load 3 ?_ | refine WE.load 4 ?_ | refine WE.build ?_ | refine WE.alloc 1 fun _ _ => ?_ | refine WE.alloc 2 fun _ _ => ?_ | refine WE.store (A := []) 0 rfl ?_ | refine WE.store (A := [_]) 1 rfl ?_ | refine WE.store (A := [_, _]) 2 rfl ?_ | refine WE.store (A := [_, _, _]) 3 rfl ?_))
  refine WE.binX (r := .int .i64 (kS ⟨id, bg, ev, hs⟩ t)) (evQuo (a := ph) (b := ev) (by omega) (by rw [Int.tdiv_eq_ediv_of_nonneg p1, e1]) (by omega) (by omega)) rfl rfl ?_
  (repeat (first | refine WE.move ?_ | refine WE.assign ?_ | refine WE.binI ?_ | refine WE.bin ?_ | refine WE.fieldAddr ?_ | refine WE.load 0 ?_ | refine WE.load 1 ?_ | refine WE.load 2 ?_ | refine WE.load 3 ?_ | refine WE.load 4 ?_ | refine WE.build ?_ | refine WE.alloc 1 fun _ _ => ?_ | refine WE.alloc 2 fun _ _ => ?_ | refine WE.store (A := []) 0 rfl ?_ | refine WE.store (A := [_]) 1 rfl ?_ | refine WE.store (A := [_, _]) 2 rfl ?_ | refine WE.store (A := [_, _, _]) 3 rfl ?_))
  refine WE.binX (r := .int .i64 (ph % ev)) ?_ rfl rfl ?_
  · unfold evBin evInt
    simp [show ¬ ev = 0 by omega]
    rw [Int.tmod_eq_emod_of_nonneg p1]
  (repeat (first | refine WE.move ?_ | refine WE.assign ?_ | refine WE.binI ?_ | refine WE.bin ?_ | refine WE.fieldAddr ?_ | refine WE.load 0 ?_ | refine WE.load 1 ?_ | refine WE.load 2 ?_ | refine WE.load 3 ?_ | refine WE.load 4 ?_ | refine WE.build ?_ | refine WE.alloc 1 fun _ _ => ?_ | refine WE.alloc 2 fun _ _ => ?_ | refine WE.store (A := []) 0 rfl ?_ | refine WE.store (A := [_]) 1 rfl ?_ | refine WE.store (A := [_, _]) 2 rfl ?_ | refine WE.store (A := [_, _, _]) 3 rfl ?_))
  rename_i j6 h6 j7 h7
  refine WE.storeT (A := [_]) 1 rfl ?_
  refine WE.storeT (A := [_]) 2 rfl ?_
  refine WE.nil ?_
  (refine WK.seq ?_; refine WK.region ?_; refine St.fn ?_; refine St.assign ?_; refine WO.nil ?_)
  refine St.ret (by first | exact .tmp .nil | exact .cell .nil | exact .cell (.tmp .nil) | exact .tmp (.tmp .nil) | exact .cell (.cell .nil) | exact .tmp (.cell .nil) | exact .nil | exact .tmp (.cell (.tmp .nil)) | exact .cell (.tmp (.tmp .nil)) | exact .cell (.cell (.tmp .nil)) | exact .tmp (.tmp (.tmp .nil)) | exact .cell (.cell (.cell .nil))) ?_
  refine ⟨stO ⟨⟨id, bg, ev, hs⟩, v⟩ t (p, j6, j7), [], ?_, (p, j6, j7), rfl, rfl⟩
  rw [List.append_nil]
  unfold stO
  simp only [e2]
  exact List.Perm.refl _
end Go.Proofs.Ytekpffjcffeanaa
