/- Maps in a walk: made, asked, written to. -/
import Derived.Test.YtkebbdpfjhhdhaaGreatEv6
namespace Go.Proofs.YtkebbdpfjhhdhaaGreat.Ev
section
variable {P : Program} {B : Base} {Q : Post} {h0 : Heap} {W : List Nat} {N : Nat} {D : List Nat} {K : List Fr} {s : Sl} {L : Ob} {T : Tg} {md : Bool} {ops : Array Oper} {d : Nat} {ty : TypeId} {pos : String} {af : Array Edge} {gd : Option (Nat × Bool)} {l : List Oper}
theorem St.makeMap {t : TypeId} (k : ∀ j, h0.next ≤ j → WO P B Q h0 W N D K false ops l ((d, .map j) :: s) ((j, .map [] 0) :: L) []) (hw : wantS ops s N ⟨some d, .makeMap t none, ty, pos, af, gd⟩ = some true := by exact rfl) (hd : Nat.blt d N = true := by exact rfl) : WO P B Q h0 W N D K false ops (⟨some d, .makeMap t none, ty, pos, af, gd⟩ :: l) s L [] :=
  WO.op1 (v := fun j => .map j) (ob := fun _ => .map [] 0) hw hd (fun _ h ha hh => ⟨_, h.next, ROp.value ha rfl (Nat.le_succ _), hh.gd.ss.new _⟩) k
theorem St.lookupV {t : TypeId} {x i : Operand} {ok : Bool} {v : AV} (he : ∀ h, Vw h0 W L h → evOp P h (evS s) ⟨some d, .lookup t x i ok, ty, pos, af, gd⟩ = some (.value v, h)) (k : WO P B Q h0 W N D K md ops l ((d, v) :: s) L T) (hw : wantS ops s N ⟨some d, .lookup t x i ok, ty, pos, af, gd⟩ = some true := by exact rfl) (hd : Nat.blt d N = true := by exact rfl) : WO P B Q h0 W N D K md ops (⟨some d, .lookup t x i ok, ty, pos, af, gd⟩ :: l) s L T :=
  WO.opE hw hd (fun _ h ha hh => ⟨h, ROp.value ha (he h hh) (Nat.le_refl _), hh.gd.ss⟩) k
theorem St.mapUpd {A C : Ob} {t : TypeId} {m x y : Operand} {r c c' : Nat} {es es' : List (AV × AV × Nat)} (hL : L = A ++ (r, .map es c) :: C) (he : ∀ h g, h.get r = some (.map es c) → h.set r (.map es' c') = some g → evOp P h (evS s) ⟨none, .mapUpdate t m x y, ty, pos, af, gd⟩ = some (.skip, g)) (k : WO P B Q h0 W N D K false ops l s (A ++ (r, .map es' c') :: C) [])
    (hw : wantS ops s N ⟨none, .mapUpdate t m x y, ty, pos, af, gd⟩ = some true := by exact rfl) : WO P B Q h0 W N D K false ops (⟨none, .mapUpdate t m x y, ty, pos, af, gd⟩ :: l) s L [] := by
  subst hL
  constructor
  · rintro - a h ha hh
    obtain ⟨h1, h3⟩ := hh.store (o' := .map es' c')
    have hg := (hh.own (r, .map es c) (by simp)).1
    exact KRun.op (v := aundef) (g := { h with t := h.t.set r (.map es' c') }) (wantS_eq ha hw) (ROp.skip ha (he h _ hg h1) (Nat.le_refl _)) rfl (k.seq rfl a _ ha h3)
  · intro e; cases e
end
/-- a set of ints, as a map whose values are true -/
def mapE : List Int → Nat → List (AV × AV × Nat)
  | [], _ => []
  | x :: l, c => (.int .i64 x, .bool true, c) :: mapE l (c + 1)
end Go.Proofs.YtkebbdpfjhhdhaaGreat.Ev

/- A walk through a region that draws its order, operation by operation: each one is known by its kind and the label of its block; blocks may be made. -/
namespace Go.Proofs.YtkebbdpfjhhdhaaGreat.Ev
variable {P : Program} {B : Base}
theorem freeE {cls : List Nat} (hc : cls.Nodup) {m : Nat} {r : Rec} {x : Nat × Option Nat} (h1 : r.ty = x.1) (h2 : r.blk = blkL cls x.2) : ∀ {recs : List Rec} {rl : Rl} {i : Nat}, recs.map (fun r => (r.ty, r.blk)) = rl.map (fun q => (q.1, blkL cls q.2)) → freeL cls.length m x rl i = true → freeAll m r recs i = true
  | [], _, _, _, _ => rfl
  | y :: recs, [], _, e, _ => by simp at e
  | y :: recs, q :: rl, i, e, h => by
    simp only [List.map_cons, List.cons.injEq, Prod.mk.injEq] at e
    obtain ⟨⟨e1, e2⟩, e3⟩ := e
    simp only [freeL, Bool.and_eq_true] at h
    simp only [freeAll, Bool.and_eq_true]
    refine ⟨?_, freeE hc h1 h2 e3 h.2⟩
    have h3 := h.1
    simp only [Bool.or_eq_true] at h3 ⊢
    rcases h3 with (((h3 | h3) | h3) | h3) | h3
    · exact .inl h3
    · exact .inr (by simp at h3; simp [free, e1, h3])
    · exact .inr (by simp at h3; simp [free, h1, h3])
    · right
      simp at h3
      simp [free, e1, h1, h3.1, h3.2]
    · right
      simp only [Bool.and_eq_true, Bool.or_eq_true, beq_iff_eq] at h3
      obtain ⟨i', k', g1, g2, g3⟩ := apartL_ne hc h3.2
      rcases h3.1 with ⟨h4, h5⟩ | ⟨h4, h5⟩
      · simp [free, e1, e2, h1, h2, h4, h5, g1, g2, g3]
      · simp [free, e1, e2, h1, h2, h4, h5, g1, g2, g3]
def rlOk (n : Nat) : Rl → Bool
  | [] => true
  | q :: l => (match q.2 with | some b => Nat.ble b n | none => true) && rlOk n l
theorem blkL_snoc {cls : List Nat} {j : Nat} : ∀ {rl : Rl}, rlOk cls.length rl = true → rl.map (fun q => (q.1, blkL (cls ++ [j]) q.2)) = rl.map (fun q => (q.1, blkL cls q.2))
  | [], _ => rfl
  | q :: rl, h => by
    simp only [rlOk, Bool.and_eq_true] at h
    simp only [List.map_cons, blkL_snoc h.2]
    congr 2
    obtain ⟨t, b⟩ := q
    cases b with
    | none => rfl
    | some b =>
      cases b with
      | zero => rfl
      | succ b =>
        have hb : b < cls.length := by have := h.1; simp only [Nat.ble_eq] at this; omega
        simp [blkL, List.getElem?_append_left hb]
structure WE (P : Program) (B : Base) (Q : Post) (h0 : Heap) (W : List Nat) (N : Nat) (D : List Nat) (K : List Fr) (ops : Array Oper) (l : List Oper) (s : Sl) (L : Ob) (T : Tg) (cls : List Nat) (n : Nat) (rl : Rl) : Prop where
  run : ∀ a h recs, Sat a N s D → DS h0 W recs L T h → recs.map (fun r => (r.ty, r.blk)) = rl.map (fun q => (q.1, blkL cls q.2)) → ops.toList.drop recs.length = l → cls.Nodup → (∀ i ∈ cls, i < h.next) → cls.length = n → (∀ i ∈ W, i < h0.next) → KRun P B Q (.job (.drawn ops (masksR ops) (kindsR ops) l recs) :: K) .normal a h
section
variable {Q : Post} {h0 : Heap} {W : List Nat} {N : Nat} {D : List Nat} {K : List Fr} {s : Sl} {L : Ob} {T : Tg} {rnd : Option Nat} {cls : List Nat} {n : Nat} {rl : Rl} {ops : Array Oper} {d : Nat} {op : Op} {ty : TypeId} {pos : String} {af : Array Edge} {gd : Option (Nat × Bool)} {l : List Oper} {o : Oper}
/-- the labels are the blocks of some of what is held, in its order; those that are made come behind them -/
theorem WK.regionE {i} (Ls : Ob) (hsub : Ls.Sublist L) (k : WE P B Q h0 W N D K ops ops.toList s L [] (Ls.map (·.1)) n []) (hn : (Ls.map (·.1)).length = n := by exact rfl) (hs : staticOk ops = true := by decide +kernel) (hW : (∀ i ∈ W, i < h0.next) := by first | assumption | exact fun _ h => by cases h) : WK P B Q h0 W N D (.job (.code rnd (.region i ops true)) :: K) s L :=
  ⟨fun a h ha hh => KRun.regionT hs (k.run a h [] ha (DS.init hh) rfl rfl (hh.nodup.sublist (hsub.map _)) (fun i hi => by
    obtain ⟨p, hp, rfl⟩ := List.mem_map.1 hi
    exact (hh.own p (hsub.subset hp)).2.2.1) hn hW)⟩
theorem WE.nil (k : WK P B Q h0 W N D K s (T.map (·.2) ++ L)) : WE P B Q h0 W N D K ops [] s L T cls n rl := ⟨fun a h _ ha hh _ _ _ _ _ _ => KRun.drawnNil (k.run a h ha hh.ss)⟩
theorem rl_len {recs : List Rec} {rl : Rl} {cls : List Nat} (e : recs.map (fun r => (r.ty, r.blk)) = rl.map (fun q => (q.1, blkL cls q.2))) : recs.length = rl.length := by
  have := congrArg List.length e
  simpa using this
/-- an operation that leaves old memory as it is -/
theorem WE.opV {v} {Tv : Tg} {kd : Nat} (lb : Option Nat) (hw : wantS ops s N o = some true) (hd : okD N o.dst = true) (hv : ∀ x ∈ Tv, x ∈ T ∧ maskAt ops (o :: l) x.1 = true) (hb : ∀ a, Sat a N s D → blkOf a.eval o.op = blkL cls lb) (hk : (kindsR ops).getD rl.length 0 = kd) (hf : freeL n ((masksR ops).getD rl.length 0) (kd, lb) rl rl.length = true) (h4 : kd ≠ 4) (he : ∀ a h, Sat a N s D → Vw h0 W (Tv.map (·.2) ++ L) h → ∃ g, ROp P B h a o v g ∧ SS h [] [] g) (k : WE P B Q h0 W N D K ops l (putS s o.dst v) L T cls n ((kd, lb) :: rl)) : WE P B Q h0 W N D K ops (o :: l) s L T cls n rl := by
  refine ⟨fun a h recs ha hh hrl hl hc hcl hn hW => ?_⟩
  subst hn
  have hlen := rl_len hrl
  obtain ⟨q1, q2, q3⟩ := drop_next hl
  have hvw := hh.vw ((kindsR ops).getD recs.length 0) ((masksR ops).getD recs.length 0) (by rw [hlen, hk]; exact h4)
  obtain ⟨g, h1, h2⟩ := he a (evHeap ((kindsR ops).getD recs.length 0) ((masksR ops).getD recs.length 0) recs h) ha ⟨hvw.gd, hvw.nx, hvw.old, fun p hp => by
    refine hvw.own p ?_
    rcases List.mem_append.1 hp with hp | hp
    · obtain ⟨x, hx, rfl⟩ := List.mem_map.1 hp
      obtain ⟨g1, g3⟩ := hv x hx
      unfold maskAt at g3
      rw [q3] at g3
      exact List.mem_append.2 (.inl (List.mem_map.2 ⟨x, List.mem_filter.2 ⟨g1, g3⟩, rfl⟩))
    · exact List.mem_append.2 (.inr hp)⟩
  obtain ⟨a', h3, h4⟩ := ha.put hd v
  refine KRun.dop (wantS_eq ha hw) h1 ?_ h3 ?_
  · refine freeE hc (x := (kd, lb)) (by rw [hlen]; exact hk) (hb a ha) hrl ?_
    rw [hlen]
    exact hf
  · have := hh.step (r := ⟨(kindsR ops).getD recs.length 0, blkOf a.eval o.op, h.next, g.next⟩) h2 rfl rfl (fun i hi => Nat.lt_of_lt_of_le (hW i hi) hh.ss.nx)
    have hgn : h.next ≤ g.next := by have := h2.nx; rw [evHeap_next] at this; exact this
    refine k.run a' _ _ h4 this ?_ q2 hc (fun i hi => Nat.lt_of_lt_of_le (hcl i hi) hgn) rfl hW
    simp only [List.map_cons, hrl, hb a ha]
    rw [hlen, hk]
/-- an operation that looks at no memory -/
theorem WE.opZ {v} {kd : Nat} (lb : Option Nat) (hw : wantS ops s N o = some true) (hd : okD N o.dst = true) (hb : ∀ a, Sat a N s D → blkOf a.eval o.op = blkL cls lb) (hk : (kindsR ops).getD rl.length 0 = kd) (hf : freeL n ((masksR ops).getD rl.length 0) (kd, lb) rl rl.length = true) (he : ∀ a h, Sat a N s D → Gd h → ∃ g, ROp P B h a o v g ∧ SS h [] [] g) (k : WE P B Q h0 W N D K ops l (putS s o.dst v) L T cls n ((kd, lb) :: rl)) : WE P B Q h0 W N D K ops (o :: l) s L T cls n rl := by
  refine ⟨fun a h recs ha hh hrl hl hc hcl hn hW => ?_⟩
  subst hn
  have hlen := rl_len hrl
  obtain ⟨q1, q2, q3⟩ := drop_next hl
  obtain ⟨g, h1, h2⟩ := he a (evHeap ((kindsR ops).getD recs.length 0) ((masksR ops).getD recs.length 0) recs h) ha (hh.gd _ _)
  obtain ⟨a', h3, h4⟩ := ha.put hd v
  refine KRun.dop (wantS_eq ha hw) h1 ?_ h3 ?_
  · refine freeE hc (x := (kd, lb)) (by rw [hlen]; exact hk) (hb a ha) hrl ?_
    rw [hlen]
    exact hf
  · have := hh.step (r := ⟨(kindsR ops).getD recs.length 0, blkOf a.eval o.op, h.next, g.next⟩) h2 rfl rfl (fun i hi => Nat.lt_of_lt_of_le (hW i hi) hh.ss.nx)
    have hgn : h.next ≤ g.next := by have := h2.nx; rw [evHeap_next] at this; exact this
    refine k.run a' _ _ h4 this ?_ q2 hc (fun i hi => Nat.lt_of_lt_of_le (hcl i hi) hgn) rfl hW
    simp only [List.map_cons, hrl, hb a ha]
    rw [hlen, hk]
/-- an operation that makes one thing -/
theorem WE.op1 {v : Nat → AV} {ob : Nat → AObj} {i kd : Nat} (hw : wantS ops s N o = some true) (hd : okD N o.dst = true) (hi : ops.toList.length - (o :: l).length = i) (hb : ∀ a, blkOf a o.op = none) (hk : (kindsR ops).getD rl.length 0 = kd) (hf : freeL n ((masksR ops).getD rl.length 0) (kd, none) rl rl.length = true) (hrn : rlOk n rl = true) (he : ∀ a h, Sat a N s D → Gd h → ∃ g j, ROp P B h a o (v j) g ∧ SS h [] [(j, ob j)] g) (k : ∀ j, h0.next ≤ j → WE P B Q h0 W N D K ops l (putS s o.dst (v j)) L ((i, j, ob j) :: T) (cls ++ [j]) (n + 1) ((kd, none) :: rl)) : WE P B Q h0 W N D K ops (o :: l) s L T cls n rl := by
  refine ⟨fun a h recs ha hh hrl hl hc hcl hn hW => ?_⟩
  subst hn
  have hlen := rl_len hrl
  obtain ⟨q1, q2, q3⟩ := drop_next hl
  rw [q3] at hi
  subst hi
  obtain ⟨g, j, h1, h2⟩ := he a (evHeap ((kindsR ops).getD recs.length 0) ((masksR ops).getD recs.length 0) recs h) ha (hh.gd _ _)
  obtain ⟨a', h3, h4⟩ := ha.put hd (v j)
  have hjo := (h2.own _ (List.mem_singleton.2 rfl))
  have hjh : h.next ≤ j := by
    rcases hjo.2.2.2 with h5 | h5
    · rw [evHeap_next] at h5; exact h5
    · cases h5
  have hj : h0.next ≤ j := Nat.le_trans hh.ss.nx hjh
  have hgn : h.next ≤ g.next := by have := h2.nx; rw [evHeap_next] at this; exact this
  refine KRun.dop (wantS_eq ha hw) h1 ?_ h3 ?_
  · refine freeE hc (x := (kd, none)) (by rw [hlen]; exact hk) (hb a.eval) hrl ?_
    rw [hlen]
    exact hf
  · have := hh.step (r := ⟨(kindsR ops).getD recs.length 0, blkOf a.eval o.op, h.next, g.next⟩) h2 rfl rfl (fun i hi => Nat.lt_of_lt_of_le (hW i hi) hh.ss.nx)
    refine (k j hj).run a' _ _ h4 this ?_ q2 ?_ (fun i hi => ?_) (by simp) hW
    · rw [List.map_cons, List.map_cons, hrl, blkL_snoc hrn, hb]
      simp only
      rw [hlen, hk]
      rfl
    · rw [List.nodup_append]
      refine ⟨hc, by simp, fun x hx y hy e => ?_⟩
      rw [List.mem_singleton.1 hy] at e
      have := hcl x hx
      omega
    · rcases List.mem_append.1 hi with hi | hi
      · exact Nat.lt_of_lt_of_le (hcl i hi) hgn
      · rw [List.mem_singleton.1 hi]
        exact hjo.2.2.1
/-- a store into what the region has made -/
theorem DS.permT {recs : List Rec} {h : Heap} {T' : Tg} (k : DS h0 W recs L T h) (hp : T'.Perm T) : DS h0 W recs L T' h :=
  ⟨k.ss.perm (List.Perm.append_right _ (hp.map _)), k.rng, k.visL, k.visW, fun x hx => k.visT x (hp.subset hx)⟩
theorem WE.storeT {t y i1 i off obj obj' v} {z : Operand} {A C : Tg} (lb : Nat) (hT : T = A ++ (i1, i, obj) :: C) (k : WE P B Q h0 W N D K ops l s L ((i1, i, obj') :: (A ++ C)) cls n ((2, some (lb + 1)) :: rl)) (hw : wantS ops s N ⟨none, .store t z y, ty, pos, af, gd⟩ = some true := by exact rfl) (hx : evS s z = some (.ptr i off) := by exact rfl) (hy : evS s y = some v := by exact rfl)
    (hv : obj.store P t off v = some obj' := by exact rfl) (hc' : cls[lb]? = some i := by exact rfl) (hk : (kindsR ops).getD rl.length 0 = 2 := by decide +kernel) (hf : freeL n ((masksR ops).getD rl.length 0) (2, some (lb + 1)) rl rl.length = true := by decide +kernel) : WE P B Q h0 W N D K ops (⟨none, .store t z y, ty, pos, af, gd⟩ :: l) s L T cls n rl := by
  subst hT
  refine ⟨fun a h recs ha hh hrl hl hc hcl hn hW => ?_⟩
  subst hn
  have hlen := rl_len hrl
  obtain ⟨q1, q2, q3⟩ := drop_next hl
  have hb : blkOf a.eval (.store t z y) = blkL cls (some (lb + 1)) := by
    show (match a.eval z with | some (.ptr i _) => some (i + 1) | _ => none) = (cls[lb]?).map (· + 1)
    rw [ha.ev _ _ hx, hc']
    rfl
  have hh' := hh.permT (T' := (i1, i, obj) :: (A ++ C)) List.perm_middle.symm
  obtain ⟨h1, h3⟩ := hh'.storedT (o' := obj') (r := ⟨(kindsR ops).getD recs.length 0, blkOf a.eval (.store t z y), h.next, h.next⟩) rfl rfl
  refine KRun.dop (v := aundef) (g := { h with t := h.t.set i obj' }) (wantS_eq ha hw) ?_ ?_ rfl ?_
  · rw [hlen, hk]
    show ROp P B h a _ aundef _
    refine ROp.skip (g := { h with t := h.t.set i obj' }) ha ?_ (Nat.le_refl _)
    unfold evOp
    simp only [oStore, hx, hy, evStore_of (hh'.ss.own (i, obj) (by simp)).1 hv h1, Option.map_some]
  · refine freeE hc (x := (2, some (lb + 1))) (by rw [hlen]; exact hk) hb hrl ?_
    rw [hlen]
    exact hf
  · refine k.run a _ _ ha h3 ?_ q2 hc hcl rfl hW
    simp only [List.map_cons, hrl, hb]
    rw [hlen, hk]
/-- an operation whose value does not hang on memory -/
theorem WE.pureK {v} (kd : Nat) (hb : ∀ a, blkOf a op = none) (he : ∀ h, evOp P h (evS s) ⟨some d, op, ty, pos, af, gd⟩ = some (.value v, h)) (k : WE P B Q h0 W N D K ops l ((d, v) :: s) L T cls n ((kd, none) :: rl))
    (hw : wantS ops s N ⟨some d, op, ty, pos, af, gd⟩ = some true := by exact rfl) (hd : Nat.blt d N = true := by exact rfl) (hk : (kindsR ops).getD rl.length 0 = kd := by decide +kernel) (hf : freeL n ((masksR ops).getD rl.length 0) (kd, none) rl rl.length = true := by decide +kernel) : WE P B Q h0 W N D K ops (⟨some d, op, ty, pos, af, gd⟩ :: l) s L T cls n rl :=
  WE.opZ none hw hd (fun a _ => hb a.eval) hk hf (fun _ h ha hh => ⟨h, ROp.value ha (he h) (Nat.le_refl _), hh.ss⟩) k
theorem freeL_zero {n m : Nat} {lb : Option Nat} : ∀ {rl : Rl} {i : Nat}, freeL n m (0, lb) rl i = true
  | [], _ => rfl
  | q :: rl, i => by simp [freeL, freeL_zero]
theorem WE.pure {v} (hb : ∀ a, blkOf a op = none) (he : ∀ h, evOp P h (evS s) ⟨some d, op, ty, pos, af, gd⟩ = some (.value v, h)) (k : WE P B Q h0 W N D K ops l ((d, v) :: s) L T cls n ((0, none) :: rl))
    (hw : wantS ops s N ⟨some d, op, ty, pos, af, gd⟩ = some true := by exact rfl) (hd : Nat.blt d N = true := by exact rfl) (hk : (kindsR ops).getD rl.length 0 = 0 := by decide +kernel) : WE P B Q h0 W N D K ops (⟨some d, op, ty, pos, af, gd⟩ :: l) s L T cls n rl :=
  WE.pureK 0 hb he k hw hd hk freeL_zero
theorem WE.alloc {t z i} (kd : Nat) (k : ∀ j, h0.next ≤ j → WE P B Q h0 W N D K ops l ((d, AV.ptr j 0) :: s) L ((i, j, AObj.cells z.cells t) :: T) (cls ++ [j]) (n + 1) ((kd, none) :: rl)) (hw : wantS ops s N ⟨some d, .alloc t, ty, pos, af, gd⟩ = some true := by exact rfl) (hd : Nat.blt d N = true := by exact rfl) (hi : ops.toList.length - (⟨some d, .alloc t, ty, pos, af, gd⟩ :: l).length = i := by exact rfl) (hz : zeroT P t = some z := by exact rfl) (hk : (kindsR ops).getD rl.length 0 = kd := by decide +kernel) (hf : freeL n ((masksR ops).getD rl.length 0) (kd, none) rl rl.length = true := by decide +kernel) (hrn : rlOk n rl = true := by decide +kernel) : WE P B Q h0 W N D K ops (⟨some d, .alloc t, ty, pos, af, gd⟩ :: l) s L T cls n rl :=
  WE.op1 (v := fun j => AV.ptr j 0) (ob := fun _ => AObj.cells z.cells t) hw hd hi (fun _ => rfl) hk hf hrn (fun _ h ha hh => ⟨(h.new (AObj.cells z.cells t)).2, h.next, ROp.value ha (by unfold evOp; simp only [oAlloc, hz, newV]; rfl) (Nat.le_succ _), hh.ss.new _⟩) k
theorem WE.move {x v} (k : WE P B Q h0 W N D K ops l ((d, v) :: s) L T cls n ((0, none) :: rl)) (hw : wantS ops s N ⟨some d, .move x, ty, pos, af, gd⟩ = some true := by exact rfl) (hd : Nat.blt d N = true := by exact rfl) (hx : evS s x = some v := by exact rfl) (hk : (kindsR ops).getD rl.length 0 = 0 := by decide +kernel) : WE P B Q h0 W N D K ops (⟨some d, .move x, ty, pos, af, gd⟩ :: l) s L T cls n rl :=
  WE.pure (fun _ => rfl) (fun h => by unfold evOp; simp [plainV, hx]) k hw hd hk
theorem WE.assign {x v} (k : WE P B Q h0 W N D K ops l ((d, v) :: s) L T cls n ((0, none) :: rl)) (hw : wantS ops s N ⟨some d, .assign x, ty, pos, af, gd⟩ = some true := by exact rfl) (hd : Nat.blt d N = true := by exact rfl) (hx : evS s x = some v := by exact rfl) (hk : (kindsR ops).getD rl.length 0 = 0 := by decide +kernel) : WE P B Q h0 W N D K ops (⟨some d, .assign x, ty, pos, af, gd⟩ :: l) s L T cls n rl :=
  WE.pure (fun _ => rfl) (fun h => by unfold evOp; simp [plainV, hx]) k hw hd hk
theorem WE.binI {o t x y t' u v i n'} (k : WE P B Q h0 W N D K ops l ((d, .int i n') :: s) L T cls n ((0, none) :: rl)) (hw : wantS ops s N ⟨some d, (.binOp o t x y t'), ty, pos, af, gd⟩ = some true := by exact rfl) (hd : Nat.blt d N = true := by exact rfl) (hx : evS s x = some u := by exact rfl) (hy : evS s y = some v := by exact rfl) (he : evBin P o t u v = some (.int i (i.wrap n')) := by exact rfl) (hn : i.wrap n' = n' := by exact wrap_ok (by omega)) (hk : (kindsR ops).getD rl.length 0 = 0 := by decide +kernel) : WE P B Q h0 W N D K ops (⟨some d, (.binOp o t x y t'), ty, pos, af, gd⟩ :: l) s L T cls n rl :=
  WE.pure (fun _ => rfl) (fun h => by rw [hn] at he; unfold evOp; simp [oBin, plainV, hx, hy, he]) k hw hd hk
theorem WE.lenV {x : Operand} {t : TypeId} {m : Nat} {v : AV} (kd : Nat) (hx : evS s x = some v) (hl : ∀ h, lenA P t h v = some (.int .i64 (m : Int))) (k : WE P B Q h0 W N D K ops l ((d, .int .i64 (m : Int)) :: s) L T cls n ((kd, some 0) :: rl)) (hw : wantS ops s N ⟨some d, .call ⟨.builtin .len, #[x], #[t]⟩, ty, pos, af, gd⟩ = some true := by exact rfl) (hd : Nat.blt d N = true := by exact rfl) (hk : (kindsR ops).getD rl.length 0 = kd := by decide +kernel) (hf : freeL n ((masksR ops).getD rl.length 0) (kd, some 0) rl rl.length = true := by decide +kernel) (hm : ∀ i, v ≠ .map i := by intro i h; cases h) : WE P B Q h0 W N D K ops (⟨some d, .call ⟨.builtin .len, #[x], #[t]⟩, ty, pos, af, gd⟩ :: l) s L T cls n rl :=
  WE.opZ (some 0) hw hd (fun a ha => by
    show (match a.eval x with | some (.map i) => some (i + 1) | some _ => some 0 | none => none) = some 0
    rw [ha.ev _ _ hx]
    cases v <;> first | rfl | exact absurd rfl (hm _)) hk hf (fun a h ha hh => ⟨h, ROp.value ha (by unfold evOp; simp [oCall, mapO, hx, evBuiltin, hl h]) (Nat.le_refl _), hh.ss⟩) k
end
end Go.Proofs.YtkebbdpfjhhdhaaGreat.Ev

/- A drawn region, operation by operation: append, whose block is known. -/
namespace Go.Proofs.YtkebbdpfjhhdhaaGreat.Ev
variable {P : Program} {B : Base}
section
variable {Q : Post} {h0 : Heap} {W : List Nat} {N : Nat} {D : List Nat} {K : List Fr} {s : Sl} {L : Ob} {T : Tg} {cls : List Nat} {n : Nat} {rl : Rl} {ops : Array Oper} {d : Nat} {ty : TypeId} {pos : String} {af : Array Edge} {gd : Option (Nat × Bool)} {l : List Oper} {o : Oper}
variable {x y : Operand} {t tx e : TypeId} {u : AV} {sz m : Nat} {new : List AV} {i2 off2 : Nat} {c2 : ACap} {ob2 : AObj}
/-- a slice that is made of its elements -/
theorem WE.mkS {t n' ps lv c e i} (kd : Nat) (k : ∀ j, h0.next ≤ j → WE P B Q h0 W N D K ops l ((d, .slice j 0 n' (.k n')) :: s) L ((i, j, .cells c e) :: T) (cls ++ [j]) (n + 1) ((kd, none) :: rl)) (hw : wantS ops s N ⟨some d, .buildSlice t n' ps, ty, pos, af, gd⟩ = some true := by exact rfl) (hd : Nat.blt d N = true := by exact rfl) (hi : ops.toList.length - (⟨some d, .buildSlice t n' ps, ty, pos, af, gd⟩ :: l : List Oper).length = i := by exact rfl) (hx : mapP (evS s) ps.toList = some lv := by exact rfl) (hb : evBuildSlice P t n' lv = some (c, e) := by exact rfl)
    (hk : (kindsR ops).getD rl.length 0 = kd := by decide +kernel) (hf : freeL n ((masksR ops).getD rl.length 0) (kd, none) rl rl.length = true := by decide +kernel) (hrn : rlOk n rl = true := by decide +kernel) : WE P B Q h0 W N D K ops (⟨some d, .buildSlice t n' ps, ty, pos, af, gd⟩ :: l) s L T cls n rl :=
  WE.op1 (v := fun j => .slice j 0 n' (.k n')) (ob := fun _ => .cells c e) hw hd hi (fun _ => rfl) hk hf hrn (fun _ h ha hh => ⟨_, h.next, ROp.value ha (by unfold evOp; simp only [oBuildSlice, hx, hb, newV]; rfl) (Nat.le_succ _), hh.ss.new _⟩) k
end
end Go.Proofs.YtkebbdpfjhhdhaaGreat.Ev
