/- A drawn region, operation by operation: append to a list that the region has made, and calls. -/
import Derived.Test.YtkebbdpfjhhdhaaGreatEv7
namespace Go.Proofs.YtkebbdpfjhhdhaaGreat.Ev
variable {P : Program} {B : Base}
theorem DS.tookT {h0 h : Heap} {W : List Nat} {recs : List Rec} {L : Ob} {T : Tg} {i1 i : Nat} {o o' : AObj} {r : Rec} (k : DS h0 W recs L ((i1, i, o) :: T) h) (hr0 : r.n0 = h.next) (hr1 : r.n1 = h.next + 1) (hw : ∀ i ∈ W, i < h0.next) :
    ∃ g, h.take i o' = some (h.next, g) ∧ g.next = h.next + 1 ∧ g.lo = h.lo ∧ g.hid = h.hid ∧ DS h0 W (r :: recs) L ((recs.length, h.next, o') :: T) g := by
  have k1 : SS h0 W ([] ++ (i, o) :: (T.map (·.2) ++ L)) h := k.ss
  obtain ⟨g, e1, e2, e3, e4, e5⟩ := k1.take (o' := o')
  refine ⟨g, e1, e2, e3, e4, ⟨e5, fun q hq => ?_, fun p hp q hq => ?_, fun j hj q hq => ?_, fun x hx m hm => ?_⟩⟩
  · rcases List.mem_cons.1 hq with rfl | hq
    · exact ⟨by rw [hr0]; exact k.ss.nx, by rw [hr1, e2]; exact Nat.le_refl _⟩
    · exact ⟨(k.rng q hq).1, by have := (k.rng q hq).2; omega⟩
  · rcases List.mem_cons.1 hq with rfl | hq
    · have := (k.ss.own p (List.mem_append.2 (.inr hp))).2.2.1
      omega
    · exact k.visL p hp q hq
  · rcases List.mem_cons.1 hq with rfl | hq
    · have := hw j hj; have := k.ss.nx; omega
    · exact k.visW j hj q hq
  · have hold : ∀ j, h.next ≤ j → (hideOf m recs recs.length).any (inR j) = false := fun j hj => by
      cases e : (hideOf m recs recs.length).any (inR j) with
      | false => rfl
      | true => obtain ⟨q, h1, h2, h3⟩ := hide_sub e; have := (k.rng q h1).2; omega
    simp only [List.length_cons, hideOf, Nat.add_sub_cancel]
    rcases List.mem_cons.1 hx with rfl | hx
    · have hm' : m.testBit recs.length = true := hm
      rw [hm']
      simp only [Bool.true_or, if_true]
      exact hold _ (Nat.le_refl _)
    · have hx' := List.mem_cons_of_mem (i1, i, o) hx
      have h1 := k.visT x hx' m hm
      split
      · exact h1
      · simp only [List.any_cons, h1, Bool.or_false]
        have := (k.ss.own x.2 (List.mem_append.2 (.inl (List.mem_map.2 ⟨x, hx', rfl⟩)))).2.2.1
        cases e : inR x.2.1 (r.n0, r.n1) with
        | false => rfl
        | true => rw [inR_iff] at e; rw [hr0] at e; have := e.1; simp only at this; omega
section
variable {Q : Post} {h0 : Heap} {W : List Nat} {N : Nat} {D : List Nat} {K : List Fr} {s : Sl} {L : Ob} {T : Tg} {cls : List Nat} {n : Nat} {rl : Rl} {ops : Array Oper} {d : Nat} {op : Op} {ty : TypeId} {pos : String} {af : Array Edge} {gd : Option (Nat × Bool)} {l : List Oper}
variable {x y : Operand} {t tx e : TypeId} {u : AV} {sz m : Nat} {new : List AV} {i2 off2 : Nat} {c2 : ACap}
theorem WE.subT {T2 : Tg} (hp : T2.Sublist T) (k : WE P B Q h0 W N D K ops l s L T2 cls n rl) : WE P B Q h0 W N D K ops l s L T cls n rl :=
  ⟨fun a h recs ha hh h1 h2 h3 h4 h5 h6 => k.run a h recs ha ⟨hh.ss.sub (List.Sublist.append (hp.map _) (List.Sublist.refl _)), hh.rng, hh.visL, hh.visW, fun x hx => hh.visT x (hp.subset hx)⟩ h1 h2 h3 h4 h5 h6⟩
/-- nothing is appended to a list that the region has made -/
theorem WE.app0T {T' : Tg} {i1 i : Nat} {obj : AObj} {v : AV} (lb : Nat) (hT : T = (i1, i, obj) :: T') (k : WE P B Q h0 W N D K ops l ((d, v) :: s) L ((i1, i, obj) :: T') cls n ((2, some (lb + 1)) :: rl)) (q : App0 P s x y t tx v u e sz) (hrd : ∀ h, Vw h0 W (T.map (·.2) ++ L) h → firstA h sz 0 u = some []) (hev : ∀ h : Heap, h.get i = some obj → h.set i obj = some { h with t := h.t.set i obj } → evOnto h e sz v 0 [] = some (v, { h with t := h.t.set i obj })) (hvb : blkS (some v) = some (i + 1)) (hc' : cls[lb]? = some i)
    (hw : wantS ops s N ⟨some d, .call ⟨.builtin .append, #[x, y], #[t, tx]⟩, ty, pos, af, gd⟩ = some true := by exact rfl) (hd : Nat.blt d N = true := by exact rfl) (hk : (kindsR ops).getD rl.length 0 = 2 := by decide +kernel) (hf : freeL n ((masksR ops).getD rl.length 0) (2, some (lb + 1)) rl rl.length = true := by decide +kernel) : WE P B Q h0 W N D K ops (⟨some d, .call ⟨.builtin .append, #[x, y], #[t, tx]⟩, ty, pos, af, gd⟩ :: l) s L T cls n rl := by
  subst hT
  refine ⟨fun a h recs ha hh hrl hl hc hcl hn hW => ?_⟩
  subst hn
  have hlen := rl_len hrl
  obtain ⟨q1, q2, q3⟩ := drop_next hl
  have h2' : (kindsR ops).getD recs.length 0 = 2 := by rw [hlen]; exact hk
  have hb : blkOf a.eval (.call ⟨.builtin .append, #[x, y], #[t, tx]⟩) = blkL cls (some (lb + 1)) := by
    show blkS (a.eval x) = (cls[lb]?).map (· + 1)
    rw [ha.ev _ _ q.hx, hc', hvb]
    rfl
  obtain ⟨h1, h3⟩ := hh.storedT (o' := obj) (r := ⟨(kindsR ops).getD recs.length 0, blkOf a.eval (.call ⟨.builtin .append, #[x, y], #[t, tx]⟩), h.next, h.next⟩) rfl rfl
  obtain ⟨a', h4, h5⟩ := ha.put (d := some d) hd v
  have hg := (hh.ss.own (i, obj) (by simp)).1
  refine KRun.dop (v := v) (g := { h with t := h.t.set i obj }) (wantS_eq ha hw) ?_ ?_ h4 ?_
  · rw [h2']
    show ROp P B h a _ _ _
    refine ROp.value ha ?_ (Nat.le_refl _)
    rw [q.ev rfl (hrd h hh.ss.vw), hev h hg h1]
    rfl
  · refine freeE hc (x := (2, some (lb + 1))) h2' hb hrl ?_
    rw [hlen]
    exact hf
  · refine k.run a' _ _ h5 h3 ?_ q2 hc hcl rfl hW
    simp only [List.map_cons, hrl, hb]
    rw [hlen, hk]
/-- append to a row that the region has made -/
theorem WE.appRowT {T' : Tg} {i i1 j1 len : Nat} {old : List AV} (lb : Nat) (hT : T = (i1, j1, .row old e sz) :: T') (k : ∀ j, h0.next ≤ j → WE P B Q h0 W N D K ops l ((d, .slice j 0 (len + m) (.m 0)) :: s) L ((i, j, .row (old ++ new) e sz) :: T') (cls ++ [j]) (n + 1) ((2, some (lb + 1)) :: rl)) (q : AppQ P s x y t tx (.slice j1 0 len (.m 0)) u e sz m new i2 off2 c2) (hr : ∀ h, Vw h0 W (T.map (·.2) ++ L) h → h.loadN i2 off2 (m * sz) = some new) (hlen' : old.length = len * sz) (h1 : 0 < m) (h2 : len + m ≤ 1000000) (hc' : cls[lb]? = some j1)
    (hw : wantS ops s N ⟨some d, .call ⟨.builtin .append, #[x, y], #[t, tx]⟩, ty, pos, af, gd⟩ = some true := by exact rfl) (hd : Nat.blt d N = true := by exact rfl) (hi : ops.toList.length - (⟨some d, .call ⟨.builtin .append, #[x, y], #[t, tx]⟩, ty, pos, af, gd⟩ :: l : List Oper).length = i := by exact rfl) (hk : (kindsR ops).getD rl.length 0 = 2 := by decide +kernel) (hf : freeL n ((masksR ops).getD rl.length 0) (2, some (lb + 1)) rl rl.length = true := by decide +kernel) (hrn : rlOk n ((2, some (lb + 1)) :: rl) = true := by decide +kernel) : WE P B Q h0 W N D K ops (⟨some d, .call ⟨.builtin .append, #[x, y], #[t, tx]⟩, ty, pos, af, gd⟩ :: l) s L T cls n rl := by
  subst hT
  have hsz : 0 < sz := by have := q.h0; simpa [Nat.blt_eq] using this
  refine ⟨fun a h recs ha hh hrl hl' hc hcl hn hW => ?_⟩
  subst hn
  have hlen := rl_len hrl
  obtain ⟨q1, q2, q3⟩ := drop_next hl'
  rw [q3] at hi
  subst hi
  have h2' : (kindsR ops).getD recs.length 0 = 2 := by rw [hlen]; exact hk
  have hb : blkOf a.eval (.call ⟨.builtin .append, #[x, y], #[t, tx]⟩) = blkL cls (some (lb + 1)) := by
    show blkS (a.eval x) = (cls[lb]?).map (· + 1)
    rw [ha.ev _ _ q.hx, hc']
    rfl
  obtain ⟨g, e1, e2, e3, e4, e5⟩ := DS.tookT hh (o' := .row (old ++ new) e sz) (r := ⟨(kindsR ops).getD recs.length 0, blkOf a.eval (.call ⟨.builtin .append, #[x, y], #[t, tx]⟩), h.next, h.next + 1⟩) rfl rfl hW
  obtain ⟨a', h4, h5⟩ := ha.put (d := some d) hd (.slice h.next 0 (len + m) (.m 0))
  have hg := (hh.ss.own (j1, .row old e sz) (by simp)).1
  have hkn : knownN h j1 sz = len := by
    unfold knownN
    rw [hg]
    simp only [if_true]
    rw [hlen', Nat.mul_div_cancel _ hsz]
  have hl : h.loadN j1 0 (len * sz) = some old := readN_load hg (by
    simp only [AObj.readN, dropN_eq, List.drop_zero]
    rw [← hlen']
    exact takeN_all old)
  have hgg : ({ g with lo := h.lo, hid := h.hid } : Heap) = g := by
    cases g
    simp only at e3 e4
    subst e3 e4
    rfl
  refine KRun.dop (v := .slice h.next 0 (len + m) (.m 0)) (g := g) (wantS_eq ha hw) ?_ ?_ h4 ?_
  · rw [h2']
    show ROp P B h a _ _ g
    refine ROp.value ha ?_ (by rw [e2]; exact Nat.le_succ _)
    rw [q.ev rfl (hr h hh.ss.vw)]
    simp only [evOnto, hkn, Nat.add_zero]
    rw [if_neg (by omega), if_pos ⟨h2, trivial, trivial⟩, hg, hl]
    simp only [if_true, true_and, e1, Option.map_some]
  · refine freeE hc (x := (2, some (lb + 1))) h2' hb hrl ?_
    rw [hlen]
    exact hf
  · rw [hgg]
    rw [e2]
    refine (k _ hh.ss.nx).run a' _ _ h5 e5 ?_ q2 ?_ (fun i hi => ?_) (by simp) hW
    · rw [blkL_snoc hrn]
      simp only [List.map_cons, hrl, hb]
      rw [hlen, hk]
    · rw [List.nodup_append]
      refine ⟨hc, by simp, fun x hx y hy e => ?_⟩
      rw [List.mem_singleton.1 hy] at e
      have := hcl x hx
      omega
    · rw [e2]
      rcases List.mem_append.1 hi with hi | hi
      · exact Nat.lt_succ_of_lt (hcl i hi)
      · rw [List.mem_singleton.1 hi]
        exact Nat.lt_succ_self _
/-- an operation that writes and makes one thing: it sees all that there is -/
theorem WE.op2 {v : Nat → AV} {ob : Nat → AObj} {o : Oper} {i : Nat} (lb : Option Nat) (hw : wantS ops s N o = some true) (hd : okD N o.dst = true) (hi : ops.toList.length - (o :: l).length = i) (hb : ∀ a, Sat a N s D → blkOf a.eval o.op = blkL cls lb) (hk : (kindsR ops).getD rl.length 0 = 2) (hf : freeL n ((masksR ops).getD rl.length 0) (2, lb) rl rl.length = true) (hrn : rlOk n ((2, lb) :: rl) = true) (he : ∀ a h, Sat a N s D → Vw h0 W (T.map (·.2) ++ L) h → ∃ g j, ROp P B h a o (v j) g ∧ SS h [] [(j, ob j)] g) (k : ∀ j, h0.next ≤ j → WE P B Q h0 W N D K ops l (putS s o.dst (v j)) L ((i, j, ob j) :: T) (cls ++ [j]) (n + 1) ((2, lb) :: rl)) : WE P B Q h0 W N D K ops (o :: l) s L T cls n rl := by
  refine ⟨fun a h recs ha hh hrl hl hc hcl hn hW => ?_⟩
  subst hn
  have hlen := rl_len hrl
  obtain ⟨q1, q2, q3⟩ := drop_next hl
  rw [q3] at hi
  subst hi
  have h2' : (kindsR ops).getD recs.length 0 = 2 := by rw [hlen]; exact hk
  obtain ⟨g, j, h1, h2⟩ := he a h ha hh.ss.vw
  obtain ⟨a', h3, h4⟩ := ha.put hd (v j)
  have hjo := (h2.own _ (List.mem_singleton.2 rfl))
  have hjh : h.next ≤ j := by
    rcases hjo.2.2.2 with h5 | h5
    · exact h5
    · cases h5
  have hj : h0.next ≤ j := Nat.le_trans hh.ss.nx hjh
  refine KRun.dop (v := v j) (g := g) (wantS_eq ha hw) ?_ ?_ h3 ?_
  · rw [h2']
    exact h1
  · refine freeE hc (x := (2, lb)) h2' (hb a ha) hrl ?_
    rw [hlen]
    exact hf
  · have := DS.step (ty := 2) (m := 0) (L' := [(j, ob j)]) hh (r := ⟨(kindsR ops).getD recs.length 0, blkOf a.eval o.op, h.next, g.next⟩) h2 rfl rfl (fun i hi => Nat.lt_of_lt_of_le (hW i hi) hh.ss.nx)
    refine (k j hj).run a' _ _ h4 this ?_ q2 ?_ (fun i hi => ?_) (by simp) hW
    · rw [blkL_snoc hrn]
      simp only [List.map_cons, hrl, hb a ha]
      rw [hlen, hk]
    · rw [List.nodup_append]
      refine ⟨hc, by simp, fun x hx y hy e => ?_⟩
      rw [List.mem_singleton.1 hy] at e
      have := hcl x hx
      omega
    · rcases List.mem_append.1 hi with hi | hi
      · exact Nat.lt_of_lt_of_le (hcl i hi) h2.nx
      · rw [List.mem_singleton.1 hi]
        exact hjo.2.2.1
/-- append to an empty list that the region has made -/
theorem WE.appEmp {i i1 j1 : Nat} {ty1 : TypeId} (lb : Nat) (k : ∀ j, h0.next ≤ j → WE P B Q h0 W N D K ops l ((d, .slice j 0 m (.m 0)) :: s) L ((i, j, .row new e sz) :: T) (cls ++ [j]) (n + 1) ((2, some (lb + 1)) :: rl)) (q : AppQ P s x y t tx (.slice j1 0 0 (.k 0)) u e sz m new i2 off2 c2) (hm : (i1, j1, AObj.cells [] ty1) ∈ T) (hr : ∀ h, Vw h0 W (T.map (·.2) ++ L) h → h.loadN i2 off2 (m * sz) = some new) (h1 : 0 < m) (h2 : m ≤ 1000000) (hc' : cls[lb]? = some j1)
    (hw : wantS ops s N ⟨some d, .call ⟨.builtin .append, #[x, y], #[t, tx]⟩, ty, pos, af, gd⟩ = some true := by exact rfl) (hd : Nat.blt d N = true := by exact rfl) (hi : ops.toList.length - (⟨some d, .call ⟨.builtin .append, #[x, y], #[t, tx]⟩, ty, pos, af, gd⟩ :: l : List Oper).length = i := by exact rfl) (hk : (kindsR ops).getD rl.length 0 = 2 := by decide +kernel) (hf : freeL n ((masksR ops).getD rl.length 0) (2, some (lb + 1)) rl rl.length = true := by decide +kernel) (hrn : rlOk n ((2, some (lb + 1)) :: rl) = true := by decide +kernel) : WE P B Q h0 W N D K ops (⟨some d, .call ⟨.builtin .append, #[x, y], #[t, tx]⟩, ty, pos, af, gd⟩ :: l) s L T cls n rl := by
  refine WE.op2 (v := fun j => .slice j 0 m (.m 0)) (ob := fun _ => .row new e sz) (some (lb + 1)) hw hd hi (fun a ha => ?_) hk hf hrn (fun a h ha hh => ⟨_, h.next, ROp.value ha ?_ (Nat.le_succ _), hh.gd.ss.new _⟩) k
  · show blkS (a.eval x) = (cls[lb]?).map (· + 1)
    rw [ha.ev _ _ q.hx, hc']
    rfl
  · have hg := (hh.own (j1, AObj.cells [] ty1) (List.mem_append.2 (.inl (List.mem_map.2 ⟨_, hm, rfl⟩)))).1
    have hl : h.loadN j1 0 (0 * sz) = some [] := readN_load hg (by simp [AObj.readN, dropN, takeN])
    rw [q.ev rfl (hr h hh)]
    simp only [evOnto, Nat.zero_add]
    rw [if_neg (by omega), if_pos h2, hl]
    simp only [evGrow, Option.map_some, List.nil_append]
/-- a slice of what has a known capacity: no memory is looked at -/
theorem WE.sliceP {t x lo hi mx u v} (he : ∀ h, evOp P h (evS s) ⟨some d, .slice t x lo hi mx, ty, pos, af, gd⟩ = some (.value v, h)) (hx : evS s x = some u) (hu : (match u with | .slice _ _ _ (.m _) => false | _ => true) = true) (k : WE P B Q h0 W N D K ops l ((d, v) :: s) L T cls n ((3, some 0) :: rl)) (hw : wantS ops s N ⟨some d, .slice t x lo hi mx, ty, pos, af, gd⟩ = some true := by exact rfl) (hd : Nat.blt d N = true := by exact rfl) (hk : (kindsR ops).getD rl.length 0 = 3 := by decide +kernel) (hf : freeL n ((masksR ops).getD rl.length 0) (3, some 0) rl rl.length = true := by decide +kernel) : WE P B Q h0 W N D K ops (⟨some d, .slice t x lo hi mx, ty, pos, af, gd⟩ :: l) s L T cls n rl :=
  WE.opZ (some 0) hw hd (fun a ha => by
    show (match a.eval x with | some (.slice i _ _ (.m _)) => some (i + 1) | some _ => some 0 | none => none) = some 0
    rw [ha.ev _ _ hx]
    split
    · rename_i e
      cases e
      cases hu
    · rfl
    · rename_i e
      cases e) hk hf (fun _ h ha hh => ⟨h, ROp.value ha (he h) (Nat.le_refl _), hh.ss⟩) k
end
/-- types of an append -/
structure App1 (P : Program) (s : Sl) (x y : Operand) (t tx : TypeId) (v u : AV) (e : TypeId) (sz : Nat) : Prop where
  hx : evS s x = some v
  hy : evS s y = some u
  ht : P.underlying t = some (.slice e)
  htx : P.underlying tx = some (.slice e)
  hs : sizeT P e = some sz
  hz : ((zeroT P e).bind fun z => some (z.cells.length == sz)) = some true
  hb : ((bytesT P e).bind fun b => some (Nat.ble b 1000000)) = some true
  h0 : Nat.blt 0 sz = true
/-- what comes: nothing, or cells that lie somewhere -/
def ComesA (h0 : Heap) (W : List Nat) (L : Ob) (u : AV) (sz n : Nat) (new : List AV) : Prop := (n = 0 ∧ new = [] ∧ lenOfA u = some 0 ∧ ∀ h, Vw h0 W L h → firstA h sz 0 u = some []) ∨ (0 < n ∧ ∃ i2 off2 c2, u = .slice i2 off2 n c2 ∧ n ≤ 1000000 ∧ new.length = n * sz ∧ new.all okCell = true ∧ ∀ h, Vw h0 W L h → h.loadN i2 off2 (n * sz) = some new)
/-- a list that the region has made: empty, or a row -/
def OwnT (e : TypeId) (sz : Nat) (v : AV) (j : Nat) (o : AObj) (len : Nat) (old : List AV) : Prop := (v = .slice j 0 0 (.k 0) ∧ len = 0 ∧ old = [] ∧ ∃ ty, o = .cells [] ty) ∨ (v = .slice j 0 len (.m 0) ∧ o = .row old e sz ∧ old.length = len * sz)
theorem OwnT.isL {e : TypeId} {sz : Nat} {v : AV} {j : Nat} {o : AObj} {len : Nat} {old : List AV} (k : OwnT e sz v j o len old) : IsL e sz len old v [(j, o)] := by
  rcases k with ⟨rfl, rfl, rfl, ty, rfl⟩ | ⟨rfl, rfl, h⟩
  · exact .cells j 0 [] ty (by simp) (by simp) (Nat.le_refl _)
  · exact .row j h
section
variable {Q : Post} {h0 : Heap} {W : List Nat} {N : Nat} {D : List Nat} {K : List Fr} {s : Sl} {L : Ob} {T : Tg} {cls : List Nat} {n : Nat} {rl : Rl} {ops : Array Oper} {d : Nat} {ty : TypeId} {pos : String} {af : Array Edge} {gd : Option (Nat × Bool)} {l : List Oper}
variable {x y : Operand} {t tx e : TypeId} {u : AV} {sz m : Nat} {new : List AV}
/-- append to a list that the region has made: to itself if nothing comes, else to a row of its own -/
theorem WE.appT {T' : Tg} {i i1 j1 len : Nat} {old : List AV} {o1 : AObj} {v : AV} (lb : Nat) (hT : T = (i1, j1, o1) :: T') (hv : OwnT e sz v j1 o1 len old) (q : App1 P s x y t tx v u e sz) (hu : ComesA h0 W (T.map (·.2) ++ L) u sz m new) (h2 : len + m ≤ 1000000) (hc' : cls[lb]? = some j1)
    (k0 : m = 0 → OwnT e sz v j1 o1 (len + m) (old ++ new) → WE P B Q h0 W N D K ops l ((d, v) :: s) L ((i1, j1, o1) :: T') cls n ((2, some (lb + 1)) :: rl)) (k1 : 0 < m → ∀ j, h0.next ≤ j → OwnT e sz (.slice j 0 (len + m) (.m 0)) j (.row (old ++ new) e sz) (len + m) (old ++ new) → WE P B Q h0 W N D K ops l ((d, .slice j 0 (len + m) (.m 0)) :: s) L ((i, j, .row (old ++ new) e sz) :: T') (cls ++ [j]) (n + 1) ((2, some (lb + 1)) :: rl))
    (hw : wantS ops s N ⟨some d, .call ⟨.builtin .append, #[x, y], #[t, tx]⟩, ty, pos, af, gd⟩ = some true := by exact rfl) (hd : Nat.blt d N = true := by exact rfl) (hi : ops.toList.length - (⟨some d, .call ⟨.builtin .append, #[x, y], #[t, tx]⟩, ty, pos, af, gd⟩ :: l : List Oper).length = i := by exact rfl) (hk : (kindsR ops).getD rl.length 0 = 2 := by decide +kernel) (hf : freeL n ((masksR ops).getD rl.length 0) (2, some (lb + 1)) rl rl.length = true := by decide +kernel) (hrn : rlOk n ((2, some (lb + 1)) :: rl) = true := by decide +kernel) : WE P B Q h0 W N D K ops (⟨some d, .call ⟨.builtin .append, #[x, y], #[t, tx]⟩, ty, pos, af, gd⟩ :: l) s L T cls n rl := by
  have hsz : 0 < sz := by have := q.h0; simpa [Nat.blt_eq] using this
  rcases hu with ⟨rfl, rfl, h4, h5⟩ | ⟨h1, i2, off2, c2, rfl, h4, h5, h6, h7⟩
  · refine WE.app0T lb hT (k0 rfl (by simpa using hv)) ⟨q.hx, q.hy, q.ht, q.htx, q.hs, q.hz, q.hb, q.h0, h4⟩ h5 (fun h hg hs => ?_) ?_ hc' hw hd hk hf
    · rcases hv with ⟨rfl, rfl, rfl, ty, rfl⟩ | ⟨rfl, rfl, hl⟩
      · have hrow : h.row j1 = some [] := by unfold Heap.row; rw [hg]
        simp only [evOnto]
        rw [if_pos (by omega)]
        simp only [Heap.storeN, Option.bind_eq_bind, hrow, Option.bind_some, Nat.zero_mul, Nat.zero_add, overN_nil (l := ([] : List AV)) (off := 0) (by simp), Heap.setRow, hg, hs, Option.map_some]
      · have hrow : h.row j1 = some old := by unfold Heap.row; rw [hg]
        have ho := overN_nil (l := old) (off := len * sz) (by omega)
        have hkn : knownN h j1 sz = len := by
          unfold knownN
          rw [hg]
          simp only [if_true]
          rw [hl, Nat.mul_div_cancel _ hsz]
        simp only [evOnto, hkn, Nat.add_zero]
        rw [if_pos (by omega)]
        simp only [Heap.storeN, Nat.zero_add, Option.bind_eq_bind, hrow, Option.bind_some, ho, Heap.setRow, hg, hs, Option.map_some]
    · rcases hv with ⟨rfl, _⟩ | ⟨rfl, _⟩ <;> rfl
  · rcases hv with ⟨rfl, rfl, rfl, ty, rfl⟩ | ⟨rfl, rfl, hl⟩
    · refine WE.appEmp lb (fun j hj => ?_) ⟨q.hx, q.hy, q.ht, q.htx, q.hs, q.hz, q.hb, q.h0, rfl, Nat.ble_eq_true_of_le h4, by simp [h5], h6⟩ (by rw [hT]; exact List.mem_cons_self ..) h7 h1 (by omega) hc' hw hd hi hk hf hrn
      have := k1 h1 j hj (.inr ⟨rfl, rfl, by simp [h5]⟩)
      rw [Nat.zero_add, List.nil_append] at this
      refine WE.subT ?_ this
      rw [hT]
      exact (List.sublist_cons_self _ _).cons_cons _
    · exact WE.appRowT lb hT (fun j hj => k1 h1 j hj (.inr ⟨rfl, rfl, by rw [List.length_append, hl, h5, Nat.add_mul]⟩)) ⟨q.hx, q.hy, q.ht, q.htx, q.hs, q.hz, q.hb, q.h0, rfl, Nat.ble_eq_true_of_le h4, by simp [h5], h6⟩ h7 hl h1 h2 hc' hw hd hi hk hf hrn
end
end Go.Proofs.YtkebbdpfjhhdhaaGreat.Ev

/- Lists of elements that are some cells each: in memory, sliced, appended, read afterwards. One text for all types of elements. -/
namespace Go.Proofs.YtkebbdpfjhhdhaaGreat.Ev
theorem Rds.appE {h : Heap} {b : Nat} : ∀ {l m : List AV} {off : Nat}, Rds h b off l → Rds h b (off + l.length) m → Rds h b off (l ++ m)
  | [], m, off, _, r => by simpa using r
  | v :: l, m, off, r1, r2 => ⟨r1.1, Rds.appE r1.2 (by rw [List.length_cons] at r2; rw [show off + 1 + l.length = off + (l.length + 1) by omega]; exact r2)⟩
theorem Vw.rdsEn {h0 h : Heap} {W : List Nat} {V : Ob} {j : Nat} {o : AObj} {L : List AV} (k : Vw h0 W V h) (hm : (j, o) ∈ V) (ho : o.has L) : ∀ (m r : List AV) (off : Nat), L.drop off = m ++ r → Rds h j off m
  | [], _, _, _ => trivial
  | v :: m, r, off, e => by
    have hlt : off < L.length := by
      have := congrArg List.length e
      simp at this
      omega
    rw [List.drop_eq_getElem_cons hlt] at e
    obtain ⟨e1, e2⟩ := List.cons.inj e
    refine ⟨?_, k.rdsEn hm ho m r (off + 1) e2⟩
    exact k.rdL hm ho (by rw [List.getElem?_eq_getElem hlt, e1])
section
variable {α : Type} {enc : α → List AV} {sz : Nat}
def enF {α : Type} (enc : α → List AV) (l : List α) : List AV := (l.map enc).flatten
theorem enF_app (l m : List α) : enF enc (l ++ m) = enF enc l ++ enF enc m := by simp [enF]
theorem enF_one (x : α) : enF enc [x] = enc x := by simp [enF]
theorem enF_len (hs : ∀ x, (enc x).length = sz) : ∀ l : List α, (enF enc l).length = l.length * sz
  | [] => by simp [enF]
  | g :: r => by
    have := enF_len hs r
    show (enc g ++ enF enc r).length = _
    rw [List.length_append, this, List.length_cons, hs, Nat.add_mul, Nat.one_mul]
    omega
theorem enF_ok : ∀ {l : List α}, (∀ x ∈ l, (enc x).all okCell = true) → (enF enc l).all okCell = true
  | [], _ => rfl
  | g :: r, k => by
    show (enc g ++ enF enc r).all okCell = true
    rw [List.all_append, enF_ok (l := r) fun w hw => k w (List.mem_cons_of_mem _ hw), k g (List.mem_cons_self ..)]
    rfl
end
section
variable {α : Type} [Inhabited α]
/-- number i of a list -/
def nthE (l : List α) (i : Nat) : α := l[i]?.getD default
theorem nthE_eq {l : List α} {i : Nat} (h : i < l.length) : nthE l i = l[i] := by simp [nthE, h]
theorem nthE_mem {l : List α} {i : Nat} (h : i < l.length) : nthE l i ∈ l := by rw [nthE_eq h]; exact List.getElem_mem h
theorem nthE_take {l : List α} {i k : Nat} (h : i < k) : nthE (l.take k) i = nthE l i := by simp [nthE, h]
theorem nthE_drop (l : List α) (i k : Nat) : nthE (l.drop k) i = nthE l (k + i) := by simp [nthE]
theorem nthE_cons (x : α) (l : List α) (i : Nat) : nthE (x :: l) (i + 1) = nthE l i := by simp [nthE]
theorem take_succE {l : List α} {k : Nat} (h : k < l.length) : l.take (k + 1) = l.take k ++ [nthE l k] := by rw [List.take_succ_eq_append_getElem h, nthE_eq h]
theorem drop_consE {l : List α} {k : Nat} (h : k < l.length) : l.drop k = nthE l k :: l.drop (k + 1) := by rw [List.drop_eq_getElem_cons h, nthE_eq h]
variable {enc : α → List AV} {sz : Nat}
/-- elements in memory -/
def EH (enc : α → List AV) (sz : Nat) (h : Heap) (b off : Nat) (l : List α) : Prop := ∀ i, i < l.length → Rds h b (off + i * sz) (enc (nthE l i))
theorem EH.vw {h0 h : Heap} {V : Ob} {b off : Nat} {l : List α} (k : EH enc sz h0 b off l) (hh : Vw h0 [] V h) : EH enc sz h b off l := fun i hi => hh.rds (by simp) (k i hi)
theorem EH.at_ {h : Heap} {b off : Nat} {l : List α} (k : EH enc sz h b off l) {z : Int} {n : Nat} (e : z.toNat = n) (hi : n < l.length) : Rds h b (off + z.toNat * sz) (enc (nthE l n)) := by
  subst e; exact k _ hi
/-- a slice of elements, to be read -/
def EV (enc : α → List AV) (sz : Nat) (h : Heap) (v : AV) (l : List α) : Prop := ((v = .slice0 ∨ v = .sliceZ) ∧ l = []) ∨ ∃ b off c, v = .slice b off l.length c ∧ EH enc sz h b off l
theorem EV.vw {h0 h : Heap} {V : Ob} {v : AV} {l : List α} (k : EV enc sz h0 v l) (hh : Vw h0 [] V h) : EV enc sz h v l := by
  rcases k with k | ⟨b, off, c, rfl, k⟩
  · exact .inl k
  · exact .inr ⟨b, off, c, rfl, k.vw hh⟩
theorem EV.ne {h : Heap} {v : AV} {l : List α} (k : EV enc sz h v l) (hn : 0 < l.length) : ∃ b off c, v = .slice b off l.length c ∧ EH enc sz h b off l := by
  rcases k with ⟨_, rfl⟩ | k
  · simp at hn
  · exact k
theorem EV.len {P : Program} {t e : TypeId} {h : Heap} {v : AV} {l : List α} (k : EV enc sz h v l) (ht : P.underlying t = some (.slice e)) : ∀ h2, lenA P t h2 v = some (.int .i64 (l.length : Int)) := by
  intro h2
  unfold lenA
  rw [ht]
  rcases k with ⟨rfl | rfl, rfl⟩ | ⟨b, off, c, rfl, _⟩ <;> rfl
/-- a slice of an argument: how far it may be sliced is known -/
def EA (enc : α → List AV) (sz : Nat) (h : Heap) (v : AV) (l : List α) : Prop := (v = .slice0 ∧ l = []) ∨ ∃ b off m, v = .slice b off l.length (.k m) ∧ l.length ≤ m ∧ EH enc sz h b off l
theorem EA.eV {h : Heap} {v : AV} {l : List α} (k : EA enc sz h v l) : EV enc sz h v l := by
  rcases k with ⟨h1, h2⟩ | ⟨b, off, m, rfl, _, k⟩
  · exact .inl ⟨.inl h1, h2⟩
  · exact .inr ⟨b, off, _, rfl, k⟩
theorem EA.vw {h0 h : Heap} {V : Ob} {v : AV} {l : List α} (k : EA enc sz h0 v l) (hh : Vw h0 [] V h) : EA enc sz h v l := by
  rcases k with k | ⟨b, off, m, rfl, hm, k⟩
  · exact .inl k
  · exact .inr ⟨b, off, m, rfl, hm, k.vw hh⟩
theorem EA.ne {h : Heap} {v : AV} {l : List α} (k : EA enc sz h v l) (hn : 0 < l.length) : ∃ b off m, v = .slice b off l.length (.k m) ∧ l.length ≤ m ∧ EH enc sz h b off l := by
  rcases k with ⟨_, rfl⟩ | k
  · simp at hn
  · exact k
theorem EH.tak {h : Heap} {b off k : Nat} {l : List α} (q : EH enc sz h b off l) : EH enc sz h b off (l.take k) := fun i hi => by
  have h1 : i < l.length := by rw [List.length_take] at hi; omega
  have h2 : i < k := by rw [List.length_take] at hi; omega
  rw [nthE_take h2]
  exact q i h1
theorem EH.drp {h : Heap} {b off k : Nat} {l : List α} (q : EH enc sz h b off l) : EH enc sz h b (off + k * sz) (l.drop k) := fun i hi => by
  have h1 : k + i < l.length := by rw [List.length_drop] at hi; omega
  rw [nthE_drop, show off + k * sz + i * sz = off + (k + i) * sz by rw [Nat.add_mul]; omega]
  exact q _ h1
/-- a list of cells that is a slice's whole -/
theorem EH.takV {h : Heap} {b off k : Nat} {c : ACap} {l : List α} (q : EH enc sz h b off l) (hk : k ≤ l.length) : EV enc sz h (.slice b off k c) (l.take k) :=
  .inr ⟨b, off, c, by rw [List.length_take, Nat.min_eq_left hk], q.tak⟩
theorem enF_drop (hs : ∀ x, (enc x).length = sz) : ∀ (l : List α) (i : Nat), i < l.length → (enF enc l).drop (i * sz) = enc (nthE l i) ++ enF enc (l.drop (i + 1))
  | [], _, h => by simp at h
  | g :: r, 0, _ => by rw [Nat.zero_mul, List.drop_zero]; rfl
  | g :: r, i + 1, h => by
    have := enF_drop hs r i (by simpa using h)
    show (enc g ++ enF enc r).drop ((i + 1) * sz) = _
    rw [show (i + 1) * sz = (enc g).length + i * sz by rw [hs, Nat.add_mul, Nat.one_mul]; omega, List.drop_append, List.drop_eq_nil_of_le (by omega), Nat.add_sub_cancel_left, List.nil_append, this, nthE_cons]
    rfl
theorem EH.rds (hs : ∀ x, (enc x).length = sz) {h : Heap} {b : Nat} : ∀ {l : List α} {off : Nat}, EH enc sz h b off l → Rds h b off (enF enc l)
  | [], _, _ => trivial
  | g :: r, off, k => by
    have h0 := k 0 (by simp)
    rw [Nat.zero_mul, Nat.add_zero] at h0
    refine Rds.appE (l := enc g) h0 (EH.rds hs (l := r) fun i hi => ?_)
    have := k (i + 1) (by simpa using hi)
    rw [nthE_cons] at this
    rw [show off + (enc g).length + i * sz = off + (i + 1) * sz by rw [hs, Nat.add_mul, Nat.one_mul]; omega]
    exact this
/-- a list that was made, read afterwards -/
theorem en_v (hs : ∀ x, (enc x).length = sz) {e : TypeId} {h0 h : Heap} {W : List Nat} {V : Ob} {l : List α} {v : AV} {Lv : Ob} {n : Nat} (hw : IsL e sz n (enF enc l) v Lv) (hn : l.length = n) (k : Vw h0 W V h) (hm : ∀ x ∈ Lv, x ∈ V) : EV enc sz h v l := by
  subst hn
  cases hw with
  | nil h1 h2 => exact .inl ⟨.inl rfl, List.length_eq_zero_iff.1 h1⟩
  | cells i c rest t h1 h2 h3 =>
    refine .inr ⟨i, 0, .k c, rfl, fun j hj => ?_⟩
    rw [Nat.zero_add]
    exact k.rdsEn (hm _ (List.mem_cons_self ..)) (AObj.has_cells _ _).left _ _ _ (enF_drop hs l j hj)
  | row i h1 =>
    refine .inr ⟨i, 0, .m 0, rfl, fun j hj => ?_⟩
    rw [Nat.zero_add]
    exact k.rdsEn (hm _ (List.mem_cons_self ..)) (AObj.has_row _ _ _) _ _ _ (enF_drop hs l j hj)
theorem EH.none (hp : ∀ x : α, enc x ≠ []) {h : Heap} {b off : Nat} {l : List α} (hk : EH enc sz h b off l) (hn : 0 < l.length) (off2 : Nat) : h.loadN b off2 0 = some [] := by
  have h1 : ∃ o v, h.at1 b o = some v := by
    have h2 := hk 0 hn
    cases he : enc (nthE l 0) with
    | nil => exact absurd he (hp _)
    | cons x r => rw [he] at h2; exact ⟨_, _, h2.1.at_⟩
  obtain ⟨o, v, h1⟩ := h1
  unfold Heap.at1 at h1
  unfold Heap.loadN
  split at h1
  · simp [takeN]
  · simp [takeN]
  · rfl
  · cases h1
theorem EH.loadN (hs : ∀ x, (enc x).length = sz) (hz : 0 < sz) {h : Heap} {b off : Nat} {l : List α} (hk : EH enc sz h b off l) (hn : 0 < l.length) : h.loadN b off (l.length * sz) = some (enF enc l) := by
  have e := enF_len hs l
  refine (hk.rds hs).loadN (fun q => ?_) e
  rw [q] at e
  have := Nat.mul_pos hn hz
  simp at e
  omega
/-- what an append takes: the first ones, the last ones, all of a list -/
theorem comesE (hs : ∀ x, (enc x).length = sz) (hz : 0 < sz) {h : Heap} {b off : Nat} {c : ACap} {l : List α} {L : Ob} (hk : EH enc sz h b off l) (hok : ∀ x ∈ l, (enc x).all okCell = true) (h0 : l.length = 0 → ∀ h2, Vw h [] L h2 → h2.loadN b off 0 = some []) (h2 : l.length ≤ 1000000) : ComesA h [] L (.slice b off l.length c) sz l.length (enF enc l) := by
  rcases Nat.eq_zero_or_pos l.length with h1 | h1
  · have : l = [] := List.length_eq_zero_iff.1 h1
    subst this
    exact .inl ⟨rfl, rfl, rfl, fun h2 hh => by show h2.loadN b off (0 * sz) = _; rw [Nat.zero_mul]; exact h0 rfl h2 hh⟩
  · exact .inr ⟨h1, b, off, c, rfl, h2, enF_len hs l, enF_ok hok, fun h2 hh => (hk.vw hh).loadN hs hz h1⟩
end
theorem slK_to {P : Program} {t e : TypeId} {sz : Nat} (ht : P.underlying t = some (.slice e)) (hs : sizeT P e = some sz) {h : Heap} {i off k n m : Nat} (hk : k ≤ n) (hm : n ≤ m) : evSlice P h t (.slice i off n (.k m)) none (some (.int .i64 (k : Int))) none = some (.slice i off k (.k m)) := by
  unfold evSlice
  rw [if_neg (by simp), ht]
  simp only [hs, evSliceK, optB, boundIn, Option.bind_some]
  rw [if_pos (by omega)]
  simp
theorem slK_from {P : Program} {t e : TypeId} {sz : Nat} (ht : P.underlying t = some (.slice e)) (hs : sizeT P e = some sz) {h : Heap} {i off k n m : Nat} (hk : k ≤ n) (hm : n ≤ m) : evSlice P h t (.slice i off n (.k m)) (some (.int .i64 (k : Int))) none none = some (.slice i (if m - k = 0 then off else off + k * sz) (n - k) (.k (m - k))) := by
  unfold evSlice
  rw [if_neg (by simp), ht]
  simp only [hs, evSliceK, optB, boundIn, Option.bind_some]
  rw [if_pos (by omega)]
  by_cases hc : m - k = 0
  · simp [hc]; omega
  · simp [hc]; omega
section
variable {P : Program} {B : Base} {Q : Post} {h0 : Heap} {W : List Nat} {N : Nat} {D : List Nat} {K : List Fr} {s : Sl} {L : Ob} {T : Tg} {md : Bool} {ops : Array Oper} {d : Nat} {ty : TypeId} {pos : String} {af : Array Edge} {gd : Option (Nat × Bool)} {l : List Oper}
theorem St.sliceG {t : TypeId} {x : Operand} {lo hi mx : Option Operand} {v : AV} (he : ∀ h, Vw h0 W L h → evOp P h (evS s) ⟨some d, .slice t x lo hi mx, ty, pos, af, gd⟩ = some (.value v, h)) (k : WO P B Q h0 W N D K md ops l ((d, v) :: s) L T) (hw : wantS ops s N ⟨some d, .slice t x lo hi mx, ty, pos, af, gd⟩ = some true := by exact rfl) (hd : Nat.blt d N = true := by exact rfl) : WO P B Q h0 W N D K md ops (⟨some d, .slice t x lo hi mx, ty, pos, af, gd⟩ :: l) s L T :=
  WO.opE hw hd (fun _ h ha hh => ⟨h, ROp.value ha (he h hh) (Nat.le_refl _), hh.gd.ss⟩) k
theorem St.lenG {x : Operand} {t : TypeId} {n : Nat} {v : AV} (hx : evS s x = some v) (hl : ∀ h, lenA P t h v = some (.int .i64 (n : Int))) (k : WO P B Q h0 W N D K md ops l ((d, .int .i64 (n : Int)) :: s) L T) (hw : wantS ops s N ⟨some d, .call ⟨.builtin .len, #[x], #[t]⟩, ty, pos, af, gd⟩ = some true := by exact rfl) (hd : Nat.blt d N = true := by exact rfl) : WO P B Q h0 W N D K md ops (⟨some d, .call ⟨.builtin .len, #[x], #[t]⟩, ty, pos, af, gd⟩ :: l) s L T :=
  WO.pure hw hd (fun h => by unfold evOp; simp [oCall, mapO, hx, evBuiltin, hl h]) k
theorem St.appG {x y : Operand} {t tx e : TypeId} {u : AV} {sz n : Nat} {new : List AV} {Lv Lk : Ob} {v : AV} {len : Nat} {old : List AV} (hv : IsL e sz len old v Lv) (hp : (Lv ++ Lk).Perm L) (q : App1 P s x y t tx v u e sz) (hu : ComesA h0 W L u sz n new) (h2 : len + n ≤ 1000000) (k : ∀ v' Lv', IsL e sz (len + n) (old ++ new) v' Lv' → WO P B Q h0 W N D K false ops l ((d, v') :: s) (Lv' ++ Lk) [])
    (hw : wantS ops s N ⟨some d, .call ⟨.builtin .append, #[x, y], #[t, tx]⟩, ty, pos, af, gd⟩ = some true := by exact rfl) (hd : Nat.blt d N = true := by exact rfl) : WO P B Q h0 W N D K false ops (⟨some d, .call ⟨.builtin .append, #[x, y], #[t, tx]⟩, ty, pos, af, gd⟩ :: l) s L [] := by
  rcases hu with ⟨rfl, rfl, h3, h4⟩ | ⟨h1, i2, off2, c2, rfl, h3, h4, h5, h6⟩
  · exact St.app0 hv hp (k v Lv (by rw [List.append_nil]; exact hv)) ⟨q.hx, q.hy, q.ht, q.htx, q.hs, q.hz, q.hb, q.h0, h3⟩ h4 hw hd
  · exact St.appLV hv hp k ⟨q.hx, q.hy, q.ht, q.htx, q.hs, q.hz, q.hb, q.h0, rfl, Nat.ble_eq_true_of_le h3, by simp [h4], h5⟩ h6 h1 h2 hw hd
theorem Con.subG {f : Nat} {args : List AV} {h : Heap} {R : AV → Ob → Prop} (k : ∃ v L, Con P B f args h W v L ∧ ∃ L0 : Ob, L0.Sublist L ∧ R v L0) : ∃ v L, Con P B f args h W v L ∧ R v L := by
  obtain ⟨v, L, hc, L0, hs, hr⟩ := k
  exact ⟨v, L0, hc.sub hs, hr⟩
theorem IsL.okG {e : TypeId} {sz len : Nat} {l : List AV} {v : AV} {Lv : Ob} (k : IsL e sz len l v Lv) : okCell v = true := by
  rcases k.open_ with ⟨rfl, _⟩ | ⟨i, c, o, rfl, _⟩ <;> rfl
theorem IsL.lenG {t e q : TypeId} {sz n : Nat} {l : List AV} {v : AV} {Lv : Ob} (k : IsL e sz n l v Lv) (ht : P.underlying t = some (.slice q)) : ∀ h2, lenA P t h2 v = some (.int .i64 (n : Int)) := by
  intro h2
  unfold lenA
  rw [ht]
  rcases k.open_ with ⟨rfl, _, h1, _⟩ | ⟨i, c, o, rfl, _⟩
  · subst h1; rfl
  · rfl
theorem WK.joinG {X : Type} {F : Fr} (I : X → Prop) (s2 : X → Sl) (L2 : X → Ob) (reg : (∀ x, I x → WK P B Q h0 W N D K (s2 x) (L2 x)) → WK P B Q h0 W N D (F :: K) s L) (k' : ∀ x, I x → WK P B Q h0 W N D K (s2 x) (L2 x)) : WK P B Q h0 W N D (F :: K) s L := reg k'
theorem Rds.headG {h : Heap} {b off : Nat} {x : AV} {l : List AV} (k : Rds h b off (x :: l)) : Rd h b (off + 0) x := k.1
theorem Vw.rdG {h : Heap} {V : Ob} {j off : Nat} {l : List AV} {t : TypeId} {v : AV} (k : Vw h0 W V h) (hm : (j, .cells l t) ∈ V) (hv : nthN off l = some v) : Rd h j off v := ⟨(k.own _ hm).2, by unfold Heap.at1; rw [(k.own _ hm).1]; exact hv⟩
end
end Go.Proofs.YtkebbdpfjhhdhaaGreat.Ev
