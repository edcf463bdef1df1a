/- Code that ranges over a map, whose order is drawn: all that it may come to. -/
import Derived.Test.YtkebbdpfjhhdhaaGreatEv9
import Derived.Maps.RangeRun
namespace Go.Proofs.YtkebbdpfjhhdhaaGreat.Ev
variable {P : Program} {B : Base}

/-- memory, with all numbers from 'next' on free -/
def HRw (E : Env) (h : Heap) (W : World) : Prop := ∀ top, HR top E h W
theorem HRw.up {top : Nat} {E E' : Env} {h h' : Heap} {W W' : World} (k : HRw E h W) (x : Ext E E' h h' W W') (k' : HR top E' h' W') : HRw E' h' W' := fun t => ⟨k'.obj, k'.inj, fun i h1 h2 => by
  cases e : E' i with
  | none => rfl
  | some p =>
    have h3 : E i = none := (k (i + 1)).lt i (Nat.le_trans x.nx h1) (Nat.lt_succ_self _)
    have := (x.fresh i p.1 p.2 h3 (by rw [e])).2.1
    omega, k'.hid, k'.clean⟩
theorem HRw.trans {E E' E'' : Env} {h h' h'' : Heap} {W W' W'' : World} (k : HRw E h W) (k' : HRw E' h' W') (x : Ext E E' h h' W W') (x' : Ext E' E'' h' h'' W' W'') : Ext E E'' h h'' W W'' := x.trans (k h'.next) (k' h'.next) (Nat.le_refl _) x'

def PW (E : Env) (h : Heap) (W : World) (o : Out) : Exit → Act → World → Prop := fun e A' W' => e = o.ex.conc ∧ ∃ E', Ext E E' h o.h W W' ∧ HRw E' o.h W' ∧ AR E' o.a A'
theorem PW.trans {E E1 : Env} {h h1 : Heap} {W W1 : World} {o : Out} (k : HRw E h W) (k1 : HRw E1 h1 W1) (x : Ext E E1 h h1 W W1) {e A' W'} (p : PW E1 h1 W1 o e A' W') : PW E h W o e A' W' := by
  obtain ⟨rfl, E', g1, g2, g3⟩ := p
  exact ⟨rfl, E', k.trans k1 x g1, g2, g3⟩
theorem PC.toW {top : Nat} {E : Env} {h : Heap} {W : World} {o : Out} (k : HRw E h W) {e A' W'} (p : PC top E h W o e A' W') : PW E h W o e A' W' := by
  obtain ⟨rfl, E', g1, g2, g3⟩ := p
  exact ⟨rfl, E', g1, k.up g1 g2, g3⟩
def QW (Q : Post) (E : Env) (h : Heap) (W : World) : Exit → Act → World → Prop := fun e A' W' => ∃ o, Q o.ex o.a o.h ∧ PW E h W o e A' W'

/-- the code comes to Q, whichever order the maps give -/
def NC (P : Program) (Q : Post) (rnd : Option Nat) (c : Code) (a : AAct) (h : Heap) : Prop := ∀ (E : Env) (W : World) (A : Act) (rb : Option Nat), HRw E h W → AR E a A → RR E rnd rb → ∀ n, c.wpIn (FF rb) n P (QW Q E h W) A W
theorem NC.mono {Q Q' : Post} {rnd c a h} (k : NC P Q rnd c a h) (hq : ∀ ex a h, Q ex a h → Q' ex a h) : NC P Q' rnd c a h := fun _ _ _ _ k1 k2 k3 n => wpIn_mono (k _ _ _ _ k1 k2 k3 n) fun _ _ _ ⟨o, h1, h2⟩ => ⟨o, hq _ _ _ h1, h2⟩
theorem NC.run {Q : Post} {rnd c a h} (hP : P.follows .mixedOrders = true) (hB : SoundC P B) (k : KRun P B Q [.job (.code rnd c)] .normal a h) : NC P Q rnd c a h := by
  intro E W A rb k1 k2 k3 n
  obtain ⟨o, ⟨m, e⟩, hq⟩ := k
  exact wpIn_mono ((runB_sound hP hB.runs m).a.code e (k1 o.h.next) (Nat.le_refl _) k2 k3 n) fun _ _ _ p => ⟨o, hq, p.toW k1⟩
theorem NC.seq {Q R : Post} {rnd x y a h} (k : NC P R rnd x a h) (hn : ∀ a h, R .normal a h → NC P Q rnd y a h) (he : ∀ ex a h, R ex a h → ex ≠ .normal → Q ex a h) : NC P Q rnd (.seq x y) a h := by
  intro E W A rb k1 k2 k3 n
  refine wpIn_seq (wpIn_mono (k _ _ _ _ k1 k2 k3 n) ?_)
  rintro e A' W' ⟨⟨ex, v, a1, h1⟩, hr, rfl, E', x1, x2, x3⟩
  cases ex with
  | normal => exact wpIn_mono (hn a1 h1 hr _ _ _ _ x2 x3 (k3.mono x1.le) n) fun _ _ _ ⟨o, q1, q2⟩ => ⟨o, q1, q2.trans k1 x2 x1⟩
  | exit i => exact ⟨⟨.exit i, v, a1, h1⟩, he _ _ _ hr (by simp), rfl, E', x1, x2, x3⟩
  | ret => exact ⟨⟨.ret, v, a1, h1⟩, he _ _ _ hr (by simp), rfl, E', x1, x2, x3⟩
theorem NC.block {Q : Post} {rnd id b a h} (k : NC P (fun ex a h => Q (ex.out id) a h) rnd b a h) : NC P Q rnd (.block id b) a h := by
  intro E W A rb k1 k2 k3 n
  refine wpIn_block (wpIn_mono (k _ _ _ _ k1 k2 k3 n) ?_)
  rintro e A' W' ⟨⟨ex, v, a1, h1⟩, hr, rfl, E', x1, x2, x3⟩
  cases ex with
  | normal => exact ⟨⟨.normal, v, a1, h1⟩, hr, rfl, E', x1, x2, x3⟩
  | ret => exact ⟨⟨.ret, v, a1, h1⟩, hr, rfl, E', x1, x2, x3⟩
  | exit j =>
    show Exit.inBlock id _ (.exit j) A' W'
    unfold Exit.inBlock
    simp only [Ex.out] at hr
    by_cases hj : j = id
    · rw [if_pos hj] at hr
      simp only [hj, if_true]
      exact ⟨⟨.normal, v, a1, h1⟩, hr, rfl, E', x1, x2, x3⟩
    · rw [if_neg hj] at hr
      simp only [hj, if_false]
      exact ⟨⟨.exit j, v, a1, h1⟩, hr, rfl, E', x1, x2, x3⟩
theorem NC.cond {Q : Post} {rnd} {c : Operand} {x y : Code} {a h} {b : Bool} (hb : a.eval c = some (.bool b)) (k : NC P Q rnd (if b then x else y) a h) : NC P Q rnd (.cond c x y) a h := by
  intro E W A rb k1 k2 k3 n
  have h1 := k2.eval hb
  simp only [VR] at h1
  exact wpIn_cond h1 (k _ _ _ _ k1 k2 k3 n)
theorem NC.loop {Q : Post} {rnd b} {I : Nat → AAct → Heap → Prop} (hI : ∀ m a h, I m a h → NC P (fun ex a h => (ex = .normal ∧ ∃ m', m' < m ∧ I m' a h) ∨ (ex ≠ .normal ∧ Q ex a h)) rnd b a h) {m a h} (k : I m a h) : NC P Q rnd (.loop b) a h := by
  intro E W A rb k1 k2 k3 n
  refine wpIn_loop_rounds (m + 1) ?_
  have key : ∀ M m, m ≤ M → ∀ {a h E W A}, I m a h → HRw E h W → AR E a A → RR E rnd rb → Code.roundsIn (FF rb) n P b (QW Q E h W) (M + 1) A W := by
    intro M
    induction M with
    | zero =>
      intro m hm a h E W A hi k1 k2 k3
      rw [roundsIn_succ]
      refine wpIn_mono (hI m a h hi _ _ _ _ k1 k2 k3 n) ?_
      rintro e A' W' ⟨⟨ex, v, a1, h1⟩, hr, rfl, E', x1, x2, x3⟩
      rcases hr with ⟨rfl, m', hm', hi'⟩ | ⟨hne, hq⟩
      · omega
      · cases ex with
        | normal => exact absurd rfl hne
        | exit i => exact ⟨⟨.exit i, v, a1, h1⟩, hq, rfl, E', x1, x2, x3⟩
        | ret => exact ⟨⟨.ret, v, a1, h1⟩, hq, rfl, E', x1, x2, x3⟩
    | succ M ih =>
      intro m hm a h E W A hi k1 k2 k3
      rw [roundsIn_succ]
      refine wpIn_mono (hI m a h hi _ _ _ _ k1 k2 k3 n) ?_
      rintro e A' W' ⟨⟨ex, v, a1, h1⟩, hr, rfl, E', x1, x2, x3⟩
      rcases hr with ⟨rfl, m', hm', hi'⟩ | ⟨hne, hq⟩
      · exact rounds_post (fun _ _ _ ⟨o, q1, q2⟩ => ⟨o, q1, q2.trans k1 x2 x1⟩) (ih m' (by omega) hi' x2 x3 (k3.mono x1.le))
      · cases ex with
        | normal => exact absurd rfl hne
        | exit i => exact ⟨⟨.exit i, v, a1, h1⟩, hq, rfl, E', x1, x2, x3⟩
        | ret => exact ⟨⟨.ret, v, a1, h1⟩, hq, rfl, E', x1, x2, x3⟩
  exact key m m (Nat.le_refl _) k k1 k2 k3

/-- a call, out of its body -/
theorem NC.call {f : Nat} {fn : Func} {c : Code} {args : List AV} {h : Heap} {Wr : List Nat} {h0 : Heap} {R : AV → Ob → Prop} (hen : enters P f = some fn) (hb : fn.body = some c)
    (k : NC P (Ret P fn h0 Wr R) none c ⟨initT args 0, sizeN args.length fn.ntmps, []⟩ h) {E : Env} {W : World} {Args : List Value} (k1 : HRw E h W) (hv : VRs E args Args) (n : Nat) :
    CallsIn Fence.wide n P f Args.toArray W fun e W' => ∃ v g L V E', SS h0 Wr L g ∧ R v L ∧ e = .returned V ∧ Ext E E' h g W W' ∧ HRw E' g W' ∧ VR E' v V := by
  refine callsIn_of_wp_marks (enter_run hen #[] W).2 hb trivial ?_ rfl
  have hlen := hv.len
  have hA : AR E ⟨initT args 0, sizeN args.length fn.ntmps, []⟩ { tmps := Args.toArray ++ Array.replicate (fn.ntmps - Args.toArray.size) undef, defers := [] } := by
    refine ⟨⟨?_, fun i => ?_⟩, rfl⟩
    · simp only [Array.size_append, List.size_toArray, Array.size_replicate, hlen]
      unfold sizeN
      split
      · rename_i hh; have := Nat.le_of_ble_eq_true hh; omega
      · rename_i hh; have : ¬ args.length ≤ fn.ntmps := fun h => hh (Nat.ble_eq_true_of_le h); omega
    · have := TR.init 0 hv i
      simp only [Nat.not_lt_zero, if_false, Nat.sub_zero] at this
      suffices e2 : (Args.toArray ++ Array.replicate (fn.ntmps - Args.toArray.size) undef).getD i undef = Args.getD i undef by
        show VR E _ ((Args.toArray ++ Array.replicate (fn.ntmps - Args.toArray.size) undef).getD i undef)
        rw [e2]; exact this
      simp only [Array.getD_eq_getD_getElem?, List.getD_eq_getElem?_getD]
      by_cases hi : i < Args.length
      · rw [Array.getElem?_append_left (by simpa using hi)]; simp
      · rw [List.getElem?_eq_none (by omega), Array.getElem?_append_right (by simpa using hi)]
        simp only [Option.getD_none, Array.getElem?_replicate]
        split <;> rfl
  refine wpIn_mono (k _ _ _ _ k1 hA (show RR E none none from trivial) n) ?_
  rintro e' A' W' ⟨⟨ex, v, a, h1⟩, hr, rfl, E', x, k', ha'⟩
  obtain ⟨hne, h2, l, L, hsh, hres, hss, hR⟩ := hr
  have hfin : LeavesInM Fence.wide n P fn A'.tmps (fun e W' => ∃ v g L V E', SS h0 Wr L g ∧ R v L ∧ e = .returned V ∧ Ext E E' h g W W' ∧ HRw E' g W' ∧ VR E' v V) A'.defers .returning W' := by
    refine shut_run hsh (k' h1.next) (Nat.le_refl _) ha'.de (fun W2 x2 k2 => ?_) n
    obtain ⟨L', r1, r2⟩ := results_run (P := P) k2 ha' hres
    have k3 := k'.up x2 k2
    refine ⟨_, ?_, oneOf l, h2, L, _, E', hss, hR, rfl, k1.trans k' x x2, k3, oneOf_run r2⟩
    unfold results
    have hf : ∀ f : ResultVar → Sem Value, (∀ r, f r = resOne A' r) → ((do let vs ← fn.results.mapM f; pure (if h : vs.size = 1 then vs[0] else .tuple vs)) : Sem Value).run P W2 = .ok (if h : L'.toArray.size = 1 then L'.toArray[0] else .tuple L'.toArray) W2 := by
      intro f hf
      rw [funext hf]
      simp only [Array.mapM_eq_mapM_toList, Sem.run_bind, Sem.run_map, r1, Result.andThen_ok, Sem.run_pure]
    exact hf _ (fun r => by cases r <;> rfl)
  cases ex with
  | normal => exact hfin
  | ret => exact hfin
  | exit id => exact (hne id rfl).elim
theorem ERs.mem {E : Env} {F : MapEntry} : ∀ {l L}, ERs E l L → F ∈ L → ∃ e ∈ l, ER E e F
  | [], L, h, hF => by simp only [ERs] at h; subst h; cases hF
  | e :: l, L, h, hF => by
    obtain ⟨G, L', rfl, h1, h2⟩ := h
    rcases List.mem_cons.1 hF with rfl | hF
    · exact ⟨e, List.mem_cons_self .., h1⟩
    · obtain ⟨e', h3, h4⟩ := ERs.mem h2 hF
      exact ⟨e', List.mem_cons_of_mem _ h3, h4⟩
/-- the next entry of a map that is ranged over: any one that is left -/
theorem next_nd {E : Env} {h : Heap} {W : World} (k : HRw E h W) {i m since st ck : Nat} {seen : List Nat} {es : List (AV × AV × Nat)} (hi : h.get i = some (.iter m since seen st)) (hm : h.get m = some (.map es ck)) (hold : ∀ e ∈ es, e.2.2 < since) (hsc : since ≤ st) (hlo : h.lo ≤ i) {X : Value} (hX : VR E (.ptr i 0) X) (ty : TypeId) :
    (leftE seen es = [] ∧ (Instr.next X false ty).run P W = .ok (.tuple #[.bool false]) W) ∨
    ∃ e ∈ leftE seen es, ∃ g V W', h.set i (.iter m since (seen ++ [e.2.2]) ck) = some g ∧ (Instr.next X false ty).run P W = .ok V W' ∧ VR E (.tup [.bool true, e.1, e.2.1]) V ∧ Ext E E h g W W' ∧ HRw E g W' := by
  obtain ⟨b, c, d, Es, hE, hc0, ⟨c3, hEm⟩, hW, hWm, hes⟩ := (k h.next).iterAt hi hm
  simp only [VR] at hX
  obtain ⟨d', c', hE', rfl⟩ := hX
  rw [hE] at hE'
  cases hE'
  have hleft := ERs.left (seen := seen) hes
  have hh : ∀ x ∈ Es.toArray.toList, x.born < since := fun x hx => by
    obtain ⟨e, h1, h2⟩ := hes.mem (by simpa using hx)
    rw [h2.born]; exact hold e h1
  have hlf : leftOf Es.toArray seen.toArray = (Es.filter fun e => !seen.contains e.born).toArray := by unfold leftOf; simp
  simp only [hc0, Nat.add_zero]
  rcases run_next_at (P := P) W ty d b since st seen.toArray Es.toArray ck hW hWm hh hsc with ⟨h1, h2⟩ | ⟨F, h1, W1, h2, h3⟩
  · left
    rw [hlf] at h1
    refine ⟨?_, h2⟩
    have : (Es.filter fun e => !seen.contains e.born) = [] := List.length_eq_zero_iff.1 (by simpa using h1)
    rw [this] at hleft
    cases hl : leftE seen es with
    | nil => rfl
    | cons x l => rw [hl] at hleft; obtain ⟨_, _, hh, _⟩ := hleft; cases hh
  · right
    rw [hlf] at h1
    obtain ⟨e, h4, h5⟩ := hleft.mem (F := F) (by simpa using h1)
    have hset : ∃ g, h.set i (.iter m since (seen ++ [e.2.2]) ck) = some g := by
      unfold Heap.set
      rw [if_pos (by simpa using hlo), hi]
      exact ⟨_, rfl⟩
    obtain ⟨g, hg⟩ := hset
    have hW1 : W1.heap = W.heap := by rcases h2 with rfl | rfl <;> rfl
    have hlt : d < W1.heap.size := by rw [hW1]; exact (Array.getElem?_eq_some_iff.1 hW).1
    have k1 : ∀ top, HR top E h W1 := fun top => (k top).of_heap hW1
    have hall : ∀ top, HR top E g (W1.putObj d (.mapIter (some b) since (seen ++ [e.2.2]).toArray ck)) ∧ Ext E E h g W1 (W1.putObj d (.mapIter (some b) since (seen ++ [e.2.2]).toArray ck)) := fun top =>
      (k1 top).set hg hE (W1.putObj d (.mapIter (some b) since (seen ++ [e.2.2]).toArray ck)) _ (World.putObj_heap_same hlt) ⟨b, c, d, hE, hc0, ⟨c3, hEm⟩, rfl⟩ (fun q hq => World.putObj_heap_other hq) (by simp) rfl rfl rfl
    refine ⟨e, h4, g, _, _, hg, h3, ?_, ?_, ?_⟩
    · simp only [VR]; exact ⟨[.bool true, F.key, F.val], rfl, VRs.cons (by simp [VR]) (VRs.cons h5.key (VRs.cons h5.val VRs.nil))⟩
    · have hx := (hall 0).2
      have : (seen.toArray.push F.born) = (seen ++ [e.2.2]).toArray := by rw [h5.born]; simp
      rw [this]
      rcases h2 with rfl | rfl
      · exact hx
      · exact hx.of_drew
    · intro top
      have : (seen.toArray.push F.born) = (seen ++ [e.2.2]).toArray := by rw [h5.born]; simp
      rw [this]
      exact (hall top).1
theorem NC.next {Q : Post} {rnd} {id : Nat} {ops : Array Oper} {d t : Nat} {ty : TypeId} {pos : String} {af : Array Edge} {l : List Oper} {a : AAct} {h : Heap} {i m since st ck : Nat} {seen : List Nat} {es : List (AV × AV × Nat)} (hP : P.follows .mixedOrders = true) (hB : SoundC P B)
    (hops : ops.toList = ⟨some d, .next (.tmp t) false, ty, pos, af, none⟩ :: l) (ha : a.at t = .ptr i 0) (hi : h.get i = some (.iter m since seen st)) (hm : h.get m = some (.map es ck)) (hold : ∀ e ∈ es, e.2.2 < since) (hsc : since ≤ st) (hlo : h.lo ≤ i) (hd : d < a.size)
    (h0 : leftE seen es = [] → ∀ a', a.put (some d) (.tup [.bool false]) = some a' → KRun P B Q [.job (.ops ops l)] .normal a' h)
    (h1 : ∀ e ∈ leftE seen es, ∀ a' g, a.put (some d) (.tup [.bool true, e.1, e.2.1]) = some a' → h.set i (.iter m since (seen ++ [e.2.2]) ck) = some g → KRun P B Q [.job (.ops ops l)] .normal a' g) : NC P Q rnd (.region id ops false) a h := by
  intro E W A rb k1 k2 k3 n
  refine wpIn_region ?_
  have hl1 : l = ops.toList.drop 1 := by rw [hops]; rfl
  have hz : 0 < ops.size := by
    have := congrArg List.length hops
    simp at this; omega
  have hop : ops[0]? = some ⟨some d, .next (.tmp t) false, ty, pos, af, none⟩ := by
    rw [← Array.getElem?_toList, hops]; rfl
  rw [show List.range ops.size = 0 :: (List.range ops.size).drop 1 from by
    rw [← List.drop_zero (l := List.range ops.size), List.drop_eq_getElem_cons (by simpa using hz)]; simp]
  rw [wpOpsIn, hop]
  have hput : ∀ v, a.put (some d) v = some { a with tmps := a.tmps.set d v } := fun v => by
    unfold AAct.put
    simp only
    rw [if_pos (by simpa [Nat.blt_eq] using hd)]
  have hX : VR E (.ptr i 0) (A.eval (.tmp t)) := k2.eval (show a.eval (.tmp t) = some (.ptr i 0) by simp only [AAct.eval, ha])
  have hwt : Region.wanted (⟨some d, .next (.tmp t) false, ty, pos, af, none⟩ : Oper) (yielded ops A.tmps) = true := rfl
  simp only [hwt, if_true]
  refine ⟨fun _ _ => FF_fn _ _, ?_⟩
  rw [Oper.semAt_eq _ _ _ (by intro c hc; cases hc)]
  have fin : ∀ {a' g E' W' V}, AR E' a' V → Ext E E' h g W W' → HRw E' g W' → KRun P B Q [.job (.ops ops l)] .normal a' g → wpOpsIn (FF rb) n P ops (QW Q E h W) ((List.range ops.size).drop 1) V W' := by
    intro a' g E' W' V v1 v2 v3 ⟨o, ⟨m', e⟩, hq⟩
    exact wpOpsIn_post ((runB_sound hP hB.runs m').a.ops e hl1 (v3 o.h.next) (Nat.le_refl _) v1 (rb := rb) n) fun _ _ _ p => ⟨o, hq, (p.toW v3).trans k1 v3 v2⟩
  rcases next_nd (P := P) k1 hi hm hold hsc hlo hX ty with ⟨q1, q2⟩ | ⟨e, q1, g, V, W', q2, q3, q4, q5, q6⟩
  · simp only [execOp, Sem.run_bind, q2, Result.andThen_ok, Sem.run_pure]
    exact fin (k2.put (hput _) (by simp only [VR]; exact ⟨[.bool false], rfl, VRs.cons (by simp [VR]) VRs.nil⟩)) (Ext.refl _ _ _) k1 (h0 q1 _ (hput _))
  · simp only [execOp, Sem.run_bind, q3, Result.andThen_ok, Sem.run_pure]
    exact fin ((k2.mono q5.le).put (hput _) q4) q5 q6 (h1 e q1 _ g (hput _) q2)
/-! as a walk -/
def thenN (P : Program) (Q : Post) (rnd : Option Nat) (y : Code) : Post := fun ex a h => match ex with
  | .normal => NC P Q rnd y a h
  | ex => Q ex a h
theorem NC.walk {Q : Post} {rnd c a h} {h0 : Heap} {W : List Nat} {N : Nat} {D : List Nat} {s : Sl} {L : Ob} (hP : P.follows .mixedOrders = true) (hB : SoundC P B) (ha : Sat a N s D) (hh : SS h0 W L h) (k : WK P B Q h0 W N D [.job (.code rnd c)] s L) : NC P Q rnd c a h := NC.run hP hB (k.run a h ha hh)
theorem WK.here {Q : Post} {h0 : Heap} {W : List Nat} {N : Nat} {D : List Nat} {s : Sl} {L : Ob} (k : ∀ a h, Sat a N s D → SS h0 W L h → Q .normal a h) : WK P B Q h0 W N D [] s L := ⟨k⟩
theorem WK.leave {Q : Post} {h0 : Heap} {W : List Nat} {N : Nat} {D : List Nat} {K : List Fr} {s : Sl} {L : Ob} {rnd} {i : Nat} (k : ∀ a h, Sat a N s D → SS h0 W L h → Q (.exit i) a h) (hl : leaves K i = true := by exact rfl) : WK P B Q h0 W N D (.job (.code rnd (.exit i)) :: K) s L := ⟨fun a h ha hh => KRun.exit (KRun.leaves hl (k a h ha hh))⟩
section
variable {Q : Post} {h0 : Heap} {W : List Nat} {N : Nat} {D : List Nat} {K : List Fr} {s : Sl} {L : Ob} {T : Tg} {md : Bool} {ops : Array Oper} {d : Nat} {ty : TypeId} {pos : String} {af : Array Edge} {gd : Option (Nat × Bool)} {l : List Oper}
end
/-! a call that makes one block, seen from a memory of one object -/
theorem HR.adopt {top : Nat} {E : Env} {h : Heap} {W W' : World} (k : HR top E h W) (ht : h.next + 1 ≤ top) (o : AObj) (O : Obj) (b : Nat) (c : Nat × Nat) (ho : OR (E.put h.next (b, c)) h.next o O) (hb : W.heap.size ≤ b) (hO : W'.heap[b]? = some O) (hW : RowKit.Below W.heap.size W W') :
    HR top (E.put h.next (b, c)) (h.new o).2 W' ∧ Ext E (E.put h.next (b, c)) h (h.new o).2 W W' ∧ (E.put h.next (b, c)) h.next = some (b, c) := by
  have hE : E h.next = none := k.lt _ (Nat.le_refl _) (by omega)
  have hle := Env.put_le (x := (b, c)) hE
  have hn := k.newHid
  have hg := h.get_new o hn
  have hput : ∀ i, i ≠ h.next → (E.put h.next (b, c)) i = E i := fun i hi => if_neg hi
  have hself : (E.put h.next (b, c)) h.next = some (b, c) := if_pos rfl
  have hsz : ∀ i b d, (h.get i).isSome → E i = some (b, d) → b < W.heap.size := fun i b d hi he => by
    obtain ⟨oo, hoo⟩ := Option.isSome_iff_exists.1 hi
    exact k.block_lt hoo he
  refine ⟨⟨fun i o' hi => ?_, fun i q b d d' hi hq ei eq => ?_, fun i h1 h2 => ?_, fun r hr => ?_, fun i hi => ?_⟩, ⟨hle, Nat.le_succ _, rfl, rfl, fun i hi _ => ?_, fun i hi hs => ?_, fun i b d h1 h2 => ?_, hW.size, fun b hb _ => hW.block b hb, hW.os, hW.tape, hW.output⟩, hself⟩
  · rw [hg] at hi
    by_cases e : i = h.next
    · subst e
      simp at hi
      subst hi
      exact ⟨b, c, O, hself, hO, ho⟩
    · rw [if_neg e] at hi
      obtain ⟨b, d, O', e1, e2, e3⟩ := k.obj i o' hi
      exact ⟨b, d, O', hle _ _ e1, (hW.block _ (Array.getElem?_eq_some_iff.1 e2).1).trans e2, e3.mono hle⟩
  · rw [hg] at hi hq
    by_cases e : i = h.next <;> by_cases e' : q = h.next
    · omega
    · subst e
      rw [if_neg e'] at hq
      rw [hself] at ei
      rw [hput q e'] at eq
      cases ei
      have := hsz q _ _ hq eq
      omega
    · subst e'
      rw [if_neg e] at hi
      rw [hself] at eq
      rw [hput i e] at ei
      cases eq
      have := hsz i _ _ hi ei
      omega
    · rw [if_neg e] at hi
      rw [if_neg e'] at hq
      rw [hput i e] at ei
      rw [hput q e'] at eq
      exact k.inj i q b d d' hi hq ei eq
  · have h1' : h.next + 1 ≤ i := h1
    rw [hput i (by omega)]
    exact k.lt i (by omega) h2
  · exact Nat.le_succ_of_le (k.hid r hr)
  · have hi' : h.next + 1 ≤ i := hi
    show (h.t.set h.next o).get i = none
    rw [T.get_set, if_neg (by omega)]
    exact k.clean i (by omega)
  · show (h.t.set h.next o).get i = _
    rw [T.get_set, if_neg (by omega)]
  · rw [hg, if_neg (by omega)] at hs
    exact hs
  · by_cases e : i = h.next
    · subst e
      rw [hself] at h2
      cases h2
      exact ⟨Nat.le_refl _, Nat.lt_succ_self _, .inl hb⟩
    · rw [hput i e, h1] at h2; cases h2
/-- a memory of one object that may not be written -/
def soleH (o : AObj) : Heap := ⟨T.set .nil 0 o, 1, 1, []⟩
def soleE (E : Env) (m : Nat) : Env := fun i => if i = 0 then E m else none
end Go.Proofs.YtkebbdpfjhhdhaaGreat.Ev

/- A closed call in parts, where some calls are known otherwise. -/
namespace Go.Proofs.YtkebbdpfjhhdhaaGreat.Ev
variable {P : Program}
theorem CodeOk.runs {R : Runs} (hS : SoundB P R) {c : Code} {a : AAct} {h : Heap} {o : Out} (e : R (.code none c) a h = some o) : CodeOk P c a h o :=
  ⟨hS.a.next e, fun k ht ha hr m => hS.a.code e k ht ha hr m⟩
def runKR (R : Runs) : Nat → Code → AAct → Heap → Option (AAct × Heap)
  | 0, _, a, h => some (a, h)
  | k + 1, .seq x y, a, h => match R (.code none x) a h with
    | some ⟨.normal, _, a1, h1⟩ => cond h1.plainH (runKR R k y a1 h1) none
    | _ => none
  | _ + 1, _, _, _ => none
def segKR (R : Runs) (k : Nat) (c : Code) (a : AAct) (h : Heap) (l : List Nat) : Option (AAct × Heap) := cond h.plainH (keepR l (runKR R k c a h)) none
theorem runKR_eq {R : Runs} {k : Nat} {c : Code} {a : AAct} {h : Heap} {r : AAct × Heap} (e : runKR R (k + 1) c a h = some r) : ∃ x y v a1 h1, c = .seq x y ∧ R (.code none x) a h = some ⟨.normal, v, a1, h1⟩ ∧ h1.plainH = true ∧ runKR R k y a1 h1 = some r := by
  cases c with
  | seq x y =>
    have e' : (match R (.code none x) a h with
      | some ⟨.normal, _, a1, h1⟩ => cond h1.plainH (runKR R k y a1 h1) none
      | _ => none) = some r := e
    split at e'
    · rename_i v a1 h1 hr
      cases hp : h1.plainH with
      | false => rw [hp] at e'; cases e'
      | true => rw [hp] at e'; exact ⟨x, y, v, a1, h1, rfl, hr, hp, e'⟩
    · cases e'
  | _ => cases e
theorem runKR_ok {R : Runs} (hS : SoundB P R) {l : List Nat} : ∀ (k : Nat) (c : Code) (a : AAct) (h : Heap) {a' : AAct} {h' : Heap} {o : Out}, h.hid = [] → h.lo = 0 → runKR R (k + 1) c a h = some (a', h') → CodeOk P (restC (k + 1) c) a' (h'.keep l) o → CodeOk P c a h o
  | 0, c, a, h, a', h', o, hh, hl, e, ok => by
    obtain ⟨x, y, v, a1, h1, rfl, hr, hp, e'⟩ := runKR_eq e
    unfold runKR at e'
    cases e'
    exact ((CodeOk.runs hS hr).keep hh hl l).seq ok
  | k + 1, c, a, h, a', h', o, hh, hl, e, ok => by
    obtain ⟨x, y, v, a1, h1, rfl, hr, hp, e'⟩ := runKR_eq e
    obtain ⟨p1, p2⟩ := Heap.plainH_eq hp
    exact (CodeOk.runs hS hr).seq (runKR_ok hS k y a1 h1 p1 p2 e' ok)
theorem segKR_ok {R : Runs} (hS : SoundB P R) {k : Nat} {l : List Nat} {c : Code} {a : AAct} {h : Heap} {a' : AAct} {h' : Heap} {o : Out} (e : segKR R (k + 1) c a h l = some (a', h')) (ok : CodeOk P (restC (k + 1) c) a' h' o) : CodeOk P c a h o := by
  unfold segKR at e
  cases hp : h.plainH with
  | false => rw [hp] at e; cases e
  | true =>
    rw [hp] at e
    obtain ⟨p1, p2⟩ := Heap.plainH_eq hp
    cases hr : runKR R (k + 1) c a h with
    | none => rw [hr] at e; cases e
    | some r =>
      obtain ⟨a1, h1⟩ := r
      rw [hr] at e
      cases e
      exact runKR_ok hS k c a h p1 p2 hr ok
theorem segKR_next {R : Runs} (hS : SoundB P R) {k i : Nat} {l : List Nat} {c : Code} {a : AAct} {h : Heap} {a' : AAct} {h' : Heap} {o : Out} (e : segKR R (k + 1) (restC i c) a h l = some (a', h')) (ok : CodeOk P (restC (i + (k + 1)) c) a' h' o) : CodeOk P (restC i c) a h o :=
  segKR_ok hS e (by rw [restC_add]; exact ok)
def lastTrueR (P : Program) (R : Runs) (fn : Func) (c : Code) (a : AAct) (h : Heap) : Bool := match rEnd P fn (R (.code none c) a h) with
  | some ⟨_, .bool true, _, _⟩ => true
  | _ => false
theorem lastTrueR_ok {R : Runs} (hS : SoundB P R) {fn : Func} {c : Code} {a : AAct} {h : Heap} (e : lastTrueR P R fn c a h = true) : ∃ o, CodeOk P c a h o ∧ ∃ ex a2 h2, rEnd P fn (some o) = some ⟨ex, .bool true, a2, h2⟩ := by
  unfold lastTrueR at e
  cases hr : R (.code none c) a h with
  | none => rw [hr] at e; simp [rEnd] at e
  | some o =>
    rw [hr] at e
    refine ⟨o, CodeOk.runs hS hr, ?_⟩
    split at e
    · rename_i ex a2 h2 he
      exact ⟨ex, a2, h2, he⟩
    · cases e
end Go.Proofs.YtkebbdpfjhhdhaaGreat.Ev
