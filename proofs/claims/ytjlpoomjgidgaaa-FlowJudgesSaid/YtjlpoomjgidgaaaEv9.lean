/- Closed calls in steps: a call that is too long for one evaluation, cut anywhere, inside of calls too. -/
import Derived.Test.YtjlpoomjgidgaaaEv8
namespace Go.Proofs.Ytjlpoomjgidgaaa.Ev
variable {P : Program} {Q : Post}
/-- what a caller in a region that draws its order remembers -/
structure DF where
  masks : List Nat
  kinds : List Nat
  recs : List Rec
  blk : Option Nat
  next : Nat
  lo : Nat
  hid : List (Nat × Nat)
/-- a caller that waits -/
inductive RK where
  | call (fn : Func)
  | round (l : Nat)
structure CF where
  kd : RK
  a : AAct
  dst : Option Tmp
  ops : Array Oper
  l : List Oper
  n0 : Nat
  dr : Option DF
def CF.go (c : CF) (h : Heap) : Option (Job × Heap) := match c.dr with
  | none => some (.ops c.ops c.l, h)
  | some d => if freeAll (d.masks.getD d.recs.length 0) ⟨d.kinds.getD d.recs.length 0, d.blk, d.next, h.next⟩ d.recs d.recs.length = true then some (.drawn c.ops d.masks d.kinds c.l (⟨d.kinds.getD d.recs.length 0, d.blk, d.next, h.next⟩ :: d.recs), { h with lo := d.lo, hid := d.hid }) else none
/-- the value that a call or a round says -/
def valM (P : Program) : RK → Ex → AAct → Heap → Option (AV × Heap)
  | .call fn, ex, a, h => match rEnd P fn (some ⟨ex, aundef, a, h⟩) with
    | some o => some (o.v, o.h)
    | none => none
  | .round l, ex, _, h => match endA h l ex with
    | some g => some (.bool ex.isNormal, g)
    | none => none
def retM (P : Program) (c : CF) (ex : Ex) (a : AAct) (h : Heap) : Option (Job × AAct × Heap) := match valM P c.kd ex a h with
  | some (v, g) => if Nat.ble c.n0 g.next then match c.a.put c.dst v, c.go g with
    | some a2, some (j, h2) => some (j, a2, h2)
    | _, _ => none
    else none
  | none => none
/-- a range over a function that waits -/
structure RF where
  fn : Func
  a : AAct
  l : Nat
  mark : List Nat
  rnd : Option Nat
  n0 : Nat
def retR (P : Program) (c : RF) (ex : Ex) (a : AAct) (h : Heap) : Option (Option Code × Heap) := match rEnd P c.fn (some ⟨ex, aundef, a, h⟩) with
  | some ⟨.normal, _, _, g⟩ => if Nat.ble c.n0 g.next then match leaveA g c.l with
    | some (pd, g4) => if Nat.ble g.next g4.next then some (pd, g4) else none
    | none => none
    else none
  | _ => none
inductive SF where
  | op (c : CF)
  | rng (c : RF)
def pendK (rnd : Option Nat) (pd : Option Code) (K : List Fr) : List Fr := match pd with
  | none => K
  | some c => .job (.code rnd c) :: K
/-- what must hold when a call ends -/
def QS (P : Program) (Q : Post) : List (SF × List Fr) → Post
  | [] => Q
  | (.op c, K) :: S => fun ex a h => ∃ j a2 h2, retM P c ex a h = some (j, a2, h2) ∧ KRun P noB (QS P Q S) (.job j :: K) .normal a2 h2
  | (.rng c, K) :: S => fun ex a h => ∃ pd g, retR P c ex a h = some (pd, g) ∧ KRun P noB (QS P Q S) (pendK c.rnd pd K) .normal { c.a with defers := c.mark ++ c.a.defers } g
structure MS where
  S : List (SF × List Fr)
  K : List Fr
  ex : Ex
  a : AAct
  h : Heap
def MS.holds (P : Program) (Q : Post) (s : MS) : Prop := KRun P noB (QS P Q s.S) s.K s.ex s.a s.h
def bigM (P : Program) (n : Nat) (j : Job) (S : List (SF × List Fr)) (K : List Fr) (a : AAct) (h : Heap) : Option MS := match run P n j a h with
  | some o => some ⟨S, K, o.ex, o.a, o.h⟩
  | none => none
def callM (P : Program) (f : Nat) (args : List AV) (g : Heap) (S : List (SF × List Fr)) (K : List Fr) (c : Func → SF) : Option MS := match enters P f with
  | some fn => match fn.body with
    | some b => some ⟨(c fn, K) :: S, [.job (.code none b)], .normal, ⟨initT args 0, if Nat.ble args.length fn.ntmps then fn.ntmps else args.length, []⟩, g⟩
    | none => none
  | none => none
def roundM (l : Nat) (args : List AV) (g : Heap) (S : List (SF × List Fr)) (K : List Fr) (c : CF) : Option MS := match g.get l with
  | some (.loop q) => if args.length = q.params.size ∧ q.state = .ready then some ⟨(.op c, K) :: S, [.job (.code (some l) q.assign), .busy l, .job (.code (some l) q.body)], .normal, ⟨setAll q.tmps q.size q.params.toList args, q.size, []⟩, g⟩ else none
  | _ => none
def putM (S : List (SF × List Fr)) (K : List Fr) (a : AAct) (d : Option Tmp) (j : Job) : Option (AV × Heap) → Option MS
  | some (v, h) => match a.put d v with
    | some a' => some ⟨S, .job j :: K, .normal, a', h⟩
    | none => none
  | none => none
def opM (P : Program) (n : Nat) (ops : Array Oper) (o : Oper) (l : List Oper) (S : List (SF × List Fr)) (K : List Fr) (a : AAct) (h : Heap) : Option MS :=
  if wantedA ops a o then match evOp P h a.eval o with
    | some (.enter f args, g) => if Nat.ble h.next g.next then callM P f args g S K (fun fn => .op ⟨.call fn, a, o.dst, ops, l, g.next, none⟩) else none
    | some (.round r args, g) => if Nat.ble h.next g.next then roundM r args g S K ⟨.round r, a, o.dst, ops, l, g.next, none⟩ else none
    | some x => if Nat.ble h.next x.2.next then putM S K a o.dst (.ops ops l) (rOp2 (run P n) a x) else none
    | none => none
  else putM S K a o.dst (.ops ops l) (some (aundef, h))
def drM (P : Program) (n : Nat) (ops : Array Oper) (masks kinds : List Nat) (recs : List Rec) (o : Oper) (l : List Oper) (S : List (SF × List Fr)) (K : List Fr) (a : AAct) (h : Heap) : Option MS :=
  if wantedA ops a o then match evOp P (evHeap (kinds.getD recs.length 0) (masks.getD recs.length 0) recs h) a.eval o with
    | some (.enter f args, g) => if Nat.ble h.next g.next then callM P f args g S K (fun fn => .op ⟨.call fn, a, o.dst, ops, l, g.next, some ⟨masks, kinds, recs, blkOf a.eval o.op, h.next, h.lo, h.hid⟩⟩) else none
    | some (.round r args, g) => if Nat.ble h.next g.next then roundM r args g S K ⟨.round r, a, o.dst, ops, l, g.next, some ⟨masks, kinds, recs, blkOf a.eval o.op, h.next, h.lo, h.hid⟩⟩ else none
    | some x => if Nat.ble h.next x.2.next then match rOp2 (run P n) a x with
        | some (v, g) => if freeAll (masks.getD recs.length 0) ⟨kinds.getD recs.length 0, blkOf a.eval o.op, h.next, g.next⟩ recs recs.length = true then putM S K a o.dst (.drawn ops masks kinds l (⟨kinds.getD recs.length 0, blkOf a.eval o.op, h.next, g.next⟩ :: recs)) (some (v, { g with lo := h.lo, hid := h.hid })) else none
        | none => none
      else none
    | none => none
  else putM S K a o.dst (.drawn ops masks kinds l (⟨0, none, h.next, h.next⟩ :: recs)) (some (aundef, h))
def rangeM (P : Program) (rnd : Option Nat) (f : Operand) (ps : Array Tmp) (assign body : Code) (S : List (SF × List Fr)) (K : List Fr) (a : AAct) (h : Heap) : Option MS := match a.eval f, enterA h rnd with
  | some (.fn (.func g) fs cs), some (d, mark, h1) => if Nat.ble h.next h1.next then callM P g (fs ++ [.fn (.yield h1.next) [] []] ++ cs) (h1.new (.loop ⟨.ready, none, a.tmps, a.size, ps, assign, body, d⟩)).2 S K (fun fn => .rng ⟨fn, a, h1.next, mark, rnd, h1.next + 1⟩) else none
  | _, _ => none
def codeM (P : Program) (n : Nat) (rnd : Option Nat) (c : Code) (S : List (SF × List Fr)) (K : List Fr) (a : AAct) (h : Heap) : Option MS := match c with
  | .skip => some ⟨S, K, .normal, a, h⟩
  | .label _ => some ⟨S, K, .normal, a, h⟩
  | .exit id => some ⟨S, K, .exit id, a, h⟩
  | .ret => some ⟨S, K, .ret, a, h⟩
  | .seq x y => some ⟨S, .job (.code rnd x) :: .job (.code rnd y) :: K, .normal, a, h⟩
  | .cond c x y => match a.eval c with
    | some (.bool b) => some ⟨S, .job (.code rnd (if b then x else y)) :: K, .normal, a, h⟩
    | _ => none
  | .block id b => some ⟨S, .job (.code rnd b) :: .blk id :: K, .normal, a, h⟩
  | .loop b => some ⟨S, .job (.code rnd b) :: .job (.code rnd (.loop b)) :: K, .normal, a, h⟩
  | .scope b => some ⟨S, .job (.code rnd b) :: K, .normal, a, h⟩
  | .region _ ops false => some ⟨S, .job (.ops ops ops.toList) :: K, .normal, a, h⟩
  | .region _ ops true => if staticOk ops = true then some ⟨S, .job (.drawn ops (masksOf ops.toList []).reverse (kindsOf ops (masksOf ops.toList []).reverse) ops.toList []) :: K, .normal, a, h⟩ else none
  | .rangeFunc f ps assign body => rangeM P rnd f ps assign body S K a h
  | c => bigM P n (.code rnd c) S K a h
def jobM (P : Program) (n : Nat) (j : Job) (S : List (SF × List Fr)) (K : List Fr) (a : AAct) (h : Heap) : Option MS := match j with
  | .code rnd c => codeM P n rnd c S K a h
  | .ops _ [] => some ⟨S, K, .normal, a, h⟩
  | .ops ops (o :: l) => opM P n ops o l S K a h
  | .drawn _ _ _ [] _ => some ⟨S, K, .normal, a, h⟩
  | .drawn ops masks kinds (o :: l) recs => drM P n ops masks kinds recs o l S K a h
  | j => bigM P n j S K a h
def stepM (P : Program) (n : Nat) : MS → Option MS
  | ⟨S, .job j :: K, .normal, a, h⟩ => jobM P n j S K a h
  | ⟨S, .job _ :: K, .exit id, a, h⟩ => some ⟨S, K, .exit id, a, h⟩
  | ⟨S, .job _ :: K, .ret, a, h⟩ => some ⟨S, K, .ret, a, h⟩
  | ⟨S, .blk id :: K, ex, a, h⟩ => some ⟨S, K, ex.out id, a, h⟩
  | ⟨S, .busy l :: K, .normal, a, h⟩ => match busyA h l with
    | some g => some ⟨S, K, .normal, a, g⟩
    | none => none
  | ⟨(.op c, K) :: S, [], ex, a, h⟩ => match retM P c ex a h with
    | some (j, a2, h2) => some ⟨S, .job j :: K, .normal, a2, h2⟩
    | none => none
  | ⟨(.rng c, K) :: S, [], ex, a, h⟩ => match retR P c ex a h with
    | some (pd, g) => some ⟨S, pendK c.rnd pd K, .normal, { c.a with defers := c.mark ++ c.a.defers }, g⟩
    | none => none
  | _ => none
theorem run_noB : ∀ n, runB P (asR noB) n = run P n
  | 0 => rfl
  | n + 1 => by
    show orR (asR noB) (stepR P (runB P (asR noB) n)) = stepR P (run P n)
    rw [run_noB n]
    funext j a h
    unfold orR
    have : asR noB j a h = none := by unfold asR; split <;> rfl
    rw [this]
theorem Run.big {n : Nat} {j : Job} {a : AAct} {h : Heap} {o : Out} (e : run P n j a h = some o) : Run P noB j a h o := ⟨n, by rw [run_noB]; exact e⟩
theorem bigM_ok {n : Nat} {j : Job} {S K a h s'} (e : bigM P n j S K a h = some s') (k : s'.holds P Q) : MS.holds P Q ⟨S, .job j :: K, .normal, a, h⟩ := by
  unfold bigM at e
  split at e
  · rename_i o ho
    cases e
    exact ⟨o, Run.big ho, k⟩
  · cases e
/-- a call that ended -/
theorem Run.called {f : Nat} {args : List AV} {fn : Func} {b : Code} {a : AAct} {g : Heap} {o1 o : Out} (hf : enters P f = some fn) (hb : fn.body = some b) (r : Run P noB (.code none b) ⟨initT args 0, if Nat.ble args.length fn.ntmps then fn.ntmps else args.length, []⟩ g o1) (he : rEnd P fn (some ⟨o1.ex, aundef, o1.a, o1.h⟩) = some o) (hn : g.next ≤ o.h.next) : Run P noB (.call f args) a g o := by
  obtain ⟨n, e⟩ := r
  have he' : rEnd P fn (some o1) = some o := by
    obtain ⟨ex, v, a1, h1⟩ := o1
    cases ex <;> exact he
  exact Run.call (n := n) rfl (by unfold rCall; rw [hf]; simp only [hb]; rw [e]; exact he') hn
theorem rOp_call {h : Heap} {a : AAct} {o : Oper} {f : Nat} {args : List AV} {g : Heap} {x : Out} (e : evOp P h a.eval o = some (.enter f args, g)) (hn : Nat.ble h.next g.next = true) (r : Run P noB (.call f args) a g x) : ROp P noB h a o x.v x.h := by
  obtain ⟨n, r⟩ := r
  exact ⟨n, by unfold rOp; rw [e]; simp only [hn, if_true, rOp2, r, Option.map_some]⟩
theorem rOp_big {n : Nat} {h : Heap} {a : AAct} {o : Oper} {x : ANext × Heap} {v : AV} {g : Heap} (e : evOp P h a.eval o = some x) (hn : Nat.ble h.next x.2.next = true) (r : rOp2 (run P n) a x = some (v, g)) : ROp P noB h a o v g :=
  ⟨n, by unfold rOp; rw [e]; simp only [hn, if_true]; rw [run_noB]; exact r⟩
theorem putM_ok {S K a d j v h s'} (e : putM S K a d j (some (v, h)) = some s') (k : s'.holds P Q) : ∃ a', a.put d v = some a' ∧ MS.holds P Q ⟨S, .job j :: K, .normal, a', h⟩ := by
  unfold putM at e
  simp only at e
  split at e
  · rename_i a' ha; cases e; exact ⟨a', ha, k⟩
  · cases e
theorem callM_ok {f args g S K c s'} (e : callM P f args g S K c = some s') (k : s'.holds P Q) : ∃ fn b o1, enters P f = some fn ∧ fn.body = some b ∧ Run P noB (.code none b) ⟨initT args 0, if Nat.ble args.length fn.ntmps then fn.ntmps else args.length, []⟩ g o1 ∧ QS P Q ((c fn, K) :: S) o1.ex o1.a o1.h := by
  unfold callM at e
  split at e
  · rename_i fn hf
    split at e
    · rename_i b hb
      cases e
      obtain ⟨o1, r, hk⟩ := k
      exact ⟨fn, b, o1, hf, hb, r, hk⟩
    · cases e
  · cases e
theorem retM_eq {c : CF} {ex : Ex} {a : AAct} {h : Heap} {j : Job} {a2 : AAct} {h2 : Heap} (e : retM P c ex a h = some (j, a2, h2)) : ∃ v g, valM P c.kd ex a h = some (v, g) ∧ c.n0 ≤ g.next ∧ c.a.put c.dst v = some a2 ∧ c.go g = some (j, h2) := by
  unfold retM at e
  split at e
  · rename_i v g ho
    split at e
    · rename_i hn
      split at e
      · rename_i a3 j3 h3 hp hg
        cases e
        exact ⟨v, g, ho, Nat.le_of_ble_eq_true hn, hp, hg⟩
      · cases e
    · cases e
  · cases e
/-- an operation that calls a function, once the call has ended -/
theorem call_ok {h : Heap} {o : Oper} {f args g S K s' a} {c : Func → CF} (he : evOp P h a.eval o = some (.enter f args, g)) (hn : Nat.ble h.next g.next = true) (hc : ∀ fn, (c fn).kd = .call fn ∧ (c fn).a = a ∧ (c fn).n0 = g.next) (e : callM P f args g S K (fun fn => .op (c fn)) = some s') (k : s'.holds P Q) : ∃ fn v g2 a2 j h2, ROp P noB h a o v g2 ∧ a.put (c fn).dst v = some a2 ∧ (c fn).go g2 = some (j, h2) ∧ MS.holds P Q ⟨S, .job j :: K, .normal, a2, h2⟩ := by
  obtain ⟨fn, b, o1, hf, hb, r, j, a2, h2, hr, hk⟩ := callM_ok e k
  obtain ⟨v, g2, h1, h3, h4, h5⟩ := retM_eq hr
  obtain ⟨c1, c2, c3⟩ := hc fn
  rw [c1] at h1
  rw [c2] at h4
  rw [c3] at h3
  unfold valM at h1
  simp only at h1
  split at h1
  · rename_i x hx
    cases h1
    exact ⟨fn, x.v, x.h, a2, j, h2, rOp_call he hn (Run.called hf hb r hx h3), h4, h5, hk⟩
  · cases h1
theorem rOp_round {h : Heap} {a : AAct} {o : Oper} {l : Nat} {args : List AV} {g : Heap} {x : Out} (e : evOp P h a.eval o = some (.round l args, g)) (hn : Nat.ble h.next g.next = true) (r : Run P noB (.round l args) a g x) : ROp P noB h a o x.v x.h := by
  obtain ⟨n, r⟩ := r
  exact ⟨n, by unfold rOp; rw [e]; simp only [hn, if_true, rOp2, r, Option.map_some]⟩
/-- the same with a round -/
theorem round_ok {h : Heap} {o : Oper} {l args g S K s' a} {c : CF} (he : evOp P h a.eval o = some (.round l args, g)) (hn : Nat.ble h.next g.next = true) (c1 : c.kd = .round l) (c2 : c.a = a) (c3 : c.n0 = g.next) (e : roundM l args g S K c = some s') (k : s'.holds P Q) : ∃ v g2 a2 j h2, ROp P noB h a o v g2 ∧ a.put c.dst v = some a2 ∧ c.go g2 = some (j, h2) ∧ MS.holds P Q ⟨S, .job j :: K, .normal, a2, h2⟩ := by
  unfold roundM at e
  split at e
  · rename_i q hq
    split at e
    · rename_i hc
      cases e
      obtain ⟨⟨ex1, v1, a1, h1⟩, r1, k1⟩ := k
      cases ex1 with
      | normal =>
        obtain ⟨g1, hb, o2, r2, j, a2, h2, hr, hk⟩ := k1
        obtain ⟨v, g2, e1, e3, e4, e5⟩ := retM_eq hr
        rw [c1] at e1
        rw [c2] at e4
        rw [c3] at e3
        unfold valM at e1
        simp only at e1
        split at e1
        · rename_i g3 hx
          cases e1
          obtain ⟨n, f1, f2⟩ := r1.two r2
          refine ⟨_, g2, a2, j, h2, rOp_round (x := ⟨.normal, .bool o2.ex.isNormal, o2.a, g2⟩) he hn ?_, e4, e5, hk⟩
          refine Run.round (n := n) ?_ e3
          unfold rRound
          rw [hq]
          simp only [if_pos hc]
          rw [f1]
          unfold rBody
          simp only [hb]
          rw [f2]
          unfold rEndR
          simp only [hx]
        · cases e1
      | exit i => exact k1.elim
      | ret => exact k1.elim
    · cases e
  · cases e
theorem opM_ok {n ops o l S K a h s'} (e : opM P n ops o l S K a h = some s') (k : s'.holds P Q) : MS.holds P Q ⟨S, .job (.ops ops (o :: l)) :: K, .normal, a, h⟩ := by
  unfold opM at e
  split at e
  · rename_i hw
    split at e
    · rename_i f args g he
      split at e
      · rename_i hn
        obtain ⟨fn, v, g2, a2, j, h2, ho, h4, h5, hk⟩ := call_ok (c := fun fn => ⟨.call fn, a, o.dst, ops, l, g.next, none⟩) he hn (fun _ => ⟨rfl, rfl, rfl⟩) e k
        cases h5
        exact KRun.op hw ho h4 hk
      · cases e
    · rename_i r args g he
      split at e
      · rename_i hn
        obtain ⟨v, g2, a2, j, h2, ho, h4, h5, hk⟩ := round_ok (c := ⟨.round r, a, o.dst, ops, l, g.next, none⟩) he hn rfl rfl rfl e k
        cases h5
        exact KRun.op hw ho h4 hk
      · cases e
    · rename_i x _ _ he
      split at e
      · rename_i hn
        cases hx : rOp2 (run P n) a x with
        | none => rw [hx] at e; cases e
        | some vg =>
          obtain ⟨v, g⟩ := vg
          rw [hx] at e
          obtain ⟨a', h4, hk⟩ := putM_ok e k
          exact KRun.op hw (rOp_big he hn hx) h4 hk
      · cases e
    · cases e
  · rename_i hw
    obtain ⟨a', h4, hk⟩ := putM_ok e k
    exact KRun.opSkip (by simpa using hw) h4 hk
theorem go_dr {c : CF} {d : DF} (hd : c.dr = some d) {g : Heap} {j : Job} {h2 : Heap} (e : c.go g = some (j, h2)) : freeAll (d.masks.getD d.recs.length 0) ⟨d.kinds.getD d.recs.length 0, d.blk, d.next, g.next⟩ d.recs d.recs.length = true ∧ j = .drawn c.ops d.masks d.kinds c.l (⟨d.kinds.getD d.recs.length 0, d.blk, d.next, g.next⟩ :: d.recs) ∧ h2 = { g with lo := d.lo, hid := d.hid } := by
  unfold CF.go at e
  rw [hd] at e
  simp only at e
  split at e
  · rename_i hf
    cases e
    exact ⟨hf, rfl, rfl⟩
  · cases e
theorem drM_ok {n ops masks kinds recs o l S K a h s'} (e : drM P n ops masks kinds recs o l S K a h = some s') (k : s'.holds P Q) : MS.holds P Q ⟨S, .job (.drawn ops masks kinds (o :: l) recs) :: K, .normal, a, h⟩ := by
  unfold drM at e
  split at e
  · rename_i hw
    split at e
    · rename_i f args g he
      split at e
      · rename_i hn
        obtain ⟨fn, v, g2, a2, j, h2, ho, h4, h5, hk⟩ := call_ok (c := fun fn => ⟨.call fn, a, o.dst, ops, l, g.next, some ⟨masks, kinds, recs, blkOf a.eval o.op, h.next, h.lo, h.hid⟩⟩) he (by rw [evHeap_next]; exact hn) (fun _ => ⟨rfl, rfl, rfl⟩) e k
        obtain ⟨hf, rfl, rfl⟩ := go_dr rfl h5
        exact KRun.dop hw ho hf h4 hk
      · cases e
    · rename_i r args g he
      split at e
      · rename_i hn
        obtain ⟨v, g2, a2, j, h2, ho, h4, h5, hk⟩ := round_ok (c := ⟨.round r, a, o.dst, ops, l, g.next, some ⟨masks, kinds, recs, blkOf a.eval o.op, h.next, h.lo, h.hid⟩⟩) he (by rw [evHeap_next]; exact hn) rfl rfl rfl e k
        obtain ⟨hf, rfl, rfl⟩ := go_dr rfl h5
        exact KRun.dop hw ho hf h4 hk
      · cases e
    · rename_i x _ _ he
      split at e
      · rename_i hn
        split at e
        · rename_i v g hx
          split at e
          · rename_i hfr
            obtain ⟨a', h4, hk⟩ := putM_ok e k
            exact KRun.dop hw (rOp_big he (by rw [evHeap_next]; exact hn) hx) hfr h4 hk
          · cases e
        · cases e
      · cases e
    · cases e
  · rename_i hw
    obtain ⟨a', h4, hk⟩ := putM_ok e k
    exact KRun.dskip (by simpa using hw) h4 hk
theorem rangeM_ok {rnd f ps assign body S K a h s'} (e : rangeM P rnd f ps assign body S K a h = some s') (k : s'.holds P Q) : MS.holds P Q ⟨S, .job (.code rnd (.rangeFunc f ps assign body)) :: K, .normal, a, h⟩ := by
  unfold rangeM at e
  split at e
  · rename_i g fs cs d mark h1 hf he
    split at e
    · rename_i hn
      obtain ⟨fn, b, o1, hfn, hb, r, pd, g4, hr, hk⟩ := callM_ok e k
      unfold retR at hr
      split at hr
      · rename_i v a' g3 hx
        split at hr
        · rename_i hn0
          split at hr
          · rename_i pd2 g5 hl
            split at hr
            · rename_i hn4
              cases hr
              refine KRun.range hf he (Nat.le_of_ble_eq_true hn) ⟨a', Run.called hfn hb r hx (Nat.le_of_ble_eq_true hn0)⟩ hl (Nat.le_of_ble_eq_true hn4) ?_
              cases pd <;> exact hk
            · cases hr
          · cases hr
        · cases hr
      · cases hr
    · cases e
  · cases e
theorem codeM_ok {n rnd c S K a h s'} (e : codeM P n rnd c S K a h = some s') (k : s'.holds P Q) : MS.holds P Q ⟨S, .job (.code rnd c) :: K, .normal, a, h⟩ := by
  unfold codeM at e
  split at e
  · cases e; exact KRun.skip k
  · cases e; exact KRun.label k
  · cases e; exact KRun.exit k
  · cases e; exact KRun.ret k
  · cases e; exact KRun.seq k
  · split at e
    · rename_i hb; cases e; exact KRun.cond hb k
    · cases e
  · cases e; exact KRun.block k
  · cases e; exact KRun.loop k
  · cases e; exact KRun.scope k
  · cases e; exact KRun.region k
  · split at e
    · rename_i hs; cases e; exact KRun.regionT hs k
    · cases e
  · exact rangeM_ok e k
  · exact bigM_ok e k
theorem stepM_ok {n : Nat} {s s' : MS} (e : stepM P n s = some s') (k : s'.holds P Q) : s.holds P Q := by
  unfold stepM at e
  split at e
  · rename_i S j K a h
    unfold jobM at e
    split at e
    · exact codeM_ok e k
    · cases e; exact KRun.opsNil k
    · exact opM_ok e k
    · cases e; exact KRun.drawnNil k
    · exact drM_ok e k
    · exact bigM_ok e k
  · cases e; exact k
  · cases e; exact k
  · rename_i ex _ _
    cases e
    cases ex <;> exact k
  · split at e
    · rename_i g hb
      cases e
      exact ⟨g, hb, k⟩
    · cases e
  · rename_i c K S ex a h
    split at e
    · rename_i j a2 h2 hr
      cases e
      exact ⟨j, a2, h2, hr, k⟩
    · cases e
  · rename_i c K S ex a h
    split at e
    · rename_i pd g hr
      cases e
      exact ⟨pd, g, hr, k⟩
    · cases e
  · cases e
/-- some steps -/
def iterM (P : Program) (n : Nat) (m : Nat) : MS → Option MS := Nat.rec (fun s => some s) (fun _ ih s => match stepM P n s with
  | some s' => ih s'
  | none => none) m
theorem iterM_ok {n : Nat} : ∀ (m : Nat) {s s' : MS}, iterM P n m s = some s' → s'.holds P Q → s.holds P Q
  | 0, s, s', e, k => by
    have e' : some s = some s' := e
    cases e'
    exact k
  | m + 1, s, s', e, k => by
    have e' : (match stepM P n s with
      | some s1 => iterM P n m s1
      | none => none) = some s' := e
    split at e'
    · rename_i s1 h1
      exact stepM_ok h1 (iterM_ok m e' k)
    · cases e'
/-! a part of a body, in steps -/
def headC : Code → Code
  | .seq x _ => x
  | c => c
def startM (c : Code) (a : AAct) (h : Heap) : MS := ⟨[], [.job (.code none (headC c))], .normal, a, h⟩
/-- where a part ends -/
def endQ (a : AAct) (h : Heap) : Post := fun ex a' h' => ex = .normal ∧ a' = a ∧ h' = h
/-- that a part begins here and has ended there, with what is named of the memory -/
def keepM (h h' : Heap) (l : List Nat) (g : Heap) : Prop := h.plainH = true ∧ h'.keep l = g
theorem CodeOk.runB (hP : P.follows .mixedOrders = true) {c : Code} {a : AAct} {h : Heap} {o : Out} (e : Run P noB (.code none c) a h o) : CodeOk P c a h o := by
  obtain ⟨n, e⟩ := e
  have s := runB_sound hP (SoundC.runs (P := P) (B := noB) (@noB_sound P)) n
  exact ⟨s.a.next e, fun k ht ha hr m => s.a.code e k ht ha hr m⟩
theorem segM_next (hP : P.follows .mixedOrders = true) {i : Nat} {l : List Nat} {c : Code} {a a' : AAct} {h h' g : Heap} {o : Out} (hc : isSeqC (restC i c) = true) (k : MS.holds P (endQ a' h') (startM (restC i c) a h)) (hk : keepM h h' l g) (ok : CodeOk P (restC (i + 1) c) a' g o) : CodeOk P (restC i c) a h o := by
  obtain ⟨hp, rfl⟩ := hk
  obtain ⟨p1, p2⟩ := Heap.plainH_eq hp
  rw [← restC_add] at ok
  cases hx : restC i c with
  | seq x y =>
    rw [hx] at k ok
    obtain ⟨⟨ex, v, a1, h1⟩, r, hex, ha, hh⟩ := k
    simp only at hex ha hh
    subst hex ha hh
    exact ((CodeOk.runB hP r).keep p1 p2 l).seq ok
  | _ => rw [hx] at hc; cases hc
/-- where a piece of code lies -/
def atP : Code → List Nat → Code
  | c, [] => c
  | .seq x _, 0 :: p => atP x p
  | .seq _ y, _ :: p => atP y p
  | .cond _ x _, 0 :: p => atP x p
  | .cond _ _ y, _ :: p => atP y p
  | .block _ b, _ :: p => atP b p
  | .loop b, _ :: p => atP b p
  | .scope b, _ :: p => atP b p
  | .rangeFunc _ _ x _, 0 :: p => atP x p
  | .rangeFunc _ _ _ y, _ :: p => atP y p
  | c, _ => c
def setsT (t : T AObj) : List (Nat × AObj) → T AObj
  | [] => t
  | (i, o) :: l => setsT (t.set i o) l
def delsT (t : T AObj) : List Nat → T AObj
  | [] => t
  | i :: l => delsT (t.del i) l
def opsC : Code → Array Oper
  | .region _ ops _ => ops
  | _ => #[]
def atF (f : Func) (p : List Nat) : Code := atP (f.body.getD .skip) p
def opJ (f : Func) (p : List Nat) (k : Nat) : Fr := .job (.ops (opsC (atF f p)) ((opsC (atF f p)).toList.drop k))
def drJ (f : Func) (p : List Nat) (k : Nat) (recs : List Rec) : Fr := .job (.drawn (opsC (atF f p)) (masksOf (opsC (atF f p)).toList []).reverse (kindsOf (opsC (atF f p)) (masksOf (opsC (atF f p)).toList []).reverse) ((opsC (atF f p)).toList.drop k) recs)
def cfJ (kd : RK) (a : AAct) (dst : Option Tmp) (f : Func) (p : List Nat) (k n0 : Nat) : SF := .op ⟨kd, a, dst, opsC (atF f p), (opsC (atF f p)).toList.drop k, n0, none⟩
def cdJ (kd : RK) (a : AAct) (dst : Option Tmp) (f : Func) (p : List Nat) (k n0 : Nat) (recs : List Rec) (blk : Option Nat) (next lo : Nat) (hid : List (Nat × Nat)) : SF := .op ⟨kd, a, dst, opsC (atF f p), (opsC (atF f p)).toList.drop k, n0, some ⟨(masksOf (opsC (atF f p)).toList []).reverse, kindsOf (opsC (atF f p)) (masksOf (opsC (atF f p)).toList []).reverse, recs, blk, next, lo, hid⟩⟩
def coJ (rnd : Option Nat) (c : Code) : Fr := .job (.code rnd c)
def loJ (f : Func) (p : List Nat) (st : LoopState) (pd : Option Code) (tmps : T AV) (size d : Nat) : AObj := match atF f p with
  | .rangeFunc _ ps assign body => .loop ⟨st, pd, tmps, size, ps, assign, body, d⟩
  | _ => .deferred false
/-- the last steps of a part -/
def lastM (P : Program) (n m : Nat) (s : MS) (l : List Nat) : Option (AAct × Heap) := match iterM P n m s with
  | some ⟨[], [], .normal, a, h⟩ => some (a, h.keep l)
  | _ => none
theorem lastM_ok {n m : Nat} {s : MS} {l : List Nat} {a : AAct} {g : Heap} (e : lastM P n m s l = some (a, g)) : ∃ h, h.keep l = g ∧ MS.holds P (endQ a h) s := by
  unfold lastM at e
  split at e
  · rename_i a1 h1 hi
    cases e
    exact ⟨h1, rfl, iterM_ok m hi ⟨rfl, rfl, rfl⟩⟩
  · cases e
theorem iterM_last {n m : Nat} {s s' : MS} {l : List Nat} {a : AAct} {g : Heap} (e : iterM P n m s = some s') (k : ∃ h, h.keep l = g ∧ MS.holds P (endQ a h) s') : ∃ h, h.keep l = g ∧ MS.holds P (endQ a h) s := by
  obtain ⟨h, hk, k⟩ := k
  exact ⟨h, hk, iterM_ok m e k⟩
theorem segM_nextL (hP : P.follows .mixedOrders = true) {i : Nat} {l : List Nat} {c : Code} {a a' : AAct} {h g : Heap} {o : Out} (hc : isSeqC (restC i c) = true) (hp : h.plainH = true) (k : ∃ h', h'.keep l = g ∧ MS.holds P (endQ a' h') (startM (restC i c) a h)) (ok : CodeOk P (restC (i + 1) c) a' g o) : CodeOk P (restC i c) a h o := by
  obtain ⟨h', hk, k⟩ := k
  exact segM_next hP hc k ⟨hp, hk⟩ ok
end Go.Proofs.Ytjlpoomjgidgaaa.Ev
