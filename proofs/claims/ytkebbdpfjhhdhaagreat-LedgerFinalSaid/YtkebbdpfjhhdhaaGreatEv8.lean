/- A drawn region, operation by operation: append to a list that the region has made, and calls. -/
import Derived.Test.YtkebbdpfjhhdhaaGreatEv7
namespace Go.Proofs.YtkebbdpfjhhdhaaGreat.Ev
variable {P : Program} {B : Base}
section
variable {Q : Post} {h0 : Heap} {W : List Nat} {N : Nat} {D : List Nat} {K : List Fr} {s : Sl} {L : Ob} {T : Tg} {cls : List Nat} {n : Nat} {rl : Rl} {ops : Array Oper} {d : Nat} {op : Op} {ty : TypeId} {pos : String} {af : Array Edge} {gd : Option (Nat × Bool)} {l : List Oper}
variable {x y : Operand} {t tx e : TypeId} {u : AV} {sz m : Nat} {new : List AV} {i2 off2 : Nat} {c2 : ACap}
end
/-- types of an append -/
structure App1 (P : Program) (s : Sl) (x y : Operand) (t tx : TypeId) (v u : AV) (e : TypeId) (sz : Nat) : Prop where
  hx : evS s x = some v
  hy : evS s y = some u
  ht : P.underlying t = some (.slice e)
  htx : P.underlying tx = some (.slice e)
  hs : sizeT P e = some sz
  hz : ((zeroT P e).bind fun z => some (z.cells.length == sz)) = some true
  hb : ((bytesT P e).bind fun b => some (Nat.ble b 1000000)) = some true
  h0 : Nat.blt 0 sz = true
/-- what comes: nothing, or cells that lie somewhere -/
def ComesA (h0 : Heap) (W : List Nat) (L : Ob) (u : AV) (sz n : Nat) (new : List AV) : Prop := (n = 0 ∧ new = [] ∧ lenOfA u = some 0 ∧ ∀ h, Vw h0 W L h → firstA h sz 0 u = some []) ∨ (0 < n ∧ ∃ i2 off2 c2, u = .slice i2 off2 n c2 ∧ n ≤ 1000000 ∧ new.length = n * sz ∧ new.all okCell = true ∧ ∀ h, Vw h0 W L h → h.loadN i2 off2 (n * sz) = some new)
/-- a list that the region has made: empty, or a row -/
def OwnT (e : TypeId) (sz : Nat) (v : AV) (j : Nat) (o : AObj) (len : Nat) (old : List AV) : Prop := (v = .slice j 0 0 (.k 0) ∧ len = 0 ∧ old = [] ∧ ∃ ty, o = .cells [] ty) ∨ (v = .slice j 0 len (.m 0) ∧ o = .row old e sz ∧ old.length = len * sz)
theorem OwnT.isL {e : TypeId} {sz : Nat} {v : AV} {j : Nat} {o : AObj} {len : Nat} {old : List AV} (k : OwnT e sz v j o len old) : IsL e sz len old v [(j, o)] := by
  rcases k with ⟨rfl, rfl, rfl, ty, rfl⟩ | ⟨rfl, rfl, h⟩
  · exact .cells j 0 [] ty (by simp) (by simp) (Nat.le_refl _)
  · exact .row j h
section
variable {Q : Post} {h0 : Heap} {W : List Nat} {N : Nat} {D : List Nat} {K : List Fr} {s : Sl} {L : Ob} {T : Tg} {cls : List Nat} {n : Nat} {rl : Rl} {ops : Array Oper} {d : Nat} {ty : TypeId} {pos : String} {af : Array Edge} {gd : Option (Nat × Bool)} {l : List Oper}
variable {x y : Operand} {t tx e : TypeId} {u : AV} {sz m : Nat} {new : List AV}
end
end Go.Proofs.YtkebbdpfjhhdhaaGreat.Ev

/- Lists of elements that are some cells each: in memory, sliced, appended, read afterwards. One text for all types of elements. -/
namespace Go.Proofs.YtkebbdpfjhhdhaaGreat.Ev
theorem Rds.appE {h : Heap} {b : Nat} : ∀ {l m : List AV} {off : Nat}, Rds h b off l → Rds h b (off + l.length) m → Rds h b off (l ++ m)
  | [], m, off, _, r => by simpa using r
  | v :: l, m, off, r1, r2 => ⟨r1.1, Rds.appE r1.2 (by rw [List.length_cons] at r2; rw [show off + 1 + l.length = off + (l.length + 1) by omega]; exact r2)⟩
theorem Vw.rdsEn {h0 h : Heap} {W : List Nat} {V : Ob} {j : Nat} {o : AObj} {L : List AV} (k : Vw h0 W V h) (hm : (j, o) ∈ V) (ho : o.has L) : ∀ (m r : List AV) (off : Nat), L.drop off = m ++ r → Rds h j off m
  | [], _, _, _ => trivial
  | v :: m, r, off, e => by
    have hlt : off < L.length := by
      have := congrArg List.length e
      simp at this
      omega
    rw [List.drop_eq_getElem_cons hlt] at e
    obtain ⟨e1, e2⟩ := List.cons.inj e
    refine ⟨?_, k.rdsEn hm ho m r (off + 1) e2⟩
    exact k.rdL hm ho (by rw [List.getElem?_eq_getElem hlt, e1])
section
variable {α : Type} {enc : α → List AV} {sz : Nat}
def enF {α : Type} (enc : α → List AV) (l : List α) : List AV := (l.map enc).flatten
theorem enF_app (l m : List α) : enF enc (l ++ m) = enF enc l ++ enF enc m := by simp [enF]
theorem enF_one (x : α) : enF enc [x] = enc x := by simp [enF]
theorem enF_len (hs : ∀ x, (enc x).length = sz) : ∀ l : List α, (enF enc l).length = l.length * sz
  | [] => by simp [enF]
  | g :: r => by
    have := enF_len hs r
    show (enc g ++ enF enc r).length = _
    rw [List.length_append, this, List.length_cons, hs, Nat.add_mul, Nat.one_mul]
    omega
theorem enF_ok : ∀ {l : List α}, (∀ x ∈ l, (enc x).all okCell = true) → (enF enc l).all okCell = true
  | [], _ => rfl
  | g :: r, k => by
    show (enc g ++ enF enc r).all okCell = true
    rw [List.all_append, enF_ok (l := r) fun w hw => k w (List.mem_cons_of_mem _ hw), k g (List.mem_cons_self ..)]
    rfl
end
section
variable {α : Type} [Inhabited α]
/-- number i of a list -/
def nthE (l : List α) (i : Nat) : α := l[i]?.getD default
theorem nthE_eq {l : List α} {i : Nat} (h : i < l.length) : nthE l i = l[i] := by simp [nthE, h]
theorem nthE_mem {l : List α} {i : Nat} (h : i < l.length) : nthE l i ∈ l := by rw [nthE_eq h]; exact List.getElem_mem h
theorem nthE_take {l : List α} {i k : Nat} (h : i < k) : nthE (l.take k) i = nthE l i := by simp [nthE, h]
theorem nthE_cons (x : α) (l : List α) (i : Nat) : nthE (x :: l) (i + 1) = nthE l i := by simp [nthE]
theorem take_succE {l : List α} {k : Nat} (h : k < l.length) : l.take (k + 1) = l.take k ++ [nthE l k] := by rw [List.take_succ_eq_append_getElem h, nthE_eq h]
theorem drop_consE {l : List α} {k : Nat} (h : k < l.length) : l.drop k = nthE l k :: l.drop (k + 1) := by rw [List.drop_eq_getElem_cons h, nthE_eq h]
variable {enc : α → List AV} {sz : Nat}
/-- elements in memory -/
def EH (enc : α → List AV) (sz : Nat) (h : Heap) (b off : Nat) (l : List α) : Prop := ∀ i, i < l.length → Rds h b (off + i * sz) (enc (nthE l i))
theorem EH.vw {h0 h : Heap} {V : Ob} {b off : Nat} {l : List α} (k : EH enc sz h0 b off l) (hh : Vw h0 [] V h) : EH enc sz h b off l := fun i hi => hh.rds (by simp) (k i hi)
theorem EH.at_ {h : Heap} {b off : Nat} {l : List α} (k : EH enc sz h b off l) {z : Int} {n : Nat} (e : z.toNat = n) (hi : n < l.length) : Rds h b (off + z.toNat * sz) (enc (nthE l n)) := by
  subst e; exact k _ hi
/-- a slice of elements, to be read -/
def EV (enc : α → List AV) (sz : Nat) (h : Heap) (v : AV) (l : List α) : Prop := ((v = .slice0 ∨ v = .sliceZ) ∧ l = []) ∨ ∃ b off c, v = .slice b off l.length c ∧ EH enc sz h b off l
theorem EV.vw {h0 h : Heap} {V : Ob} {v : AV} {l : List α} (k : EV enc sz h0 v l) (hh : Vw h0 [] V h) : EV enc sz h v l := by
  rcases k with k | ⟨b, off, c, rfl, k⟩
  · exact .inl k
  · exact .inr ⟨b, off, c, rfl, k.vw hh⟩
theorem EV.ne {h : Heap} {v : AV} {l : List α} (k : EV enc sz h v l) (hn : 0 < l.length) : ∃ b off c, v = .slice b off l.length c ∧ EH enc sz h b off l := by
  rcases k with ⟨_, rfl⟩ | k
  · simp at hn
  · exact k
theorem EV.len {P : Program} {t e : TypeId} {h : Heap} {v : AV} {l : List α} (k : EV enc sz h v l) (ht : P.underlying t = some (.slice e)) : ∀ h2, lenA P t h2 v = some (.int .i64 (l.length : Int)) := by
  intro h2
  unfold lenA
  rw [ht]
  rcases k with ⟨rfl | rfl, rfl⟩ | ⟨b, off, c, rfl, _⟩ <;> rfl
/-- a slice of an argument: how far it may be sliced is known -/
def EA (enc : α → List AV) (sz : Nat) (h : Heap) (v : AV) (l : List α) : Prop := (v = .slice0 ∧ l = []) ∨ ∃ b off m, v = .slice b off l.length (.k m) ∧ l.length ≤ m ∧ EH enc sz h b off l
theorem EA.eV {h : Heap} {v : AV} {l : List α} (k : EA enc sz h v l) : EV enc sz h v l := by
  rcases k with ⟨h1, h2⟩ | ⟨b, off, m, rfl, _, k⟩
  · exact .inl ⟨.inl h1, h2⟩
  · exact .inr ⟨b, off, _, rfl, k⟩
theorem EA.vw {h0 h : Heap} {V : Ob} {v : AV} {l : List α} (k : EA enc sz h0 v l) (hh : Vw h0 [] V h) : EA enc sz h v l := by
  rcases k with k | ⟨b, off, m, rfl, hm, k⟩
  · exact .inl k
  · exact .inr ⟨b, off, m, rfl, hm, k.vw hh⟩
theorem EA.ne {h : Heap} {v : AV} {l : List α} (k : EA enc sz h v l) (hn : 0 < l.length) : ∃ b off m, v = .slice b off l.length (.k m) ∧ l.length ≤ m ∧ EH enc sz h b off l := by
  rcases k with ⟨_, rfl⟩ | k
  · simp at hn
  · exact k
theorem EH.tak {h : Heap} {b off k : Nat} {l : List α} (q : EH enc sz h b off l) : EH enc sz h b off (l.take k) := fun i hi => by
  have h1 : i < l.length := by rw [List.length_take] at hi; omega
  have h2 : i < k := by rw [List.length_take] at hi; omega
  rw [nthE_take h2]
  exact q i h1
/-- a list of cells that is a slice's whole -/
theorem EH.takV {h : Heap} {b off k : Nat} {c : ACap} {l : List α} (q : EH enc sz h b off l) (hk : k ≤ l.length) : EV enc sz h (.slice b off k c) (l.take k) :=
  .inr ⟨b, off, c, by rw [List.length_take, Nat.min_eq_left hk], q.tak⟩
theorem enF_drop (hs : ∀ x, (enc x).length = sz) : ∀ (l : List α) (i : Nat), i < l.length → (enF enc l).drop (i * sz) = enc (nthE l i) ++ enF enc (l.drop (i + 1))
  | [], _, h => by simp at h
  | g :: r, 0, _ => by rw [Nat.zero_mul, List.drop_zero]; rfl
  | g :: r, i + 1, h => by
    have := enF_drop hs r i (by simpa using h)
    show (enc g ++ enF enc r).drop ((i + 1) * sz) = _
    rw [show (i + 1) * sz = (enc g).length + i * sz by rw [hs, Nat.add_mul, Nat.one_mul]; omega, List.drop_append, List.drop_eq_nil_of_le (by omega), Nat.add_sub_cancel_left, List.nil_append, this, nthE_cons]
    rfl
theorem EH.rds (hs : ∀ x, (enc x).length = sz) {h : Heap} {b : Nat} : ∀ {l : List α} {off : Nat}, EH enc sz h b off l → Rds h b off (enF enc l)
  | [], _, _ => trivial
  | g :: r, off, k => by
    have h0 := k 0 (by simp)
    rw [Nat.zero_mul, Nat.add_zero] at h0
    refine Rds.appE (l := enc g) h0 (EH.rds hs (l := r) fun i hi => ?_)
    have := k (i + 1) (by simpa using hi)
    rw [nthE_cons] at this
    rw [show off + (enc g).length + i * sz = off + (i + 1) * sz by rw [hs, Nat.add_mul, Nat.one_mul]; omega]
    exact this
/-- a list that was made, read afterwards -/
theorem en_v (hs : ∀ x, (enc x).length = sz) {e : TypeId} {h0 h : Heap} {W : List Nat} {V : Ob} {l : List α} {v : AV} {Lv : Ob} {n : Nat} (hw : IsL e sz n (enF enc l) v Lv) (hn : l.length = n) (k : Vw h0 W V h) (hm : ∀ x ∈ Lv, x ∈ V) : EV enc sz h v l := by
  subst hn
  cases hw with
  | nil h1 h2 => exact .inl ⟨.inl rfl, List.length_eq_zero_iff.1 h1⟩
  | cells i c rest t h1 h2 h3 =>
    refine .inr ⟨i, 0, .k c, rfl, fun j hj => ?_⟩
    rw [Nat.zero_add]
    exact k.rdsEn (hm _ (List.mem_cons_self ..)) (AObj.has_cells _ _).left _ _ _ (enF_drop hs l j hj)
  | row i h1 =>
    refine .inr ⟨i, 0, .m 0, rfl, fun j hj => ?_⟩
    rw [Nat.zero_add]
    exact k.rdsEn (hm _ (List.mem_cons_self ..)) (AObj.has_row _ _ _) _ _ _ (enF_drop hs l j hj)
theorem EH.none (hp : ∀ x : α, enc x ≠ []) {h : Heap} {b off : Nat} {l : List α} (hk : EH enc sz h b off l) (hn : 0 < l.length) (off2 : Nat) : h.loadN b off2 0 = some [] := by
  have h1 : ∃ o v, h.at1 b o = some v := by
    have h2 := hk 0 hn
    cases he : enc (nthE l 0) with
    | nil => exact absurd he (hp _)
    | cons x r => rw [he] at h2; exact ⟨_, _, h2.1.at_⟩
  obtain ⟨o, v, h1⟩ := h1
  unfold Heap.at1 at h1
  unfold Heap.loadN
  split at h1
  · simp [takeN]
  · simp [takeN]
  · rfl
  · cases h1
theorem EH.loadN (hs : ∀ x, (enc x).length = sz) (hz : 0 < sz) {h : Heap} {b off : Nat} {l : List α} (hk : EH enc sz h b off l) (hn : 0 < l.length) : h.loadN b off (l.length * sz) = some (enF enc l) := by
  have e := enF_len hs l
  refine (hk.rds hs).loadN (fun q => ?_) e
  rw [q] at e
  have := Nat.mul_pos hn hz
  simp at e
  omega
/-- what an append takes: the first ones, the last ones, all of a list -/
theorem comesE (hs : ∀ x, (enc x).length = sz) (hz : 0 < sz) {h : Heap} {b off : Nat} {c : ACap} {l : List α} {L : Ob} (hk : EH enc sz h b off l) (hok : ∀ x ∈ l, (enc x).all okCell = true) (h0 : l.length = 0 → ∀ h2, Vw h [] L h2 → h2.loadN b off 0 = some []) (h2 : l.length ≤ 1000000) : ComesA h [] L (.slice b off l.length c) sz l.length (enF enc l) := by
  rcases Nat.eq_zero_or_pos l.length with h1 | h1
  · have : l = [] := List.length_eq_zero_iff.1 h1
    subst this
    exact .inl ⟨rfl, rfl, rfl, fun h2 hh => by show h2.loadN b off (0 * sz) = _; rw [Nat.zero_mul]; exact h0 rfl h2 hh⟩
  · exact .inr ⟨h1, b, off, c, rfl, h2, enF_len hs l, enF_ok hok, fun h2 hh => (hk.vw hh).loadN hs hz h1⟩
end
theorem slK_to {P : Program} {t e : TypeId} {sz : Nat} (ht : P.underlying t = some (.slice e)) (hs : sizeT P e = some sz) {h : Heap} {i off k n m : Nat} (hk : k ≤ n) (hm : n ≤ m) : evSlice P h t (.slice i off n (.k m)) none (some (.int .i64 (k : Int))) none = some (.slice i off k (.k m)) := by
  unfold evSlice
  rw [if_neg (by simp), ht]
  simp only [hs, evSliceK, optB, boundIn, Option.bind_some]
  rw [if_pos (by omega)]
  simp
section
variable {P : Program} {B : Base} {Q : Post} {h0 : Heap} {W : List Nat} {N : Nat} {D : List Nat} {K : List Fr} {s : Sl} {L : Ob} {T : Tg} {md : Bool} {ops : Array Oper} {d : Nat} {ty : TypeId} {pos : String} {af : Array Edge} {gd : Option (Nat × Bool)} {l : List Oper}
theorem St.sliceG {t : TypeId} {x : Operand} {lo hi mx : Option Operand} {v : AV} (he : ∀ h, Vw h0 W L h → evOp P h (evS s) ⟨some d, .slice t x lo hi mx, ty, pos, af, gd⟩ = some (.value v, h)) (k : WO P B Q h0 W N D K md ops l ((d, v) :: s) L T) (hw : wantS ops s N ⟨some d, .slice t x lo hi mx, ty, pos, af, gd⟩ = some true := by exact rfl) (hd : Nat.blt d N = true := by exact rfl) : WO P B Q h0 W N D K md ops (⟨some d, .slice t x lo hi mx, ty, pos, af, gd⟩ :: l) s L T :=
  WO.opE hw hd (fun _ h ha hh => ⟨h, ROp.value ha (he h hh) (Nat.le_refl _), hh.gd.ss⟩) k
theorem St.lenG {x : Operand} {t : TypeId} {n : Nat} {v : AV} (hx : evS s x = some v) (hl : ∀ h, lenA P t h v = some (.int .i64 (n : Int))) (k : WO P B Q h0 W N D K md ops l ((d, .int .i64 (n : Int)) :: s) L T) (hw : wantS ops s N ⟨some d, .call ⟨.builtin .len, #[x], #[t]⟩, ty, pos, af, gd⟩ = some true := by exact rfl) (hd : Nat.blt d N = true := by exact rfl) : WO P B Q h0 W N D K md ops (⟨some d, .call ⟨.builtin .len, #[x], #[t]⟩, ty, pos, af, gd⟩ :: l) s L T :=
  WO.pure hw hd (fun h => by unfold evOp; simp [oCall, mapO, hx, evBuiltin, hl h]) k
theorem Con.subG {f : Nat} {args : List AV} {h : Heap} {R : AV → Ob → Prop} (k : ∃ v L, Con P B f args h W v L ∧ ∃ L0 : Ob, L0.Sublist L ∧ R v L0) : ∃ v L, Con P B f args h W v L ∧ R v L := by
  obtain ⟨v, L, hc, L0, hs, hr⟩ := k
  exact ⟨v, L0, hc.sub hs, hr⟩
theorem IsL.okG {e : TypeId} {sz len : Nat} {l : List AV} {v : AV} {Lv : Ob} (k : IsL e sz len l v Lv) : okCell v = true := by
  rcases k.open_ with ⟨rfl, _⟩ | ⟨i, c, o, rfl, _⟩ <;> rfl
theorem IsL.lenG {t e q : TypeId} {sz n : Nat} {l : List AV} {v : AV} {Lv : Ob} (k : IsL e sz n l v Lv) (ht : P.underlying t = some (.slice q)) : ∀ h2, lenA P t h2 v = some (.int .i64 (n : Int)) := by
  intro h2
  unfold lenA
  rw [ht]
  rcases k.open_ with ⟨rfl, _, h1, _⟩ | ⟨i, c, o, rfl, _⟩
  · subst h1; rfl
  · rfl
theorem Rds.headG {h : Heap} {b off : Nat} {x : AV} {l : List AV} (k : Rds h b off (x :: l)) : Rd h b (off + 0) x := k.1
theorem Vw.rdG {h : Heap} {V : Ob} {j off : Nat} {l : List AV} {t : TypeId} {v : AV} (k : Vw h0 W V h) (hm : (j, .cells l t) ∈ V) (hv : nthN off l = some v) : Rd h j off v := ⟨(k.own _ hm).2, by unfold Heap.at1; rw [(k.own _ hm).1]; exact hv⟩
end
end Go.Proofs.YtkebbdpfjhhdhaaGreat.Ev
