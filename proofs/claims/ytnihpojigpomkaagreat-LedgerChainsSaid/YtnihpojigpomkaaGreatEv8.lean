/- A drawn region, operation by operation: append to a list that the region has made, and calls. -/
import Derived.Test.YtnihpojigpomkaaGreatEv7
namespace Go.Proofs.YtnihpojigpomkaaGreat.Ev
variable {P : Program} {B : Base}
section
variable {Q : Post} {h0 : Heap} {W : List Nat} {N : Nat} {D : List Nat} {K : List Fr} {s : Sl} {L : Ob} {T : Tg} {cls : List Nat} {n : Nat} {rl : Rl} {ops : Array Oper} {d : Nat} {op : Op} {ty : TypeId} {pos : String} {af : Array Edge} {gd : Option (Nat × Bool)} {l : List Oper}
variable {x y : Operand} {t tx e : TypeId} {u : AV} {sz m : Nat} {new : List AV} {i2 off2 : Nat} {c2 : ACap}
end
/-- types of an append -/
structure App1 (P : Program) (s : Sl) (x y : Operand) (t tx : TypeId) (v u : AV) (e : TypeId) (sz : Nat) : Prop where
  hx : evS s x = some v
  hy : evS s y = some u
  ht : P.underlying t = some (.slice e)
  htx : P.underlying tx = some (.slice e)
  hs : sizeT P e = some sz
  hz : ((zeroT P e).bind fun z => some (z.cells.length == sz)) = some true
  hb : ((bytesT P e).bind fun b => some (Nat.ble b 1000000)) = some true
  h0 : Nat.blt 0 sz = true
/-- what comes: nothing, or cells that lie somewhere -/
def ComesA (h0 : Heap) (W : List Nat) (L : Ob) (u : AV) (sz n : Nat) (new : List AV) : Prop := (n = 0 ∧ new = [] ∧ lenOfA u = some 0 ∧ ∀ h, Vw h0 W L h → firstA h sz 0 u = some []) ∨ (0 < n ∧ ∃ i2 off2 c2, u = .slice i2 off2 n c2 ∧ n ≤ 1000000 ∧ new.length = n * sz ∧ new.all okCell = true ∧ ∀ h, Vw h0 W L h → h.loadN i2 off2 (n * sz) = some new)
/-- a list that the region has made: empty, or a row -/
def OwnT (e : TypeId) (sz : Nat) (v : AV) (j : Nat) (o : AObj) (len : Nat) (old : List AV) : Prop := (v = .slice j 0 0 (.k 0) ∧ len = 0 ∧ old = [] ∧ ∃ ty, o = .cells [] ty) ∨ (v = .slice j 0 len (.m 0) ∧ o = .row old e sz ∧ old.length = len * sz)
theorem OwnT.isL {e : TypeId} {sz : Nat} {v : AV} {j : Nat} {o : AObj} {len : Nat} {old : List AV} (k : OwnT e sz v j o len old) : IsL e sz len old v [(j, o)] := by
  rcases k with ⟨rfl, rfl, rfl, ty, rfl⟩ | ⟨rfl, rfl, h⟩
  · exact .cells j 0 [] ty (by simp) (by simp) (Nat.le_refl _)
  · exact .row j h
section
variable {Q : Post} {h0 : Heap} {W : List Nat} {N : Nat} {D : List Nat} {K : List Fr} {s : Sl} {L : Ob} {T : Tg} {cls : List Nat} {n : Nat} {rl : Rl} {ops : Array Oper} {d : Nat} {ty : TypeId} {pos : String} {af : Array Edge} {gd : Option (Nat × Bool)} {l : List Oper}
variable {x y : Operand} {t tx e : TypeId} {u : AV} {sz m : Nat} {new : List AV}
end
end Go.Proofs.YtnihpojigpomkaaGreat.Ev

/- Lists of elements that are some cells each: in memory, sliced, appended, read afterwards. One text for all types of elements. -/
namespace Go.Proofs.YtnihpojigpomkaaGreat.Ev
theorem Rds.appE {h : Heap} {b : Nat} : ∀ {l m : List AV} {off : Nat}, Rds h b off l → Rds h b (off + l.length) m → Rds h b off (l ++ m)
  | [], m, off, _, r => by simpa using r
  | v :: l, m, off, r1, r2 => ⟨r1.1, Rds.appE r1.2 (by rw [List.length_cons] at r2; rw [show off + 1 + l.length = off + (l.length + 1) by omega]; exact r2)⟩
section
variable {α : Type} {enc : α → List AV} {sz : Nat}
def enF {α : Type} (enc : α → List AV) (l : List α) : List AV := (l.map enc).flatten
theorem enF_len (hs : ∀ x, (enc x).length = sz) : ∀ l : List α, (enF enc l).length = l.length * sz
  | [] => by simp [enF]
  | g :: r => by
    have := enF_len hs r
    show (enc g ++ enF enc r).length = _
    rw [List.length_append, this, List.length_cons, hs, Nat.add_mul, Nat.one_mul]
    omega
end
section
variable {α : Type} [Inhabited α]
/-- number i of a list -/
def nthE (l : List α) (i : Nat) : α := l[i]?.getD default
theorem nthE_cons (x : α) (l : List α) (i : Nat) : nthE (x :: l) (i + 1) = nthE l i := by simp [nthE]
variable {enc : α → List AV} {sz : Nat}
/-- elements in memory -/
def EH (enc : α → List AV) (sz : Nat) (h : Heap) (b off : Nat) (l : List α) : Prop := ∀ i, i < l.length → Rds h b (off + i * sz) (enc (nthE l i))
theorem EH.vw {h0 h : Heap} {V : Ob} {b off : Nat} {l : List α} (k : EH enc sz h0 b off l) (hh : Vw h0 [] V h) : EH enc sz h b off l := fun i hi => hh.rds (by simp) (k i hi)
theorem EH.at_ {h : Heap} {b off : Nat} {l : List α} (k : EH enc sz h b off l) {z : Int} {n : Nat} (e : z.toNat = n) (hi : n < l.length) : Rds h b (off + z.toNat * sz) (enc (nthE l n)) := by
  subst e; exact k _ hi
/-- a slice of elements, to be read -/
def EV (enc : α → List AV) (sz : Nat) (h : Heap) (v : AV) (l : List α) : Prop := ((v = .slice0 ∨ v = .sliceZ) ∧ l = []) ∨ ∃ b off c, v = .slice b off l.length c ∧ EH enc sz h b off l
theorem EV.vw {h0 h : Heap} {V : Ob} {v : AV} {l : List α} (k : EV enc sz h0 v l) (hh : Vw h0 [] V h) : EV enc sz h v l := by
  rcases k with k | ⟨b, off, c, rfl, k⟩
  · exact .inl k
  · exact .inr ⟨b, off, c, rfl, k.vw hh⟩
theorem EV.ne {h : Heap} {v : AV} {l : List α} (k : EV enc sz h v l) (hn : 0 < l.length) : ∃ b off c, v = .slice b off l.length c ∧ EH enc sz h b off l := by
  rcases k with ⟨_, rfl⟩ | k
  · simp at hn
  · exact k
theorem EV.len {P : Program} {t e : TypeId} {h : Heap} {v : AV} {l : List α} (k : EV enc sz h v l) (ht : P.underlying t = some (.slice e)) : ∀ h2, lenA P t h2 v = some (.int .i64 (l.length : Int)) := by
  intro h2
  unfold lenA
  rw [ht]
  rcases k with ⟨rfl | rfl, rfl⟩ | ⟨b, off, c, rfl, _⟩ <;> rfl
/-- a slice of an argument: how far it may be sliced is known -/
def EA (enc : α → List AV) (sz : Nat) (h : Heap) (v : AV) (l : List α) : Prop := (v = .slice0 ∧ l = []) ∨ ∃ b off m, v = .slice b off l.length (.k m) ∧ l.length ≤ m ∧ EH enc sz h b off l
theorem EA.vw {h0 h : Heap} {V : Ob} {v : AV} {l : List α} (k : EA enc sz h0 v l) (hh : Vw h0 [] V h) : EA enc sz h v l := by
  rcases k with k | ⟨b, off, m, rfl, hm, k⟩
  · exact .inl k
  · exact .inr ⟨b, off, m, rfl, hm, k.vw hh⟩
theorem EA.ne {h : Heap} {v : AV} {l : List α} (k : EA enc sz h v l) (hn : 0 < l.length) : ∃ b off m, v = .slice b off l.length (.k m) ∧ l.length ≤ m ∧ EH enc sz h b off l := by
  rcases k with ⟨_, rfl⟩ | k
  · simp at hn
  · exact k
theorem EH.rds (hs : ∀ x, (enc x).length = sz) {h : Heap} {b : Nat} : ∀ {l : List α} {off : Nat}, EH enc sz h b off l → Rds h b off (enF enc l)
  | [], _, _ => trivial
  | g :: r, off, k => by
    have h0 := k 0 (by simp)
    rw [Nat.zero_mul, Nat.add_zero] at h0
    refine Rds.appE (l := enc g) h0 (EH.rds hs (l := r) fun i hi => ?_)
    have := k (i + 1) (by simpa using hi)
    rw [nthE_cons] at this
    rw [show off + (enc g).length + i * sz = off + (i + 1) * sz by rw [hs, Nat.add_mul, Nat.one_mul]; omega]
    exact this
theorem EH.none (hp : ∀ x : α, enc x ≠ []) {h : Heap} {b off : Nat} {l : List α} (hk : EH enc sz h b off l) (hn : 0 < l.length) (off2 : Nat) : h.loadN b off2 0 = some [] := by
  have h1 : ∃ o v, h.at1 b o = some v := by
    have h2 := hk 0 hn
    cases he : enc (nthE l 0) with
    | nil => exact absurd he (hp _)
    | cons x r => rw [he] at h2; exact ⟨_, _, h2.1.at_⟩
  obtain ⟨o, v, h1⟩ := h1
  unfold Heap.at1 at h1
  unfold Heap.loadN
  split at h1
  · simp [takeN]
  · simp [takeN]
  · rfl
  · cases h1
theorem EH.loadN (hs : ∀ x, (enc x).length = sz) (hz : 0 < sz) {h : Heap} {b off : Nat} {l : List α} (hk : EH enc sz h b off l) (hn : 0 < l.length) : h.loadN b off (l.length * sz) = some (enF enc l) := by
  have e := enF_len hs l
  refine (hk.rds hs).loadN (fun q => ?_) e
  rw [q] at e
  have := Nat.mul_pos hn hz
  simp at e
  omega
end
section
variable {P : Program} {B : Base} {Q : Post} {h0 : Heap} {W : List Nat} {N : Nat} {D : List Nat} {K : List Fr} {s : Sl} {L : Ob} {T : Tg} {md : Bool} {ops : Array Oper} {d : Nat} {ty : TypeId} {pos : String} {af : Array Edge} {gd : Option (Nat × Bool)} {l : List Oper}
end
end Go.Proofs.YtnihpojigpomkaaGreat.Ev
