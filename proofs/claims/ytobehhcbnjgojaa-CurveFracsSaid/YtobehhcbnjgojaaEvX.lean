/- One operation: append, copy. -/
import Derived.Test.YtobehhcbnjgojaaEvW
namespace Go.Proofs.Ytobehhcbnjgojaa.Ev
variable {P : Program}

theorem HR.of_heap {top : Nat} {E : Env} {h : Heap} {W W' : World} (k : HR top E h W) (e : W'.heap = W.heap) : HR top E h W' :=
  ⟨fun i o hi => by rw [e]; exact k.obj i o hi, k.inj, k.lt, k.hid, k.clean⟩
theorem Ext.of_drew {E E' : Env} {h g : Heap} {W W' : World} (x : Ext E E' h g W.drew W') : Ext E E' h g W W' :=
  ⟨x.le, x.nx, x.hid, x.lo, x.keepA, x.dead, x.fresh, x.size, x.keepC, x.os, x.tape, x.output⟩

/-- a row that is given up for another one -/
theorem HR.take {top : Nat} {E : Env} {h g : Heap} {W : World} (k : HR top E h W) (ht : h.next + 1 ≤ top) {i n : Nat} {o : AObj} (e : h.take i o = some (n, g)) {b c : Nat} (hE : E i = some (b, c)) (W' : World) (O : Obj) (b' c' : Nat)
    (hO : W'.heap[b']? = some O) (ho : OR (E.put h.next (b', c')) h.next o O) (hb : b' = b ∨ W.heap.size ≤ b') (hW : ∀ q, q < W.heap.size → q ≠ b → W'.heap[q]? = W.heap[q]?) (hz : W.heap.size ≤ W'.heap.size) (h1 : W'.os = W.os) (h2 : W'.tape = W.tape) (h3 : W'.output = W.output) :
    n = h.next ∧ HR top (E.put h.next (b', c')) g W' ∧ Ext E (E.put h.next (b', c')) h g W W' ∧ (E.put h.next (b', c')) h.next = some (b', c') := by
  unfold Heap.take at e
  split at e
  · rename_i hl
    split at e
    · rename_i oo hg
      cases e
      have hl' : h.lo ≤ i := by simpa using hl
      have hs : (h.get i).isSome := by rw [hg]; rfl
      have hi := Heap.get_lt k hs
      have hEn : E h.next = none := k.lt _ (Nat.le_refl _) (by omega)
      have hle := Env.put_le (x := (b', c')) hEn
      have hself : (E.put h.next (b', c')) h.next = some (b', c') := if_pos rfl
      have hput : ∀ q, q ≠ h.next → (E.put h.next (b', c')) q = E q := fun q hq => if_neg hq
      have hnh := k.newHid
      have hgg : ∀ q, ({ h with t := (h.t.del i).set h.next o, next := h.next + 1 } : Heap).get q = if q = h.next then some o else if q = i then none else h.get q := fun q => by
        unfold Heap.get
        have e1 : ({ h with t := (h.t.del i).set h.next o, next := h.next + 1 } : Heap).hidden q = h.hidden q := rfl
        rw [e1]
        show (if h.hidden q = true then none else ((h.t.del i).set h.next o).get q) = _
        rw [T.get_set, T.get_del]
        by_cases hq : q = h.next
        · subst hq; rw [hnh]; simp
        · simp only [if_neg hq]
          by_cases hq2 : q = i
          · subst hq2; simp
          · simp [hq2]
      have hsome : ∀ q, q ≠ h.next → (({ h with t := (h.t.del i).set h.next o, next := h.next + 1 } : Heap).get q).isSome → (h.get q).isSome ∧ q ≠ i := fun q hq hh => by
        rw [hgg, if_neg hq] at hh
        by_cases hq2 : q = i
        · rw [if_pos hq2] at hh; cases hh
        · rw [if_neg hq2] at hh; exact ⟨hh, hq2⟩
      have hblk : ∀ q b2 d, (h.get q).isSome → q ≠ i → E q = some (b2, d) → b2 ≠ b ∧ b2 < W.heap.size := fun q b2 d hq hqi he => by
        refine ⟨fun eb => ?_, ?_⟩
        · subst eb; exact hqi (k.inj q i _ _ _ hq hs he hE)
        · obtain ⟨oo, hoo⟩ := Option.isSome_iff_exists.1 hq
          exact k.block_lt hoo he
      refine ⟨rfl, ⟨fun q o' hq => ?_, fun q r b1 d d' hq hr eq er => ?_, fun q g1 g2 => ?_, fun r hr => Nat.le_succ_of_le (k.hid r hr), fun q hq => ?_⟩, ⟨hle, Nat.le_succ _, rfl, rfl, fun q hq hx => ?_, fun q hq hh => (hsome q (by omega) hh).1, fun q b1 d e1 e2 => ?_, hz, fun q hq hk => ?_, h1, h2, h3⟩, hself⟩
      · by_cases eq : q = h.next
        · subst eq
          rw [hgg, if_pos rfl] at hq
          cases hq
          exact ⟨b', c', O, hself, hO, ho⟩
        · have hq' := hq
          rw [hgg, if_neg eq] at hq
          have hqi : q ≠ i := fun e => by rw [if_pos e] at hq; cases hq
          rw [if_neg hqi] at hq
          obtain ⟨b2, d, O', e1, e2, e3⟩ := k.obj q o' hq
          obtain ⟨f1, f2⟩ := hblk q b2 d (by rw [hq]; rfl) hqi e1
          exact ⟨b2, d, O', hle _ _ e1, (hW b2 f2 f1).trans e2, e3.mono hle⟩
      · by_cases e1 : q = h.next <;> by_cases e2 : r = h.next
        · omega
        · subst e1
          rw [hself] at eq
          rw [hput r e2] at er
          obtain ⟨f1, f2⟩ := hsome r e2 hr
          obtain ⟨f3, f4⟩ := hblk r _ _ f1 f2 er
          cases eq
          rcases hb with hb | hb
          · exact absurd hb f3
          · omega
        · subst e2
          rw [hself] at er
          rw [hput q e1] at eq
          obtain ⟨f1, f2⟩ := hsome q e1 hq
          obtain ⟨f3, f4⟩ := hblk q _ _ f1 f2 eq
          cases er
          rcases hb with hb | hb
          · exact absurd hb f3
          · omega
        · rw [hput q e1] at eq
          rw [hput r e2] at er
          exact k.inj q r b1 d d' (hsome q e1 hq).1 (hsome r e2 hr).1 eq er
      · have g1' : h.next + 1 ≤ q := g1
        rw [hput q (by omega)]
        exact k.lt q (by omega) g2
      · have hq' : h.next + 1 ≤ q := hq
        show ((h.t.del i).set h.next o).get q = none
        rw [T.get_set, if_neg (by omega), T.get_del]
        split
        · rfl
        · exact k.clean q (by omega)
      · show ((h.t.del i).set h.next o).get q = _
        rw [T.get_set, if_neg (by omega), T.get_del, if_neg]
        rintro rfl
        rcases hx with hx | hx
        · omega
        · rw [(Heap.get_some hs).1] at hx; cases hx
      · by_cases eq : q = h.next
        · subst eq
          rw [hself] at e2
          cases e2
          refine ⟨Nat.le_refl _, Nat.lt_succ_self _, ?_⟩
          rcases hb with rfl | hb
          · exact .inr ⟨i, c, hl', hs, hE⟩
          · exact .inl hb
        · rw [hput q eq, e1] at e2; cases e2
      · exact hW q hq (fun eb => by subst eb; exact hk i c hl' hs hE)
    · cases e
  · cases e

theorem growBy_le (n : Nat) : ∀ (r c : Nat), Builtin.growBy n r c ≤ max c (n + (n + 768) / 4)
  | 0, c => by simp only [Builtin.growBy]; omega
  | r + 1, c => by
    simp only [Builtin.growBy]
    split
    · omega
    · have := growBy_le n r (c + (c + 768) / 4)
      omega
theorem nextcap_le {n c : Nat} (h : c < n) : Builtin.nextslicecap n c ≤ 2 * n + 192 := by
  unfold Builtin.nextslicecap
  split
  · omega
  · split
    · omega
    · have := growBy_le n 4 c
      omega

theorem len_run {E : Env} {x : AV} {n : Nat} {X : Value} (h : lenOfA x = some n) (hx : VR E x X) (w : World) : (Builtin.lenOf X).run P w = .ok n w := by
  unfold lenOfA at h
  split at h <;> (try (cases h; done))
  · cases h; simp only [VR] at hx; obtain ⟨b, c, hE, rfl⟩ := hx; rfl
  · cases h; simp only [VR] at hx; subst hx; rfl
  · rename_i s; cases h; simp only [VR] at hx; subst hx
    have : (⟨s.toArray⟩ : ByteArray).size = s.length := by show (s.toArray).size = _; simp
    simp [Builtin.lenOf, this]
theorem first_run {top : Nat} {E : Env} {h : Heap} {W : World} (k : HR top E h W) {sz n : Nat} {x : AV} {l : List AV} {X : Value} (hf : firstA h sz n x = some l) (hx : VR E x X) : ∃ L, (∀ w, w.heap = W.heap → (Builtin.firstCells sz n X).run P w = .ok L.toArray w) ∧ VRs E l L := by
  unfold firstA at hf
  split at hf
  · simp only [VR] at hx
    obtain ⟨b, c, hE, rfl⟩ := hx
    obtain ⟨L, h1, h2, _⟩ := k.load (P := P) hf hE
    exact ⟨L, fun w hw => by simp only [Builtin.firstCells]; exact h1 w hw, h2⟩
  · split at hf
    · cases hf
      simp only [VR] at hx
      subst hx
      exact ⟨[], fun w _ => by simp [Builtin.firstCells], VRs.nil⟩
    · cases hf
  · rename_i s
    split at hf
    · cases hf
      simp only [VR] at hx
      subst hx
      refine ⟨(s.take n).map fun b => .int .u8 b.toNat, fun w _ => ?_, ?_⟩
      · simp only [Builtin.firstCells, Sem.run_pure]
        congr 1
        apply Array.ext'
        simp [List.extract]
      · have : ∀ r : List UInt8, VRs E (r.map fun c => AV.int .u8 c.toNat) (r.map fun b => Value.int .u8 b.toNat) := fun r => by
          induction r with
          | nil => exact VRs.nil
          | cons a r ih => exact VRs.cons (by simp only [VR]) ih
        exact this _
    · cases hf
  · cases hf
end Go.Proofs.Ytobehhcbnjgojaa.Ev
