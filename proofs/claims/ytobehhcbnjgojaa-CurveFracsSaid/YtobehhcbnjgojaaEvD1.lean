/- A region that draws its order: the order does not matter, end. -/
import Derived.Test.YtobehhcbnjgojaaEvN
namespace Go.Proofs.Ytobehhcbnjgojaa.Ev
variable {P : Program}

structure DC (P : Program) (ops : Array Oper) (as : Nat → AAct) (hs : Nat → Heap) (rc : Nat → Rec) (vs : Nat → AV) (gs : Nat → Heap) (masks kinds : List Nat) : Prop where
  edges : ∀ i o, ops[i]? = some o → ∀ e ∈ o.after, Region.binds .any e = true → e.on < i
  bef : ∀ i, i < ops.size → Before ops i (masks.getD i 0)
  apart : ∀ i o, ops[i]? = some o → ∀ k, k < i → (masks.getD i 0).testBit k = true ∨ ∀ x, ops[k]? = some x → apartA ops x o = true
  kind : ∀ i o, ops[i]? = some o → (kinds.getD i 0 = 0 → kindOf o.op = 0) ∧ (kinds.getD i 0 = 3 → kindOf o.op = 3) ∧ kinds.getD i 0 ≤ 3
  at_ : ∀ i o, ops[i]? = some o → DAt P ops masks kinds (recsAt rc [] i) (as i) (hs i) o (vs i) (gs i) (rc i)
  put : ∀ i o, ops[i]? = some o → (as i).put o.dst (vs i) = some (as (i + 1))
  hs1 : ∀ i o, ops[i]? = some o → hs (i + 1) = { gs i with lo := (hs i).lo, hid := (hs i).hid }
  clean0 : ∀ i, (hs 0).next ≤ i → (hs 0).t.get i = none

section
variable {ops : Array Oper} {as : Nat → AAct} {hs : Nat → Heap} {rc : Nat → Rec} {vs : Nat → AV} {gs : Nat → Heap} {masks kinds : List Nat}

theorem DC.has (_ : DC P ops as hs rc vs gs masks kinds) {i : Nat} (hi : i < ops.size) : ∃ o, ops[i]? = some o := ⟨ops[i], Array.getElem?_eq_getElem hi⟩
theorem DC.len (i : Nat) : (recsAt rc [] i).length = i := by rw [recsAt_len]; simp
theorem DC.free_ (c : DC P ops as hs rc vs gs masks kinds) {i : Nat} (hi : i < ops.size) {k : Nat} (hk : k < i) : (masks.getD i 0).testBit k = true ∨ free (rc k) (rc i) = true := by
  obtain ⟨o, ho⟩ := c.has hi
  rcases (c.at_ i o ho).how with ⟨_, h1, _⟩ | ⟨_, _, _, h1, _⟩
  · exact .inr (by simp [free, h1])
  · rw [DC.len] at h1
    exact (freeAll_iff rc _ _ i).1 h1 k hk
theorem DC.tyle (c : DC P ops as hs rc vs gs masks kinds) {i : Nat} (hi : i < ops.size) : (rc i).ty ≤ 3 := by
  obtain ⟨o, ho⟩ := c.has hi
  rcases (c.at_ i o ho).how with ⟨_, h1, _⟩ | ⟨_, h1, _⟩
  · omega
  · rw [h1, DC.len]; exact (c.kind i o ho).2.2
theorem DC.abs (c : DC P ops as hs rc vs gs masks kinds) {i : Nat} (hi : i < ops.size) : Abs (hs i) (hs (i + 1)) := by
  obtain ⟨o, ho⟩ := c.has hi
  rw [c.hs1 i o ho]
  rcases (c.at_ i o ho).how with ⟨_, _, _, h1⟩ | ⟨_, _, _, _, h1, _⟩
  · rw [h1]; exact Abs.refl _
  · exact abs_back h1
theorem DC.n0 (c : DC P ops as hs rc vs gs masks kinds) {i : Nat} (hi : i < ops.size) : (rc i).n0 = (hs i).next := by
  obtain ⟨o, ho⟩ := c.has hi
  exact (c.at_ i o ho).n0
theorem DC.n1 (c : DC P ops as hs rc vs gs masks kinds) {i : Nat} (hi : i < ops.size) : (rc i).n1 = (hs (i + 1)).next := by
  obtain ⟨o, ho⟩ := c.has hi
  rw [c.hs1 i o ho]
  exact (c.at_ i o ho).n1
theorem DC.same (c : DC P ops as hs rc vs gs masks kinds) {i : Nat} (hi : i < ops.size) (ht : (rc i).ty = 0 ∨ (rc i).ty = 3) : hs (i + 1) = hs i := by
  obtain ⟨o, ho⟩ := c.has hi
  rw [c.hs1 i o ho]
  rcases (c.at_ i o ho).how with ⟨_, _, _, h1⟩ | ⟨_, h0, _, _, _, _, h1, h2, _⟩
  · rw [h1]
  · rw [DC.len] at h0
    have hg : gs i = evHeap (rc i).ty (masks.getD (recsAt rc [] i).length 0) (recsAt rc [] i) (hs i) := by
      rcases ht with ht | ht
      · exact (h1 ((c.kind i o ho).1 (by rw [← h0, ht]))).1
      · exact (h2 ((c.kind i o ho).2.1 (by rw [← h0, ht]))).1
    rw [hg]
    unfold evHeap
    split
    · rfl
    · split <;> rfl
theorem DC.keep (c : DC P ops as hs rc vs gs masks kinds) {i : Nat} (hi : i < ops.size) (ht : (rc i).ty ≠ 2) {id : Nat} (hid : id < (hs i).next) : (hs (i + 1)).t.get id = (hs i).t.get id := by
  have h3 := c.tyle hi
  by_cases h1 : (rc i).ty = 1
  · obtain ⟨o, ho⟩ := c.has hi
    rw [c.hs1 i o ho]
    rcases (c.at_ i o ho).how with ⟨_, h2, _⟩ | ⟨_, _, _, _, h2, _⟩
    · omega
    · have := h2.keep id (by rw [evHeap_next]; exact hid) (.inl (by unfold evHeap; rw [if_pos h1]; exact hid))
      rw [evHeap_t] at this
      exact this
  · rw [c.same hi (by omega)]
theorem DC.mono (c : DC P ops as hs rc vs gs masks kinds) {i : Nat} : ∀ {j : Nat}, i ≤ j → j ≤ ops.size → Abs (hs i) (hs j)
  | 0, h, _ => by obtain rfl : i = 0 := (by omega); exact Abs.refl _
  | j + 1, h, hj => by
    rcases Nat.lt_or_ge i (j + 1) with h1 | h1
    · exact (c.mono (by omega) (by omega)).trans (c.abs (by omega))
    · obtain rfl : i = j + 1 := by omega
      exact Abs.refl _
theorem DC.keeps (c : DC P ops as hs rc vs gs masks kinds) {i : Nat} {id : Nat} (hid : id < (hs i).next) : ∀ {j : Nat}, i ≤ j → j ≤ ops.size → (∀ k, i ≤ k → k < j → (hs (k + 1)).t.get id = (hs k).t.get id) → (hs j).t.get id = (hs i).t.get id
  | 0, h, _, _ => by obtain rfl : i = 0 := (by omega); rfl
  | j + 1, h, hj, hk => by
    rcases Nat.lt_or_ge i (j + 1) with h1 | h1
    · rw [hk j (by omega) (by omega), c.keeps hid (by omega) (by omega) (fun k h1 h2 => hk k h1 (by omega))]
    · obtain rfl : i = j + 1 := by omega
      rfl
theorem DC.clean (c : DC P ops as hs rc vs gs masks kinds) {i : Nat} (hi : i ≤ ops.size) : ∀ q, (hs i).next ≤ q → (hs i).t.get q = none := (c.mono (Nat.zero_le i) hi).clean c.clean0
theorem DC.hidc (c : DC P ops as hs rc vs gs masks kinds) {i : Nat} (hi : i ≤ ops.size) : (hs i).hid = (hs 0).hid := (c.mono (Nat.zero_le i) hi).hid
theorem DC.loc (c : DC P ops as hs rc vs gs masks kinds) {i : Nat} (hi : i ≤ ops.size) : (hs i).lo = (hs 0).lo := (c.mono (Nat.zero_le i) hi).lo
/-- which operation a number belongs to -/
theorem DC.owner (c : DC P ops as hs rc vs gs masks kinds) {id i : Nat} (h0 : (hs i).next ≤ id) : ∀ {j : Nat}, i ≤ j → j ≤ ops.size → id < (hs j).next → ∃ k, i ≤ k ∧ k < j ∧ (rc k).n0 ≤ id ∧ id < (rc k).n1
  | 0, h, _, h1 => by obtain rfl : i = 0 := (by omega); omega
  | j + 1, h, hj, h1 => by
    rcases Nat.lt_or_ge i (j + 1) with h2 | h2
    · rcases Nat.lt_or_ge id (hs j).next with h3 | h3
      · obtain ⟨k, g1, g2, g3⟩ := c.owner h0 (by omega) (by omega) h3
        exact ⟨k, g1, by omega, g3⟩
      · exact ⟨j, by omega, Nat.lt_succ_self j, by rw [c.n0 (by omega)]; exact h3, by rw [c.n1 (by omega)]; exact h1⟩
    · obtain rfl : i = j + 1 := by omega
      omega
theorem DC.range (c : DC P ops as hs rc vs gs masks kinds) {k : Nat} (hk : k < ops.size) (ht : (rc k).ty = 0 ∨ (rc k).ty = 3) : (rc k).n1 = (rc k).n0 := by rw [c.n1 hk, c.n0 hk, c.same hk ht]

/-! what holds when some of the operations have been done -/
def Don (listed : Array Bool) (k : Nat) : Prop := listed.getD k false = true
/-- the numbers that are still free below m -/
def unl (listed : Array Bool) (rc : Nat → Rec) (m : Nat) : List (Nat × Nat) := (List.range m).filterMap fun k => if listed.getD k false then none else some ((rc k).n0, (rc k).n1)
theorem unl_iff {listed : Array Bool} {m id : Nat} : (unl listed rc m).any (inR id) = true ↔ ∃ k, k < m ∧ ¬ Don listed k ∧ (rc k).n0 ≤ id ∧ id < (rc k).n1 := by
  unfold unl Don
  simp only [List.any_eq_true, List.mem_filterMap, List.mem_range]
  constructor
  · rintro ⟨r, ⟨k, hk, he⟩, hr⟩
    split at he
    · cases he
    · rename_i hd
      cases he
      rw [inR_iff] at hr
      exact ⟨k, hk, hd, hr⟩
  · rintro ⟨k, hk, hd, h1, h2⟩
    exact ⟨((rc k).n0, (rc k).n1), ⟨k, hk, by rw [if_neg hd]⟩, inR_iff.2 ⟨h1, h2⟩⟩
def gD (listed : Array Bool) (rc : Nat → Rec) (hs : Nat → Heap) (m : Nat) : Heap := { hs m with hid := unl listed rc m ++ (hs m).hid }
theorem gD_get {listed : Array Bool} {m id : Nat} {o : AObj} : (gD listed rc hs m).get id = some o ↔ (¬ ∃ k, k < m ∧ ¬ Don listed k ∧ (rc k).n0 ≤ id ∧ id < (rc k).n1) ∧ (hs m).get id = some o := by
  unfold Heap.get
  have e : (gD listed rc hs m).hidden id = ((unl listed rc m).any (inR id) || (hs m).hidden id) := by
    unfold gD
    rw [hidden_any, hidden_any, List.any_append]
  rw [e]
  have e2 : (gD listed rc hs m).t = (hs m).t := rfl
  rw [e2]
  cases h1 : (unl listed rc m).any (inR id)
  · have : ¬ ∃ k, k < m ∧ ¬ Don listed k ∧ (rc k).n0 ≤ id ∧ id < (rc k).n1 := fun hx => by rw [unl_iff.2 hx] at h1; cases h1
    simp [this]
  · have := unl_iff.1 h1
    simp [this]

/-- the first operation that writes and has not been done -/
def FirstW (listed : Array Bool) (rc : Nat → Rec) (N m : Nat) : Prop := m ≤ N ∧ (m < N → (rc m).ty = 2 ∧ ¬ Don listed m) ∧ ∀ k, k < m → (rc k).ty = 2 → Don listed k

structure XI (h0 hN : Heap) (E0 E : Env) (W0 W : World) : Prop where
  le : E0.le E
  fresh : ∀ i b c, E0 i = none → E i = some (b, c) → h0.next ≤ i ∧ i < hN.next ∧ (W0.heap.size ≤ b ∨ ∃ k d, h0.lo ≤ k ∧ (h0.get k).isSome ∧ E0 k = some (b, d))
  size : W0.heap.size ≤ W.heap.size
  keepC : ∀ b, b < W0.heap.size → (∀ k d, h0.lo ≤ k → (h0.get k).isSome → E0 k ≠ some (b, d)) → W.heap[b]? = W0.heap[b]?
  os : W.os = W0.os
  tape : W.tape = W0.tape
  output : W.output = W0.output

structure DInv (P : Program) (ops : Array Oper) (as : Nat → AAct) (hs : Nat → Heap) (rc : Nat → Rec) (top : Nat) (E0 : Env) (W0 : World) (listed : Array Bool) (E : Env) (A : Act) (W : World) : Prop where
  sz : listed.size = ops.size
  cl : Closed ops (Don listed)
  tmsz : A.tmps.size = (as 0).size
  de : DR E (as 0).defers A.defers
  tm : ∀ t, ∃ m, m ≤ ops.size ∧ (∀ k o, ops[k]? = some o → o.dst = some t → (Don listed k ↔ k < m)) ∧ VR E ((as m).at t) (A.tmps.getD t undef)
  mem : ∃ m, FirstW listed rc ops.size m ∧ HR top E (gD listed rc hs m) W
  free : ∀ k, k < ops.size → ¬ Don listed k → ∀ id, (rc k).n0 ≤ id → id < (rc k).n1 → E id = none
  x : XI (hs 0) (hs ops.size) E0 E W0 W

/-! the temporaries -/
theorem DC.size (c : DC P ops as hs rc vs gs masks kinds) : ∀ {i : Nat}, i ≤ ops.size → (as i).size = (as 0).size ∧ (as i).defers = (as 0).defers
  | 0, _ => ⟨rfl, rfl⟩
  | i + 1, h => by
    obtain ⟨o, ho⟩ := c.has (show i < ops.size from h)
    have := c.put i o ho
    have ih := c.size (show i ≤ ops.size by omega)
    unfold AAct.put at this
    split at this
    · injection this with this; rw [← this]; exact ih
    · split at this
      · injection this with this; rw [← this]; exact ih
      · cases this
theorem DC.put_ne (c : DC P ops as hs rc vs gs masks kinds) {i : Nat} {o : Oper} (ho : ops[i]? = some o) {t : Nat} (ht : o.dst ≠ some t) : (as (i + 1)).at t = (as i).at t := by
  have := c.put i o ho
  unfold AAct.put at this
  split at this
  · injection this with this; rw [← this]
  · rename_i d hd
    split at this
    · injection this with this
      rw [← this]
      unfold AAct.at
      show (((as i).tmps.set d (vs i)).get t).getD aundef = _
      rw [T.get_set, if_neg (fun e => ht (by rw [hd, e]))]
    · cases this
theorem DC.put_eq (c : DC P ops as hs rc vs gs masks kinds) {i : Nat} {o : Oper} (ho : ops[i]? = some o) {t : Nat} (ht : o.dst = some t) : (as (i + 1)).at t = vs i ∧ t < (as i).size := by
  have := c.put i o ho
  unfold AAct.put at this
  rw [ht] at this
  simp only at this
  split at this
  · rename_i hb
    injection this with this
    rw [← this]
    refine ⟨?_, by simpa [Nat.blt_eq] using hb⟩
    unfold AAct.at
    show (((as i).tmps.set t (vs i)).get t).getD aundef = _
    rw [T.get_set, if_pos rfl]; rfl
  · cases this
theorem DC.at_eq (c : DC P ops as hs rc vs gs masks kinds) {t i : Nat} : ∀ {j : Nat}, i ≤ j → j ≤ ops.size → (∀ k o, i ≤ k → k < j → ops[k]? = some o → o.dst ≠ some t) → (as j).at t = (as i).at t
  | 0, h, _, _ => by obtain rfl : i = 0 := (by omega); rfl
  | j + 1, h, hj, hk => by
    rcases Nat.lt_or_ge i (j + 1) with h1 | h1
    · obtain ⟨o, ho⟩ := c.has (show j < ops.size from hj)
      rw [c.put_ne ho (hk j o (by omega) (Nat.lt_succ_self j) ho), c.at_eq (by omega) (by omega) fun k o g1 g2 => hk k o g1 (by omega)]
    · obtain rfl : i = j + 1 := by omega
      rfl
end
end Go.Proofs.Ytobehhcbnjgojaa.Ev
