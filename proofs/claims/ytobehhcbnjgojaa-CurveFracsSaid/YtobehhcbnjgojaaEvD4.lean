/- A region that draws its order: the operation that writes, and the one that loads. -/
import Derived.Test.YtobehhcbnjgojaaEvD3
namespace Go.Proofs.Ytobehhcbnjgojaa.Ev
variable {P : Program}
section
variable {ops : Array Oper} {as : Nat → AAct} {hs : Nat → Heap} {rc : Nat → Rec} {vs : Nat → AV} {gs : Nat → Heap} {masks kinds : List Nat}

theorem firstFrom (rc : Nat → Rec) (N : Nat) : ∀ {j : Nat}, j ≤ N → ∃ m, j ≤ m ∧ m ≤ N ∧ (m < N → (rc m).ty = 2) ∧ ∀ k, j ≤ k → k < m → (rc k).ty ≠ 2 := by
  intro j hj
  induction hd : N - j generalizing j with
  | zero =>
    obtain rfl : j = N := by omega
    exact ⟨j, Nat.le_refl _, Nat.le_refl _, fun h => by omega, fun k h1 h2 => by omega⟩
  | succ d ih =>
    by_cases h : (rc j).ty = 2
    · exact ⟨j, Nat.le_refl _, hj, fun _ => h, fun k h1 h2 => by omega⟩
    · obtain ⟨m, h1, h2, h3, h4⟩ := ih (j := j + 1) (by omega) (by omega)
      refine ⟨m, by omega, h2, h3, fun k g1 g2 => ?_⟩
      by_cases e : k = j
      · subst e; exact h
      · exact h4 k (by omega) g2

/-- what an operation that may come next knows of those with ranges -/
theorem MInv.write {top : Nat} {E0 E : Env} {W0 W : World} {listed : Array Bool} (c : DC P ops as hs rc vs gs masks kinds) (h0 : ∀ r ∈ (hs 0).hid, r.2 ≤ (hs 0).next) (hE0 : ∀ k, (hs 0).next ≤ k → k < (hs ops.size).next → E0 k = none) (hsz : listed.size = ops.size) (inv : MInv ops hs rc top E0 W0 listed E W) {i : Nat} {o : Oper} (x : Nx ops masks listed i o) (hty : (rc i).ty = 2) :
    HR top E (hs i) W ∧ ∀ E' W', Ext E E' (hs i) (gs i) W W' → HR top E' (gs i) W' → MInv ops hs rc top E0 W0 (listed.setIfInBounds i true) E' W' := by
  have hil : i < listed.size := by rw [hsz]; exact x.lt
  obtain ⟨m, hf, hr⟩ := inv.mem
  have hmN := hf.1
  have hi1 := x.lt
  have him : i = m := by
    rcases Nat.lt_trichotomy i m with h | h | h
    · exact absurd (hf.2.2 i h hty) x.un
    · exact h
    · exfalso
      have hm : m < ops.size := by omega
      obtain ⟨h1, h2⟩ := hf.2.1 hm
      rcases c.free_ x.lt h with h3 | h3
      · exact h2 (x.pre m h3)
      · simp [Ev.free, h1, hty] at h3
  subst him
  -- those behind it
  have hund : ∀ k, i < k → k < ops.size → (rc k).ty = 1 ∨ (rc k).ty = 2 → ¬ Don listed k := fun k h1 h2 h3 => by
    rcases c.free_ h2 h1 with h5 | h5
    · exact x.post k h1 h2 h5
    · rcases h3 with h3 | h3 <;> simp [Ev.free, h3, hty] at h5
  -- those before it
  have hdon : ∀ k, k < i → (rc k).ty = 1 ∨ (rc k).ty = 2 → Don listed k := fun k h1 h3 => by
    rcases h3 with h3 | h3
    · rcases c.free_ hi1 h1 with h5 | h5
      · exact x.pre k h5
      · simp [Ev.free, h3, hty] at h5
    · exact hf.2.2 k h1 h3
  have hget : ∀ id ob, (hs i).get id = some ob → (gD listed rc hs i).get id = some ob := fun id ob h => by
    refine gD_get.2 ⟨?_, h⟩
    rintro ⟨k, h1, h2, h3, h4⟩
    have hk : k < ops.size := by omega
    have := c.tyle hk
    by_cases hr03 : (rc k).ty = 0 ∨ (rc k).ty = 3
    · have := c.range hk hr03; omega
    · exact h2 (hdon k h1 (by omega))
  refine ⟨⟨fun id ob h => hr.obj id ob (hget id ob h), fun p q b d d' hp hq => ?_, hr.lt, fun r h => ?_, c.clean hmN⟩, fun E' W' y hr' => ?_⟩
  · obtain ⟨op, hop⟩ := Option.isSome_iff_exists.1 hp
    obtain ⟨oq, hoq⟩ := Option.isSome_iff_exists.1 hq
    exact hr.inj p q b d d' (by rw [hget p op hop]; rfl) (by rw [hget q oq hoq]; rfl)
  · rw [c.hidc hmN] at h
    exact Nat.le_trans (h0 r h) (c.mono (Nat.zero_le i) hmN).nx
  · obtain ⟨m', g1, g2, g3, g4⟩ := firstFrom rc ops.size (j := i + 1) hi1
    have hgt : (hs (i + 1)).t = (gs i).t := by rw [c.hs1 i o x.op]
    have hgn : (gs i).next = (hs (i + 1)).next := by rw [c.hs1 i o x.op]
    have hdon' : ∀ k, k ≠ i → ¬ Don listed k → ¬ Don (listed.setIfInBounds i true) k := fun k h1 h2 hd => ((Don.set hil).1 hd).elim h2 h1
    have hsee : ∀ id ob, (gD (listed.setIfInBounds i true) rc hs m').get id = some ob → (gs i).get id = some ob := fun id ob h => by
      have h' := gD_get.1 h
      obtain ⟨hh, ht⟩ := Heap.get_some (h := hs m') (i := id) (by rw [h'.2]; rfl)
      rw [ht] at h'
      have hlt : id < (hs m').next := by
        rcases Nat.lt_or_ge id (hs m').next with h1 | h1
        · exact h1
        · have := c.clean g2 id h1; rw [this] at h'; cases h'.2
      have hlt1 : id < (hs (i + 1)).next := by
        rcases Nat.lt_or_ge id (hs (i + 1)).next with h1 | h1
        · exact h1
        · exfalso
          obtain ⟨k, k1, k2, k3, k4⟩ := c.owner h1 g1 g2 hlt
          have hk : k < ops.size := by omega
          have h3 := c.tyle hk
          by_cases hr03 : (rc k).ty = 0 ∨ (rc k).ty = 3
          · have := c.range hk hr03; omega
          · exact h'.1 ⟨k, k2, hdon' k (by omega) (hund k (by omega) hk (by omega)), k3, k4⟩
      have hk := c.keeps (i := i + 1) hlt1 g1 g2 fun k k1 k2 => c.keep (by omega) (g4 k k1 k2) (Nat.lt_of_lt_of_le hlt1 (c.mono k1 (by omega)).nx)
      rw [hk, hgt] at h'
      unfold Heap.get
      rw [if_neg]
      · exact h'.2
      · rw [Heap.hidden_eq (show (gs i).hid = (hs m').hid by rw [y.hid, c.hidc g2, c.hidc hmN]), hh]
        simp
    refine ⟨⟨m', ⟨g2, fun h => ⟨g3 h, hdon' m' (by omega) (hund m' (by omega) h (.inr (g3 h)))⟩, fun k hk h2 => ?_⟩, HR.mkD c h0 g2 (fun id ob h => hr'.obj id ob (hsee id ob h)) (fun p q b d d' hp hq => ?_) (fun id h1 h2 => hr'.lt id ?_ h2)⟩, fun k hk hd id h1 h2 => ?_, inv.x.step y ?_ ?_ ?_⟩
    · by_cases e : k = i
      · exact (Don.set hil).2 (.inr e)
      · rcases Nat.lt_or_ge k i with h5 | h5
        · exact (Don.set hil).2 (.inl (hdon k h5 (.inr h2)))
        · exact absurd h2 (g4 k (by omega) hk)
    · obtain ⟨op, hop⟩ := Option.isSome_iff_exists.1 hp
      obtain ⟨oq, hoq⟩ := Option.isSome_iff_exists.1 hq
      exact hr'.inj p q b d d' (by rw [hsee p op hop]; rfl) (by rw [hsee q oq hoq]; rfl)
    · rw [hgn]; exact Nat.le_trans (c.mono g1 g2).nx h1
    · have hki : k ≠ i := fun h => hd ((Don.set hil).2 (.inr h))
      have hd' : ¬ Don listed k := fun h => hd ((Don.set hil).2 (.inl h))
      cases h3 : E' id with
      | none => rfl
      | some p =>
        obtain ⟨q1, q2, _⟩ := y.fresh id p.1 p.2 (inv.free k hk hd' id h1 h2) h3
        exfalso
        rw [c.n0 hk] at h1
        rw [c.n1 hk] at h2
        rcases Nat.lt_or_ge k i with h4 | h4
        · have := (c.mono (show k + 1 ≤ i from h4) (Nat.le_of_lt hi1)).nx
          omega
        · have := (c.mono (show i + 1 ≤ k by omega) (Nat.le_of_lt hk)).nx
          omega
    · rw [hgn]
      exact (c.mono (show i + 1 ≤ ops.size from hi1) (Nat.le_refl _)).nx
    · exact (c.mono (Nat.zero_le i) (Nat.le_of_lt hi1)).nx
    · intro k b d h1 h2 h3
      have ab := c.mono (Nat.zero_le i) hmN
      have hkn : k < (hs i).next := by
        rcases Nat.lt_or_ge k (hs i).next with h5 | h5
        · exact h5
        · obtain ⟨_, ht⟩ := Heap.get_some h2
          rw [ht, c.clean hmN k h5] at h2; cases h2
      cases he : E0 k with
      | none =>
        obtain ⟨q1, q2, q3⟩ := inv.x.fresh k b d he h3
        rcases q3 with q3 | ⟨q, d', q4, q5, q6⟩
        · exact .inl q3
        · exact .inr ⟨q, d', q4, q5, q6⟩
      | some p =>
        have := inv.x.le k p he
        rw [h3] at this
        cases this
        have hk0 : k < (hs 0).next := by
          rcases Nat.lt_or_ge k (hs 0).next with h5 | h5
          · exact h5
          · have := hE0 k h5 (Nat.lt_of_lt_of_le hkn (c.mono hmN (Nat.le_refl _)).nx)
            rw [this] at he; cases he
        refine .inr ⟨k, d, by rw [← ab.lo]; exact h1, ?_, he⟩
        obtain ⟨hh, ht⟩ := Heap.get_some h2
        rw [ht] at h2
        unfold Heap.get
        rw [if_neg]
        · exact ab.dead k hk0 h2
        · rw [← Heap.hidden_eq ab.hid, hh]; simp

/-- the block that an operation loads from is there -/
theorem MInv.sees {top : Nat} {E0 E : Env} {W0 W : World} {listed : Array Bool} (c : DC P ops as hs rc vs gs masks kinds) (hsz : listed.size = ops.size) (hcl : Closed ops (Don listed)) (inv : MInv ops hs rc top E0 W0 listed E W) {i : Nat} {o : Oper} (x : Nx ops masks listed i o) (hty : (rc i).ty = 3) {B : Nat} {obj : AObj} (hB : (rc i).blk = some B) (hg : (evHeap 3 (masks.getD i 0) (recsAt rc [] i) (hs i)).get B = some obj) :
    ∃ b d O, E B = some (b, d) ∧ W.heap[b]? = some O ∧ OR E B obj O := by
  obtain ⟨m, hf, hr⟩ := inv.mem
  have hmN := hf.1
  have hi1 := x.lt
  have hev : evHeap 3 (masks.getD i 0) (recsAt rc [] i) (hs i) = { hs i with hid := hideOf (masks.getD i 0) (recsAt rc [] i) i ++ (hs i).hid } := by
    unfold evHeap
    rw [if_neg (by decide), if_pos rfl, DC.len]
  rw [hev] at hg
  unfold Heap.get at hg
  split at hg
  · cases hg
  rename_i hh
  have hgt : (hs i).t.get B = some obj := hg
  have hlt : B < (hs i).next := by
    rcases Nat.lt_or_ge B (hs i).next with h1 | h1
    · exact h1
    · rw [c.clean (Nat.le_of_lt hi1) B h1] at hgt; cases hgt
  rw [hidden_any] at hh
  simp only [List.any_append, Bool.or_eq_true, not_or] at hh
  have hvis : ∀ k, k < i → (rc k).n0 ≤ B → B < (rc k).n1 → (masks.getD i 0).testBit k = true := fun k h1 h2 h3 => by
    cases hb : (masks.getD i 0).testBit k
    · exact absurd ((hideOf_iff rc _ B i).2 ⟨k, h1, hb, h2, h3⟩) hh.1
    · rfl
  have hno : ¬ ∃ k, k < m ∧ ¬ Don listed k ∧ (rc k).n0 ≤ B ∧ B < (rc k).n1 := by
    rintro ⟨k, h1, h2, h3, h4⟩
    have hk : k < ops.size := by omega
    rcases Nat.lt_or_ge k i with h5 | h5
    · exact h2 (x.pre k (hvis k h5 h3 h4))
    · rw [c.n0 hk] at h3
      have := (c.mono h5 (Nat.le_of_lt hk)).nx
      omega
  -- one that writes, without order to this one, leaves the block alone
  have hst : ∀ k, k < ops.size → (rc k).ty = 2 → Ev.free (rc k) (rc i) = true ∨ Ev.free (rc i) (rc k) = true → (hs (k + 1)).t.get B = (hs k).t.get B := fun k hk h2 hf' => by
    obtain ⟨ok, hok⟩ := c.has hk
    rw [c.hs1 k ok hok]
    rcases (c.at_ k ok hok).how with ⟨_, h3, _⟩ | ⟨_, _, h3, _, _, _, _, _, h4⟩
    · omega
    · have hj : ∃ j, (rc k).blk = some j ∧ j ≠ B := by
        rcases hf' with hf' | hf'
        · unfold Ev.free at hf'
          rw [if_neg (by omega), if_pos h2, hB, hty] at hf'
          cases hj : (rc k).blk with
          | none => rw [hj] at hf'; simp at hf'
          | some j => rw [hj] at hf'; exact ⟨j, rfl, by simpa using hf'⟩
        · unfold Ev.free at hf'
          rw [if_neg (by omega), if_neg (by omega), if_pos h2, hB, hty] at hf'
          cases hj : (rc k).blk with
          | none => rw [hj] at hf'; simp at hf'
          | some j => rw [hj] at hf'; exact ⟨j, rfl, fun e => by simp [e] at hf'⟩
      obtain ⟨j, hj, hne⟩ := hj
      rw [h3] at hj
      exact h4 j hj B (Ne.symm hne)
  have hkeep : (hs m).t.get B = some obj := by
    rcases Nat.le_total i m with h | h
    · rw [c.keeps hlt h hmN fun k h1 h2 => ?_]
      · exact hgt
      · have hk : k < ops.size := by omega
        by_cases h3 : (rc k).ty = 2
        · have hd := hf.2.2 k h2 h3
          have hki : i < k := by
            rcases Nat.lt_or_ge i k with h4 | h4
            · exact h4
            · obtain rfl : k = i := by omega
              omega
          rcases c.free_ hk hki with h5 | h5
          · exact absurd hd (x.post k hki hk h5)
          · exact hst k hk h3 (.inr h5)
        · exact c.keep hk h3 (Nat.lt_of_lt_of_le hlt (c.mono h1 (Nat.le_of_lt hk)).nx)
    · rcases Nat.lt_or_ge m ops.size with hm | hm
      · have hun := (hf.2.1 hm).2
        have hm2 := (hf.2.1 hm).1
        -- those behind m that have been done are ordered behind it, or free of it
        have hback : ∀ k, m ≤ k → k < ops.size → (rc k).ty = 1 ∨ (rc k).ty = 2 → ¬ Don listed k := fun k h1 h2 h3 hd => by
          by_cases e : k = m
          · subst e; exact hun hd
          · rcases c.free_ h2 (show m < k by omega) with h5 | h5
            · obtain ⟨ok, hok⟩ := c.has h2
              exact hun (c.bef k h2 (Don listed) hcl (fun o' ho' e' he' hb' => hcl k o' ho' hd e' he' hb') m h5)
            · rcases h3 with h3 | h3 <;> simp [Ev.free, h3, hm2] at h5
        have hltm : B < (hs m).next := by
          rcases Nat.lt_or_ge B (hs m).next with h1 | h1
          · exact h1
          · exfalso
            obtain ⟨k, k1, k2, k3, k4⟩ := c.owner h1 h (Nat.le_of_lt hi1) hlt
            have hk : k < ops.size := by omega
            have h3 := c.tyle hk
            by_cases hr03 : (rc k).ty = 0 ∨ (rc k).ty = 3
            · have := c.range hk hr03; omega
            · exact hback k k1 hk (by omega) (x.pre k (hvis k k2 k3 k4))
        have := c.keeps hltm h (Nat.le_of_lt hi1) fun k h1 h2 => by
          have hk : k < ops.size := by omega
          by_cases h3 : (rc k).ty = 2
          · rcases c.free_ hi1 h2 with h5 | h5
            · exact absurd (x.pre k h5) (hback k h1 hk (.inr h3))
            · exact hst k hk h3 (.inl h5)
          · exact c.keep hk h3 (Nat.lt_of_lt_of_le hltm (c.mono h1 (Nat.le_of_lt hk)).nx)
        rw [← this]; exact hgt
      · omega
  refine hr.obj B obj (gD_get.2 ⟨hno, ?_⟩)
  unfold Heap.get
  rw [Heap.hidden_eq (show (hs m).hid = (hs i).hid by rw [c.hidc hmN, c.hidc (Nat.le_of_lt hi1)]), hidden_any, if_neg hh.2]
  exact hkeep
end
end Go.Proofs.Ytobehhcbnjgojaa.Ev
