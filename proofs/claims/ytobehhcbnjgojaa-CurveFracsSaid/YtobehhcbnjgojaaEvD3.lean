/- A region that draws its order: memory. -/
import Derived.Test.YtobehhcbnjgojaaEvD2
namespace Go.Proofs.Ytobehhcbnjgojaa.Ev
variable {P : Program}
section
variable {ops : Array Oper} {as : Nat → AAct} {hs : Nat → Heap} {rc : Nat → Rec} {vs : Nat → AV} {gs : Nat → Heap} {masks kinds : List Nat}

/-- the part of what holds that speaks of memory -/
structure MInv (ops : Array Oper) (hs : Nat → Heap) (rc : Nat → Rec) (top : Nat) (E0 : Env) (W0 : World) (listed : Array Bool) (E : Env) (W : World) : Prop where
  mem : ∃ m, FirstW listed rc ops.size m ∧ HR top E (gD listed rc hs m) W
  free : ∀ k, k < ops.size → ¬ Don listed k → ∀ id, (rc k).n0 ≤ id → id < (rc k).n1 → E id = none
  x : XI (hs 0) (hs ops.size) E0 E W0 W

theorem HR.mkD {top : Nat} {E : Env} {W : World} {listed : Array Bool} (c : DC P ops as hs rc vs gs masks kinds) (h0 : ∀ r ∈ (hs 0).hid, r.2 ≤ (hs 0).next) {m : Nat} (hm : m ≤ ops.size)
    (obj : ∀ i o, (gD listed rc hs m).get i = some o → ∃ b c O, E i = some (b, c) ∧ W.heap[b]? = some O ∧ OR E i o O)
    (inj : ∀ i k b c d, ((gD listed rc hs m).get i).isSome → ((gD listed rc hs m).get k).isSome → E i = some (b, c) → E k = some (b, d) → i = k)
    (lt : ∀ i, (hs m).next ≤ i → i < top → E i = none) : HR top E (gD listed rc hs m) W := by
  refine ⟨obj, inj, lt, fun r hr => ?_, c.clean hm⟩
  have hmono := (c.mono (Nat.zero_le m) hm).nx
  have hr' : r ∈ unl listed rc m ++ (hs m).hid := hr
  rcases List.mem_append.1 hr' with h | h
  · unfold unl at h
    simp only [List.mem_filterMap, List.mem_range] at h
    obtain ⟨k, hk, he⟩ := h
    split at he
    · cases he
    · cases he
      show (rc k).n1 ≤ (hs m).next
      rw [c.n1 (by omega)]
      exact (c.mono (show k + 1 ≤ m from hk) hm).nx
  · rw [c.hidc hm] at h
    exact Nat.le_trans (h0 r h) hmono

/-- an operation that leaves memory alone -/
theorem MInv.still {top : Nat} {E0 E : Env} {W0 W : World} {listed : Array Bool} (c : DC P ops as hs rc vs gs masks kinds) (h0 : ∀ r ∈ (hs 0).hid, r.2 ≤ (hs 0).next) (hsz : listed.size = ops.size) (inv : MInv ops hs rc top E0 W0 listed E W) {i : Nat} {o : Oper} (x : Nx ops masks listed i o) (hty : (rc i).ty = 0 ∨ (rc i).ty = 3) : MInv ops hs rc top E0 W0 (listed.setIfInBounds i true) E W := by
  have hil : i < listed.size := by rw [hsz]; exact x.lt
  obtain ⟨m, hf, hr⟩ := inv.mem
  have hrange := c.range x.lt hty
  have hget : ∀ id ob, (gD (listed.setIfInBounds i true) rc hs m).get id = some ob → (gD listed rc hs m).get id = some ob := fun id ob h => by
    rw [gD_get] at h ⊢
    refine ⟨?_, h.2⟩
    rintro ⟨k, h1, h2, h3, h4⟩
    refine h.1 ⟨k, h1, fun hd => ?_, h3, h4⟩
    rcases (Don.set hil).1 hd with h5 | h5
    · exact h2 h5
    · subst h5; omega
  have hsome : ∀ id, ((gD (listed.setIfInBounds i true) rc hs m).get id).isSome → ((gD listed rc hs m).get id).isSome := fun id h => by
    obtain ⟨ob, hob⟩ := Option.isSome_iff_exists.1 h
    rw [hget id ob hob]; rfl
  refine ⟨⟨m, ⟨hf.1, fun hm => ⟨(hf.2.1 hm).1, fun hd => ?_⟩, fun k hk h2 => (Don.set hil).2 (.inl (hf.2.2 k hk h2))⟩, ?_⟩, fun k hk hd => inv.free k hk fun h => hd ((Don.set hil).2 (.inl h)), inv.x⟩
  · rcases (Don.set hil).1 hd with h5 | h5
    · exact (hf.2.1 hm).2 h5
    · subst h5; have := (hf.2.1 hm).1; omega
  · exact HR.mkD c h0 hf.1 (fun id ob h => hr.obj id ob (hget id ob h)) (fun p q b d d' hp hq => hr.inj p q b d d' (hsome p hp) (hsome q hq)) hr.lt

theorem XI.step {h0 hN h g : Heap} {E0 E E' : Env} {W0 W W' : World} (x : XI h0 hN E0 E W0 W) (y : Ext E E' h g W W') (hg : g.next ≤ hN.next) (hn : h0.next ≤ h.next) (hb : ∀ k b d, h.lo ≤ k → (h.get k).isSome → E k = some (b, d) → W0.heap.size ≤ b ∨ ∃ q d', h0.lo ≤ q ∧ (h0.get q).isSome ∧ E0 q = some (b, d')) : XI h0 hN E0 E' W0 W' := by
  refine ⟨E0.le_trans x.le y.le, fun i b c h1 h2 => ?_, Nat.le_trans x.size y.size, fun b hb' hk => ?_, y.os.trans x.os, y.tape.trans x.tape, y.output.trans x.output⟩
  · cases h3 : E i with
    | some p =>
      have := y.le i p h3
      rw [this] at h2
      cases h2
      exact x.fresh i b c h1 h3
    | none =>
      obtain ⟨g1, g2, g3⟩ := y.fresh i b c h3 h2
      refine ⟨Nat.le_trans hn g1, Nat.lt_of_lt_of_le g2 hg, ?_⟩
      rcases g3 with g3 | ⟨k, d, g4, g5, g6⟩
      · exact .inl (Nat.le_trans x.size g3)
      · exact hb k b d g4 g5 g6
  · have h1 := x.keepC b hb' hk
    refine (y.keepC b (Nat.lt_of_lt_of_le hb' x.size) fun k d g1 g2 g3 => ?_).trans h1
    rcases hb k b d g1 g2 g3 with h | ⟨q, d', q1, q2, q3⟩
    · omega
    · exact hk q d' q1 q2 q3

/-- an operation that reads, or makes memory of its own -/
theorem MInv.quiet {top : Nat} {E0 E : Env} {W0 W : World} {listed : Array Bool} (c : DC P ops as hs rc vs gs masks kinds) (h0 : ∀ r ∈ (hs 0).hid, r.2 ≤ (hs 0).next) (hsz : listed.size = ops.size) (inv : MInv ops hs rc top E0 W0 listed E W) {i : Nat} {o : Oper} (x : Nx ops masks listed i o) (hty : (rc i).ty = 1) :
    HR (hs (i + 1)).next E (evHeap 1 (masks.getD i 0) (recsAt rc [] i) (hs i)) W ∧
    ∀ E' W', Ext E E' (evHeap 1 (masks.getD i 0) (recsAt rc [] i) (hs i)) (gs i) W W' → HR (hs (i + 1)).next E' (gs i) W' → MInv ops hs rc top E0 W0 (listed.setIfInBounds i true) E' W' := by
  have hil : i < listed.size := by rw [hsz]; exact x.lt
  obtain ⟨m, hf, hr⟩ := inv.mem
  have hmN := hf.1
  -- i stands before m
  have him : i < m := by
    rcases Nat.lt_trichotomy i m with h | h | h
    · exact h
    · subst h; have := (hf.2.1 x.lt).1; omega
    · exfalso
      have hm : m < ops.size := by have := x.lt; omega
      obtain ⟨h1, h2⟩ := hf.2.1 hm
      rcases c.free_ x.lt h with h3 | h3
      · exact h2 (x.pre m h3)
      · simp [Ev.free, h1, hty] at h3
  -- between i and m nothing writes
  have hnw : ∀ k, i ≤ k → k < m → (rc k).ty ≠ 2 := fun k h1 h2 h3 => by
    have hd := hf.2.2 k h2 h3
    rcases Nat.lt_or_ge i k with h4 | h4
    · have hk : k < ops.size := by omega
      rcases c.free_ hk h4 with h5 | h5
      · exact x.post k h4 hk h5 hd
      · simp [Ev.free, h3, hty] at h5
    · obtain rfl : k = i := by omega
      omega
  have hkeep : ∀ id, id < (hs i).next → (hs m).t.get id = (hs i).t.get id := fun id hid => c.keeps hid (by omega) hmN fun k h1 h2 => c.keep (by omega) (hnw k h1 h2) (Nat.lt_of_lt_of_le hid (c.mono h1 (by omega)).nx)
  have hkeep1 : ∀ id, id < (hs (i + 1)).next → (hs m).t.get id = (hs (i + 1)).t.get id := fun id hid => c.keeps hid (by omega) hmN fun k h1 h2 => c.keep (by omega) (hnw k (by omega) h2) (Nat.lt_of_lt_of_le hid (c.mono h1 (by omega)).nx)
  have hi1 := x.lt
  have hnn := c.n0 hi1
  have hn1 := c.n1 hi1
  have hev : evHeap 1 (masks.getD i 0) (recsAt rc [] i) (hs i) = { hs i with lo := (hs i).next, hid := hideOf (masks.getD i 0) (recsAt rc [] i) i ++ (hs i).hid } := by
    unfold evHeap
    rw [if_pos rfl, DC.len]
  -- what is seen by it is seen
  have hsee : ∀ id ob, (evHeap 1 (masks.getD i 0) (recsAt rc [] i) (hs i)).get id = some ob → (gD listed rc hs m).get id = some ob ∧ id < (hs i).next ∧ (hs i).t.get id = some ob := fun id ob h => by
    rw [hev] at h
    unfold Heap.get at h
    split at h
    · cases h
    · rename_i hh
      have hlt : id < (hs i).next := by
        rcases Nat.lt_or_ge id (hs i).next with h1 | h1
        · exact h1
        · have h' : (hs i).t.get id = some ob := h
          rw [c.clean (Nat.le_of_lt hi1) id h1] at h'; cases h'
      rw [hidden_any] at hh
      simp only [List.any_append, Bool.or_eq_true, not_or] at hh
      refine ⟨gD_get.2 ⟨?_, ?_⟩, hlt, h⟩
      · rintro ⟨k, h1, h2, h3, h4⟩
        have hki : k < i := by
          rcases Nat.lt_or_ge k i with h5 | h5
          · exact h5
          · rw [c.n0 (by omega)] at h3
            have := (c.mono h5 (by omega)).nx
            omega
        refine hh.1 ((hideOf_iff rc _ id i).2 ⟨k, hki, ?_, h3, h4⟩)
        cases hb : (masks.getD i 0).testBit k
        · rfl
        · exact absurd (x.pre k hb) h2
      · unfold Heap.get
        rw [Heap.hidden_eq (show (hs m).hid = (hs i).hid by rw [c.hidc hmN, c.hidc (Nat.le_of_lt hi1)]), hidden_any, if_neg hh.2, hkeep id hlt]
        exact h
  have hrI : HR (hs (i + 1)).next E (evHeap 1 (masks.getD i 0) (recsAt rc [] i) (hs i)) W := by
    refine ⟨fun id ob h => hr.obj id ob (hsee id ob h).1, fun p q b d d' hp hq => ?_, fun id h1 h2 => ?_, fun r hr' => ?_, fun id h1 => ?_⟩
    · obtain ⟨op, hop⟩ := Option.isSome_iff_exists.1 hp
      obtain ⟨oq, hoq⟩ := Option.isSome_iff_exists.1 hq
      exact hr.inj p q b d d' (by rw [(hsee p op hop).1]; rfl) (by rw [(hsee q oq hoq).1]; rfl)
    · rw [evHeap_next] at h1
      exact inv.free i hi1 x.un id (by rw [hnn]; exact h1) (by rw [hn1]; exact h2)
    · rw [evHeap_next]
      rw [hev] at hr'
      have hr'' : r ∈ hideOf (masks.getD i 0) (recsAt rc [] i) i ++ (hs i).hid := hr'
      rcases List.mem_append.1 hr'' with h | h
      · have : ∀ {i : Nat} (_ : i ≤ ops.size) {r : Nat × Nat} {mk : Nat}, r ∈ hideOf mk (recsAt rc [] i) i → r.2 ≤ (hs i).next := by
          intro i
          induction i with
          | zero => intro _ r mk h; simp [recsAt, hideOf] at h
          | succ i ih =>
            intro hi r mk h
            simp only [recsAt, hideOf, Nat.add_sub_cancel] at h
            have hm' := (c.mono (show i ≤ i + 1 by omega) hi).nx
            split at h
            · exact Nat.le_trans (ih (by omega) h) hm'
            · rcases List.mem_cons.1 h with h | h
              · subst h; show (rc i).n1 ≤ _; rw [c.n1 (by omega)]; exact Nat.le_refl _
              · exact Nat.le_trans (ih (by omega) h) hm'
        exact this (Nat.le_of_lt hi1) h
      · rw [c.hidc (Nat.le_of_lt hi1)] at h
        exact Nat.le_trans (h0 r h) (c.mono (Nat.zero_le i) (Nat.le_of_lt hi1)).nx
    · rw [evHeap_next] at h1
      rw [evHeap_t]
      exact c.clean (Nat.le_of_lt hi1) id h1
  refine ⟨hrI, fun E' W' y hr' => ?_⟩
  have hlo : (evHeap 1 (masks.getD i 0) (recsAt rc [] i) (hs i)).lo = (hs i).next := by rw [hev]
  have hnone : ∀ k d b, (evHeap 1 (masks.getD i 0) (recsAt rc [] i) (hs i)).lo ≤ k → ((evHeap 1 (masks.getD i 0) (recsAt rc [] i) (hs i)).get k).isSome → E k ≠ some (b, d) := fun k d b h1 h2 => by
    obtain ⟨ob, hob⟩ := Option.isSome_iff_exists.1 h2
    have := (hsee k ob hob).2.1
    rw [hlo] at h1
    omega
  have hold : ∀ b, b < W.heap.size → W'.heap[b]? = W.heap[b]? := fun b hb => y.keepC b hb fun k d h1 h2 => hnone k d b h1 h2
  have hnew : ∀ id b d, E id = none → E' id = some (b, d) → (hs i).next ≤ id ∧ id < (hs (i + 1)).next ∧ W.heap.size ≤ b := fun id b d h1 h2 => by
    obtain ⟨g1, g2, g3⟩ := y.fresh id b d h1 h2
    rw [evHeap_next] at g1
    refine ⟨g1, by rw [← hn1, (c.at_ i o x.op).n1]; exact g2, ?_⟩
    rcases g3 with g3 | ⟨k, d', g4, g5, g6⟩
    · exact g3
    · exact absurd g6 (hnone k d' b g4 g5)
  have hgs : (hs (i + 1)).t = (gs i).t := by rw [c.hs1 i o x.op]
  have hgh : (gs i).hid = hideOf (masks.getD i 0) (recsAt rc [] i) i ++ (hs i).hid := by
    rw [y.hid, hev]
  -- what is seen now
  have hsee2 : ∀ id ob, (gD (listed.setIfInBounds i true) rc hs m).get id = some ob → ((hs i).next ≤ id ∧ id < (hs (i + 1)).next ∧ (gs i).get id = some ob) ∨ ((gD listed rc hs m).get id = some ob ∧ ¬ ((hs i).next ≤ id ∧ id < (hs (i + 1)).next)) := fun id ob h => by
    have h' := gD_get.1 h
    by_cases hin : (hs i).next ≤ id ∧ id < (hs (i + 1)).next
    · refine .inl ⟨hin.1, hin.2, ?_⟩
      obtain ⟨hh, ht⟩ := Heap.get_some (h := hs m) (i := id) (by rw [h'.2]; rfl)
      rw [ht, hkeep1 id hin.2, hgs] at h'
      unfold Heap.get
      rw [if_neg]
      · exact h'.2
      · rw [hidden_any, hgh, List.any_append]
        simp only [Bool.or_eq_true, not_or]
        refine ⟨fun hx => ?_, ?_⟩
        · obtain ⟨k, h1, _, _, h4⟩ := (hideOf_iff rc _ id i).1 hx
          rw [c.n1 (by omega)] at h4
          have := (c.mono (show k + 1 ≤ i by omega) (Nat.le_of_lt hi1)).nx
          omega
        · rw [← hidden_any, Heap.hidden_eq (show (hs i).hid = (hs m).hid by rw [c.hidc hmN, c.hidc (Nat.le_of_lt hi1)]), hh]
          simp
    · refine .inr ⟨gD_get.2 ⟨?_, h'.2⟩, hin⟩
      rintro ⟨k, h1, h2, h3, h4⟩
      by_cases hk : k = i
      · subst hk; rw [hnn] at h3; rw [hn1] at h4; exact hin ⟨h3, h4⟩
      · exact h'.1 ⟨k, h1, fun hd => ((Don.set hil).1 hd).elim h2 hk, h3, h4⟩
  have hblk : ∀ id ob b d, (gD listed rc hs m).get id = some ob → E id = some (b, d) → b < W.heap.size := fun id ob b d h1 h2 => by
    obtain ⟨b', d', O, e1, e2, _⟩ := hr.obj id ob h1
    rw [h2] at e1
    cases e1
    exact (Array.getElem?_eq_some_iff.1 e2).1
  have hEi : ∀ id, (hs i).next ≤ id → id < (hs (i + 1)).next → E id = none := fun id h1 h2 => inv.free i hi1 x.un id (by rw [hnn]; exact h1) (by rw [hn1]; exact h2)
  have hin1 := (c.mono (show i + 1 ≤ m from him) hmN).nx
  refine ⟨⟨m, ⟨hmN, fun hm => ⟨(hf.2.1 hm).1, fun hd => ?_⟩, fun k hk h2 => (Don.set hil).2 (.inl (hf.2.2 k hk h2))⟩, HR.mkD c h0 hmN (fun id ob h => ?_) (fun p q b d d' hp hq ep eq => ?_) (fun id h1 h2 => ?_)⟩, fun k hk hd id h1 h2 => ?_, inv.x.step y ?_ ?_ ?_⟩
  · exact ((Don.set hil).1 hd).elim (hf.2.1 hm).2 (fun e => by omega)
  · rcases hsee2 id ob h with ⟨_, _, h3⟩ | ⟨h3, _⟩
    · exact hr'.obj id ob h3
    · obtain ⟨b, d, O, e1, e2, e3⟩ := hr.obj id ob h3
      exact ⟨b, d, O, y.le _ _ e1, by rw [hold b (hblk id ob b d h3 e1)]; exact e2, e3.mono y.le⟩
  · obtain ⟨op, hop⟩ := Option.isSome_iff_exists.1 hp
    obtain ⟨oq, hoq⟩ := Option.isSome_iff_exists.1 hq
    rcases hsee2 p op hop with ⟨p1, p2, p3⟩ | ⟨p3, _⟩ <;> rcases hsee2 q oq hoq with ⟨q1, q2, q3⟩ | ⟨q3, _⟩
    · exact hr'.inj p q b d d' (by rw [p3]; rfl) (by rw [q3]; rfl) ep eq
    · obtain ⟨b2, d2, O, e1, e2, e3⟩ := hr.obj q oq q3
      have h5 := y.le _ _ e1
      rw [eq] at h5
      cases h5
      have h6 := (hnew p b d (hEi p p1 p2) ep).2.2
      have h7 := hblk q oq _ _ q3 e1
      omega
    · obtain ⟨b2, d2, O, e1, e2, e3⟩ := hr.obj p op p3
      have h5 := y.le _ _ e1
      rw [ep] at h5
      cases h5
      have h6 := (hnew q b d' (hEi q q1 q2) eq).2.2
      have h7 := hblk p op _ _ p3 e1
      omega
    · obtain ⟨b2, d2, O, e1, e2, e3⟩ := hr.obj p op p3
      obtain ⟨b3, d3, O', f1, f2, f3⟩ := hr.obj q oq q3
      have h5 := y.le _ _ e1
      have h6 := y.le _ _ f1
      rw [ep] at h5
      rw [eq] at h6
      cases h5
      cases h6
      exact hr.inj p q _ _ _ (by rw [p3]; rfl) (by rw [q3]; rfl) e1 f1
  · cases h3 : E' id with
    | none => rfl
    | some p =>
      obtain ⟨g1, g2, g3⟩ := hnew id p.1 p.2 (hr.lt id h1 h2) h3
      omega
  · have hd' : ¬ Don listed k := fun h => hd ((Don.set hil).2 (.inl h))
    have hki : k ≠ i := fun h => hd ((Don.set hil).2 (.inr h))
    cases h3 : E' id with
    | none => rfl
    | some p =>
      obtain ⟨g1, g2, g3⟩ := hnew id p.1 p.2 (inv.free k hk hd' id h1 h2) h3
      exfalso
      rw [c.n0 hk] at h1
      rw [c.n1 hk] at h2
      rcases Nat.lt_or_ge k i with h4 | h4
      · have := (c.mono (show k + 1 ≤ i from h4) (Nat.le_of_lt hi1)).nx
        omega
      · have := (c.mono (show i + 1 ≤ k by omega) (Nat.le_of_lt hk)).nx
        omega
  · have : (gs i).next = (hs (i + 1)).next := by rw [c.hs1 i o x.op]
    rw [this]
    exact (c.mono (show i + 1 ≤ ops.size from hi1) (Nat.le_refl _)).nx
  · rw [evHeap_next]
    exact (c.mono (Nat.zero_le i) (Nat.le_of_lt hi1)).nx
  · exact fun k b d h1 h2 h3 => absurd h3 (hnone k d b h1 h2)
end
end Go.Proofs.Ytobehhcbnjgojaa.Ev
