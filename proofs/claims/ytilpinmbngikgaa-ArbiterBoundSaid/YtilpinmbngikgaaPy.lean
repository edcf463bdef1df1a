/- Layer 9, plain: what can still be ruled in a round; a proposal is bound by it. -/
import Derived.Test.YtilpinmbngikgaaRy
namespace Go.Proofs.Ytilpinmbngikgaa
open Go.Proofs.Ytilpinmbngikgaa.Ev

/-- arbiters of a majority that are open in a round, or have voted for a finding in it -/
structure AbleS (c : Int) (l : List Le) (cs r f : Int) (S : List Nat) : Prop where
  nd : S.Nodup
  big : maj c ≤ S.length
  lt : ∀ a ∈ S, (a : Int) < c
  is : ∀ a ∈ S, openB l a cs r = true ∨ ∃ v ∈ l, v.kd = 4 ∧ v.cs = cs ∧ v.rd = r ∧ v.fr = a ∧ v.fi = f
/-- what can be ruled in a round bounds all later proposals -/
theorem Lw.bound2 {c : Int} {l : List Le} (h : Lw c l) {cs r f : Int} {S : List Nat} (hr0 : 0 < r) (k : AbleS c l cs r f S) : ∀ (n : Nat) (rd : Int), rd.toNat ≤ n → r < rd → ∀ p ∈ l, ofB 3 cs rd p = true → p.fi = f := by
  intro n
  induction n with
  | zero => intro rd hn hr; omega
  | succ n ih =>
    intro rd hn hr p hp ho
    unfold ofB at ho
    simp only [Bool.and_eq_true, decide_eq_true_eq] at ho
    obtain ⟨k3, kc, kr⟩ := ho
    obtain ⟨i, hi, ai, pi⟩ := h.said3 hp k3
    rw [sameL_iff] at ai
    have e1 : (atL l i).cs = cs := by omega
    have e2 : (atL l i).rd = rd := by omega
    have e3 : (atL l i).fi = p.fi := by omega
    rw [e1, e2, e3] at pi
    have cross : ∀ m : Int, maj c ≤ upN (prR (l.take i) cs rd c.toNat) m → r ≤ m ∧ ∃ v ∈ l, v.kd = 4 ∧ v.cs = cs ∧ v.rd = r ∧ v.fi = f := fun m hm => by
      obtain ⟨R, n1, n2, n3⟩ := up_list (l := l.take i) (cs := cs) (rd := rd) (n := m) (C := c.toNat)
      obtain ⟨a, a1, a2⟩ := meet h.crt k.nd n1 k.big (by omega) k.lt fun a ha => by have := (n3 a ha).1; have := h.crt; omega
      obtain ⟨_, y, y1, y2, y3⟩ := n3 a a2
      have yP := isP_yes y2
      have y1' := List.mem_of_mem_take y1
      rcases k.is a a1 with hop | ⟨v, v1, v2, v3, v4, v5, v6⟩
      · have hw : wordB y a cs = true := by unfold wordB caseB; simp [yP.1, yP.2.1, yP.2.2.2]
        have := (vR_ge y1').2 hw
        unfold openB at hop
        simp only [Bool.and_eq_true, decide_eq_true_eq] at hop
        omega
      · have := h.promise_vote y1' v1 (by omega) v2 (by omega) (by omega) (by omega)
        exact ⟨by omega, v, v1, v2, v3, v4, v6⟩
    unfold propR at pi
    split at pi
    · rename_i hm
      have := (cross 0 hm).1
      omega
    · obtain ⟨y, y1, y2⟩ := List.any_eq_true.1 pi
      unfold letR at y2
      simp only [Bool.and_eq_true, decide_eq_true_eq] at y2
      obtain ⟨g1, g2, g3⟩ := y2
      obtain ⟨hry, u, u1, u2, u3, u4, u5⟩ := cross y.vo g3
      obtain ⟨y3, b, y4⟩ := prR_mem y1
      have hyP := isP_yes y4
      obtain ⟨lt, v, v1, v2, v3, v4, v5⟩ := h.promise_cast (List.mem_of_mem_take y3) hyP.1 g1
      obtain ⟨q, q1, q2, q3⟩ := h.vote_prop v1 v2
      have ec : v.cs = cs := by omega
      rw [ec, v4] at q2
      by_cases e : y.vo = r
      · obtain ⟨w, w1, w2, w3⟩ := h.vote_prop u1 u2
        rw [u3, u4] at w2
        rw [e] at q2
        have := h.prop1 q1 w1 q2 w2
        omega
      · have := ih y.vo (by omega) (by omega) q q1 q2
        omega
/-- the open ones of the first k arbiters, as bits -/
def opN (l : List Le) (cs rd : Int) : Nat → Nat
  | 0 => 0
  | k + 1 => if openB l (k : Int) cs rd = true then opN l cs rd k ||| 2 ^ k else opN l cs rd k
theorem opN_lt {l : List Le} {cs rd : Int} : ∀ {k : Nat}, k ≤ 7 → opN l cs rd k < 128
  | 0, _ => by simp [opN]
  | k + 1, h => by
    have ih := opN_lt (l := l) (cs := cs) (rd := rd) (k := k) (by omega)
    rw [opN]
    split
    · exact or_lt ih (by omega)
    · exact ih
theorem opN_bit {l : List Le} {cs rd : Int} {a : Nat} : ∀ {k : Nat}, (opN l cs rd k).testBit a = true ↔ a < k ∧ openB l (a : Int) cs rd = true
  | 0 => by simp [opN]
  | k + 1 => by
    have ih := opN_bit (l := l) (cs := cs) (rd := rd) (a := a) (k := k)
    rw [opN]
    split
    · rename_i ho
      rw [Nat.testBit_or, Bool.or_eq_true, ih, Nat.testBit_two_pow]
      simp only [decide_eq_true_eq]
      constructor
      · rintro (⟨h1, h2⟩ | h)
        · exact ⟨by omega, h2⟩
        · subst h; exact ⟨by omega, ho⟩
      · rintro ⟨h1, h2⟩
        by_cases e : a = k
        · exact .inr e.symm
        · exact .inl ⟨by omega, h2⟩
    · rename_i ho
      rw [ih]
      constructor
      · rintro ⟨h1, h2⟩; exact ⟨by omega, h2⟩
      · rintro ⟨h1, h2⟩
        by_cases e : a = k
        · subst e; exact absurd h2 ho
        · exact ⟨by omega, h2⟩
/-- who has voted for a ruling, by a tally -/
def lkT (T : List Te) (r : Rl3) : Nat := match T.find? (fun e => decide (e.1 = r)) with
  | some e => e.2
  | none => 0
theorem lkT_mem {T : List Te} {r : Rl3} {a : Nat} (h : (lkT T r).testBit a = true) : (r, lkT T r) ∈ T := by
  unfold lkT at h ⊢
  cases hf : T.find? (fun e => decide (e.1 = r)) with
  | none => rw [hf] at h; simp at h
  | some e =>
    have h1 := List.mem_of_find?_eq_some hf
    have h2 := List.find?_some hf
    have h3 : e.1 = r := by simpa using h2
    simp only
    rw [← h3]
    exact h1
theorem lkT_no {T : List Te} {r : Rl3} (h : ∀ e ∈ T, e.1 ≠ r) : lkT T r = 0 := by
  unfold lkT
  rw [List.find?_eq_none.2 fun e he => by simpa using h e he]
theorem lkT_yes {A B : List Te} {r : Rl3} {n : Nat} (h : ∀ e ∈ A, e.1 ≠ r) : lkT (A ++ (r, n) :: B) r = n := by
  unfold lkT
  rw [List.find?_append, List.find?_eq_none.2 fun e he => by simpa using h e he]
  simp
theorem lkT_lt {T : List Te} {r : Rl3} (h : ∀ e ∈ T, e.2 < 128) : lkT T r < 128 := by
  rcases te_split r T with hno | ⟨A, n, B, rfl, hno⟩
  · rw [lkT_no hno]; omega
  · rw [lkT_yes hno]; exact h (r, n) (by simp)
theorem addT_keys {r : Rl3} {a : Nat} {T : List Te} (h : (T.map (·.1)).Nodup) : ((addT T r a).map (·.1)).Nodup := by
  rcases te_split r T with hno | ⟨A, n, B, rfl, hno⟩
  · rw [addT_no hno, List.map_append, List.nodup_append]
    refine ⟨h, by simp, fun x hx y hy e => ?_⟩
    obtain ⟨e1, h1, rfl⟩ := List.mem_map.1 hx
    have : y = r := by simpa using hy
    exact hno e1 h1 (by rw [e, this])
  · rw [addT_yes hno]
    simpa using h
theorem tlN_keys {l : List Le} : ∀ k, ((tlN l k).map (·.1)).Nodup
  | 0 => List.nodup_nil
  | k + 1 => by
    have ih := tlN_keys (l := l) k
    rw [tlN]
    split
    · exact addT_keys ih
    · exact ih
theorem lkT_eq {T : List Te} (h : (T.map (·.1)).Nodup) {e : Te} (he : e ∈ T) : lkT T e.1 = e.2 := by
  rcases te_split e.1 T with hno | ⟨A, n, B, rfl, hno⟩
  · exact absurd rfl (hno e he)
  · rw [lkT_yes hno]
    rcases List.mem_append.1 he with h1 | h1
    · exact absurd rfl (hno e h1)
    · rcases List.mem_cons.1 h1 with h1 | h1
      · have := congrArg (·.2) h1
        exact this.symm
      · rw [List.map_append, List.map_cons, List.nodup_append] at h
        have := (List.nodup_cons.1 h.2.1).1
        exact absurd (List.mem_map.2 ⟨e, h1, rfl⟩) this
theorem popN_or {a b : Nat} : popN b ≤ popN (a ||| b) := by
  unfold popN
  rw [← List.countP_eq_length_filter, ← List.countP_eq_length_filter]
  exact List.countP_mono_left fun x _ h => by rw [Nat.testBit_or, h, Bool.or_true]
/-- the open ones, and those that have voted for what was proposed -/
def ableN (c : Int) (l : List Le) (cs rd : Int) : Nat := opN l cs rd c.toNat ||| lkT (tlN l l.length) (cs, rd, prF l cs rd)
def canE (c : Int) (l : List Le) (id rd : Int) : Int := if errL c l ≠ 0 then errL c l else if (inB id 1 1099511627776 && rdB rd) = true then 0 else 1
def canO (c : Int) (l : List Le) (id rd : Int) : Bool := decide (canE c l id rd = 0) && (prB l id rd && decide ((popN (ableN c l id rd) : Int) ≥ maj c))
def canF (c : Int) (l : List Le) (id rd : Int) : Int := if canO c l id rd = true then prF l id rd else 0
def canA (c : Int) (l : List Le) (id rd : Int) : Bool := decide (canE c l id rd = 0) && (!prB l id rd && decide ((popN (opN l id rd c.toNat) : Int) ≥ maj c))
theorem open_set {c : Int} {l : List Le} {cs r : Int} (hc : 3 ≤ c ∧ c ≤ 7) (hb : (popN (opN l cs r c.toNat) : Int) ≥ maj c) (f : Int) : ∃ S, AbleS c l cs r f S := by
  unfold popN at hb
  refine ⟨_, List.nodup_range.filter _, hb, fun a ha => ?_, fun a ha => ?_⟩
  · have := (opN_bit.1 (List.mem_filter.1 ha).2).1
    omega
  · exact .inl (opN_bit.1 (List.mem_filter.1 ha).2).2
theorem able_set {c : Int} {l : List Le} {cs r : Int} (hc : 3 ≤ c ∧ c ≤ 7) (hfr : ∀ x ∈ l, 0 ≤ x.fr ∧ x.fr < c) (hb : (popN (ableN c l cs r) : Int) ≥ maj c) : ∃ S, AbleS c l cs r (prF l cs r) S := by
  unfold popN at hb
  have key : ∀ a, (ableN c l cs r).testBit a = true → (a : Int) < c ∧ (openB l a cs r = true ∨ ∃ v ∈ l, v.kd = 4 ∧ v.cs = cs ∧ v.rd = r ∧ v.fr = a ∧ v.fi = prF l cs r) := fun a ha => by
    unfold ableN at ha
    rw [Nat.testBit_or, Bool.or_eq_true] at ha
    rcases ha with ha | ha
    · have := opN_bit.1 ha
      exact ⟨by omega, .inl this.2⟩
    · obtain ⟨y, y1, y2, y3, y4⟩ := tl_bit (Nat.le_refl _) _ (lkT_mem ha) ha
      have := hfr y y1
      simp only [rlOf, Prod.mk.injEq] at y3
      exact ⟨by omega, .inr ⟨y, y1, y2, y3.1, y3.2.1, by omega, y3.2.2⟩⟩
  exact ⟨_, List.nodup_range.filter _, hb, fun a ha => (key a (List.mem_filter.1 ha).2).1, fun a ha => (key a (List.mem_filter.1 ha).2).2⟩
/-- of a proposal: what Can says of a lesser round -/
theorem can_below {c : Int} {l : List Le} (h : Lw c l) {x : Le} (hx : x ∈ l) (k3 : x.kd = 3) {r : Int} (h0 : 0 < r) (hr : r < x.rd) : canA c l x.cs r = false ∧ (canO c l x.cs r = true → canF c l x.cs r = x.fi) := by
  have ho : ofB 3 x.cs x.rd x = true := by unfold ofB; simp [k3]
  constructor
  · cases hA : canA c l x.cs r
    · rfl
    · unfold canA at hA
      simp only [Bool.and_eq_true, decide_eq_true_eq] at hA
      obtain ⟨S, hS⟩ := open_set h.crt hA.2.2 (x.fi + 1)
      have := h.bound2 h0 hS _ x.rd (Nat.le_refl _) hr x hx ho
      omega
  · intro hO
    unfold canF
    rw [if_pos hO]
    unfold canO at hO
    simp only [Bool.and_eq_true, decide_eq_true_eq] at hO
    obtain ⟨S, hS⟩ := able_set h.crt h.fr hO.2.2
    exact (h.bound2 h0 hS _ x.rd (Nat.le_refl _) hr x hx ho).symm
/-- of a ruling: it can be ruled in its round -/
theorem can_ruled {c : Int} {l : List Le} (h : Lw c l) {r : Rl3} (hr : r ∈ rlsOf c l) : prB l r.1 r.2.1 = true ∧ prF l r.1 r.2.1 = r.2.2 ∧ (popN (ableN c l r.1 r.2.1) : Int) ≥ maj c := by
  obtain ⟨S, k⟩ := rls_ruled (fun x hx => (h.fr x hx).1) hr
  obtain ⟨v, v1, v2, v3, v4, v5⟩ := k.any h
  obtain ⟨p, p1, p2, p3⟩ := h.vote_prop v1 v2
  rw [v3, v4] at p2
  have hB : prB l r.1 r.2.1 = true := by
    rw [pr_there]
    exact List.any_eq_true.2 ⟨p, p1, p2⟩
  obtain ⟨q, q1, q2, q3⟩ := prF_cast hB
  have hF : prF l r.1 r.2.1 = r.2.2 := by
    have := h.prop1 p1 q1 p2 q2
    omega
  refine ⟨hB, hF, ?_⟩
  have h1 := (srtT_perm _).subset hr
  unfold ofT at h1
  obtain ⟨e, h2, rfl⟩ := List.mem_map.1 h1
  obtain ⟨h3, h4⟩ := List.mem_filter.1 h2
  have h5 := of_decide_eq_true h4
  unfold ableN
  rw [hF]
  have h6 : lkT (tlN l l.length) (e.1.1, e.1.2.1, e.1.2.2) = e.2 := lkT_eq (tlN_keys _) h3
  rw [h6]
  have := popN_or (a := opN l e.1.1 e.1.2.1 c.toNat) (b := e.2)
  omega
/-- rounds and cases of what was ruled are those of votes -/
theorem rls_vote {c : Int} {l : List Le} (h : Lw c l) {r : Rl3} (hr : r ∈ rlsOf c l) : ∃ v ∈ l, v.kd = 4 ∧ v.cs = r.1 ∧ v.rd = r.2.1 ∧ v.fi = r.2.2 := by
  obtain ⟨S, k⟩ := rls_ruled (fun x hx => (h.fr x hx).1) hr
  exact k.any h
theorem frm_case {c : Int} {l : List Le} (he : errL c l = 0) : ∀ x ∈ l, (inB x.cs 1 1099511627776 && rdB x.rd) = true := fun x hx => by
  have h3 := (errL_ok he).2.2 x hx
  unfold frmB headB at h3
  simp only [Bool.and_eq_true] at h3 ⊢
  exact ⟨h3.1.2.1, h3.1.2.2.1⟩
end Go.Proofs.Ytilpinmbngikgaa
