/- A region that draws its order: the order does not matter. -/
import Derived.Test.YtobehhcbnjgojaaEvM
namespace Go.Proofs.Ytobehhcbnjgojaa.Ev
variable {P : Program}

/-! what is asked of the text -/
def Closed (ops : Array Oper) (D : Nat → Prop) : Prop := ∀ i o, ops[i]? = some o → D i → ∀ e ∈ o.after, Region.binds .any e = true → D e.on
def Before (ops : Array Oper) (i m : Nat) : Prop := ∀ D, Closed ops D → (∀ o, ops[i]? = some o → ∀ e ∈ o.after, Region.binds .any e = true → D e.on) → ∀ k, m.testBit k = true → D k

theorem edges_spec : ∀ {l : List Oper} {i : Nat}, edgesOk l i = true → ∀ k o, l[k]? = some o → ∀ e ∈ o.after, Region.binds .any e = true → e.on < i + k
  | [], i, _, k, o, h => by simp at h
  | q :: l, i, hh, k, o, h => by
    simp only [edgesOk, Bool.and_eq_true, List.all_eq_true, Bool.or_eq_true, Bool.not_eq_true'] at hh
    cases k with
    | zero =>
      simp at h
      subst h
      intro e he hb
      rcases hh.1 e (by simpa using he) with h1 | h1
      · rw [hb] at h1; cases h1
      · simpa [Nat.blt_eq] using h1
    | succ k =>
      intro e he hb
      have := edges_spec hh.2 k o (by simpa using h) e he hb
      omega

theorem fold_or {acc : List Nat} {Q : Nat → Prop} : ∀ {es : List Edge} {s : Nat}, (∀ k, s.testBit k = true → Q k) → (∀ e ∈ es, Region.binds .any e = true → Q e.on ∧ ∀ k, (acc.getD (acc.length - 1 - e.on) 0).testBit k = true → Q k) →
    ∀ k, (es.foldl (fun s e => if Region.binds .any e then s ||| 2 ^ e.on ||| (acc.getD (acc.length - 1 - e.on) 0) else s) s).testBit k = true → Q k
  | [], s, h0, _, k, hk => h0 k hk
  | e :: es, s, h0, h1, k, hk => by
    rw [List.foldl_cons] at hk
    refine fold_or ?_ (fun e' he' => h1 e' (List.mem_cons_of_mem _ he')) k hk
    intro k hk
    split at hk
    · rename_i hb
      obtain ⟨g1, g2⟩ := h1 e (List.mem_cons_self) hb
      simp only [Nat.testBit_or, Bool.or_eq_true, Nat.testBit_two_pow] at hk
      rcases hk with (hk | hk) | hk
      · exact h0 k hk
      · have : e.on = k := by simpa using hk
        subst this; exact g1
      · exact g2 k hk
    · exact h0 k hk
theorem masks_spec {ops : Array Oper} : ∀ {l : List Oper} {acc : List Nat}, edgesOk l acc.length = true → (∀ k o, l[k]? = some o → ops[acc.length + k]? = some o) → (∀ i, i < acc.length → Before ops i (acc.getD (acc.length - 1 - i) 0)) →
    (masksOf l acc).length = acc.length + l.length ∧ ∀ i, i < acc.length + l.length → Before ops i ((masksOf l acc).getD (acc.length + l.length - 1 - i) 0)
  | [], acc, _, _, h => by simpa [masksOf] using h
  | q :: l, acc, he, ho, h => by
    rw [masksOf]
    have hq : ops[acc.length]? = some q := ho 0 q (by simp)
    have hed := edges_spec he 0 q (by simp)
    have he2 : edgesOk l (acc.length + 1) = true := by simp only [edgesOk, Bool.and_eq_true] at he; exact he.2
    have ih := masks_spec (ops := ops) (l := l) (acc := q.after.toList.foldl (fun s e => if Region.binds .any e then s ||| 2 ^ e.on ||| (acc.getD (acc.length - 1 - e.on) 0) else s) 0 :: acc) (by simpa using he2)
      (fun k o hk => by have := ho (k + 1) o (by simpa using hk); simpa [Nat.add_assoc, Nat.add_comm 1] using this)
      (fun i hi => by
        simp only [List.length_cons] at hi ⊢
        by_cases hi2 : i = acc.length
        · subst hi2
          simp only [Nat.add_sub_cancel, Nat.sub_self, List.getD_cons_zero]
          intro D hc hD k hk
          refine fold_or (Q := D) (by simp) (fun e hem hb => ?_) k hk
          have h1 := hD q hq e (by simpa using hem) hb
          have h2 := hed e (by simpa using hem) hb
          exact ⟨h1, h e.on (by omega) D hc (fun o ho' e' he' hb' => hc e.on o ho' h1 e' he' hb')⟩
        · rw [show acc.length + 1 - 1 - i = (acc.length - 1 - i) + 1 from by omega, List.getD_cons_succ]
          exact h i (by omega))
    simp only [List.length_cons] at ih ⊢
    refine ⟨by rw [ih.1]; omega, fun i hi => ?_⟩
    have := ih.2 i (by omega)
    rw [show acc.length + 1 + l.length - 1 - i = acc.length + (l.length + 1) - 1 - i from by omega] at this
    exact this

theorem apartAll_spec {ops : Array Oper} {masks : List Nat} : ∀ {l : List Oper} {i : Nat}, apartAll ops masks l i = true → ∀ j o, l[j]? = some o → ∀ k, k < i + j → (masks.getD (i + j) 0).testBit k = true ∨ ∀ x, ops[k]? = some x → apartA ops x o = true
  | [], _, _, j, o, h => by simp at h
  | q :: l, i, hh, j, o, h => by
    simp only [apartAll, Bool.and_eq_true, List.all_eq_true, List.mem_range, Bool.or_eq_true] at hh
    cases j with
    | zero =>
      simp at h
      subst h
      intro k hk
      rcases hh.1 k (by omega) with h1 | h1
      · exact .inl h1
      · refine .inr fun x hx => ?_
        rw [hx] at h1
        exact h1
    | succ j =>
      intro k hk
      have := apartAll_spec hh.2 j o (by simpa using h) k (by omega)
      rw [show i + (j + 1) = i + 1 + j from by omega]
      exact this

theorem static_spec {ops : Array Oper} (h : staticOk ops = true) : (∀ i o, ops[i]? = some o → ∀ e ∈ o.after, Region.binds .any e = true → e.on < i) ∧
    (∀ i, i < ops.size → Before ops i ((masksOf ops.toList []).reverse.getD i 0)) ∧
    (∀ i o, ops[i]? = some o → ∀ k, k < i → ((masksOf ops.toList []).reverse.getD i 0).testBit k = true ∨ ∀ x, ops[k]? = some x → apartA ops x o = true) := by
  unfold staticOk at h
  simp only [Bool.and_eq_true] at h
  have hm := masks_spec (ops := ops) (l := ops.toList) (acc := []) h.1 (fun k o hk => by simpa using hk) (fun i hi => by simp at hi)
  refine ⟨fun i o ho e he hb => ?_, fun i hi => ?_, fun i o ho k hk => ?_⟩
  · have := edges_spec h.1 i o (by simpa using ho) e he hb
    simpa using this
  · have h1 := hm.2 i (by simpa using hi)
    have h2 := hm.1
    simp only [List.length_nil, Nat.zero_add, Array.length_toList] at h1 h2
    rw [List.getD_eq_getElem?_getD, List.getElem?_reverse (by omega), h2]
    rw [List.getD_eq_getElem?_getD] at h1
    exact h1
  · have := apartAll_spec h.2 i o (by simpa using ho) k (by omega)
    simpa using this
theorem kinds_spec {ops : Array Oper} {masks : List Nat} {i : Nat} {o : Oper} (ho : ops[i]? = some o) : ((kindsOf ops masks).getD i 0 = 0 → kindOf o.op = 0) ∧ ((kindsOf ops masks).getD i 0 = 3 → kindOf o.op = 3) ∧ ((kindsOf ops masks).getD i 0 ≤ 3) := by
  have hi : i < ops.size := (Array.getElem?_eq_some_iff.1 ho).1
  have hk : (kindsOf ops masks).getD i 0 = if kindOf o.op == 1 && soloAt ops masks i then 2 else kindOf o.op := by
    unfold kindsOf
    rw [List.getD_eq_getElem?_getD, List.getElem?_map, List.getElem?_range hi]
    simp only [Option.map_some, Option.getD_some, ho]
  have hle : kindOf o.op ≤ 3 := by
    unfold kindOf
    split <;> omega
  rw [hk]
  split
  · rename_i hc
    refine ⟨fun h => by omega, fun h => by omega, by omega⟩
  · exact ⟨id, id, hle⟩
end Go.Proofs.Ytobehhcbnjgojaa.Ev
