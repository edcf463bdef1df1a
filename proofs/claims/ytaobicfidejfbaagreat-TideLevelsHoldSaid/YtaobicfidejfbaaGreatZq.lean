/- Plain facts: gauges that clash, those that are suspected. No walk. -/
import Derived.Test.YtaobicfidejfbaaGreatQq
namespace Go.Proofs.YtaobicfidejfbaaGreat

def neG (cs : List Cy) (ss : List Sh) (g : Ga) : Bool := decide ((lvG cs ss g).1 ≤ (lvG cs ss g).2)
def fitG (cs : List Cy) (ss : List Sh) (l : List Ga) : Bool := decide ((comG cs ss l).1 ≤ (comG cs ss l).2)
/-- do two gauges agree with some level together? -/
def toG (cs : List Cy) (ss : List Sh) (a b : Ga) : Bool := decide (max (lvG cs ss a).1 (lvG cs ss b).1 ≤ min (lvG cs ss a).2 (lvG cs ss b).2)
/-- the pairs of a gauge with those behind it -/
def pairP (cs : List Cy) (ss : List Sh) (a : Ga) (b : Ga) : List (Int × Int) := if (neG cs ss b && !toG cs ss a b) = true then [(a.id, b.id)] else []
def pairsTo (cs : List Cy) (ss : List Sh) (a : Ga) (r : List Ga) : List (Int × Int) := r.flatMap (pairP cs ss a)
def rowCl (cs : List Cy) (ss : List Sh) (a : Ga) (r : List Ga) : List (Int × Int) := if neG cs ss a = true then pairsTo cs ss a r else [(a.id, a.id)]
/-- the pairs of the first k gauges -/
def clTo (cs : List Cy) (ss : List Sh) (l : List Ga) : Nat → List (Int × Int)
  | 0 => []
  | k + 1 => clTo cs ss l k ++ rowCl cs ss (nthG l k) (l.drop (k + 1))
theorem pairsTo_succ {cs ss a} {r : List Ga} {j : Nat} (h : j < r.length) : pairsTo cs ss a (r.take (j + 1)) = pairsTo cs ss a (r.take j) ++ pairP cs ss a (nthG r j) := by
  unfold pairsTo
  rw [List.take_succ_eq_append_getElem h, List.flatMap_append, nthG_eq h]
  simp
theorem clTo_mem {cs ss} {l : List Ga} {p : Int × Int} : ∀ {k : Nat}, p ∈ clTo cs ss l k ↔ ∃ i, i < k ∧ p ∈ rowCl cs ss (nthG l i) (l.drop (i + 1))
  | 0 => by simp [clTo]
  | k + 1 => by
    rw [clTo, List.mem_append, clTo_mem (k := k)]
    constructor
    · rintro (⟨i, h1, h2⟩ | h)
      · exact ⟨i, by omega, h2⟩
      · exact ⟨k, by omega, h⟩
    · rintro ⟨i, h1, h2⟩
      by_cases e : i = k
      · subst e; exact .inr h2
      · exact .inl ⟨i, by omega, h2⟩
theorem toG_comm {cs ss} {a b : Ga} : toG cs ss a b = toG cs ss b a := by
  unfold toG
  rw [Int.max_comm, Int.min_comm]
/-- a pair of all: two gauges that don't agree, or one that agrees with nothing -/
def Cl (cs : List Cy) (ss : List Sh) (a b : Ga) : Prop := (a = b ∧ neG cs ss a = false) ∨ (neG cs ss a = true ∧ neG cs ss b = true ∧ toG cs ss a b = false)
theorem cl_of {cs ss} {l : List Ga} {p : Int × Int} (h : p ∈ clTo cs ss l l.length) : ∃ a ∈ l, ∃ b ∈ l, Cl cs ss a b ∧ p = (a.id, b.id) := by
  obtain ⟨i, hi, hp⟩ := clTo_mem.1 h
  have ha : nthG l i ∈ l := by rw [nthG_eq hi]; exact List.getElem_mem hi
  unfold rowCl at hp
  split at hp
  · rename_i hn
    unfold pairsTo at hp
    rw [List.mem_flatMap] at hp
    obtain ⟨b, hb, hp⟩ := hp
    unfold pairP at hp
    split at hp
    · rename_i hc
      simp only [Bool.and_eq_true, Bool.not_eq_true'] at hc
      exact ⟨_, ha, b, List.mem_of_mem_drop hb, .inr ⟨hn, hc.1, hc.2⟩, by simpa using hp⟩
    · cases hp
  · rename_i hn
    exact ⟨_, ha, _, ha, .inl ⟨rfl, by simpa using hn⟩, by simpa using hp⟩
theorem cl_in {cs ss} {l : List Ga} {a b : Ga} (ha : a ∈ l) (hb : b ∈ l) (h : Cl cs ss a b) : (a.id, b.id) ∈ clTo cs ss l l.length ∨ (b.id, a.id) ∈ clTo cs ss l l.length := by
  obtain ⟨i, hi, rfl⟩ := List.getElem_of_mem ha
  obtain ⟨j, hj, rfl⟩ := List.getElem_of_mem hb
  rcases h with ⟨e, hn⟩ | ⟨h1, h2, h3⟩
  · left
    refine clTo_mem.2 ⟨i, hi, ?_⟩
    unfold rowCl
    rw [nthG_eq hi, if_neg (by simp [hn]), e]
    simp [e]
  · have key : ∀ {i j : Nat} (hi : i < l.length) (hj : j < l.length), i < j → neG cs ss l[i] = true → neG cs ss l[j] = true → toG cs ss l[i] l[j] = false → (l[i].id, l[j].id) ∈ clTo cs ss l l.length := by
      intro i j hi hj hij h1 h2 h3
      refine clTo_mem.2 ⟨i, hi, ?_⟩
      unfold rowCl pairsTo
      rw [nthG_eq hi, if_pos h1, List.mem_flatMap]
      refine ⟨l[j], ?_, ?_⟩
      · rw [List.mem_drop_iff_getElem]
        exact ⟨j - (i + 1), by omega, by congr 1; omega⟩
      · unfold pairP
        rw [if_pos (by simp [h2, h3])]
        simp
    rcases Nat.lt_trichotomy i j with g | g | g
    · exact .inl (key hi hj g h1 h2 h3)
    · subst g
      exfalso
      have h1' := of_decide_eq_true h1
      have h3' := of_decide_eq_false h3
      omega
    · exact .inr (key hj hi g h2 h1 (by rw [toG_comm]; exact h3))
theorem lv_bd (cs : List Cy) (ss : List Sh) (g : Ga) : -4000 ≤ (lvG cs ss g).1 ∧ (lvG cs ss g).2 ≤ 4000 := by
  unfold lvG
  simp only
  omega
/-- all gauges agree with some level exactly if each two do -/
theorem fit_iff {cs ss} {l : List Ga} : fitG cs ss l = true ↔ (∀ a ∈ l, neG cs ss a = true) ∧ ∀ a ∈ l, ∀ b ∈ l, toG cs ss a b = true := by
  constructor
  · intro h
    have h' := of_decide_eq_true h
    have hv := (com_iff cs ss l (comG cs ss l).1).1 ⟨Int.le_refl _, h'⟩
    refine ⟨fun a ha => ?_, fun a ha b hb => ?_⟩
    · have := hv.2 a ha
      exact decide_eq_true (by omega)
    · have h1 := hv.2 a ha
      have h2 := hv.2 b hb
      exact decide_eq_true (by omega)
  · rintro ⟨h1, h2⟩
    have key : ∀ (m : List Ga), (∀ g ∈ m, g ∈ l) → ((comG cs ss m).1 = -4000 ∨ ∃ g ∈ m, (comG cs ss m).1 = (lvG cs ss g).1) ∧ ((comG cs ss m).2 = 4000 ∨ ∃ g ∈ m, (comG cs ss m).2 = (lvG cs ss g).2) := by
      have gen : ∀ (m : List Ga) (x : Int × Int), (((m.map (lvG cs ss)).foldl meetP x).1 = x.1 ∨ ∃ g ∈ m, ((m.map (lvG cs ss)).foldl meetP x).1 = (lvG cs ss g).1) ∧ (((m.map (lvG cs ss)).foldl meetP x).2 = x.2 ∨ ∃ g ∈ m, ((m.map (lvG cs ss)).foldl meetP x).2 = (lvG cs ss g).2) := by
        intro m
        induction m with
        | nil => intro x; exact ⟨.inl rfl, .inl rfl⟩
        | cons g r ih =>
          intro x
          obtain ⟨q1, q2⟩ := ih (meetP x (lvG cs ss g))
          rw [List.map_cons, List.foldl_cons]
          refine ⟨?_, ?_⟩
          · rcases q1 with q1 | ⟨g', hg', q1⟩
            · rw [q1]
              unfold meetP
              simp only
              by_cases hx : x.1 ≤ (lvG cs ss g).1
              · exact .inr ⟨g, List.mem_cons_self .., by omega⟩
              · exact .inl (by omega)
            · exact .inr ⟨g', List.mem_cons_of_mem _ hg', q1⟩
          · rcases q2 with q2 | ⟨g', hg', q2⟩
            · rw [q2]
              unfold meetP
              simp only
              by_cases hx : (lvG cs ss g).2 ≤ x.2
              · exact .inr ⟨g, List.mem_cons_self .., by omega⟩
              · exact .inl (by omega)
            · exact .inr ⟨g', List.mem_cons_of_mem _ hg', q2⟩
      intro m _
      exact gen m (-4000, 4000)
    obtain ⟨q1, q2⟩ := key l (fun _ h => h)
    refine decide_eq_true ?_
    rcases q1 with q1 | ⟨a, ha, q1⟩ <;> rcases q2 with q2 | ⟨b, hb, q2⟩
    · omega
    · have := lv_bd cs ss b
      have := of_decide_eq_true (h1 b hb)
      omega
    · have := lv_bd cs ss a
      have := of_decide_eq_true (h1 a ha)
      omega
    · have := of_decide_eq_true (h2 a ha b hb)
      omega
theorem not_fit {cs ss} {l : List Ga} (h : fitG cs ss l = false) : ∃ a ∈ l, ∃ b ∈ l, Cl cs ss a b := by
  by_cases h1 : ∀ a ∈ l, neG cs ss a = true
  · by_cases h2 : ∀ a ∈ l, ∀ b ∈ l, toG cs ss a b = true
    · rw [fit_iff.2 ⟨h1, h2⟩] at h; cases h
    · simp only [Classical.not_forall, Bool.not_eq_true] at h2
      obtain ⟨a, ha, b, hb, h3⟩ := h2
      exact ⟨a, ha, b, hb, .inr ⟨h1 a ha, h1 b hb, h3⟩⟩
  · simp only [Classical.not_forall, Bool.not_eq_true] at h1
    obtain ⟨a, ha, h3⟩ := h1
    exact ⟨a, ha, a, ha, .inl ⟨rfl, h3⟩⟩
theorem fit_no {cs ss} {l : List Ga} (h : fitG cs ss l = true) {a b : Ga} (ha : a ∈ l) (hb : b ∈ l) : ¬ Cl cs ss a b := by
  obtain ⟨h1, h2⟩ := fit_iff.1 h
  rintro (⟨_, h3⟩ | ⟨_, _, h3⟩)
  · rw [h1 a ha] at h3; cases h3
  · rw [h2 a ha b hb] at h3; cases h3
theorem cl_empty {cs ss} {l : List Ga} : clTo cs ss l l.length = [] ↔ fitG cs ss l = true := by
  constructor
  · intro h
    cases hf : fitG cs ss l with
    | true => rfl
    | false =>
      obtain ⟨a, ha, b, hb, hc⟩ := not_fit hf
      rcases cl_in ha hb hc with h2 | h2 <;> (rw [h] at h2; cases h2)
  · intro h
    cases hc : clTo cs ss l l.length with
    | nil => rfl
    | cons p r =>
      obtain ⟨a, ha, b, hb, h2, _⟩ := cl_of (cs := cs) (ss := ss) (l := l) (p := p) (by rw [hc]; exact List.mem_cons_self ..)
      exact absurd h2 (fit_no h ha hb)
/-- the others agree with some level exactly if the gauge stands in all clashes -/
theorem suspect_iff {cs ss} {l m : List Ga} (hp : m.Perm l) (hid : (gids l).Nodup) {i : Nat} (hi : i < l.length) : fitG cs ss (l.eraseIdx i) = true ↔ ∀ p ∈ clTo cs ss m m.length, p.1 = (nthG l i).id ∨ p.2 = (nthG l i).id := by
  have hnth : nthG l i = l[i] := nthG_eq hi
  have hne : ∀ a ∈ l, a.id ≠ (nthG l i).id → a ∈ l.eraseIdx i := by
    intro a ha hn
    obtain ⟨j, hj, rfl⟩ := List.getElem_of_mem ha
    rw [List.mem_eraseIdx_iff_getElem]
    refine ⟨j, hj, fun e => ?_, rfl⟩
    subst e; rw [hnth] at hn; exact hn rfl
  have hout : ∀ a ∈ l.eraseIdx i, a.id ≠ (nthG l i).id := by
    intro a ha e
    rw [List.mem_eraseIdx_iff_getElem] at ha
    obtain ⟨j, hj, hji, rfl⟩ := ha
    rw [hnth] at e
    have h1 : (gids l)[j]'(by simpa [gids] using hj) = (gids l)[i]'(by simpa [gids] using hi) := by simpa [gids] using e
    have hpw := List.pairwise_iff_getElem.1 hid
    have hjl : j < (gids l).length := by simpa [gids] using hj
    have hil : i < (gids l).length := by simpa [gids] using hi
    rcases Nat.lt_trichotomy j i with g | g | g
    · exact hpw j i hjl hil g h1
    · exact hji g
    · exact hpw i j hil hjl g h1.symm
  constructor
  · intro h p hp2
    obtain ⟨a, ha, b, hb, hc, rfl⟩ := cl_of hp2
    have ha := hp.subset ha
    have hb := hp.subset hb
    by_cases e1 : a.id = (nthG l i).id
    · exact .inl e1
    · by_cases e2 : b.id = (nthG l i).id
      · exact .inr e2
      · exact absurd hc (fit_no h (hne a ha e1) (hne b hb e2))
  · intro h
    cases hf : fitG cs ss (l.eraseIdx i) with
    | true => rfl
    | false =>
      obtain ⟨a, ha, b, hb, hc⟩ := not_fit hf
      have ha' := hp.symm.subset ((List.eraseIdx_sublist ..).subset ha)
      have hb' := hp.symm.subset ((List.eraseIdx_sublist ..).subset hb)
      rcases cl_in ha' hb' hc with h2 | h2
      · rcases h _ h2 with e | e
        · exact absurd e (hout a ha)
        · exact absurd e (hout b hb)
      · rcases h _ h2 with e | e
        · exact absurd e (hout b hb)
        · exact absurd e (hout a ha)
theorem perm_map {α β : Type} {f : α → β} : ∀ {m n : List β}, m.Perm n → ∀ {l : List α}, n = l.map f → ∃ l' : List α, l'.Perm l ∧ m = l'.map f := by
  intro m n h
  induction h with
  | nil => intro l e; exact ⟨[], by rw [List.map_eq_nil_iff.1 e.symm], rfl⟩
  | cons x _ ih =>
    intro l e
    cases l with
    | nil => cases e
    | cons y l =>
      simp only [List.map_cons, List.cons.injEq] at e
      obtain ⟨rfl, e⟩ := e
      obtain ⟨l', h1, h2⟩ := ih e
      exact ⟨y :: l', h1.cons _, by rw [h2]; rfl⟩
  | swap x y r =>
    intro l e
    match l, e with
    | a :: b :: l, e =>
      simp only [List.map_cons, List.cons.injEq] at e
      obtain ⟨rfl, rfl, rfl⟩ := e
      exact ⟨b :: a :: l, List.Perm.swap _ _ _, rfl⟩
  | trans _ _ ih1 ih2 =>
    intro l e
    obtain ⟨l2, h1, rfl⟩ := ih2 e
    obtain ⟨l3, h3, rfl⟩ := ih1 rfl
    exact ⟨l3, h3.trans h1, rfl⟩
end Go.Proofs.YtaobicfidejfbaaGreat
