/- Layer 9, plain: the votes that show a ruling; what votes show. -/
import Derived.Test.YtilpinmbngikgaaGreatKt
import Derived.Test.YtilpinmbngikgaaGreatRq
import Derived.Test.YtilpinmbngikgaaGreatRx
import Derived.Test.YtilpinmbngikgaaGreatKw
/- Plain facts of layer 9: all rulings of a case have the same finding, if the letters are lawful (the specification's rule). No walk, no number of a function. -/
namespace Go.Proofs.YtilpinmbngikgaaGreat
/-- formed letters, each lawful behind those before it -/
structure Lw (c : Int) (l : List Le) : Prop where
  crt : 3 ≤ c ∧ c ≤ 7
  law : ∀ i, i < l.length → lawR c (l.take i) (atL l i) = true
  fr : ∀ x ∈ l, 0 ≤ x.fr ∧ x.fr < c
  rd : ∀ x ∈ l, 0 < x.rd
theorem sameL_iff {a b : Le} : alikeB a b = true ↔ a.cs = b.cs ∧ a.kd = b.kd ∧ a.rd = b.rd ∧ a.fr = b.fr ∧ a.vo = b.vo ∧ a.fi = b.fi := by
  unfold alikeB
  simp
theorem atL_in {l : List Le} {i : Nat} (h : i < l.length) : atL l i ∈ l := by
  unfold atL; simp [h]
theorem in_atL {l : List Le} {x : Le} (h : x ∈ l) : ∃ i, i < l.length ∧ atL l i = x := by
  obtain ⟨i, hi, rfl⟩ := List.mem_iff_getElem.1 h
  exact ⟨i, hi, by unfold atL; simp [hi]⟩
theorem in_take {l : List Le} {k : Nat} {x : Le} (h : x ∈ l.take k) : ∃ i, i < k ∧ i < l.length ∧ atL l i = x := by
  obtain ⟨i, hi, e⟩ := in_atL h
  rw [List.length_take] at hi
  refine ⟨i, by omega, by omega, ?_⟩
  rw [← e]
  unfold atL
  rw [List.getElem?_take_of_lt (by omega)]
theorem take_in {l : List Le} {i k : Nat} (h : i < k) (hi : i < l.length) : atL l i ∈ l.take k := by
  have : atL l i = atL (l.take k) i := by unfold atL; rw [List.getElem?_take_of_lt h]
  rw [this]
  exact atL_in (by rw [List.length_take]; omega)
/-- where something was said first -/
theorem said_at {l : List Le} : ∀ k, k < l.length → ∃ i, i ≤ k ∧ alikeB (atL l i) (atL l k) = true ∧ (l.take i).any (fun y => alikeB y (atL l i)) = false := by
  intro k
  induction k using Nat.strongRecOn with
  | _ k ih =>
    intro hk
    cases h : (l.take k).any fun y => alikeB y (atL l k)
    · exact ⟨k, Nat.le_refl _, by rw [sameL_iff]; simp, h⟩
    · obtain ⟨y, hy, ha⟩ := List.any_eq_true.1 h
      obtain ⟨j, hj, hjl, rfl⟩ := in_take hy
      obtain ⟨i, h1, h2, h3⟩ := ih j hj hjl
      rw [sameL_iff] at ha h2
      exact ⟨i, by omega, by rw [sameL_iff]; omega, h3⟩
theorem Lw.said {c : Int} {l : List Le} (h : Lw c l) {x : Le} (hx : x ∈ l) : ∃ i, i < l.length ∧ alikeB (atL l i) x = true ∧ (l.take i).any (fun y => alikeB y (atL l i)) = false ∧ lawR c (l.take i) (atL l i) = true := by
  obtain ⟨k, hk, rfl⟩ := in_atL hx
  obtain ⟨i, h1, h2, h3⟩ := said_at k hk
  exact ⟨i, by omega, h2, h3, h.law i (by omega)⟩
/-- a last vote was cast -/
theorem lv_cast {l : List Le} {a cs : Int} : ∀ {k : Nat}, k ≤ l.length → 0 < lvR l a cs k → ∃ y ∈ l.take k, voteB y a cs = true ∧ y.rd = lvR l a cs k ∧ y.fi = lvF l a cs k
  | 0, _, h => by simp [lvR] at h
  | k + 1, hk, h => by
    rw [lvR] at h ⊢
    rw [lvF]
    split at h
    · rename_i hc
      rw [if_pos hc, if_pos hc]
      exact ⟨atL l k, take_in (by omega) (by omega), hc.1, rfl, rfl⟩
    · rename_i hc
      rw [if_neg hc, if_neg hc]
      obtain ⟨y, h1, h2⟩ := lv_cast (k := k) (by omega) h
      exact ⟨y, (List.take_subset_take_left l (Nat.le_succ k)) h1, h2⟩
theorem vR_cast {l : List Le} {a cs : Int} (h : 0 < vR l a cs) : ∃ y ∈ l, voteB y a cs = true ∧ y.rd = vR l a cs ∧ y.fi = vF l a cs := by
  obtain ⟨y, h1, h2⟩ := lv_cast (Nat.le_refl _) h
  exact ⟨y, List.mem_of_mem_take h1, h2⟩
theorem idxF_get {t : Le → Bool} : ∀ {l : List Le} {c : Nat}, 0 ≤ idxF t l c → ∃ i, i < l.length ∧ idxF t l c = ((c + i : Nat) : Int) ∧ t (atL l i) = true
  | [], _, h => by simp [idxF] at h
  | x :: r, c, h => by
    rw [idxF] at h ⊢
    split at h
    · rename_i hx
      rw [if_pos hx]
      exact ⟨0, by simp, by simp, hx⟩
    · rename_i hx
      rw [if_neg hx]
      obtain ⟨i, h1, h2, h3⟩ := idxF_get h
      exact ⟨i + 1, by simpa using h1, by rw [h2]; congr 1; omega, h3⟩
theorem prF_cast {l : List Le} {cs rd : Int} (h : prB l cs rd = true) : ∃ y ∈ l, ofB 3 cs rd y = true ∧ y.fi = prF l cs rd := by
  have h0 : 0 ≤ prI l cs rd := by simpa [prB] using h
  obtain ⟨i, h1, h2, h3⟩ := idxF_get (t := ofB 3 cs rd) (l := l) (c := 0) h0
  refine ⟨atL l i, atL_in h1, h3, ?_⟩
  unfold prF
  rw [if_neg (by omega)]
  have : (prI l cs rd).toNat = i := by unfold prI; rw [h2]; omega
  rw [this]
/-- one proposal in a round -/
theorem Lw.prop1 {c : Int} {l : List Le} (h : Lw c l) {cs rd : Int} {x y : Le} (hx : x ∈ l) (hy : y ∈ l) (ox : ofB 3 cs rd x = true) (oy : ofB 3 cs rd y = true) : x.fi = y.fi := by
  have key : ∀ i, i < l.length → (l.take i).any (fun y => alikeB y (atL l i)) = false → ofB 3 cs rd (atL l i) = true → ∀ z ∈ l.take i, ofB 3 cs rd z = false := fun i hi hn ho z hz => by
    have hl := h.law i hi
    unfold lawR at hl
    rw [hn] at hl
    simp only [ofB, Bool.and_eq_true, decide_eq_true_eq] at ho
    obtain ⟨k1, k2, k3⟩ := ho
    simp only [k1] at hl
    simp at hl
    have h1 := hl.1
    unfold thereB at h1
    rw [k2, k3] at h1
    simpa using List.any_eq_false.1 h1 z hz
  obtain ⟨i, hi, ai, ni, _⟩ := h.said hx
  obtain ⟨j, hj, aj, nj, _⟩ := h.said hy
  rw [sameL_iff] at ai aj
  have oi : ofB 3 cs rd (atL l i) = true := by
    simp only [ofB, Bool.and_eq_true, decide_eq_true_eq] at ox ⊢; omega
  have oj : ofB 3 cs rd (atL l j) = true := by
    simp only [ofB, Bool.and_eq_true, decide_eq_true_eq] at oy ⊢; omega
  rcases Nat.lt_trichotomy i j with hij | hij | hij
  · have := key j hj nj oj (atL l i) (take_in hij hi)
    rw [oi] at this; cases this
  · subst hij; omega
  · have := key i hi ni oi (atL l j) (take_in hij hj)
    rw [oj] at this; cases this
theorem Lw.said2 {c : Int} {l : List Le} (h : Lw c l) {y : Le} (hy : y ∈ l) (hk : y.kd = 2) : ∃ i, i < l.length ∧ alikeB (atL l i) y = true ∧ canPr (l.take i) (atL l i) = true := by
  obtain ⟨i, hi, ai, ni, li⟩ := h.said hy
  refine ⟨i, hi, ai, ?_⟩
  rw [sameL_iff] at ai
  have k1 : (atL l i).kd = 2 := by omega
  unfold lawR at li
  rw [ni] at li
  simpa [k1] using li
theorem Lw.said3 {c : Int} {l : List Le} (h : Lw c l) {y : Le} (hy : y ∈ l) (hk : y.kd = 3) : ∃ i, i < l.length ∧ alikeB (atL l i) y = true ∧ propR c (prR (l.take i) (atL l i).cs (atL l i).rd c.toNat) (atL l i).fi = true := by
  obtain ⟨i, hi, ai, ni, li⟩ := h.said hy
  refine ⟨i, hi, ai, ?_⟩
  rw [sameL_iff] at ai
  have k1 : (atL l i).kd = 3 := by omega
  unfold lawR at li
  rw [ni] at li
  simp [k1] at li
  exact li.2
theorem Lw.said4 {c : Int} {l : List Le} (h : Lw c l) {y : Le} (hy : y ∈ l) (hk : y.kd = 4) : ∃ i, i < l.length ∧ alikeB (atL l i) y = true ∧ prB (l.take i) (atL l i).cs (atL l i).rd = true ∧ prF (l.take i) (atL l i).cs (atL l i).rd = (atL l i).fi ∧ wR (l.take i) (atL l i).fr (atL l i).cs ≤ (atL l i).rd := by
  obtain ⟨i, hi, ai, ni, li⟩ := h.said hy
  refine ⟨i, hi, ai, ?_⟩
  rw [sameL_iff] at ai
  have k1 : (atL l i).kd = 4 := by omega
  unfold lawR at li
  rw [ni] at li
  simp [k1] at li
  exact ⟨li.1, li.2.1, li.2.2.1⟩
/-- what was voted for was proposed -/
theorem Lw.vote_prop {c : Int} {l : List Le} (h : Lw c l) {v : Le} (hv : v ∈ l) (hk : v.kd = 4) : ∃ p ∈ l, ofB 3 v.cs v.rd p = true ∧ p.fi = v.fi := by
  obtain ⟨i, hi, ai, h1, h2, _⟩ := h.said4 hv hk
  rw [sameL_iff] at ai
  obtain ⟨p, hp, h3, h4⟩ := prF_cast h1
  refine ⟨p, List.mem_of_mem_take hp, ?_, by omega⟩
  rw [← ai.1, ← ai.2.2.1]
  exact h3
/-- a promise tells of all votes in lesser rounds -/
theorem Lw.promise_vote {c : Int} {l : List Le} (h : Lw c l) {y v : Le} (hy : y ∈ l) (hv : v ∈ l) (ky : y.kd = 2) (kv : v.kd = 4) (hc : v.cs = y.cs) (hf : v.fr = y.fr) (hr : v.rd < y.rd) : v.rd ≤ y.vo := by
  obtain ⟨j, hj, aj, pj⟩ := h.said2 hy ky
  obtain ⟨k, hk, ak, _, _, wk⟩ := h.said4 hv kv
  rw [sameL_iff] at aj ak
  unfold canPr at pj
  simp only [Bool.and_eq_true, decide_eq_true_eq] at pj
  obtain ⟨_, _, pv, _⟩ := pj
  rcases Nat.lt_trichotomy j k with hjk | hjk | hjk
  · have hw : wordB (atL l j) (atL l k).fr (atL l k).cs = true := by
      have e1 : (atL l j).cs = (atL l k).cs := by omega
      have e2 : (atL l j).fr = (atL l k).fr := by omega
      have e3 : (atL l j).kd = 2 := by omega
      unfold wordB caseB
      simp [e1, e2, e3]
    have := (vR_ge (take_in hjk hj)).2 hw
    omega
  · subst hjk; omega
  · have hw : voteB (atL l k) (atL l j).fr (atL l j).cs = true := by
      have e1 : (atL l k).cs = (atL l j).cs := by omega
      have e2 : (atL l k).fr = (atL l j).fr := by omega
      have e3 : (atL l k).kd = 4 := by omega
      unfold voteB caseB
      simp [e1, e2, e3]
    have := (vR_ge (take_in hjk hk)).1 hw
    omega
/-- what a promise tells was voted for -/
theorem Lw.promise_cast {c : Int} {l : List Le} (h : Lw c l) {y : Le} (hy : y ∈ l) (ky : y.kd = 2) (h0 : 0 < y.vo) : y.vo < y.rd ∧ ∃ v ∈ l, v.kd = 4 ∧ v.cs = y.cs ∧ v.rd = y.vo ∧ v.fi = y.fi := by
  obtain ⟨j, hj, aj, pj⟩ := h.said2 hy ky
  rw [sameL_iff] at aj
  unfold canPr at pj
  simp only [Bool.and_eq_true, decide_eq_true_eq] at pj
  obtain ⟨_, pw, pv, pf⟩ := pj
  obtain ⟨v, hv, h1, h2, h3⟩ := vR_cast (l := l.take j) (a := (atL l j).fr) (cs := (atL l j).cs) (by omega)
  have hw : wordB v (atL l j).fr (atL l j).cs = true := by
    unfold voteB at h1
    unfold wordB
    simp only [Bool.and_eq_true, decide_eq_true_eq] at h1
    simp [h1.1, h1.2]
  have h4 := (vR_ge hv).2 hw
  unfold voteB caseB at h1
  simp only [Bool.and_eq_true, decide_eq_true_eq] at h1
  exact ⟨by omega, v, List.mem_of_mem_take hv, h1.1, by omega, by omega, by omega⟩
/-- a majority has voted for a finding -/
structure Ruled (c : Int) (l : List Le) (cs r f : Int) (S : List Nat) : Prop where
  nd : S.Nodup
  big : maj c ≤ S.length
  is : ∀ a ∈ S, ∃ v ∈ l, v.kd = 4 ∧ v.cs = cs ∧ v.rd = r ∧ v.fr = a ∧ v.fi = f
theorem meet {c : Int} {S R : List Nat} (hc : 3 ≤ c ∧ c ≤ 7) (h1 : S.Nodup) (h2 : R.Nodup) (b1 : maj c ≤ S.length) (b2 : maj c ≤ R.length) (l1 : ∀ a ∈ S, (a : Int) < c) (l2 : ∀ a ∈ R, (a : Int) < c) : ∃ a, a ∈ S ∧ a ∈ R := by
  apply Classical.byContradiction
  intro hno
  have hnd : (S ++ R).Nodup := List.nodup_append.2 ⟨h1, h2, fun a ha b hb e => hno ⟨a, ha, e ▸ hb⟩⟩
  have hle := nodup_le (n := c.toNat) hnd fun i hi => by
    rcases List.mem_append.1 hi with h | h
    · have := l1 i h; omega
    · have := l2 i h; omega
  rw [List.length_append] at hle
  have hq : crt c = true := by unfold crt inB; simp [hc]
  unfold maj at b1 b2
  rw [hq] at b1 b2
  simp only [cond_true] at b1 b2
  rw [Int.tdiv_eq_ediv_of_nonneg (by omega)] at b1 b2
  omega
theorem maj_pos {c : Int} (hc : 3 ≤ c ∧ c ≤ 7) : 0 < maj c := by
  have hq : crt c = true := by unfold crt inB; simp [hc]
  unfold maj
  rw [hq]
  simp only [cond_true]
  rw [Int.tdiv_eq_ediv_of_nonneg (by omega)]
  omega
theorem Ruled.lt {c : Int} {l : List Le} {cs r f : Int} {S : List Nat} (k : Ruled c l cs r f S) (h : Lw c l) : ∀ a ∈ S, (a : Int) < c := fun a ha => by
  obtain ⟨v, hv, _, _, _, h4, _⟩ := k.is a ha
  have := (h.fr v hv).2
  omega
theorem Ruled.any {c : Int} {l : List Le} {cs r f : Int} {S : List Nat} (k : Ruled c l cs r f S) (h : Lw c l) : ∃ v ∈ l, v.kd = 4 ∧ v.cs = cs ∧ v.rd = r ∧ v.fi = f := by
  cases S with
  | nil => have := k.big; have := maj_pos h.crt; simp at *; omega
  | cons a S =>
    obtain ⟨v, hv, h1, h2, h3, _, h5⟩ := k.is a (List.mem_cons_self ..)
    exact ⟨v, hv, h1, h2, h3, h5⟩
/-- the arbiters whose first promise tells of a round of at most n -/
theorem up_list {l : List Le} {cs rd n : Int} {C : Nat} : ∃ R : List Nat, R.Nodup ∧ (R.length : Int) = upN (prR l cs rd C) n ∧ ∀ a ∈ R, a < C ∧ ∃ y ∈ l, isP cs rd (a : Int) y = true ∧ y.vo ≤ n := by
  refine ⟨_, List.nodup_range.filter _, (upN_count C).symm, fun a ha => ?_⟩
  obtain ⟨h1, h2⟩ := List.mem_filter.1 ha
  refine ⟨List.mem_range.1 h1, ?_⟩
  cases hf : l.find? (isP cs rd (a : Int)) with
  | none => rw [hf] at h2; cases h2
  | some y =>
    rw [hf] at h2
    exact ⟨y, List.mem_of_find?_eq_some hf, List.find?_some hf, by simpa using h2⟩
theorem prR_mem {l : List Le} {cs rd : Int} {C : Nat} {y : Le} (h : y ∈ prR l cs rd C) : y ∈ l ∧ ∃ a : Nat, isP cs rd (a : Int) y = true := by
  unfold prR at h
  obtain ⟨a, _, h2⟩ := List.mem_filterMap.1 h
  exact ⟨List.mem_of_find?_eq_some h2, a, List.find?_some h2⟩
theorem isP_yes {cs rd a : Int} {y : Le} (h : isP cs rd a y = true) : y.kd = 2 ∧ y.cs = cs ∧ y.rd = rd ∧ y.fr = a := by
  unfold isP at h
  simpa using h
/-- who is ruled in a round bounds all later proposals -/
theorem Lw.bound {c : Int} {l : List Le} (h : Lw c l) {cs r f : Int} {S : List Nat} (k : Ruled c l cs r f S) : ∀ (n : Nat) (rd : Int), rd.toNat ≤ n → r < rd → ∀ p ∈ l, ofB 3 cs rd p = true → p.fi = f := by
  have hr0 : 0 < r := by
    obtain ⟨v, hv, _, _, h3, _⟩ := k.any h
    have := h.rd v hv
    omega
  intro n
  induction n with
  | zero => intro rd hn hr; omega
  | succ n ih =>
    intro rd hn hr p hp ho
    unfold ofB at ho
    simp only [Bool.and_eq_true, decide_eq_true_eq] at ho
    obtain ⟨k3, kc, kr⟩ := ho
    obtain ⟨i, hi, ai, pi⟩ := h.said3 hp k3
    rw [sameL_iff] at ai
    have e1 : (atL l i).cs = cs := by omega
    have e2 : (atL l i).rd = rd := by omega
    have e3 : (atL l i).fi = p.fi := by omega
    rw [e1, e2, e3] at pi
    have cross : ∀ m : Int, maj c ≤ upN (prR (l.take i) cs rd c.toNat) m → r ≤ m := fun m hm => by
      obtain ⟨R, n1, n2, n3⟩ := up_list (l := l.take i) (cs := cs) (rd := rd) (n := m) (C := c.toNat)
      obtain ⟨a, a1, a2⟩ := meet h.crt k.nd n1 k.big (by omega) (k.lt h) fun a ha => by have := (n3 a ha).1; have := h.crt; omega
      obtain ⟨_, y, y1, y2, y3⟩ := n3 a a2
      obtain ⟨v, v1, v2, v3, v4, v5, _⟩ := k.is a a1
      have := isP_yes y2
      have := h.promise_vote (List.mem_of_mem_take y1) v1 (by omega) v2 (by omega) (by omega) (by omega)
      omega
    unfold propR at pi
    split at pi
    · rename_i hm
      have := cross 0 hm
      omega
    · obtain ⟨y, y1, y2⟩ := List.any_eq_true.1 pi
      unfold letR at y2
      simp only [Bool.and_eq_true, decide_eq_true_eq] at y2
      obtain ⟨g1, g2, g3⟩ := y2
      have hry := cross y.vo g3
      obtain ⟨y3, b, y4⟩ := prR_mem y1
      have hyP := isP_yes y4
      obtain ⟨lt, v, v1, v2, v3, v4, v5⟩ := h.promise_cast (List.mem_of_mem_take y3) hyP.1 g1
      obtain ⟨q, q1, q2, q3⟩ := h.vote_prop v1 v2
      have ec : v.cs = cs := by omega
      rw [ec, v4] at q2
      by_cases e : y.vo = r
      · obtain ⟨u, u1, u2, u3, u4, u5⟩ := k.any h
        obtain ⟨w, w1, w2, w3⟩ := h.vote_prop u1 u2
        rw [u3, u4] at w2
        rw [e] at q2
        have := h.prop1 q1 w1 q2 w2
        omega
      · have := ih y.vo (by omega) (by omega) q q1 q2
        omega
/-- all rulings of a case have the same finding -/
theorem Lw.once {c : Int} {l : List Le} (h : Lw c l) {cs r1 r2 f1 f2 : Int} {S1 S2 : List Nat} (k1 : Ruled c l cs r1 f1 S1) (k2 : Ruled c l cs r2 f2 S2) : f1 = f2 := by
  obtain ⟨u, u1, u2, u3, u4, u5⟩ := k1.any h
  obtain ⟨v, v1, v2, v3, v4, v5⟩ := k2.any h
  obtain ⟨p, p1, p2, p3⟩ := h.vote_prop u1 u2
  obtain ⟨q, q1, q2, q3⟩ := h.vote_prop v1 v2
  rw [u3, u4] at p2
  rw [v3, v4] at q2
  rcases Int.lt_trichotomy r1 r2 with hr | hr | hr
  · have := h.bound k1 _ r2 (Nat.le_refl _) hr q q1 q2
    omega
  · subst hr
    have := h.prop1 p1 q1 p2 q2
    omega
  · have := h.bound k2 _ r1 (Nat.le_refl _) hr p p1 p2
    omega
end Go.Proofs.YtilpinmbngikgaaGreat

/- Layer 9: what the law ArbiterOnce wants of plain facts: who stands in a tally has voted; lawful letters, as the specification says it. -/
namespace Go.Proofs.YtilpinmbngikgaaGreat
open Go.Proofs.YtilpinmbngikgaaGreat.Ev

theorem addT_mem {r : Rl3} {a : Nat} {e : Te} : ∀ {T : List Te}, e ∈ addT T r a → e ∈ T ∨ (e.1 = r ∧ (e.2 = 2 ^ a ∨ ∃ n, (r, n) ∈ T ∧ e.2 = n ||| 2 ^ a))
  | [], h => by
    simp only [addT, List.mem_singleton] at h
    subst h
    exact .inr ⟨rfl, .inl rfl⟩
  | x :: T, h => by
    rw [addT] at h
    split at h
    · rename_i hx
      rcases List.mem_cons.1 h with rfl | h
      · exact .inr ⟨rfl, .inr ⟨x.2, by rw [← hx]; exact List.mem_cons_self .., rfl⟩⟩
      · exact .inl (List.mem_cons_of_mem _ h)
    · rcases List.mem_cons.1 h with rfl | h
      · exact .inl (List.mem_cons_self ..)
      · rcases addT_mem h with h | ⟨h1, h2 | ⟨n, h2, h3⟩⟩
        · exact .inl (List.mem_cons_of_mem _ h)
        · exact .inr ⟨h1, .inl h2⟩
        · exact .inr ⟨h1, .inr ⟨n, List.mem_cons_of_mem _ h2, h3⟩⟩
/-- who stands in a tally has voted -/
theorem tl_bit {l : List Le} {a : Nat} : ∀ {k : Nat}, k ≤ l.length → ∀ e ∈ tlN l k, e.2.testBit a = true → ∃ y ∈ l, y.kd = 4 ∧ rlOf y = e.1 ∧ y.fr.toNat = a
  | 0, _, e, he, _ => by cases he
  | k + 1, hk, e, he, hb => by
    have ih := fun e he hb => tl_bit (l := l) (a := a) (k := k) (by omega) e he hb
    rw [tlN] at he
    split at he
    · rename_i h4
      have hy := atL_in (l := l) (i := k) (by omega)
      have last : ∀ n : Nat, n.testBit a = true ∨ (2 ^ (atL l k).fr.toNat).testBit a = true → n.testBit a = true ∨ (atL l k).fr.toNat = a := fun n h => by
        rcases h with h | h
        · exact .inl h
        · rw [Nat.testBit_two_pow] at h
          exact .inr (by simpa using h)
      rcases addT_mem he with h | ⟨h1, h2 | ⟨n, h2, h3⟩⟩
      · exact ih e h hb
      · rw [h2, Nat.testBit_two_pow] at hb
        exact ⟨_, hy, h4, h1.symm, by simpa using hb⟩
      · rw [h3, Nat.testBit_or, Bool.or_eq_true] at hb
        rcases last n hb with h | h
        · obtain ⟨y, y1, y2, y3, y4⟩ := ih _ h2 h
          exact ⟨y, y1, y2, by rw [h1]; exact y3, y4⟩
        · exact ⟨_, hy, h4, h1.symm, h⟩
    · exact ih e he hb
theorem rls_ruled {c : Int} {l : List Le} (hfr : ∀ x ∈ l, 0 ≤ x.fr) {r : Rl3} (h : r ∈ rlsOf c l) : ∃ S, Ruled c l r.1 r.2.1 r.2.2 S := by
  have h1 := (srtT_perm _).subset h
  unfold ofT at h1
  obtain ⟨e, h2, rfl⟩ := List.mem_map.1 h1
  obtain ⟨h3, h4⟩ := List.mem_filter.1 h2
  unfold bigT popN at h4
  refine ⟨_, List.nodup_range.filter _, of_decide_eq_true h4, fun a ha => ?_⟩
  obtain ⟨_, hb⟩ := List.mem_filter.1 ha
  obtain ⟨y, y1, y2, y3, y4⟩ := tl_bit (Nat.le_refl _) e h3 hb
  have := hfr y y1
  rw [← y3]
  exact ⟨y, y1, y2, rfl, rfl, by omega, rfl⟩
end Go.Proofs.YtilpinmbngikgaaGreat

/- Layer 9, plain: what can still be ruled in a round; a proposal is bound by it. -/
namespace Go.Proofs.YtilpinmbngikgaaGreat
open Go.Proofs.YtilpinmbngikgaaGreat.Ev

/-- arbiters of a majority that are open in a round, or have voted for a finding in it -/
structure AbleS (c : Int) (l : List Le) (cs r f : Int) (S : List Nat) : Prop where
  nd : S.Nodup
  big : maj c ≤ S.length
  lt : ∀ a ∈ S, (a : Int) < c
  is : ∀ a ∈ S, openB l a cs r = true ∨ ∃ v ∈ l, v.kd = 4 ∧ v.cs = cs ∧ v.rd = r ∧ v.fr = a ∧ v.fi = f
/-- the open ones of the first k arbiters, as bits -/
def opN (l : List Le) (cs rd : Int) : Nat → Nat
  | 0 => 0
  | k + 1 => if openB l (k : Int) cs rd = true then opN l cs rd k ||| 2 ^ k else opN l cs rd k
theorem opN_lt {l : List Le} {cs rd : Int} : ∀ {k : Nat}, k ≤ 7 → opN l cs rd k < 128
  | 0, _ => by simp [opN]
  | k + 1, h => by
    have ih := opN_lt (l := l) (cs := cs) (rd := rd) (k := k) (by omega)
    rw [opN]
    split
    · exact or_lt ih (by omega)
    · exact ih
theorem opN_bit {l : List Le} {cs rd : Int} {a : Nat} : ∀ {k : Nat}, (opN l cs rd k).testBit a = true ↔ a < k ∧ openB l (a : Int) cs rd = true
  | 0 => by simp [opN]
  | k + 1 => by
    have ih := opN_bit (l := l) (cs := cs) (rd := rd) (a := a) (k := k)
    rw [opN]
    split
    · rename_i ho
      rw [Nat.testBit_or, Bool.or_eq_true, ih, Nat.testBit_two_pow]
      simp only [decide_eq_true_eq]
      constructor
      · rintro (⟨h1, h2⟩ | h)
        · exact ⟨by omega, h2⟩
        · subst h; exact ⟨by omega, ho⟩
      · rintro ⟨h1, h2⟩
        by_cases e : a = k
        · exact .inr e.symm
        · exact .inl ⟨by omega, h2⟩
    · rename_i ho
      rw [ih]
      constructor
      · rintro ⟨h1, h2⟩; exact ⟨by omega, h2⟩
      · rintro ⟨h1, h2⟩
        by_cases e : a = k
        · subst e; exact absurd h2 ho
        · exact ⟨by omega, h2⟩
/-- who has voted for a ruling, by a tally -/
def lkT (T : List Te) (r : Rl3) : Nat := match T.find? (fun e => decide (e.1 = r)) with
  | some e => e.2
  | none => 0
theorem lkT_mem {T : List Te} {r : Rl3} {a : Nat} (h : (lkT T r).testBit a = true) : (r, lkT T r) ∈ T := by
  unfold lkT at h ⊢
  cases hf : T.find? (fun e => decide (e.1 = r)) with
  | none => rw [hf] at h; simp at h
  | some e =>
    have h1 := List.mem_of_find?_eq_some hf
    have h2 := List.find?_some hf
    have h3 : e.1 = r := by simpa using h2
    simp only
    rw [← h3]
    exact h1
theorem lkT_no {T : List Te} {r : Rl3} (h : ∀ e ∈ T, e.1 ≠ r) : lkT T r = 0 := by
  unfold lkT
  rw [List.find?_eq_none.2 fun e he => by simpa using h e he]
theorem lkT_yes {A B : List Te} {r : Rl3} {n : Nat} (h : ∀ e ∈ A, e.1 ≠ r) : lkT (A ++ (r, n) :: B) r = n := by
  unfold lkT
  rw [List.find?_append, List.find?_eq_none.2 fun e he => by simpa using h e he]
  simp
theorem lkT_lt {T : List Te} {r : Rl3} (h : ∀ e ∈ T, e.2 < 128) : lkT T r < 128 := by
  rcases te_split r T with hno | ⟨A, n, B, rfl, hno⟩
  · rw [lkT_no hno]; omega
  · rw [lkT_yes hno]; exact h (r, n) (by simp)
theorem addT_keys {r : Rl3} {a : Nat} {T : List Te} (h : (T.map (·.1)).Nodup) : ((addT T r a).map (·.1)).Nodup := by
  rcases te_split r T with hno | ⟨A, n, B, rfl, hno⟩
  · rw [addT_no hno, List.map_append, List.nodup_append]
    refine ⟨h, by simp, fun x hx y hy e => ?_⟩
    obtain ⟨e1, h1, rfl⟩ := List.mem_map.1 hx
    have : y = r := by simpa using hy
    exact hno e1 h1 (by rw [e, this])
  · rw [addT_yes hno]
    simpa using h
theorem tlN_keys {l : List Le} : ∀ k, ((tlN l k).map (·.1)).Nodup
  | 0 => List.nodup_nil
  | k + 1 => by
    have ih := tlN_keys (l := l) k
    rw [tlN]
    split
    · exact addT_keys ih
    · exact ih
theorem lkT_eq {T : List Te} (h : (T.map (·.1)).Nodup) {e : Te} (he : e ∈ T) : lkT T e.1 = e.2 := by
  rcases te_split e.1 T with hno | ⟨A, n, B, rfl, hno⟩
  · exact absurd rfl (hno e he)
  · rw [lkT_yes hno]
    rcases List.mem_append.1 he with h1 | h1
    · exact absurd rfl (hno e h1)
    · rcases List.mem_cons.1 h1 with h1 | h1
      · have := congrArg (·.2) h1
        exact this.symm
      · rw [List.map_append, List.map_cons, List.nodup_append] at h
        have := (List.nodup_cons.1 h.2.1).1
        exact absurd (List.mem_map.2 ⟨e, h1, rfl⟩) this
/-- the open ones, and those that have voted for what was proposed -/
def ableN (c : Int) (l : List Le) (cs rd : Int) : Nat := opN l cs rd c.toNat ||| lkT (tlN l l.length) (cs, rd, prF l cs rd)
def canE (c : Int) (l : List Le) (id rd : Int) : Int := if errL c l ≠ 0 then errL c l else if (inB id 1 1099511627776 && rdB rd) = true then 0 else 1
def canO (c : Int) (l : List Le) (id rd : Int) : Bool := decide (canE c l id rd = 0) && (prB l id rd && decide ((popN (ableN c l id rd) : Int) ≥ maj c))
def canF (c : Int) (l : List Le) (id rd : Int) : Int := if canO c l id rd = true then prF l id rd else 0
def canA (c : Int) (l : List Le) (id rd : Int) : Bool := decide (canE c l id rd = 0) && (!prB l id rd && decide ((popN (opN l id rd c.toNat) : Int) ≥ maj c))
end Go.Proofs.YtilpinmbngikgaaGreat

/- Layer 9, plain: what is said again changes nothing; the first ones of lawful letters are lawful. -/
namespace Go.Proofs.YtilpinmbngikgaaGreat
open Go.Proofs.YtilpinmbngikgaaGreat.Ev

theorem addT_keep {T : List Te} {r q : Rl3} {a b n : Nat} (h : (r, n) ∈ T) (hb : n.testBit b = true) : ∃ n2, (r, n2) ∈ addT T q a ∧ n2.testBit b = true := by
  rcases te_split q T with hno | ⟨A, m, B, rfl, hno⟩
  · rw [addT_no hno]
    exact ⟨n, List.mem_append.2 (.inl h), hb⟩
  · rw [addT_yes hno]
    rcases List.mem_append.1 h with h | h
    · exact ⟨n, List.mem_append.2 (.inl h), hb⟩
    · rcases List.mem_cons.1 h with h | h
      · cases h
        exact ⟨n ||| 2 ^ a, List.mem_append.2 (.inr (List.mem_cons_self ..)), by rw [Nat.testBit_or, hb, Bool.true_or]⟩
      · exact ⟨n, List.mem_append.2 (.inr (List.mem_cons_of_mem _ h)), hb⟩
theorem addT_new {T : List Te} {q : Rl3} {a : Nat} : ∃ n2, (q, n2) ∈ addT T q a ∧ n2.testBit a = true := by
  rcases te_split q T with hno | ⟨A, m, B, rfl, hno⟩
  · rw [addT_no hno]
    exact ⟨2 ^ a, by simp, by rw [Nat.testBit_two_pow]; simp⟩
  · rw [addT_yes hno]
    exact ⟨m ||| 2 ^ a, by simp, by rw [Nat.testBit_or, Nat.testBit_two_pow]; simp⟩
/-- who has voted stands in the tally -/
theorem tl_has {l : List Le} : ∀ {k : Nat}, k ≤ l.length → ∀ i, i < k → (atL l i).kd = 4 → ∃ n, (rlOf (atL l i), n) ∈ tlN l k ∧ n.testBit (atL l i).fr.toNat = true
  | 0, _, i, hi, _ => by omega
  | k + 1, hk, i, hi, h4 => by
    rw [tlN]
    by_cases e : i = k
    · subst e
      rw [if_pos h4]
      exact addT_new
    · obtain ⟨n, h1, h2⟩ := tl_has (l := l) (k := k) (by omega) i (by omega) h4
      split
      · exact addT_keep h1 h2
      · exact ⟨n, h1, h2⟩
end Go.Proofs.YtilpinmbngikgaaGreat

/- Layer 9, plain: the votes that show a ruling; what votes show. -/
namespace Go.Proofs.YtilpinmbngikgaaGreat
open Go.Proofs.YtilpinmbngikgaaGreat.Ev

/-- a vote for a ruling -/
def forB (r : Rl3) (x : Le) : Bool := decide (x.kd = 4) && decide (rlOf x = r)
def byB (a : Int) (x : Le) : Bool := decide (x.fr = a)
/-- the first votes for a ruling among the first k letters, one of each arbiter, of a majority -/
def vfN (c : Int) (l : List Le) (r : Rl3) : Nat → List Le
  | 0 => []
  | k + 1 => if ((vfN c l r k).length : Int) = maj c then vfN c l r k else if forB r (atL l k) = true ∧ (vfN c l r k).any (byB (atL l k).fr) = false then vfN c l r k ++ [atL l k] else vfN c l r k
theorem vfN_stop {c : Int} {l : List Le} {r : Rl3} {k : Nat} (h : ((vfN c l r k).length : Int) = maj c) : ∀ m, vfN c l r (k + m) = vfN c l r k
  | 0 => rfl
  | m + 1 => by
    have ih := vfN_stop h m
    rw [← Nat.add_assoc, vfN, ih, if_pos h]
theorem vfN_at {c : Int} {l : List Le} {r : Rl3} {k : Nat} (h : ((vfN c l r k).length : Int) = maj c) (hk : k ≤ l.length) : vfN c l r l.length = vfN c l r k := by
  have := vfN_stop h (l.length - k)
  rwa [show k + (l.length - k) = l.length by omega] at this
theorem vfN_len {c : Int} {l : List Le} {r : Rl3} (hm : 0 < maj c) : ∀ k, ((vfN c l r k).length : Int) ≤ maj c ∧ (vfN c l r k).length ≤ k
  | 0 => by simp [vfN]; omega
  | k + 1 => by
    have := vfN_len (l := l) (r := r) hm k
    rw [vfN]
    split
    · omega
    · split
      · rw [List.length_append, List.length_singleton]; omega
      · omega
theorem sub_len {α : Type} [DecidableEq α] : ∀ {S T : List α}, S.Nodup → (∀ a ∈ S, a ∈ T) → S.length ≤ T.length
  | [], _, _, _ => by simp
  | a :: S, T, hn, hs => by
    have hn' := List.nodup_cons.1 hn
    have ha := hs a (List.mem_cons_self ..)
    have := sub_len (S := S) (T := T.erase a) hn'.2 fun b hb => by
      have h1 := hs b (List.mem_cons_of_mem _ hb)
      have h2 : b ≠ a := fun e => hn'.1 (e ▸ hb)
      exact (List.mem_erase_of_ne h2).2 h1
    have h3 := List.length_erase_of_mem ha
    have h4 := List.length_pos_of_mem ha
    rw [List.length_cons]
    omega
theorem forB_iff {r : Rl3} {x : Le} : forB r x = true ↔ x.kd = 4 ∧ rlOf x = r := by unfold forB; simp
/-- all are votes for a ruling, by different arbiters -/
def okV (r : Rl3) (l : List Le) (i : Nat) : Bool := forB r (atL l i) && !(l.take i).any (byB (atL l i).fr)
def okVB (r : Rl3) (l : List Le) : Bool := (List.range l.length).all (okV r l)
theorem okVB_at {r : Rl3} {l : List Le} (h : okVB r l = true) {i : Nat} (hi : i < l.length) : forB r (atL l i) = true ∧ (l.take i).any (byB (atL l i).fr) = false := by
  have := List.all_eq_true.1 h i (List.mem_range.2 hi)
  unfold okV at this
  simpa using this
theorem okVB_nodup {r : Rl3} {l : List Le} (h : okVB r l = true) : (l.map (·.fr)).Nodup := by
  rw [List.nodup_iff_pairwise_ne, List.pairwise_iff_getElem]
  intro i j hi hj hij e
  rw [List.length_map] at hi hj
  simp only [List.getElem_map] at e
  have h2 := (okVB_at h hj).2
  have h3 := List.any_eq_false.1 h2 (atL l i) (take_in hij hi)
  apply h3
  unfold byB
  rw [show l[j] = atL l j by unfold atL; simp [hj], show l[i] = atL l i by unfold atL; simp [hi]] at e
  simp [e]
theorem okVB_for {r : Rl3} {l : List Le} (h : okVB r l = true) : ∀ x ∈ l, forB r x = true := fun x hx => by
  obtain ⟨i, hi, rfl⟩ := in_atL hx
  exact (okVB_at h hi).1
/-- the tally of votes for one ruling -/
theorem tl_one {r : Rl3} {l : List Le} (h : ∀ x ∈ l, forB r x = true) : ∀ {k : Nat}, k ≤ l.length → 0 < k → ∃ m, tlN l k = [(r, m)]
  | 0, _, h0 => by omega
  | k + 1, hk, _ => by
    obtain ⟨h4, hr⟩ := forB_iff.1 (h _ (atL_in (l := l) (i := k) (by omega)))
    rw [tlN, if_pos h4, hr]
    by_cases e : k = 0
    · subst e; exact ⟨_, rfl⟩
    · obtain ⟨m, hm⟩ := tl_one h (k := k) (by omega) (by omega)
      rw [hm, addT, if_pos rfl]
      exact ⟨_, rfl⟩
/-- who has voted for something is counted -/
theorem ruled_rls {c : Int} {l : List Le} {r : Rl3} {S : List Nat} (hm : 0 < maj c) (hn : S.Nodup) (hl : ∀ a ∈ S, a < 7) (hb : maj c ≤ S.length) (his : ∀ a ∈ S, ∃ y ∈ l, forB r y = true ∧ y.fr.toNat = a) : r ∈ rlsOf c l := by
  have key : ∀ a ∈ S, ∃ n, (r, n) ∈ tlN l l.length ∧ n.testBit a = true := fun a ha => by
    obtain ⟨y, y1, y2, y3⟩ := his a ha
    obtain ⟨i, hi, rfl⟩ := in_atL y1
    obtain ⟨h4, hr⟩ := forB_iff.1 y2
    obtain ⟨n, n1, n2⟩ := tl_has (Nat.le_refl _) i hi h4
    rw [hr] at n1
    rw [y3] at n2
    exact ⟨n, n1, n2⟩
  obtain ⟨a0, ha0⟩ : ∃ a, a ∈ S := by
    cases S with
    | nil => simp at hb; omega
    | cons a S => exact ⟨a, List.mem_cons_self ..⟩
  obtain ⟨n0, n1, _⟩ := key a0 ha0
  have hu : ∀ n, (r, n) ∈ tlN l l.length → n = n0 := fun n hn => by
    have h1 := lkT_eq (tlN_keys _) hn
    have h2 := lkT_eq (tlN_keys _) n1
    simp only at h1 h2
    omega
  have hp : S.length ≤ popN n0 := sub_len hn fun a ha => by
    obtain ⟨n, q1, q2⟩ := key a ha
    rw [hu n q1] at q2
    exact List.mem_filter.2 ⟨List.mem_range.2 (hl a ha), q2⟩
  refine (srtT_perm _).symm.subset ?_
  unfold ofT
  refine List.mem_map.2 ⟨(r, n0), List.mem_filter.2 ⟨n1, ?_⟩, rfl⟩
  unfold bigT
  exact decide_eq_true (show (popN n0 : Int) ≥ maj c by omega)
theorem toNat_nodup {l : List Le} (hfr : ∀ x ∈ l, 0 ≤ x.fr ∧ x.fr < 7) (h : (l.map (·.fr)).Nodup) : (l.map fun x => x.fr.toNat).Nodup := by
  rw [List.nodup_iff_pairwise_ne, List.pairwise_map] at h ⊢
  exact h.imp_of_mem fun {a b} ha hb hne e => hne (by have := hfr a ha; have := hfr b hb; omega)
/-- votes for one ruling, of different arbiters: it is ruled by them exactly if they are a majority -/
theorem rls_one {c : Int} {l : List Le} {r : Rl3} (hm : 0 < maj c) (hfr : ∀ x ∈ l, 0 ≤ x.fr ∧ x.fr < 7) (hok : okVB r l = true) : rlsOf c l = if maj c ≤ l.length then [r] else [] := by
  have hfor := okVB_for hok
  have hnd := toNat_nodup hfr (okVB_nodup hok)
  have hsub : ∀ q ∈ rlsOf c l, q = r ∧ maj c ≤ l.length := fun q hq => by
    obtain ⟨S, k⟩ := rls_ruled (fun x hx => (hfr x hx).1) hq
    have h1 : S.length ≤ (l.map fun x => x.fr.toNat).length := sub_len k.nd fun a ha => by
      obtain ⟨v, v1, _, _, _, v5, _⟩ := k.is a ha
      exact List.mem_map.2 ⟨v, v1, show v.fr.toNat = a by omega⟩
    rw [List.length_map] at h1
    have hb := k.big
    refine ⟨?_, by omega⟩
    obtain ⟨a, ha⟩ : ∃ a, a ∈ S := by
      cases S with
      | nil => simp at hb; omega
      | cons a S => exact ⟨a, List.mem_cons_self ..⟩
    obtain ⟨v, v1, v2, v3, v4, v5, v6⟩ := k.is a ha
    have := (forB_iff.1 (hfor v v1)).2
    rw [← this]
    unfold rlOf
    rw [v3, v4, v6]
  split
  · rename_i hle
    have hin : r ∈ rlsOf c l := ruled_rls hm hnd (fun a ha => by
      obtain ⟨x, hx, rfl⟩ := List.mem_map.1 ha
      have := hfr x hx
      show x.fr.toNat < 7
      omega) (by rw [List.length_map]; exact hle) fun a ha => by
      obtain ⟨x, hx, rfl⟩ := List.mem_map.1 ha
      exact ⟨x, hx, hfor x hx, rfl⟩
    have hlen : (rlsOf c l).length ≤ 1 := by
      have h1 := (srtT_perm (ofT c (tlN l l.length))).length_eq
      have h2 : (ofT c (tlN l l.length)).length ≤ (tlN l l.length).length := by unfold ofT; rw [List.length_map]; exact List.length_filter_le _ _
      have h3 : (tlN l l.length).length ≤ 1 := by
        by_cases e : l.length = 0
        · rw [e]; simp [tlN]
        · obtain ⟨m, hm⟩ := tl_one hfor (Nat.le_refl _) (by omega)
          rw [hm]; simp
      unfold rlsOf
      omega
    cases hl : rlsOf c l with
    | nil => rw [hl] at hin; cases hin
    | cons a t =>
      rw [hl] at hlen hin
      cases t with
      | nil =>
        rw [List.mem_singleton.1 hin]
      | cons b t => simp at hlen
  · rename_i hle
    cases hl : rlsOf c l with
    | nil => rfl
    | cons a t => exact absurd (hsub a (by rw [hl]; exact List.mem_cons_self ..)).2 hle
def hdR (l : List Rl3) : Rl3 := l[0]?.getD (0, 0, 0)
/-- the program's test of votes -/
def chkE (c : Int) (l : List Le) : Int := if errL c l ≠ 0 then errL c l else if (rlsOf c l).length = 0 then 8 else if okVB (hdR (rlsOf c l)) l = true then 0 else 8
def chkR (c : Int) (l : List Le) : Rl3 := if chkE c l = 0 then hdR (rlsOf c l) else (0, 0, 0)
/-- the specification's -/
def rchE (c : Int) (l : List Le) : Int := if errL c l ≠ 0 then errL c l else if (l.length : Int) < maj c then 8 else if okVB (rlOf (atL l 0)) l = true then 0 else 8
def rchR (c : Int) (l : List Le) : Rl3 := if rchE c l = 0 then rlOf (atL l 0) else (0, 0, 0)
theorem fr7 {c : Int} {l : List Le} (he : errL c l = 0) : ∀ x ∈ l, 0 ≤ x.fr ∧ x.fr < 7 := fun x hx => by have := frm_fr he x hx; omega
theorem chk_eq (c : Int) (l : List Le) : chkE c l = rchE c l ∧ chkR c l = rchR c l := by
  by_cases he : errL c l = 0
  rotate_left
  · unfold chkR rchR chkE rchE
    rw [if_pos he, if_pos he, if_neg he, if_neg he]
    exact ⟨rfl, rfl⟩
  have hm := maj_pos (crt_bd (errL_ok he).1)
  have hfr := fr7 he
  by_cases hok : okVB (rlOf (atL l 0)) l = true
  · have h1 := rls_one hm hfr hok
    by_cases hle : maj c ≤ l.length
    · rw [if_pos hle] at h1
      have e1 : chkE c l = 0 := by
        unfold chkE
        rw [if_neg (by simp [he]), h1, if_neg (by simp), show hdR [rlOf (atL l 0)] = rlOf (atL l 0) from rfl, if_pos hok]
      have e2 : rchE c l = 0 := by
        unfold rchE
        rw [if_neg (by simp [he]), if_neg (by omega), if_pos hok]
      unfold chkR rchR
      rw [e1, e2, h1]
      exact ⟨rfl, rfl⟩
    · rw [if_neg hle] at h1
      have e1 : chkE c l = 8 := by
        unfold chkE
        rw [if_neg (by simp [he]), h1]
        rfl
      have e2 : rchE c l = 8 := by
        unfold rchE
        rw [if_neg (by simp [he]), if_pos (by omega)]
      unfold chkR rchR
      rw [e1, e2]
      exact ⟨rfl, rfl⟩
  · have e2 : rchE c l = 8 := by
      unfold rchE
      rw [if_neg (by simp [he]), if_neg hok]
      split <;> rfl
    have e1 : chkE c l = 8 := by
      unfold chkE
      rw [if_neg (by simp [he])]
      split
      · rfl
      · rename_i hne
        split
        · rename_i hok2
          have hl : 0 < l.length := by
            apply Classical.byContradiction
            intro h0
            have : l = [] := List.length_eq_zero_iff.1 (by omega)
            subst this
            exact hne (by simp [rlsOf, tlN, ofT, srtT_nil])
          have := (forB_iff.1 (okVB_at hok2 hl).1).2
          rw [← this] at hok2
          exact absurd hok2 hok
        · rfl
    unfold chkR rchR
    rw [e1, e2]
    exact ⟨rfl, rfl⟩
end Go.Proofs.YtilpinmbngikgaaGreat
