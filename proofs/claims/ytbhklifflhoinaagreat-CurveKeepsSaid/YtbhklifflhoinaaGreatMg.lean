/- Lists of knots in the order of their X, each X once: what put and Compact make. -/
import Derived.Test.YtbhklifflhoinaaGreatRf
namespace Go.Proofs.YtbhklifflhoinaaGreat
open Go.Proofs.YtbhklifflhoinaaGreat.Ev

def Asc (l : List (Int × Int)) : Prop := l.Pairwise fun p q => p.1 < q.1
theorem asc_unique : ∀ {l m : List (Int × Int)}, Asc l → Asc m → (∀ p, p ∈ l ↔ p ∈ m) → l = m
  | [], [], _, _, _ => rfl
  | [], q :: m, _, _, h => absurd ((h q).2 (List.mem_cons_self ..)) (by simp)
  | p :: l, [], _, _, h => absurd ((h p).1 (List.mem_cons_self ..)) (by simp)
  | p :: l, q :: m, h1, h2, h => by
    obtain ⟨a1, a2⟩ := List.pairwise_cons.1 h1
    obtain ⟨b1, b2⟩ := List.pairwise_cons.1 h2
    have e : p = q := by
      rcases List.mem_cons.1 ((h p).1 (List.mem_cons_self ..)) with e | h3
      · exact e
      rcases List.mem_cons.1 ((h q).2 (List.mem_cons_self ..)) with e | h4
      · exact e.symm
      have := b1 p h3
      have := a1 q h4
      omega
    subst e
    rw [asc_unique a2 b2 fun r => ?_]
    constructor
    · intro hr
      rcases List.mem_cons.1 ((h r).1 (List.mem_cons_of_mem _ hr)) with rfl | h3
      · have := a1 r hr; omega
      · exact h3
    · intro hr
      rcases List.mem_cons.1 ((h r).2 (List.mem_cons_of_mem _ hr)) with rfl | h3
      · have := b1 r hr; omega
      · exact h3
theorem asc_get {l : List (Int × Int)} (h : Asc l) {i j : Nat} (hi : i < j) (hj : j < l.length) : (l[i]'(by omega)).1 < l[j].1 := List.pairwise_iff_getElem.1 h i j (by omega) hj hi
/-- each is (x, f x) -/
def Fun (f : Int → Int) (l : List (Int × Int)) : Prop := ∀ p ∈ l, p.2 = f p.1
theorem put_asc {qs rs : List (Int × Int)} {x y : Int} {f : Int → Int} (h : Asc qs) (hf : Fun f qs) (hy : y = f x) (k : PutIs qs x y rs) : Asc rs ∧ (∀ p, p ∈ rs ↔ p ∈ qs ∨ p = (x, y)) ∧ rs.length ≤ qs.length + 1 := by
  obtain ⟨k, hk, hlow, hge, ⟨h1, h2, rfl⟩ | ⟨h1, rfl⟩⟩ := k
  · refine ⟨h, fun p => ⟨.inl, ?_⟩, by omega⟩
    rintro (h3 | rfl)
    · exact h3
    · have hm := List.getElem_mem h1
      have e1 := hf _ hm
      rw [kx_eq h1] at h2
      have : rs[k] = (x, y) := Prod.ext h2 (by rw [e1, h2, hy])
      rw [← this]
      exact hm
  · have hd : ∀ p ∈ qs.drop k, x < p.1 := by
      intro p hp
      obtain ⟨i, hi, rfl⟩ := List.getElem_of_mem hp
      have hl : k + i < qs.length := by rw [List.length_drop] at hi; omega
      rw [List.getElem_drop]
      have hk1 : k < qs.length := by omega
      have g1 := hge hk1
      have g2 : kx qs k ≠ x := fun e => h1 ⟨hk1, e⟩
      rw [kx_eq hk1] at g1 g2
      by_cases h0 : i = 0
      · subst h0
        show x < qs[k].1
        omega
      · have := asc_get h (show k < k + i by omega) hl
        omega
    have ht : ∀ p ∈ qs.take k, p.1 < x := by
      intro p hp
      obtain ⟨i, hi, rfl⟩ := List.getElem_of_mem hp
      have hi2 : i < k := by rw [List.length_take] at hi; omega
      rw [List.getElem_take]
      have := hlow i hi2
      rw [kx_eq (show i < qs.length by omega)] at this
      exact this
    refine ⟨?_, fun p => ?_, by simp; omega⟩
    · refine List.pairwise_append.2 ⟨h.sublist (List.take_sublist _ _), List.pairwise_cons.2 ⟨fun p hp => hd p hp, h.sublist (List.drop_sublist _ _)⟩, fun p hp q hq => ?_⟩
      rcases List.mem_cons.1 hq with rfl | hq
      · exact ht p hp
      · have := ht p hp
        have := hd q hq
        omega
    · rw [List.mem_append, List.mem_cons]
      constructor
      · rintro (h3 | rfl | h3)
        · exact .inl (List.mem_of_mem_take h3)
        · exact .inr rfl
        · exact .inl (List.mem_of_mem_drop h3)
      · rintro (h3 | rfl)
        · rw [← List.take_append_drop k qs] at h3
          rcases List.mem_append.1 h3 with h4 | h4
          · exact .inl h4
          · exact .inr (.inr h4)
        · exact .inr (.inl rfl)
theorem comp_asc {ps : List (Int × Int)} {f : Int → Int} (h : ps.Pairwise fun x y => x.1 ≤ y.1) (hf : Fun f ps) : Asc (compP ps) ∧ ∀ p, p ∈ compP ps ↔ p ∈ ps := by
  have key : ∀ k, k ≤ ps.length → Asc (cmpTo ps k) ∧ ∀ p, p ∈ cmpTo ps k ↔ p ∈ ps.take k := by
    intro k
    induction k with
    | zero => intro _; exact ⟨List.Pairwise.nil, fun p => by simp [cmpTo]⟩
    | succ k ih =>
      intro hk
      have hlt : k < ps.length := by omega
      obtain ⟨i1, i2⟩ := ih (by omega)
      have hmem : ∀ p, p ∈ ps.take (k + 1) ↔ p ∈ ps.take k ∨ p = ps[k] := fun p => by
        rw [List.take_succ_eq_append_getElem hlt, List.mem_append, List.mem_singleton]
      have hpair : (kx ps k, ky ps k) = ps[k] := by rw [kx_eq hlt, ky_eq hlt]
      by_cases hd : k ≠ 0 ∧ (kx ps k = kx ps (k - 1) ∧ ky ps k = ky ps (k - 1))
      · rw [cmpTo_dup hd]
        refine ⟨i1, fun p => ?_⟩
        rw [i2, hmem]
        constructor
        · exact .inl
        · rintro (h3 | rfl)
          · exact h3
          · have hl2 : k - 1 < ps.length := by omega
            have e : ps[k] = ps[k - 1] := by
              rw [← hpair, hd.2.1, hd.2.2, kx_eq hl2, ky_eq hl2]
            rw [e, List.mem_take_iff_getElem]
            exact ⟨k - 1, by omega, rfl⟩
      · rw [cmpTo_new hd, hpair]
        refine ⟨List.pairwise_append.2 ⟨i1, List.pairwise_singleton _ _, fun p hp q hq => ?_⟩, fun p => by rw [List.mem_append, List.mem_singleton, i2, hmem]⟩
        rw [List.mem_singleton.1 hq]
        obtain ⟨i, hi, rfl⟩ := List.getElem_of_mem ((i2 p).1 hp)
        have hi2 : i < k := by rw [List.length_take] at hi; omega
        rw [List.getElem_take]
        have g := List.pairwise_iff_getElem.1 h
        have hl2 : k - 1 < ps.length := by omega
        have h1 := g (k - 1) k hl2 hlt (by omega)
        have h2 : ps[i].1 ≤ ps[k - 1].1 := by
          by_cases e : i = k - 1
          · subst e; exact Int.le_refl _
          · exact g i (k - 1) (by omega) hl2 (by omega)
        by_cases e : ps[k - 1].1 = ps[k].1
        · exfalso
          refine hd ⟨by omega, ?_, ?_⟩
          · rw [kx_eq hlt, kx_eq hl2, e]
          · rw [ky_eq hlt, ky_eq hl2, hf _ (List.getElem_mem hlt), hf _ (List.getElem_mem hl2), e]
        · omega
  obtain ⟨h1, h2⟩ := key ps.length (Nat.le_refl _)
  refine ⟨h1, fun p => ?_⟩
  have := h2 p
  rw [List.take_length] at this
  exact this
/-- a knot's own value -/
theorem own_val {ks : List (Int × Int)} {err : Int} (v : Vd ks err) {i : Nat} (hi : i < ks.length) : valN ks (kx ks i) = ky ks i ∧ valD ks (kx ks i) = 1 := by
  have hF : FirstAt ks (kx ks i) i := ⟨hi, Int.le_refl _, fun j hj => v.klt hj hi⟩
  have h0 : kx ks 0 ≤ kx ks i := by
    by_cases e : i = 0
    · subst e; exact Int.le_refl _
    · have := v.klt (show 0 < i by omega) hi
      omega
  exact (val_first v.up hF h0).1 rfl
theorem own_fun {ks : List (Int × Int)} {err : Int} (v : Vd ks err) : Fun (valN ks) ks := by
  intro p hp
  obtain ⟨i, hi, rfl⟩ := List.getElem_of_mem hp
  have := (own_val v hi).1
  rw [kx_eq hi, ky_eq hi] at this
  exact this.symm
theorem vd_asc {ks : List (Int × Int)} {err : Int} (v : Vd ks err) : Asc ks := List.pairwise_iff_getElem.2 fun i j hi hj hij => by
  have := v.klt hij hj
  rw [kx_eq hi, kx_eq hj] at this
  exact this
theorem new_fun (ks : List (Int × Int)) (xs : List Int) : Fun (valN ks) (newK ks xs) := by
  intro p hp
  obtain ⟨x, _, rfl⟩ := List.mem_map.1 hp
  rfl
/-- the knots and what xs give -/
def Mg (ks : List (Int × Int)) (xs : List Int) (qs : List (Int × Int)) : Prop := Asc qs ∧ ∀ p, p ∈ qs ↔ p ∈ ks ∨ p ∈ newK ks xs
theorem Mg.fun {ks xs qs err} (v : Vd ks err) (h : Mg ks xs qs) : Fun (valN ks) qs := fun p hp => by
  rcases (h.2 p).1 hp with h1 | h1
  · exact own_fun v p h1
  · exact new_fun ks xs p h1
theorem Mg.nil {ks err} (v : Vd ks err) : Mg ks [] ks := ⟨vd_asc v, fun p => by simp [newK]⟩
theorem Mg.put {ks xs qs rs err} {x : Int} (v : Vd ks err) (h : Mg ks xs qs) (k : PutIs qs x (valN ks x) rs) : Mg ks (xs ++ [x]) rs ∧ rs.length ≤ qs.length + 1 := by
  obtain ⟨h1, h2, h3⟩ := put_asc h.1 (h.fun v) rfl k
  refine ⟨⟨h1, fun p => ?_⟩, h3⟩
  rw [h2, h.2, newK, newK, List.map_append, List.mem_append]
  simp [or_assoc]
theorem mergeK_mg {ks err} (v : Vd ks err) (xs : List Int) : Mg ks xs (mergeK ks xs) := by
  obtain ⟨h1, h2⟩ := sortP_list (ks ++ newK ks xs)
  have hf : Fun (valN ks) (sortP (ks ++ newK ks xs)) := fun p hp => by
    rcases List.mem_append.1 (h1.mem_iff.1 hp) with h3 | h3
    · exact own_fun v p h3
    · exact new_fun ks xs p h3
  obtain ⟨h3, h4⟩ := comp_asc h2 hf
  exact ⟨h3, fun p => by rw [mergeK, h4, h1.mem_iff, List.mem_append]⟩
theorem Mg.uniq {ks xs qs err} (v : Vd ks err) (h : Mg ks xs qs) : qs = mergeK ks xs := asc_unique h.1 (mergeK_mg v xs).1 fun p => by rw [h.2, (mergeK_mg v xs).2]
end Go.Proofs.YtbhklifflhoinaaGreat
