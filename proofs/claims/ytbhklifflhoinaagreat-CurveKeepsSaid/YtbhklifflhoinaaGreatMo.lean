/- Plain facts of peaks: what is least or greatest over all integers of a span is so first at a corner. No walk. -/
import Derived.Test.YtbhklifflhoinaaGreatRv
namespace Go.Proofs.YtbhklifflhoinaaGreat

theorem compact_upto (d : Array Int) : ∀ m, m ≤ d.size → (∀ i j, i ≤ j → j < d.size → d[i]! ≤ d[j]!) → (Lib.compactUpTo d m).Pairwise (· < ·) ∧ ∀ x, x ∈ Lib.compactUpTo d m ↔ ∃ j, j < m ∧ d[j]! = x
  | 0, _, _ => ⟨by simp [Lib.compactUpTo], fun x => by simp [Lib.compactUpTo]⟩
  | m + 1, hm, hs => by
    obtain ⟨h1, h2⟩ := compact_upto d m (by omega) hs
    rw [Lib.compactUpTo_succ]
    by_cases hk : Lib.keeps d m = true
    · rw [if_pos hk]
      have hk' : m = 0 ∨ d[m]! ≠ d[m - 1]! := by simpa [Lib.keeps] using hk
      refine ⟨List.pairwise_append.2 ⟨h1, List.pairwise_singleton _ _, fun a ha b hb => ?_⟩, fun x => ?_⟩
      · obtain rfl := List.mem_singleton.1 hb
        obtain ⟨j, hj, rfl⟩ := (h2 a).1 ha
        have q1 := hs j (m - 1) (by omega) (by omega)
        have q2 := hs (m - 1) m (by omega) (by omega)
        rcases hk' with h | h
        · omega
        · omega
      · rw [List.mem_append, h2 x, List.mem_singleton]
        constructor
        · rintro (⟨j, hj, e⟩ | rfl)
          · exact ⟨j, by omega, e⟩
          · exact ⟨m, by omega, rfl⟩
        · rintro ⟨j, hj, e⟩
          by_cases hjm : j = m
          · subst hjm; exact .inr e.symm
          · exact .inl ⟨j, by omega, e⟩
    · rw [if_neg hk, List.append_nil]
      have hk' : ¬ (m = 0 ∨ d[m]! ≠ d[m - 1]!) := by simpa [Lib.keeps] using hk
      have hm0 : m ≠ 0 := fun h => hk' (.inl h)
      have he : d[m]! = d[m - 1]! := by
        by_cases h : d[m]! = d[m - 1]!
        · exact h
        · exact absurd (.inr h) hk'
      refine ⟨h1, fun x => (h2 x).trans ⟨fun ⟨j, hj, e⟩ => ⟨j, by omega, e⟩, fun ⟨j, hj, e⟩ => ?_⟩⟩
      by_cases hjm : j = m
      · subst hjm; exact ⟨j - 1, by omega, by rw [← he]; exact e⟩
      · exact ⟨j, by omega, e⟩
theorem uniq_sorted {zs : List Int} (hs : zs.Pairwise (· ≤ ·)) : (uniq zs).Pairwise (· < ·) ∧ ∀ x, x ∈ uniq zs ↔ x ∈ zs := by
  have hget : ∀ i (h : i < zs.length), zs.toArray[i]! = zs[i] := fun i h => by rw [getElem!_pos _ i (by simpa using h)]; simp
  obtain ⟨h1, h2⟩ := compact_upto zs.toArray zs.length (by simp) (fun i j hij hj => by
    have hj' : j < zs.length := by simpa using hj
    rw [hget i (by omega), hget j hj']
    by_cases e : i = j
    · subst e; exact Int.le_refl _
    · exact List.pairwise_iff_getElem.1 hs i j (by omega) hj' (by omega))
  refine ⟨h1, fun x => (h2 x).trans ⟨fun ⟨j, hj, e⟩ => ?_, fun hx => ?_⟩⟩
  · rw [hget j hj] at e; rw [← e]; exact List.getElem_mem hj
  · obtain ⟨j, hj, e⟩ := List.getElem_of_mem hx
    exact ⟨j, hj, by rw [hget j hj]; exact e⟩
theorem sortX_sorted (l : List Int) : (sortX l).Pairwise (· ≤ ·) := by
  have := List.pairwise_mergeSort (le := fun x y : Int => decide (x ≤ y)) (fun a b c h1 h2 => by simp at h1 h2 ⊢; omega) (fun a b => by simp; omega) l
  unfold sortX
  exact this.imp fun h => by simpa using h
theorem cornX_sorted (lo hi : Int) (l : List Cur) : (cornX lo hi l).Pairwise (· < ·) := (uniq_sorted (sortX_sorted _)).1
theorem cornX_iff {lo hi x : Int} {l : List Cur} : x ∈ cornX lo hi l ↔ x = lo ∨ x = hi ∨ ∃ c ∈ l, ∃ k ∈ c.ks, lo < k.1 ∧ k.1 < hi ∧ k.1 = x := by
  unfold cornX
  rw [(uniq_sorted (sortX_sorted _)).2 x]
  unfold sortX
  rw [List.mem_mergeSort]
  unfold rawX innerX
  simp only [List.mem_append, List.mem_cons, List.not_mem_nil, or_false, List.mem_flatMap, List.mem_map, List.mem_filter, Bool.and_eq_true, decide_eq_true_eq]
  constructor
  · rintro ((h | h) | ⟨c, hc, k, ⟨hk, h1, h2⟩, e⟩)
    · exact .inl h
    · exact .inr (.inl h)
    · exact .inr (.inr ⟨c, hc, k, hk, h1, h2, e⟩)
  · rintro (h | h | ⟨c, hc, k, hk, h1, h2, e⟩)
    · exact .inl (.inl h)
    · exact .inl (.inr h)
    · exact .inr ⟨c, hc, k, ⟨hk, h1, h2⟩, e⟩

/-! orders of fractions with positive denominators -/
theorem lessF_iff {a b : Int × Int} : lessF a b = true ↔ a.1 * b.2 < b.1 * a.2 := by
  unfold lessF ordF cmpI
  rw [decide_eq_true_eq]
  split
  · rename_i h; exact ⟨fun _ => h, fun _ => by decide⟩
  · rename_i h
    split
    · exact ⟨fun h' => absurd h' (by decide), fun h' => absurd h' h⟩
    · exact ⟨fun h' => absurd h' (by decide), fun h' => absurd h' h⟩
theorem moreF_iff {a b : Int × Int} : moreF a b = true ↔ b.1 * a.2 < a.1 * b.2 := by
  unfold moreF ordF cmpI
  rw [decide_eq_true_eq]
  split
  · rename_i h; exact ⟨fun h' => absurd h' (by decide), fun h' => by omega⟩
  · rename_i h
    split
    · rename_i h2; exact ⟨fun _ => h2, fun _ => by decide⟩
    · rename_i h2; exact ⟨fun h' => absurd h' (by decide), fun h' => absurd h' h2⟩
theorem cross_trans {a b c d e f : Int} (hb : 0 < b) (hd : 0 < d) (hf : 0 < f) (h : a * d < c * b) (h2 : c * f ≤ e * d) : a * f < e * b := by
  have h3 : a * d * f < c * b * f := Int.mul_lt_mul_of_pos_right h hf
  have h4 : c * f * b ≤ e * d * b := Int.mul_le_mul_of_nonneg_right h2 (by omega)
  have e1 : a * d * f = d * (a * f) := by rw [Int.mul_comm a d, Int.mul_assoc]
  have e2 : c * b * f = c * f * b := by rw [Int.mul_assoc, Int.mul_comm b f, ← Int.mul_assoc]
  have e3 : e * d * b = d * (e * b) := by rw [Int.mul_comm e d, Int.mul_assoc]
  rw [e1, e2] at h3
  rw [e3] at h4
  exact Int.lt_of_mul_lt_mul_left (Int.lt_of_lt_of_le h3 h4) (by omega)
theorem cross_trans' {a b c d e f : Int} (hb : 0 < b) (hd : 0 < d) (hf : 0 < f) (h : a * d ≤ c * b) (h2 : c * f < e * d) : a * f < e * b := by
  have h3 : a * d * f ≤ c * b * f := Int.mul_le_mul_of_nonneg_right h (by omega)
  have h4 : c * f * b < e * d * b := Int.mul_lt_mul_of_pos_right h2 hb
  have e1 : a * d * f = d * (a * f) := by rw [Int.mul_comm a d, Int.mul_assoc]
  have e2 : c * b * f = c * f * b := by rw [Int.mul_assoc, Int.mul_comm b f, ← Int.mul_assoc]
  have e3 : e * d * b = d * (e * b) := by rw [Int.mul_comm e d, Int.mul_assoc]
  rw [e1, e2] at h3
  rw [e3] at h4
  exact Int.lt_of_mul_lt_mul_left (Int.lt_of_le_of_lt h3 h4) (by omega)
structure LtOk (lt : Int × Int → Int × Int → Bool) : Prop where
  irr : ∀ a, lt a a = false
  asy : ∀ {a b}, lt a b = true → lt b a = false
  nt : ∀ {a b c : Int × Int}, 0 < a.2 → 0 < b.2 → 0 < c.2 → lt a b = true → lt c b = false → lt a c = true
theorem lessF_ok : LtOk lessF where
  irr := lessF_self
  asy := fun {a b} h => by
    rw [lessF_iff] at h
    rw [← Bool.not_eq_true, lessF_iff]
    omega
  nt := fun {a b c} ha hb hc h h2 => by
    rw [lessF_iff] at h ⊢
    rw [← Bool.not_eq_true, lessF_iff] at h2
    exact cross_trans ha hb hc h (by omega)
theorem moreF_ok : LtOk moreF where
  irr := moreF_self
  asy := fun {a b} h => by
    rw [moreF_iff] at h
    rw [← Bool.not_eq_true, moreF_iff]
    omega
  nt := fun {a b c} ha hb hc h h2 => by
    rw [moreF_iff] at h ⊢
    rw [← Bool.not_eq_true, moreF_iff] at h2
    exact cross_trans' hc hb ha (by omega) h

/-- x is the first one of X at which f is best -/
structure First (lt : Int × Int → Int × Int → Bool) (f : Int → Int × Int) (X : Int → Prop) (x : Int) : Prop where
  mem : X x
  best : ∀ y, X y → lt (f y) (f x) = false
  first : ∀ y, X y → y < x → lt (f x) (f y) = true
theorem First.eq {lt f X x y} (h : First lt f X x) (k : First lt f X y) : x = y := by
  rcases Int.lt_trichotomy x y with g | g | g
  · have := k.first x h.mem g; rw [h.best y k.mem] at this; cases this
  · exact g
  · have := h.first y k.mem g; rw [k.best x h.mem] at this; cases this
theorem best_char {lt} (ok : LtOk lt) {fs : List (Int × Int)} (hp : ∀ a ∈ fs, 0 < a.2) : ∀ k, 0 < k → k ≤ fs.length →
    bestIx lt (0, 0) fs k < k ∧ (∀ j, j < k → lt (fs[j]?.getD (0, 0)) (fs[bestIx lt (0, 0) fs k]?.getD (0, 0)) = false) ∧ (∀ j, j < bestIx lt (0, 0) fs k → lt (fs[bestIx lt (0, 0) fs k]?.getD (0, 0)) (fs[j]?.getD (0, 0)) = true)
  | 0, h, _ => by omega
  | 1, _, _ => by
    have e : bestIx lt (0, 0) fs 1 = 0 := best_one lt ok.irr fs
    rw [e]
    exact ⟨by omega, fun j hj => by obtain rfl : j = 0 := by omega
                                    exact ok.irr _, fun j hj => by omega⟩
  | k + 2, _, hk => by
    obtain ⟨h1, h2, h3⟩ := best_char ok hp (k + 1) (by omega) (by omega)
    have hpos : ∀ j, j < fs.length → 0 < (fs[j]?.getD (0, 0)).2 := fun j hj => by
      rw [List.getElem?_eq_getElem hj]; exact hp _ (List.getElem_mem hj)
    have hs : bestIx lt (0, 0) fs (k + 2) = if lt (fs[k + 1]?.getD (0, 0)) (fs[bestIx lt (0, 0) fs (k + 1)]?.getD (0, 0)) = true then k + 1 else bestIx lt (0, 0) fs (k + 1) := rfl
    rw [hs]
    split
    · rename_i hl
      refine ⟨by omega, fun j hj => ?_, fun j hj => ?_⟩
      · by_cases e : j = k + 1
        · rw [e]; exact ok.irr _
        · have := ok.nt (hpos (k + 1) (by omega)) (hpos _ (by omega)) (hpos j (by omega)) hl (h2 j (by omega))
          exact ok.asy this
      · exact ok.nt (hpos (k + 1) (by omega)) (hpos _ (by omega)) (hpos j (by omega)) hl (h2 j (by omega))
    · rename_i hl
      refine ⟨by omega, fun j hj => ?_, h3⟩
      by_cases e : j = k + 1
      · rw [e]; simpa using hl
      · exact h2 j (by omega)
theorem best_first {lt} (ok : LtOk lt) {f : Int → Int × Int} {xs : List Int} (hs : xs.Pairwise (· < ·)) (hpos : 0 < xs.length) (hp : ∀ x ∈ xs, 0 < (f x).2) : First lt f (· ∈ xs) (xs[bestIx lt (0, 0) (xs.map f) xs.length]?.getD 0) := by
  obtain ⟨h1, h2, h3⟩ := best_char ok (fs := xs.map f) (fun a ha => by obtain ⟨x, hx, rfl⟩ := List.mem_map.1 ha; exact hp x hx) xs.length hpos (by simp)
  generalize bestIx lt (0, 0) (xs.map f) xs.length = i at h1 h2 h3
  have hg : ∀ j (hj : j < xs.length), (xs.map f)[j]?.getD (0, 0) = f xs[j] := fun j hj => by simp [hj]
  have hx : xs[i]?.getD 0 = xs[i] := by simp [h1]
  rw [hx]
  refine ⟨List.getElem_mem h1, fun y hy => ?_, fun y hy hlt => ?_⟩
  · obtain ⟨j, hj, rfl⟩ := List.getElem_of_mem hy
    have := h2 j hj
    rw [hg j hj, hg i h1] at this
    exact this
  · obtain ⟨j, hj, rfl⟩ := List.getElem_of_mem hy
    have hji : j < i := by
      rcases Nat.lt_trichotomy j i with g | g | g
      · exact g
      · subst g; omega
      · have := List.pairwise_iff_getElem.1 hs i j h1 hj g; omega
    have := h3 j hji
    rw [hg j hj, hg i h1] at this
    exact this
theorem intsX_mem {lo hi x : Int} : x ∈ intsX lo hi ↔ lo ≤ x ∧ x ≤ hi := by
  unfold intsX
  rw [List.mem_map]
  constructor
  · rintro ⟨i, hi, rfl⟩
    have := List.mem_range.1 hi
    omega
  · rintro ⟨h1, h2⟩
    exact ⟨(x - lo).toNat, List.mem_range.2 (by omega), by omega⟩
theorem intsX_sorted (lo hi : Int) : (intsX lo hi).Pairwise (· < ·) := by
  unfold intsX
  rw [List.pairwise_map]
  exact List.pairwise_lt_range.imp fun h => by omega

/-- three values in a row lie on a line -/
def Col (f : Int → Int × Int) (x : Int) : Prop := ∃ D p q r : Int, 0 < D ∧ (f (x - 1)).1 * D = p * (f (x - 1)).2 ∧ (f x).1 * D = q * (f x).2 ∧ (f (x + 1)).1 * D = r * (f (x + 1)).2 ∧ p + r = 2 * q
theorem isR_lt {a b : Int × Int} {p q D : Int} (hD : 0 < D) (ha : 0 < a.2) (hb : 0 < b.2) (h1 : a.1 * D = p * a.2) (h2 : b.1 * D = q * b.2) : a.1 * b.2 < b.1 * a.2 ↔ p < q := by
  have e1 : D * (a.1 * b.2) = (a.2 * b.2) * p := by
    rw [← Int.mul_assoc, Int.mul_comm D, h1, Int.mul_assoc, Int.mul_comm p]
  have e2 : D * (b.1 * a.2) = (a.2 * b.2) * q := by
    rw [← Int.mul_assoc, Int.mul_comm D, h2, Int.mul_assoc, Int.mul_comm b.2, Int.mul_comm q]
  have hab : 0 < a.2 * b.2 := Int.mul_pos ha hb
  constructor
  · intro h
    have := Int.mul_lt_mul_of_pos_left h hD
    rw [e1, e2] at this
    exact Int.lt_of_mul_lt_mul_left this (by omega)
  · intro h
    have := Int.mul_lt_mul_of_pos_left h hab
    rw [← e1, ← e2] at this
    exact Int.lt_of_mul_lt_mul_left this (by omega)
theorem first_col {lt} (h : lt = lessF ∨ lt = moreF) {f : Int → Int × Int} {lo hi x : Int} (hp : ∀ y, lo ≤ y → y ≤ hi → 0 < (f y).2) (k : First lt f (fun y => lo ≤ y ∧ y ≤ hi) x) (h1 : lo < x) (h2 : x < hi) (hc : Col f x) : False := by
  obtain ⟨D, p, q, r, hD, e1, e2, e3, e4⟩ := hc
  have k1 := k.first (x - 1) ⟨by omega, by omega⟩ (by omega)
  have k2 := k.best (x + 1) ⟨by omega, by omega⟩
  have p0 := hp (x - 1) (by omega) (by omega)
  have p1 := hp x (by omega) (by omega)
  have p2 := hp (x + 1) (by omega) (by omega)
  rcases h with rfl | rfl
  · rw [lessF_iff, isR_lt hD p1 p0 e2 e1] at k1
    rw [← Bool.not_eq_true, lessF_iff, isR_lt hD p2 p1 e3 e2] at k2
    omega
  · rw [moreF_iff, isR_lt hD p0 p1 e1 e2] at k1
    rw [← Bool.not_eq_true, moreF_iff, isR_lt hD p1 p2 e2 e3] at k2
    omega
theorem peak_same {f : Int → Int × Int} {lo hi : Int} {xs : List Int} (hlh : lo ≤ hi) (hs : xs.Pairwise (· < ·)) (hsub : ∀ x ∈ xs, lo ≤ x ∧ x ≤ hi) (hlo : lo ∈ xs) (hhi : hi ∈ xs) (hp : ∀ y, lo ≤ y → y ≤ hi → 0 < (f y).2) (hc : ∀ x, lo < x → x < hi → x ∉ xs → Col f x) : pkR lo ((intsX lo hi).map f) = pkOf xs (xs.map f) := by
  have hX := intsX_len lo hi
  have hpos : 0 < xs.length := List.length_pos_of_mem hlo
  have key : ∀ lt, lt = lessF ∨ lt = moreF → LtOk lt → lo + (bestIx lt (0, 0) ((intsX lo hi).map f) (intsX lo hi).length : Nat) = xs[bestIx lt (0, 0) (xs.map f) xs.length]?.getD 0 ∧ bestIx lt (0, 0) ((intsX lo hi).map f) (intsX lo hi).length < (hi - lo + 1).toNat ∧ bestIx lt (0, 0) (xs.map f) xs.length < xs.length := fun lt hl ok => by
    have F1 := best_first ok (f := f) (intsX_sorted lo hi) (by omega) (fun x hx => by have := intsX_mem.1 hx; exact hp x this.1 this.2)
    have F2 := best_first ok (f := f) hs hpos (fun x hx => hp x (hsub x hx).1 (hsub x hx).2)
    have b1 := bestIx_lt lt (0, 0) ((intsX lo hi).map f) (k := (intsX lo hi).length) (by simp) (by rw [List.length_map, hX]; omega)
    have b2 := bestIx_lt lt (0, 0) (xs.map f) (k := xs.length) (by simp) (by simpa using hpos)
    rw [List.length_map] at b1 b2
    rw [intsX_get (by omega)] at F1
    have F1' : First lt f (fun y => lo ≤ y ∧ y ≤ hi) (lo + (bestIx lt (0, 0) ((intsX lo hi).map f) (intsX lo hi).length : Nat)) := ⟨intsX_mem.1 F1.mem, fun y hy => F1.best y (intsX_mem.2 hy), fun y hy => F1.first y (intsX_mem.2 hy)⟩
    refine ⟨First.eq (X := (· ∈ xs)) ⟨?_, fun y hy => F1'.best y (hsub y hy), fun y hy => F1'.first y (hsub y hy)⟩ F2, by omega, b2⟩
    generalize lo + (bestIx lt (0, 0) ((intsX lo hi).map f) (intsX lo hi).length : Nat) = x at F1'
    by_cases hx : x ∈ xs
    · exact hx
    · have h1 : x ≠ lo := fun e => hx (e ▸ hlo)
      have h2 : x ≠ hi := fun e => hx (e ▸ hhi)
      have := F1'.mem
      exact absurd (hc x (by omega) (by omega) hx) (fun c => first_col hl hp F1' (by omega) (by omega) c)
  obtain ⟨l1, l2, l3⟩ := key lessF (.inl rfl) lessF_ok
  obtain ⟨m1, m2, m3⟩ := key moreF (.inr rfl) moreF_ok
  have hv : ∀ {i j : Nat}, i < (hi - lo + 1).toNat → j < xs.length → lo + (i : Int) = xs[j]?.getD 0 → kx ((intsX lo hi).map f) i = ((xs.map f)[j]?.getD (0, 0)).1 ∧ ky ((intsX lo hi).map f) i = ((xs.map f)[j]?.getD (0, 0)).2 := fun {i j} hi' hj e => by
    have a1 : ((intsX lo hi).map f)[i]? = some (f (lo + i)) := by simp [intsX_get hi']
    have a2 : (xs.map f)[j]? = some (f (xs[j]?.getD 0)) := by simp [hj]
    simp only [kx, ky, a1, a2, e, Option.getD_some, and_self]
  unfold pkR pkOf bL bM
  rw [List.length_map, List.length_map]
  obtain ⟨v1, v2⟩ := hv l2 l3 l1
  obtain ⟨v3, v4⟩ := hv m2 m3 m1
  simp only [v1, v2, v3, v4, l1, m1]

/-! curves -/
def lineK (ks : List (Int × Int)) (i : Nat) (x : Int) : Int := ky ks i * runK ks i + riseK ks i * (x - kx ks i)
theorem lo_cross {n d : Int} : loN n d * d = n * loD n d := by
  obtain ⟨h1, h2⟩ := lo_mul (n := n) (d := d)
  have : loN n d * d = loN n d * (loD n d * sg n d) := by rw [h2]
  rw [this, ← Int.mul_assoc, Int.mul_comm (loN n d) (loD n d), Int.mul_assoc, h1, Int.mul_comm]
theorem val_on {ks err} (v : Vd ks err) {i : Nat} (hi : i + 1 < ks.length) {x : Int} (h1 : kx ks i ≤ x) (h2 : x ≤ kx ks (i + 1)) : valN ks x * runK ks i = lineK ks i x * valD ks x := by
  have hmem : inPc ks x x i = true := by simp [inPc, h1, h2]
  cases hf : firstPc ks (inPc ks x x) with
  | none => rw [firstPc_no hf hi] at hmem; cases hmem
  | some j =>
    have hj := firstPc_lt hf
    have hpj := firstPc_p hf
    simp only [inPc, Bool.and_eq_true, decide_eq_true_eq] at hpj
    have hru : 0 < runK ks j := by have := v.klt (show j < j + 1 by omega) hj; unfold runK; omega
    have e : lnOf ks x x = ⟨kx ks j, ky ks j, riseK ks j, runK ks j⟩ := by unfold lnOf; rw [hf]; rfl
    have hc : valN ks x * runK ks j = lineK ks j x * valD ks x := by
      unfold valN valD
      rw [e]
      exact lo_cross
    by_cases hij : j = i
    · subst hij; exact hc
    · have hlt : j < i := by
        rcases Nat.lt_trichotomy j i with g | g | g
        · exact g
        · exact absurd g hij
        · have : kx ks (i + 1) ≤ kx ks j := by
            by_cases e2 : i + 1 = j
            · rw [e2]; exact Int.le_refl _
            · have := v.klt (show i + 1 < j by omega) (show j < ks.length by omega); omega
          exfalso
          unfold firstPc at hf
          obtain ⟨_, _, h5⟩ := List.find?_range_eq_some.1 hf
          have := h5 i g
          simp [hmem] at this
      have hk : kx ks (j + 1) ≤ kx ks i := by
        by_cases e2 : j + 1 = i
        · rw [e2]; exact Int.le_refl _
        · have := v.klt (show j + 1 < i by omega) (show i < ks.length by omega); omega
      have hxe : x = kx ks (j + 1) := by omega
      have hji : j + 1 = i := by
        by_cases e2 : j + 1 = i
        · exact e2
        · have := v.klt (show j + 1 < i by omega) (show i < ks.length by omega); omega
      subst hji
      have e3 : lineK ks j x = ky ks (j + 1) * runK ks j := by
        unfold lineK
        rw [hxe]
        show ky ks j * runK ks j + riseK ks j * runK ks j = _
        rw [← Int.add_mul]
        congr 1
        unfold riseK
        omega
      have e4 : lineK ks (j + 1) x = ky ks (j + 1) * runK ks (j + 1) := by
        unfold lineK
        rw [hxe, Int.sub_self, Int.mul_zero, Int.add_zero]
      rw [e3] at hc
      rw [e4]
      have e5 : valN ks x = ky ks (j + 1) * valD ks x := by
        have h6 : runK ks j * valN ks x = runK ks j * (ky ks (j + 1) * valD ks x) := by
          rw [Int.mul_comm, hc, Int.mul_comm (ky ks (j + 1)) (runK ks j), Int.mul_assoc]
        exact Int.eq_of_mul_eq_mul_left (by omega) h6
      rw [e5, Int.mul_assoc, Int.mul_assoc, Int.mul_comm (valD ks x)]
theorem piece_of {ks err} (v : Vd ks err) {x : Int} (h0 : kx ks 0 < x) : ∀ m, m < ks.length → x ≤ kx ks m → ∃ i, i + 1 ≤ m ∧ kx ks i ≤ x ∧ x ≤ kx ks (i + 1)
  | 0, _, h => by omega
  | m + 1, hm, h => by
    by_cases hx : x ≤ kx ks m
    · obtain ⟨i, a, b, c⟩ := piece_of v h0 m (by omega) hx
      exact ⟨i, by omega, b, c⟩
    · exact ⟨m, by omega, by omega, h⟩
theorem line_col (ks : List (Int × Int)) (i : Nat) (x : Int) : lineK ks i (x - 1) + lineK ks i (x + 1) = 2 * lineK ks i x := by
  unfold lineK
  have e1 : riseK ks i * (x - 1 - kx ks i) = riseK ks i * (x - kx ks i) - riseK ks i := by
    rw [show x - 1 - kx ks i = (x - kx ks i) - 1 by omega, Int.mul_sub, Int.mul_one]
  have e2 : riseK ks i * (x + 1 - kx ks i) = riseK ks i * (x - kx ks i) + riseK ks i := by
    rw [show x + 1 - kx ks i = (x - kx ks i) + 1 by omega, Int.mul_add, Int.mul_one]
  omega
/-- between two knots -/
theorem between {ks err} (v : Vd ks err) {lo hi x : Int} (hd : inDom ks lo hi = true) (h1 : lo < x) (h2 : x < hi) (hn : ∀ k ∈ ks, lo < k.1 → k.1 < hi → k.1 ≠ x) : ∃ i, i + 1 < ks.length ∧ kx ks i < x ∧ x < kx ks (i + 1) := by
  simp only [inDom, Bool.and_eq_true, decide_eq_true_eq] at hd
  rw [dLo_kx, dHi_kx] at hd
  have hp := v.pos
  obtain ⟨i, a, b, c⟩ := piece_of v (x := x) (by omega) (ks.length - 1) (by omega) (by omega)
  have hne : ∀ j, j < ks.length → kx ks j ≠ x := fun j hj e => by
    rw [kx_eq hj] at e
    exact hn _ (List.getElem_mem hj) (by omega) (by omega) e
  have := hne i (by omega)
  have := hne (i + 1) (by omega)
  exact ⟨i, by omega, by omega, by omega⟩
theorem val_col {ks err} (v : Vd ks err) {i : Nat} (hi : i + 1 < ks.length) {x : Int} (h1 : kx ks i < x) (h2 : x < kx ks (i + 1)) : Col (valF ks) x :=
  ⟨runK ks i, lineK ks i (x - 1), lineK ks i x, lineK ks i (x + 1), by unfold runK; omega, val_on v hi (by omega) (by omega), val_on v hi (by omega) (by omega), val_on v hi (by omega) (by omega), line_col ks i x⟩
theorem over_same {ks err lo hi} (h : errOn ks err lo hi = 0) : pkR lo ((intsX lo hi).map (valF ks)) = overK ks lo hi := by
  obtain ⟨hch, hlh, hd⟩ := errOn_zero h
  have v := vd_of_chk hch
  obtain ⟨d1, d2⟩ := v.dom hd
  refine peak_same hlh (cornX_sorted _ _ _) (fun x hx => cornX_mem hlh hx) (cornX_iff.2 (.inl rfl)) (cornX_iff.2 (.inr (.inl rfl))) (fun y h1 h2 => (v.fr (x := y) (by omega) (by omega)).d1) (fun x h1 h2 hx => ?_)
  obtain ⟨i, a, b, c⟩ := between v hd h1 h2 (fun k hk g1 g2 e => hx (cornX_iff.2 (.inr (.inr ⟨_, List.mem_singleton.2 rfl, k, hk, g1, g2, e⟩))))
  exact val_col v a b c
theorem overE_eq (ks : List (Int × Int)) (err lo hi : Int) : overE ks err lo hi = overR ks err lo hi := by
  unfold overE overR
  split
  · rename_i h; rw [over_same h]
  · rfl
end Go.Proofs.YtbhklifflhoinaaGreat
