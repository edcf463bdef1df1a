/- Plain facts: cuts that are found from left to right are no more than any cuts that prove the same. No walk. -/
import Derived.Test.YtekpffjcffeanaaWp
namespace Go.Proofs.Ytekpffjcffeanaa

/-- no addend is greater -/
inductive PLe : List Int → List Int → Prop
  | nil : PLe [] []
  | cons {a b : Int} {x y : List Int} : a ≤ b → PLe x y → PLe (a :: x) (b :: y)
theorem PLe.refl : ∀ x : List Int, PLe x x
  | [] => .nil
  | _ :: x => .cons (Int.le_refl _) (PLe.refl x)
theorem PLe.sum {x y : List Int} (h : PLe x y) : ∀ c d : Int, c ≤ d → x.foldl (· + ·) c ≤ y.foldl (· + ·) d := by
  induction h with
  | nil => intro c d h; exact h
  | cons h _ ih => intro c d hc; exact ih _ _ (by simp only; omega)
/-- the least of each two addends -/
def lowR (x y : List Int) : List Int := List.zipWith min x y
theorem lowR_len {x y : List Int} {n : Nat} (h1 : x.length = n) (h2 : y.length = n) : (lowR x y).length = n := by
  unfold lowR
  rw [List.length_zipWith]
  omega
theorem lowR_right : ∀ {x y : List Int}, x.length = y.length → PLe (lowR x y) y
  | [], [], _ => .nil
  | a :: x, b :: y, h => .cons (by omega) (lowR_right (x := x) (y := y) (by simpa using h))
  | [], _ :: _, h => by simp at h
  | _ :: _, [], h => by simp at h
theorem lowR_mono {x x' : List Int} (h : PLe x x') : ∀ y, PLe (lowR x y) (lowR x' y) := by
  induction h with
  | nil => intro y; exact .nil
  | cons h _ ih =>
    intro y
    cases y with
    | nil => exact .nil
    | cons c y => exact .cons (by omega) (ih y)
theorem lowR_self : ∀ x : List Int, lowR x x = x
  | [] => rfl
  | a :: x => by
    show min a a :: lowR x x = _
    rw [lowR_self x]
    congr 1
    omega
theorem lowR_right_self {x y : List Int} (h : x.length = y.length) : lowR (lowR x y) y = lowR x y := by
  unfold lowR
  induction x generalizing y with
  | nil => rfl
  | cons a x ih =>
    cases y with
    | nil => rfl
    | cons b y =>
      show min (min a b) b :: _ = min a b :: _
      rw [show min (min a b) b = min a b by omega, ih (by simpa using h)]
section
variable (a : Nat → List Int) (lv H lo : Int)
def sumL (x : List Int) : Int := x.foldl (· + ·) 0
/-- what has been found after k minutes: the cuts, and the least addends since the last; nothing once a minute is too low -/
def grd : Nat → Option (List Int × List Int)
  | 0 => some ([], [])
  | k + 1 => (grd k).bind fun g => if H ≤ lv + sumL (if k = 0 then a k else lowR g.2 (a k)) then some (g.1, if k = 0 then a k else lowR g.2 (a k)) else if H ≤ lv + sumL (a k) then some (g.1 ++ [lo + (k : Int)], a k) else none
/-- what a look at cuts has come to after k minutes -/
def prv (C : List Int) : Nat → Option (List Int)
  | 0 => some []
  | k + 1 => (prv C k).bind fun p => if lv + sumL (lowR (if lo + (k : Int) ∈ C ∨ k = 0 then a k else p) (a k)) < H then none else some (lowR (if lo + (k : Int) ∈ C ∨ k = 0 then a k else p) (a k))
/-- how many cuts lie up to the minute before -/
def cntC (C : List Int) (k : Nat) : Nat := (C.filter fun c => decide (c < lo + (k : Int))).length
/-- cuts: one behind the other, behind the first minute -/
def ascC : Int → List Int → Prop
  | _, [] => True
  | b, c :: r => b < c ∧ ascC c r
theorem ascC_lt : ∀ {b : Int} {C : List Int}, ascC b C → ∀ c ∈ C, b < c
  | _, _ :: r, h, c, hc => by
    rcases List.mem_cons.1 hc with rfl | hc
    · exact h.1
    · have := ascC_lt h.2 c hc
      have := h.1
      omega
theorem ascC_nodup : ∀ {b : Int} {C : List Int}, ascC b C → C.Nodup
  | _, [], _ => List.nodup_nil
  | _, c :: r, h => List.nodup_cons.2 ⟨fun hm => by have := ascC_lt h.2 c hm; omega, ascC_nodup h.2⟩
theorem ascC_snoc : ∀ {b : Int} {C : List Int} {x : Int}, ascC b C → b < x → (∀ c ∈ C, c < x) → ascC b (C ++ [x])
  | _, [], _, _, h, _ => ⟨h, trivial⟩
  | _, c :: r, x, h, _, hx => ⟨h.1, ascC_snoc h.2 (hx c (by simp)) fun d hd => hx d (by simp [hd])⟩
theorem cntC_succ {C : List Int} (hn : C.Nodup) (k : Nat) : cntC lo C (k + 1) = cntC lo C k + if lo + (k : Int) ∈ C then 1 else 0 := by
  unfold cntC
  induction C with
  | nil => simp
  | cons c r ih =>
    obtain ⟨h1, h2⟩ := List.nodup_cons.1 hn
    have ih := ih h2
    by_cases e : c = lo + (k : Int)
    · subst e
      rw [if_neg h1] at ih
      simp only [List.filter_cons, List.mem_cons, true_or, if_true]
      rw [if_pos (by simp; omega), if_neg (by simp)]
      simp only [List.length_cons]
      omega
    · have e2 : (lo + (k : Int) ∈ c :: r) ↔ lo + (k : Int) ∈ r := by
        rw [List.mem_cons]
        exact ⟨fun h => h.resolve_left (fun q => e q.symm), .inr⟩
      by_cases q : c < lo + (k : Int)
      · simp only [List.filter_cons, e2]
        rw [if_pos (by simp; omega), if_pos (by simpa using q)]
        simp only [List.length_cons]
        split at ih <;> simp_all <;> omega
      · simp only [List.filter_cons, e2]
        rw [if_neg (by simp; omega), if_neg (by simpa using q)]
        exact ih
theorem cntC_le (C : List Int) (k : Nat) : cntC lo C k ≤ C.length := List.length_filter_le _ _
/-- what cuts prove holds in every minute; the found ones are no more, and where they are as many their addends are no less -/
theorem grd_best {n : Nat} (ha : ∀ k, (a k).length = n) {C : List Int} (hC : ascC lo C) : ∀ {k : Nat} {p : List Int}, prv a lv H lo C k = some p → (∀ i, i < k → H ≤ lv + sumL (a i)) ∧ (0 < k → p.length = n) ∧ ∃ g q, grd a lv H lo k = some (g, q) ∧ (0 < k → q.length = n) ∧ (g.length < cntC lo C k ∨ (g.length = cntC lo C k ∧ (0 < k → PLe p q)))
  | 0, p, h => by
    refine ⟨fun i hi => (by cases hi), fun h => (by cases h), [], [], rfl, fun h => (by cases h), .inr ⟨?_, fun h => (by cases h)⟩⟩
    unfold cntC
    rw [List.filter_eq_nil_iff.2 fun c hc => by
      have := ascC_lt hC c hc
      simp
      omega]
  | k + 1, p, h => by
    unfold prv at h
    simp only [Option.bind_eq_some_iff] at h
    obtain ⟨p0, h0, h1⟩ := h
    by_cases hsum : lv + sumL (lowR (if lo + (k : Int) ∈ C ∨ k = 0 then a k else p0) (a k)) < H
    · rw [if_pos hsum] at h1
      cases h1
    rw [if_neg hsum] at h1
    simp only [Option.some.injEq] at h1
    subst h1
    obtain ⟨i1, i2, g, q, i3, i4, i5⟩ := grd_best ha hC h0
    have hcs := cntC_succ lo (ascC_nodup hC) k
    have hpl : (if lo + (k : Int) ∈ C ∨ k = 0 then a k else p0).length = (a k).length := by
      split
      · rfl
      · rename_i hh
        rw [i2 (by omega), ha]
    have hle := (lowR_right hpl).sum 0 0 (Int.le_refl _)
    have hak : H ≤ lv + sumL (a k) := by
      unfold sumL at hsum ⊢
      omega
    refine ⟨fun i hi => ?_, fun _ => lowR_len (hpl.trans (ha k)) (ha k), ?_⟩
    · by_cases e : i = k
      · subst e; exact hak
      · exact i1 i (by omega)
    have hr : PLe (lowR (if lo + (k : Int) ∈ C ∨ k = 0 then a k else p0) (a k)) (a k) := lowR_right hpl
    unfold grd
    rw [i3]
    simp only [Option.bind_some]
    by_cases c1 : H ≤ lv + sumL (if k = 0 then a k else lowR q (a k))
    · rw [if_pos c1]
      refine ⟨g, _, rfl, fun _ => ?_, ?_⟩
      · split
        · exact ha k
        · exact lowR_len (i4 (by omega)) (ha k)
      · rw [hcs]
        rcases i5 with i5 | ⟨i5, i6⟩
        · exact .inl (by omega)
        · by_cases hm : lo + (k : Int) ∈ C
          · rw [if_pos hm]
            exact .inl (by omega)
          · rw [if_neg hm]
            refine .inr ⟨by omega, fun _ => ?_⟩
            by_cases k0 : k = 0
            · rw [if_pos (.inr k0), if_pos k0, lowR_self]
              exact PLe.refl _
            · rw [if_neg (by simp [hm, k0]), if_neg k0]
              exact lowR_mono (i6 (by omega)) _
    · rw [if_neg c1, if_pos hak]
      refine ⟨g ++ [lo + (k : Int)], a k, rfl, fun _ => ha k, ?_⟩
      have k0 : k ≠ 0 := fun e => c1 (by rw [if_pos e]; exact hak)
      rw [if_neg k0] at c1
      rw [hcs, List.length_append, List.length_singleton]
      rcases i5 with i5 | ⟨i5, i6⟩
      · by_cases e : g.length + 1 < cntC lo C k + if lo + (k : Int) ∈ C then 1 else 0
        · exact .inl e
        · refine .inr ⟨?_, fun _ => hr⟩
          split at e <;> split <;> simp_all <;> omega
      · by_cases hm : lo + (k : Int) ∈ C
        · rw [if_pos hm]
          exact .inr ⟨by omega, fun _ => hr⟩
        · exfalso
          rw [if_neg (by simp [hm, k0])] at hsum
          have := (lowR_mono (i6 (by omega)) (a k)).sum 0 0 (Int.le_refl _)
          unfold sumL at hsum c1
          omega
/-- what is found proves what it was found for -/
theorem grd_prv {n : Nat} (ha : ∀ k, (a k).length = n) : ∀ {k : Nat} {g q : List Int}, grd a lv H lo k = some (g, q) → ascC lo g ∧ (∀ c ∈ g, c < lo + (k : Int)) ∧ (0 < k → q.length = n) ∧ ∀ r, (∀ c ∈ r, lo + (k : Int) ≤ c) → prv a lv H lo (g ++ r) k = some q
  | 0, g, q, h => by
    cases h
    exact ⟨trivial, fun c hc => (by cases hc), fun h => (by cases h), fun r _ => rfl⟩
  | k + 1, g, q, h => by
    unfold grd at h
    simp only [Option.bind_eq_some_iff] at h
    obtain ⟨⟨g0, q0⟩, h0, h1⟩ := h
    obtain ⟨i1, i2, i3, i4⟩ := grd_prv ha h0
    simp only at h1
    by_cases c1 : H ≤ lv + sumL (if k = 0 then a k else lowR q0 (a k))
    · rw [if_pos c1] at h1
      simp only [Option.some.injEq, Prod.mk.injEq] at h1
      obtain ⟨e1, e2⟩ := h1
      subst e1 e2
      refine ⟨i1, fun c hc => by have := i2 c hc; omega, fun _ => ?_, fun r hr => ?_⟩
      · split
        · exact ha k
        · exact lowR_len (i3 (by omega)) (ha k)
      · unfold prv
        rw [i4 r fun c hc => by have := hr c hc; omega]
        have hm : lo + (k : Int) ∉ g0 ++ r := fun hm => by
          rcases List.mem_append.1 hm with hm | hm
          · have := i2 _ hm; omega
          · have := hr _ hm; omega
        simp only [Option.bind_some, hm, false_or]
        by_cases k0 : k = 0
        · simp only [if_pos k0] at c1 ⊢
          rw [lowR_self, if_neg (by omega)]
        · simp only [if_neg k0] at c1 ⊢
          rw [if_neg (by omega)]
    · rw [if_neg c1] at h1
      split at h1
      · rename_i hak
        simp only [Option.some.injEq, Prod.mk.injEq] at h1
        obtain ⟨e1, e2⟩ := h1
        subst e1 e2
        have k0 : k ≠ 0 := fun e => c1 (by rw [if_pos e]; exact hak)
        refine ⟨ascC_snoc i1 (by omega) i2, fun c hc => ?_, fun _ => ha k, fun r hr => ?_⟩
        · rcases List.mem_append.1 hc with hc | hc
          · have := i2 c hc; omega
          · rw [List.mem_singleton.1 hc]; omega
        · unfold prv
          rw [List.append_assoc, i4 ([lo + (k : Int)] ++ r) fun c hc => by
            rcases List.mem_append.1 hc with hc | hc
            · rw [List.mem_singleton.1 hc]; omega
            · have := hr c hc; omega]
          simp only [Option.bind_some]
          have hm : lo + (k : Int) ∈ g0 ++ ([lo + (k : Int)] ++ r) ∨ k = 0 := .inl (by simp)
          rw [if_pos hm, lowR_self, if_neg (by omega)]
      · cases h1
end
end Go.Proofs.Ytekpffjcffeanaa
