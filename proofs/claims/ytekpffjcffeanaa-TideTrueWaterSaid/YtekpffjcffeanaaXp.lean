/- Plain facts of windows: when the water is at least so high. No walk. -/
import Derived.Test.YtekpffjcffeanaaWr
namespace Go.Proofs.Ytekpffjcffeanaa

structure Wd where
  lo : Int
  hi : Int
def noWd : Wd := ⟨0, 0⟩
def nthE (l : List Wd) (i : Nat) : Wd := l[i]?.getD noWd
theorem nthE_eq {l : List Wd} {i : Nat} (h : i < l.length) : nthE l i = l[i] := by simp [nthE, h]
theorem nthE_left {l r : List Wd} {i : Nat} (h : i < l.length) : nthE (l ++ r) i = nthE l i := by
  unfold nthE
  rw [List.getElem?_append_left h]
theorem nthE_snoc {l : List Wd} {s : Wd} {i : Nat} (h : i = l.length) : nthE (l ++ [s]) i = s := by
  subst h
  unfold nthE
  simp
/-- one more minute, in which the water is high enough or not -/
def addW (l : List Wd) (t : Int) (b : Bool) : List Wd := if b = true then (match l.getLast? with
    | some s => if s.hi = t - 1 then l.dropLast ++ [⟨s.lo, t⟩] else l ++ [⟨t, t⟩]
    | none => [⟨t, t⟩]) else l
/-- the windows of the first n minutes -/
def winK (p : Nat → Bool) (lo : Int) : Nat → List Wd
  | 0 => []
  | k + 1 => addW (winK p lo k) (lo + (k : Int)) (p k)
/-- what holds of the windows of n minutes -/
structure Win (p : Nat → Bool) (lo : Int) (n : Nat) (l : List Wd) : Prop where
  one : ∀ i, i < l.length → lo ≤ (nthE l i).lo ∧ (nthE l i).lo ≤ (nthE l i).hi ∧ (nthE l i).hi < lo + (n : Int) ∧ ∀ k : Nat, (nthE l i).lo ≤ lo + (k : Int) → lo + (k : Int) ≤ (nthE l i).hi → p k = true
  two : ∀ i, i + 1 < l.length → (nthE l i).hi + 1 < (nthE l (i + 1)).lo
  all : ∀ k : Nat, k < n → p k = true → ∃ i, i < l.length ∧ (nthE l i).lo ≤ lo + (k : Int) ∧ lo + (k : Int) ≤ (nthE l i).hi
section
variable {p : Nat → Bool} {lo : Int}
theorem win_last {l : List Wd} (h : l ≠ []) : l = l.dropLast ++ [nthE l (l.length - 1)] ∧ l.getLast? = some (nthE l (l.length - 1)) := by
  have h1 : 0 < l.length := List.length_pos_iff.2 h
  constructor
  · rw [nthE_eq (by omega)]
    rw [← List.getLast_eq_getElem h]
    exact (List.dropLast_concat_getLast h).symm
  · rw [nthE_eq (by omega), ← List.getLast_eq_getElem h]
    exact List.getLast?_eq_some_getLast h
theorem win_ok : ∀ n, Win p lo n (winK p lo n)
  | 0 => ⟨fun i hi => by simp [winK] at hi, fun i hi => by simp [winK] at hi, fun k hk => by omega⟩
  | n + 1 => by
    have ih := win_ok n
    have hw : winK p lo (n + 1) = addW (winK p lo n) (lo + (n : Int)) (p n) := rfl
    rw [hw]
    generalize winK p lo n = l at *
    unfold addW
    by_cases hp : p n = true
    rotate_left
    · rw [if_neg hp]
      refine ⟨fun i hi => ?_, ih.two, fun k hk hpk => ?_⟩
      · obtain ⟨a, b, c, d⟩ := ih.one i hi
        exact ⟨a, b, by omega, d⟩
      · rcases Nat.lt_succ_iff_lt_or_eq.1 hk with h | rfl
        · exact ih.all k h hpk
        · exact absurd hpk hp
    rw [if_pos hp]
    by_cases hl : l = []
    · subst hl
      refine ⟨fun i hi => ?_, fun i hi => by simp at hi, fun k hk hpk => ?_⟩
      · have : i = 0 := by simpa using hi
        subst this
        refine ⟨by simp [nthE]; omega, by simp [nthE], by simp [nthE]; omega, fun k h1 h2 => ?_⟩
        have : k = n := by simp [nthE] at h1 h2; omega
        rw [this]; exact hp
      · rcases Nat.lt_succ_iff_lt_or_eq.1 hk with h | rfl
        · obtain ⟨i, hi, _⟩ := ih.all k h hpk
          simp at hi
        · exact ⟨0, by simp, by simp [nthE], by simp [nthE]⟩
    · obtain ⟨e1, e2⟩ := win_last hl
      have hlp : 0 < l.length := List.length_pos_iff.2 hl
      obtain ⟨a1, a2, a3, a4⟩ := ih.one (l.length - 1) (by omega)
      rw [e2]
      simp only
      have hdl : l.dropLast.length = l.length - 1 := List.length_dropLast
      by_cases hs : (nthE l (l.length - 1)).hi = lo + (n : Int) - 1
      · rw [if_pos hs]
        have hlen : (l.dropLast ++ [(⟨(nthE l (l.length - 1)).lo, lo + (n : Int)⟩ : Wd)]).length = l.length := by simp; omega
        have old : ∀ i, i + 1 < l.length → nthE (l.dropLast ++ [(⟨(nthE l (l.length - 1)).lo, lo + (n : Int)⟩ : Wd)]) i = nthE l i := fun i hi => by
          rw [nthE_left (by omega)]
          conv => rhs; rw [e1]
          rw [nthE_left (by omega)]
        have new : nthE (l.dropLast ++ [(⟨(nthE l (l.length - 1)).lo, lo + (n : Int)⟩ : Wd)]) (l.length - 1) = ⟨(nthE l (l.length - 1)).lo, lo + (n : Int)⟩ := nthE_snoc (by omega)
        refine ⟨fun i hi => ?_, fun i hi => ?_, fun k hk hpk => ?_⟩
        · rw [hlen] at hi
          by_cases hz : i + 1 < l.length
          · rw [old i hz]
            obtain ⟨a, b, c, d⟩ := ih.one i (by omega)
            exact ⟨a, b, by omega, d⟩
          · have : i = l.length - 1 := by omega
            subst this
            rw [new]
            refine ⟨a1, by simp only; omega, by simp only; omega, fun k h1 h2 => ?_⟩
            simp only at h1 h2
            by_cases hk : k = n
            · rw [hk]; exact hp
            · exact a4 k h1 (by omega)
        · rw [hlen] at hi
          rw [old i hi]
          by_cases hz : i + 1 + 1 < l.length
          · rw [old (i + 1) hz]
            exact ih.two i hi
          · have h3 : i + 1 = l.length - 1 := by omega
            have h4 := ih.two i hi
            rw [h3] at h4 ⊢
            rw [new]
            exact h4
        · rw [hlen]
          rcases Nat.lt_succ_iff_lt_or_eq.1 hk with h | rfl
          · obtain ⟨i, hi, b1, b2⟩ := ih.all k h hpk
            by_cases hz : i + 1 < l.length
            · exact ⟨i, hi, by rw [old i hz]; exact b1, by rw [old i hz]; exact b2⟩
            · have : i = l.length - 1 := by omega
              subst this
              exact ⟨l.length - 1, by omega, by rw [new]; exact b1, by rw [new]; simp only; omega⟩
          · exact ⟨l.length - 1, by omega, by rw [new]; simp only; omega, by rw [new]; exact Int.le_refl _⟩
      · rw [if_neg hs]
        have hlen : (l ++ [(⟨lo + (n : Int), lo + (n : Int)⟩ : Wd)]).length = l.length + 1 := by simp
        refine ⟨fun i hi => ?_, fun i hi => ?_, fun k hk hpk => ?_⟩
        · rw [hlen] at hi
          by_cases hz : i < l.length
          · rw [nthE_left hz]
            obtain ⟨a, b, c, d⟩ := ih.one i hz
            exact ⟨a, b, by omega, d⟩
          · rw [nthE_snoc (by omega)]
            refine ⟨by simp only; omega, Int.le_refl _, by simp only; omega, fun k h1 h2 => ?_⟩
            simp only at h1 h2
            have : k = n := by omega
            rw [this]; exact hp
        · rw [hlen] at hi
          rw [nthE_left (by omega)]
          by_cases hz : i + 1 < l.length
          · rw [nthE_left hz]
            exact ih.two i hz
          · rw [nthE_snoc (by omega)]
            have h3 : i = l.length - 1 := by omega
            rw [h3]
            simp only
            omega
        · rw [hlen]
          rcases Nat.lt_succ_iff_lt_or_eq.1 hk with h | rfl
          · obtain ⟨i, hi, b1, b2⟩ := ih.all k h hpk
            exact ⟨i, by omega, by rw [nthE_left hi]; exact b1, by rw [nthE_left hi]; exact b2⟩
          · exact ⟨l.length, by omega, by rw [nthE_snoc rfl]; exact Int.le_refl _, by rw [nthE_snoc rfl]; exact Int.le_refl _⟩
def openK (p : Nat → Bool) : Nat → Bool
  | 0 => false
  | k + 1 => p k
theorem open_last : ∀ c, (openK p c = true → ∃ r s, winK p lo c = r ++ [s] ∧ s.hi = lo + (c : Int) - 1) ∧ (openK p c = false → ∀ s, (winK p lo c).getLast? = some s → s.hi ≠ lo + (c : Int) - 1)
  | 0 => ⟨fun h => (by cases h), fun _ s h => (by simp [winK] at h)⟩
  | c + 1 => by
    constructor
    · intro h
      have hp : p c = true := h
      show ∃ r s, addW (winK p lo c) (lo + (c : Int)) (p c) = r ++ [s] ∧ _
      unfold addW
      rw [if_pos hp]
      split
      · split
        · rename_i s _ _
          exact ⟨_, ⟨s.lo, lo + (c : Int)⟩, rfl, by simp only; omega⟩
        · exact ⟨_, ⟨lo + (c : Int), lo + (c : Int)⟩, rfl, by simp only; omega⟩
      · exact ⟨[], ⟨lo + (c : Int), lo + (c : Int)⟩, rfl, by simp only; omega⟩
    · intro h s hs
      have hp : ¬ p c = true := by have : p c = false := h; simp [this]
      have e : winK p lo (c + 1) = winK p lo c := by
        show addW (winK p lo c) (lo + (c : Int)) (p c) = _
        unfold addW
        rw [if_neg hp]
      rw [e] at hs
      have hne : winK p lo c ≠ [] := fun q => by rw [q] at hs; simp at hs
      have h2 := (win_last hne).2
      rw [hs] at h2
      have hl := List.length_pos_iff.2 hne
      have h3 := ((win_ok (p := p) (lo := lo) c).one ((winK p lo c).length - 1) (by omega)).2.2.1
      have h4 : s = nthE (winK p lo c) ((winK p lo c).length - 1) := by simpa using h2
      rw [← h4] at h3
      omega
/-- minutes that are high enough, one behind the other -/
theorem run_true {c : Nat} {R : List Wd} {x : Int} (h0 : (openK p c = true ∧ ∃ s : Wd, winK p lo c = R ++ [s] ∧ x = s.lo) ∨ (openK p c = false ∧ R = winK p lo c ∧ x = lo + (c : Int))) : ∀ d, (∀ i, i < d + 1 → p (c + i) = true) → winK p lo (c + (d + 1)) = R ++ [⟨x, lo + (c : Int) + (d : Int)⟩]
  | 0, hp => by
    have hp0 : p c = true := hp 0 (by omega)
    show addW (winK p lo c) (lo + (c : Int)) (p c) = _
    unfold addW
    rw [if_pos hp0]
    rcases h0 with ⟨h1, s, h2, rfl⟩ | ⟨h1, rfl, rfl⟩
    · obtain ⟨r, s2, h3, h4⟩ := (open_last c).1 h1
      rw [h2] at h3 ⊢
      obtain ⟨rfl, h5⟩ := List.append_inj' h3 rfl
      obtain rfl : s = s2 := by simpa using h5
      simp [h4]
    · have h2 := (open_last (p := p) (lo := lo) c).2 h1
      split
      · rename_i s hs
        rw [if_neg (fun e => h2 s hs (by omega))]
        simp
      · rename_i hs
        have : winK p lo c = [] := by simpa using hs
        rw [this]
        simp
  | d + 1, hp => by
    have ih := run_true h0 d (fun i hi => hp i (by omega))
    have hp0 : p (c + (d + 1)) = true := hp (d + 1) (by omega)
    show addW (winK p lo (c + (d + 1))) (lo + ((c + (d + 1) : Nat) : Int)) (p (c + (d + 1))) = _
    rw [ih, hp0]
    unfold addW
    rw [if_pos rfl]
    simp only [List.getLast?_append, List.getLast?_singleton, Option.some_or, List.dropLast_concat]
    rw [if_pos (by omega)]
    congr 3
    omega
theorem run_false {c : Nat} : ∀ d, (∀ i, i < d → p (c + i) = false) → winK p lo (c + d) = winK p lo c
  | 0, _ => rfl
  | d + 1, hp => by
    have ih := run_false d (fun i hi => hp i (by omega))
    show addW (winK p lo (c + d)) (lo + ((c + d : Nat) : Int)) (p (c + d)) = _
    rw [hp d (by omega), ih]
    rfl
/-- windows for less lie in windows for more -/
theorem win_in {p' : Nat → Bool} {n : Nat} {l l' : List Wd} (k : Win p lo n l) (k' : Win p' lo n l') (hle : ∀ i, i < n → p i = true → p' i = true) {i : Nat} (hi : i < l.length) : ∃ j, j < l'.length ∧ (nthE l' j).lo ≤ (nthE l i).lo ∧ (nthE l i).hi ≤ (nthE l' j).hi := by
  obtain ⟨a1, a2, a3, a4⟩ := k.one i hi
  have hA : ∀ t : Int, (nthE l i).lo ≤ t → t ≤ (nthE l i).hi → ∃ j, j < l'.length ∧ (nthE l' j).lo ≤ t ∧ t ≤ (nthE l' j).hi := fun t h1 h2 => by
    obtain ⟨q1, q2, q3⟩ : t = lo + ((t - lo).toNat : Int) ∧ (t - lo).toNat < n ∧ True := ⟨by omega, by omega, trivial⟩
    have := k'.all (t - lo).toNat q2 (hle _ q2 (a4 _ (by omega) (by omega)))
    rw [← q1] at this
    exact this
  obtain ⟨j, hj, b1, b2⟩ := hA (nthE l i).lo (Int.le_refl _) a2
  refine ⟨j, hj, b1, ?_⟩
  rcases Int.lt_or_le (nthE l' j).hi (nthE l i).hi with h | h
  · exfalso
    obtain ⟨m, hm, c1, c2⟩ := hA ((nthE l' j).hi + 1) (by omega) (by omega)
    have asc : ∀ (d i : Nat), i + 1 + d < l'.length → (nthE l' i).hi + 1 < (nthE l' (i + 1 + d)).lo := fun d => by
      induction d with
      | zero => intro i h; exact k'.two i h
      | succ d ih =>
        intro i h
        have h1 := ih i (by omega)
        have h2 := (k'.one (i + 1 + d) (by omega)).2.1
        have h3 := k'.two (i + 1 + d) (by omega)
        rw [show i + 1 + (d + 1) = i + 1 + d + 1 by omega]
        omega
    rcases Nat.lt_trichotomy j m with h1 | rfl | h1
    · have := asc (m - (j + 1)) j (by omega)
      rw [show j + 1 + (m - (j + 1)) = m by omega] at this
      omega
    · omega
    · have := asc (j - (m + 1)) m (by omega)
      rw [show m + 1 + (j - (m + 1)) = j by omega] at this
      have := (k'.one j hj).2.1
      omega
  · exact h
theorem win_len : ∀ n, (winK p lo n).length ≤ n
  | 0 => by simp [winK]
  | n + 1 => by
    have := win_len n
    show (addW (winK p lo n) (lo + (n : Int)) (p n)).length ≤ n + 1
    unfold addW
    split
    · split
      · split
        · simp
          omega
        · simp
          omega
      · simp
    · omega
end
/-- how many minutes the first j stands have -/
def cntM (lo : Int) (l : List Sd) (j : Nat) : Nat := if j = 0 then 0 else ((nthD l (j - 1)).hi - lo + 1).toNat
theorem cnt_step {f : Nat → Int} {lo : Int} {m : Nat} {l : List Sd} (k : Stl f lo m l) {j : Nat} (hj : j < l.length) : ∃ d : Nat, cntM lo l (j + 1) = cntM lo l j + (d + 1) ∧ (nthD l j).lo = lo + (cntM lo l j : Int) ∧ (nthD l j).hi = lo + (cntM lo l j : Int) + (d : Int) ∧ ∀ i, i < d + 1 → f (cntM lo l j + i) = (nthD l j).ht := by
  obtain ⟨a1, a2, a3, a4⟩ := k.one j hj
  have hlo : (nthD l j).lo = lo + (cntM lo l j : Int) := by
    cases j with
    | zero =>
      rw [k.first]
      simp [cntM]
    | succ j =>
      have h1 := (k.two j hj).1
      have h2 := k.one j (by omega)
      unfold cntM
      rw [if_neg (by omega), Nat.add_sub_cancel]
      omega
  refine ⟨((nthD l j).hi - (nthD l j).lo).toNat, ?_, hlo, by omega, fun i hi => a4 _ (by omega) (by omega)⟩
  have : cntM lo l (j + 1) = ((nthD l j).hi - lo + 1).toNat := by
    unfold cntM
    rw [if_neg (by omega), Nat.add_sub_cancel]
  rw [this]
  omega
theorem cnt_all {f : Nat → Int} {lo : Int} {m : Nat} {l : List Sd} (k : Stl f lo m l) : cntM lo l l.length = m + 1 := by
  have hl : 0 < l.length := List.length_pos_iff.2 k.ne
  unfold cntM
  rw [if_neg (by omega), k.last]
  omega
end Go.Proofs.Ytekpffjcffeanaa
