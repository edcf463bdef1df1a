/- Plain facts of two curves: the stretches on which both lie on a line, gaps, crossings, clashes. -/
import Derived.Test.YtbhklifflhoinaaGreatMi
namespace Go.Proofs.YtbhklifflhoinaaGreat
open Go.Proofs.YtbhklifflhoinaaGreat.Ev

theorem cmpI_sign (x y : Int) : cmpI x y = (x - y).sign := by
  unfold cmpI
  by_cases h : x < y
  · rw [if_pos h, Int.sign_eq_neg_one_of_neg (by omega)]
  · rw [if_neg h]
    by_cases h2 : y < x
    · rw [if_pos h2, Int.sign_eq_one_of_pos (by omega)]
    · rw [if_neg h2, show x - y = 0 by omega]; rfl
/-- the sign of the difference of two curves at x -/
def sgX (ka kb : List (Int × Int)) (x : Int) : Int := ordF (valN ka x) (valD ka x) (valN kb x) (valD kb x)
theorem cmpI_vals (x y : Int) : cmpI x y = -1 ∨ cmpI x y = 0 ∨ cmpI x y = 1 := by
  unfold cmpI
  split
  · exact .inl rfl
  · split
    · exact .inr (.inr rfl)
    · exact .inr (.inl rfl)
theorem sgX_vals (ka kb : List (Int × Int)) (x : Int) : sgX ka kb x = -1 ∨ sgX ka kb x = 0 ∨ sgX ka kb x = 1 := cmpI_vals _ _

/-- a line that has a curve's value at x -/
structure OnLn (ks : List (Int × Int)) (l : Ln) (x : Int) : Prop where
  ru : 0 < l.ru
  eq : valN ks x * l.ru = l.num x * valD ks x
theorem seg {ks err} (v : Vd ks err) (hl : 1 < ks.length) {lo hi : Int} (hd : inDom ks lo hi = true) (hlh : lo ≤ hi) (hn : ∀ k ∈ ks, lo < k.1 → k.1 < hi → False) : ∃ i, i + 1 < ks.length ∧ kx ks i ≤ lo ∧ hi ≤ kx ks (i + 1) := by
  simp only [inDom, Bool.and_eq_true, decide_eq_true_eq] at hd
  obtain ⟨d1, d2⟩ := hd
  obtain ⟨i, hi1, h1, h2⟩ := piece_at v (x := lo) (by simp only [inDom, Bool.and_eq_true, decide_eq_true_eq]; exact ⟨d1, by omega⟩) hl
  rw [dHi_kx] at d2
  have hno : ∀ j, j < ks.length → ¬ (lo < kx ks j ∧ kx ks j < hi) := fun j hj ⟨a, b⟩ => by
    rw [kx_eq hj] at a b
    exact hn _ (List.getElem_mem hj) a b
  by_cases hc : hi ≤ kx ks (i + 1)
  · exact ⟨i, hi1, h1, hc⟩
  · have he : kx ks (i + 1) = lo := by
      have := hno (i + 1) hi1
      omega
    have hi2 : i + 1 + 1 < ks.length := by
      by_cases e : i + 1 = ks.length - 1
      · rw [← e] at d2; omega
      · omega
    have h3 := v.klt (show i + 1 < i + 1 + 1 by omega) hi2
    have := hno (i + 1 + 1) hi2
    exact ⟨i + 1, hi2, by omega, by omega⟩
theorem ln_on {ks err} (v : Vd ks err) {lo hi x : Int} (hd : inDom ks lo hi = true) (hlh : lo ≤ hi) (hn : ∀ k ∈ ks, lo < k.1 → k.1 < hi → False) (h1 : lo ≤ x) (h2 : x ≤ hi) : OnLn ks (lnOf ks lo hi) x := by
  have hp := v.pos
  unfold lnOf
  by_cases hl : ks.length = 1
  · have hf : firstPc ks (inPc ks lo hi) = none := firstPc_none_of fun j hj => by omega
    rw [hf]
    obtain ⟨e1, e2⟩ := val_one hl x
    exact ⟨by simp [lnAt], by rw [e1, e2]; simp [lnAt, Ln.num]⟩
  · obtain ⟨i, hi1, g1, g2⟩ := seg v (by omega) hd hlh hn
    cases hf : firstPc ks (inPc ks lo hi) with
    | none =>
      have := firstPc_no hf hi1
      simp [inPc, g1, g2] at this
    | some j =>
      have hj := firstPc_lt hf
      have hpj := firstPc_p hf
      simp only [inPc, Bool.and_eq_true, decide_eq_true_eq] at hpj
      have := v.klt (show j < j + 1 by omega) hj
      exact ⟨by simp only [lnAt]; omega, val_on v hj (by omega) (by omega)⟩
def gapL (la lb : Ln) (x : Int) : Int := la.num x * lb.ru - lb.num x * la.ru
theorem gap_eq {ka kb : List (Int × Int)} {la lb : Ln} {x : Int} (ha : OnLn ka la x) (hb : OnLn kb lb x) : gapL la lb x * difD ka kb x = difN ka kb x * (la.ru * lb.ru) := by
  have h1 := ha.eq
  have h2 := hb.eq
  unfold gapL difD difN
  grind
theorem gap_sign {ka kb : List (Int × Int)} {la lb : Ln} {x : Int} (ha : OnLn ka la x) (hb : OnLn kb lb x) (hd : 0 < difD ka kb x) : cmpI (gapL la lb x) 0 = sgX ka kb x := by
  unfold sgX ordF
  rw [cmpI_sign, cmpI_sign, Int.sub_zero]
  exact sign_of_mul hd (Int.mul_pos ha.ru hb.ru) (gap_eq ha hb)
theorem scale_le {g r n d E : Int} (hr : 0 < r) (hd : 0 < d) (h : g * d = n * r) : g ≤ E * r ↔ n ≤ E * d := by
  have e1 : E * r * d = E * d * r := by grind
  constructor
  · intro k
    have := Int.mul_le_mul_of_nonneg_right k (show 0 ≤ d by omega)
    rw [h, e1] at this
    exact Int.le_of_mul_le_mul_right this hr
  · intro k
    have := Int.mul_le_mul_of_nonneg_right k (show 0 ≤ r by omega)
    rw [← h, ← e1] at this
    exact Int.le_of_mul_le_mul_right this hd
/-- true values of both curves can be equal at x -/
def meetX (ka : List (Int × Int)) (ea : Int) (kb : List (Int × Int)) (eb x : Int) : Bool := decide (difN ka kb x ≤ (ea + eb) * difD ka kb x) && decide (-difN ka kb x ≤ (ea + eb) * difD ka kb x)
theorem gap_meet {ka kb : List (Int × Int)} {ea eb : Int} {la lb : Ln} {x : Int} (ha : OnLn ka la x) (hb : OnLn kb lb x) (hd : 0 < difD ka kb x) : inB (gapL la lb x) ((ea + eb) * (la.ru * lb.ru)) = meetX ka ea kb eb x := by
  have h := gap_eq ha hb
  have hr := Int.mul_pos ha.ru hb.ru
  have k1 := scale_le (E := ea + eb) hr hd h
  have k2 := scale_le (E := ea + eb) (g := -gapL la lb x) (n := -difN ka kb x) hr hd (by rw [Int.neg_mul, Int.neg_mul, h])
  rw [Bool.eq_iff_iff, inB_iff]
  simp only [meetX, Bool.and_eq_true, decide_eq_true_eq]
  omega
theorem dif_meet {ka kb : List (Int × Int)} {ea eb : Int} {x : Int} (hd : 0 < difD ka kb x) : meetX ka ea kb eb x = (decide ((difF ka kb x).1 ≤ (ea + eb) * (difF ka kb x).2) && decide (-(difF ka kb x).1 ≤ (ea + eb) * (difF ka kb x).2)) := by
  have hl := (loD_pos (n := difN ka kb x) hd).1
  have hc := lo_cross (n := difN ka kb x) (d := difD ka kb x)
  have k1 := scale_le (E := ea + eb) (g := (difF ka kb x).1) (r := (difF ka kb x).2) (n := difN ka kb x) (d := difD ka kb x) hl hd hc
  have k2 := scale_le (E := ea + eb) (g := -(difF ka kb x).1) (r := (difF ka kb x).2) (n := -difN ka kb x) (d := difD ka kb x) hl hd (by rw [Int.neg_mul, Int.neg_mul]; exact congrArg _ hc)
  rw [Bool.eq_iff_iff]
  simp only [meetX, Bool.and_eq_true, decide_eq_true_eq]
  omega

/-! the stretches of two curves -/
def shLo (ka kb : List (Int × Int)) : Int := max (dLo ka) (dLo kb)
def shHi (ka kb : List (Int × Int)) : Int := min (dHi ka) (dHi kb)
def cor2 (ka kb : List (Int × Int)) : List Int := cornX (shLo ka kb) (shHi ka kb) [⟨none, 0, ka, 0⟩, ⟨none, 0, kb, 0⟩]
/-- how many stretches there are -/
def stN2 (ka kb : List (Int × Int)) : Nat := if shHi ka kb < shLo ka kb then 0 else (cor2 ka kb).length
def stTo (ka kb : List (Int × Int)) (k : Nat) : Int := (cor2 ka kb)[k]?.getD 0
def stFrom (ka kb : List (Int × Int)) (k : Nat) : Int := if k = 0 then shLo ka kb else stTo ka kb (k - 1) + 1
theorem stFrom_succ (ka kb : List (Int × Int)) (k : Nat) : stFrom ka kb (k + 1) = stTo ka kb k + 1 := by simp [stFrom]
structure StIs (ka kb : List (Int × Int)) (k : Nat) : Prop where
  lo : shLo ka kb ≤ stFrom ka kb k
  le : stFrom ka kb k ≤ stTo ka kb k
  hi : stTo ka kb k ≤ shHi ka kb
  da : inDom ka (stFrom ka kb k) (stTo ka kb k) = true
  db : inDom kb (stFrom ka kb k) (stTo ka kb k) = true
  na : ∀ p ∈ ka, stFrom ka kb k < p.1 → p.1 < stTo ka kb k → False
  nb : ∀ p ∈ kb, stFrom ka kb k < p.1 → p.1 < stTo ka kb k → False
theorem sorted_lt {xs : List Int} (hs : xs.Pairwise (· < ·)) {i j : Nat} (hij : i < j) (hj : j < xs.length) : xs[i]?.getD 0 < xs[j]?.getD 0 := by
  rw [List.getElem?_eq_getElem hj, List.getElem?_eq_getElem (by omega)]
  exact List.pairwise_iff_getElem.1 hs i j _ hj hij
theorem st_is {ka kb : List (Int × Int)} {k : Nat} (h : k < stN2 ka kb) : StIs ka kb k := by
  unfold stN2 at h
  split at h
  · omega
  rename_i hlh
  have hlh : shLo ka kb ≤ shHi ka kb := by omega
  have hs : (cor2 ka kb).Pairwise (· < ·) := cornX_sorted _ _ _
  have hm : ∀ j, j < (cor2 ka kb).length → shLo ka kb ≤ stTo ka kb j ∧ stTo ka kb j ≤ shHi ka kb := fun j hj => by
    unfold stTo
    rw [List.getElem?_eq_getElem hj]
    exact cornX_mem hlh (List.getElem_mem hj)
  have hk := hm k h
  have hle : stFrom ka kb k ≤ stTo ka kb k ∧ shLo ka kb ≤ stFrom ka kb k := by
    unfold stFrom
    split
    · exact ⟨hk.1, Int.le_refl _⟩
    · have := sorted_lt hs (i := k - 1) (j := k) (by omega) h
      have := (hm (k - 1) (by omega)).1
      unfold stTo at *
      omega
  have hnone : ∀ x, x ∈ cor2 ka kb → stFrom ka kb k < x → x < stTo ka kb k → False := fun x hx h1 h2 => by
    obtain ⟨j, hj, e⟩ := List.getElem_of_mem hx
    have ej : stTo ka kb j = x := by unfold stTo; rw [List.getElem?_eq_getElem hj]; exact e
    have hjk : j < k := by
      rcases Nat.lt_or_ge j k with g | g
      · exact g
      · rcases Nat.lt_or_ge k j with g2 | g2
        · have := sorted_lt hs g2 hj
          unfold stTo at *
          omega
        · have : j = k := by omega
          subst this
          omega
    have h0 : k ≠ 0 := by omega
    have hb : stTo ka kb j ≤ stTo ka kb (k - 1) := by
      rcases Nat.lt_or_ge j (k - 1) with g | g
      · have := sorted_lt hs g (show k - 1 < (cor2 ka kb).length by omega)
        unfold stTo
        omega
      · have : j = k - 1 := by omega
        rw [this]
        exact Int.le_refl _
    unfold stFrom at h1
    rw [if_neg h0] at h1
    omega
  have hab := hle.2
  refine ⟨hle.2, hle.1, hk.2, ?_, ?_, fun p hp h1 h2 => hnone p.1 (cornX_iff.2 (.inr (.inr ⟨_, List.mem_cons_self, p, hp, by omega, by omega, rfl⟩))) h1 h2, fun p hp h1 h2 => hnone p.1 (cornX_iff.2 (.inr (.inr ⟨_, List.mem_cons_of_mem _ (List.mem_singleton.2 rfl), p, hp, by omega, by omega, rfl⟩))) h1 h2⟩
  · unfold shLo at hab
    unfold shHi at hk
    simp only [inDom, Bool.and_eq_true, decide_eq_true_eq]
    omega
  · unfold shLo at hab
    unfold shHi at hk
    simp only [inDom, Bool.and_eq_true, decide_eq_true_eq]
    omega
/-- behind the last stretch -/
theorem st_end {ka kb : List (Int × Int)} : stFrom ka kb (stN2 ka kb) = if shHi ka kb < shLo ka kb then shLo ka kb else shHi ka kb + 1 := by
  unfold stN2
  split
  · simp [stFrom]
  rename_i hlh
  have hlh : shLo ka kb ≤ shHi ka kb := by omega
  have hp : 0 < (cor2 ka kb).length := cornX_pos _ _ _
  have hs : (cor2 ka kb).Pairwise (· < ·) := cornX_sorted _ _ _
  have hin : shHi ka kb ∈ cor2 ka kb := cornX_iff.2 (.inr (.inl rfl))
  obtain ⟨j, hj, e⟩ := List.getElem_of_mem hin
  have hl : stTo ka kb ((cor2 ka kb).length - 1) ≤ shHi ka kb := by
    unfold stTo
    rw [List.getElem?_eq_getElem (by omega)]
    exact (cornX_mem hlh (List.getElem_mem _)).2
  have ej : stTo ka kb j = shHi ka kb := by unfold stTo; rw [List.getElem?_eq_getElem hj]; exact e
  have : stTo ka kb ((cor2 ka kb).length - 1) = shHi ka kb := by
    rcases Nat.lt_or_ge j ((cor2 ka kb).length - 1) with g | g
    · have := sorted_lt hs g (show (cor2 ka kb).length - 1 < (cor2 ka kb).length by omega)
      unfold stTo at *
      omega
    · rw [show (cor2 ka kb).length - 1 = j by omega, ej]
  unfold stFrom
  rw [if_neg (by omega), this]

/-! crossings -/
def setHi (l : List (Int × Int)) (x : Int) : List (Int × Int) := l.set (l.length - 1) ((l[l.length - 1]?.getD (0, 0)).1, x)
/-- the spans that are told of the first n integers from lo on -/
def crTo (sg : Int → Int) (lo : Int) : Nat → List (Int × Int)
  | 0 => []
  | n + 1 => if sg (lo + n) = 0 then (if n ≠ 0 ∧ sg (lo + n - 1) = 0 then setHi (crTo sg lo n) (lo + n) else crTo sg lo n ++ [(lo + n, lo + n)])
    else if n ≠ 0 ∧ sg (lo + n) = - sg (lo + n - 1) then crTo sg lo n ++ [(lo + n - 1, lo + n)] else crTo sg lo n
theorem crTo_pos {sg : Int → Int} {lo : Int} : ∀ {n : Nat}, n ≠ 0 → sg (lo + n - 1) = 0 → 0 < (crTo sg lo n).length
  | 0, h, _ => absurd rfl h
  | n + 1, _, h => by
    have h' : sg (lo + n) = 0 := by rw [← h]; congr 1; omega
    simp only [crTo, if_pos h']
    by_cases hc : n ≠ 0 ∧ sg (lo + n - 1) = 0
    · rw [if_pos hc]
      have := crTo_pos hc.1 hc.2
      simpa [setHi] using this
    · rw [if_neg hc]
      simp
theorem crTo_len {sg : Int → Int} {lo : Int} : ∀ n, (crTo sg lo n).length ≤ n
  | 0 => by simp [crTo]
  | n + 1 => by
    have := crTo_len (sg := sg) (lo := lo) n
    simp only [crTo]
    split
    · split
      · simp [setHi]; omega
      · simp; omega
    · split
      · simp; omega
      · omega
/-- the sign before the n-th integer -/
def bef (sg : Int → Int) (lo : Int) (n : Nat) : Int := if n = 0 then 0 else sg (lo + n - 1)
end Go.Proofs.YtbhklifflhoinaaGreat
