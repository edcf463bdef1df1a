/- Plain facts of layer 2: cycles, divisors, lists of heights. No walk, no number of a function. -/
import Derived.WalkKit
import Derived.Below
namespace Go.Proofs.YtgjkfmcjalcefaaGreat
open Go.RowKit

def inB (n m : Int) : Bool := decide (-m ≤ n) && decide (n ≤ m)
theorem inB_iff {n m : Int} : inB n m = true ↔ -m ≤ n ∧ n ≤ m := by simp [inB]
theorem mul_bd {a b A B : Int} (h1 : -A ≤ a) (h2 : a ≤ A) (h3 : -B ≤ b) (h4 : b ≤ B) : -(A * B) ≤ a * b ∧ a * b ≤ A * B := by
  have ha : a.natAbs ≤ A.toNat := by omega
  have hb : b.natAbs ≤ B.toNat := by omega
  have h := Nat.mul_le_mul ha hb
  have h1 : (a * b).natAbs = a.natAbs * b.natAbs := Int.natAbs_mul a b
  have h2 : ((A.toNat * B.toNat : Nat) : Int) = A * B := by rw [Int.natCast_mul]; congr 1 <;> omega
  omega
/-- a cycle -/
structure Cy where
  id : Int
  bg : Int
  ev : Int
  hs : List Int
def cyOk (c : Cy) : Bool := (decide (1 ≤ c.id) && decide (c.id ≤ 1099511627776)) && ((decide (0 ≤ c.bg) && decide (c.bg ≤ 1048576)) && ((decide (1 ≤ c.ev) && decide (c.ev ≤ 120)) && ((decide (1 ≤ c.hs.length) && decide (c.hs.length ≤ 60)) && c.hs.all fun x => inB x 4000)))
structure CyOk (c : Cy) : Prop where
  id1 : 1 ≤ c.id
  id2 : c.id ≤ 1099511627776
  bg1 : 0 ≤ c.bg
  bg2 : c.bg ≤ 1048576
  ev1 : 1 ≤ c.ev
  ev2 : c.ev ≤ 120
  n1 : 1 ≤ c.hs.length
  n2 : c.hs.length ≤ 60
  hs : ∀ x ∈ c.hs, -4000 ≤ x ∧ x ≤ 4000
theorem cyOk_iff {c : Cy} : cyOk c = true ↔ CyOk c := by
  unfold cyOk
  simp only [Bool.and_eq_true, decide_eq_true_eq, List.all_eq_true, inB_iff]
  exact ⟨fun ⟨⟨a, b⟩, ⟨d, e⟩, ⟨f, g⟩, ⟨i, j⟩, k⟩ => ⟨a, b, d, e, f, g, i, j, k⟩, fun ⟨a, b, d, e, f, g, i, j, k⟩ => ⟨⟨a, b⟩, ⟨d, e⟩, ⟨f, g⟩, ⟨i, j⟩, k⟩⟩
/-- number i of a list, 0 beyond -/
def nth (xs : List Int) (i : Nat) : Int := xs[i]?.getD 0
theorem nth_eq {xs : List Int} {i : Nat} (h : i < xs.length) : nth xs i = xs[i] := by simp [nth, h]
theorem CyOk.at_ {c : Cy} (k : CyOk c) (i : Nat) : -4000 ≤ nth c.hs i ∧ nth c.hs i ≤ 4000 := by
  by_cases h : i < c.hs.length
  · rw [nth_eq h]; exact k.hs _ (List.getElem_mem h)
  · simp [nth, h]
/-- which height a right cycle has at a minute -/
def idxC (c : Cy) (t : Int) : Nat := (((t - c.bg) / c.ev) % (c.hs.length : Int)).toNat
def valC (c : Cy) (t : Int) : Int := nth c.hs (idxC c t)
theorem idxC_lt {c : Cy} (k : CyOk c) (t : Int) : idxC c t < c.hs.length := by
  have h1 := k.n1
  have h2 := Int.emod_lt_of_pos ((t - c.bg) / c.ev) (show (0 : Int) < c.hs.length by omega)
  have h3 := Int.emod_nonneg ((t - c.bg) / c.ev) (show (c.hs.length : Int) ≠ 0 by omega)
  unfold idxC
  omega
theorem valC_bd {c : Cy} (k : CyOk c) (t : Int) : -4000 ≤ valC c t ∧ valC c t ≤ 4000 := k.at_ _
/-- a place in a period: two ways to reckon it -/
theorem phase_eq {x e n : Int} (he : 0 < e) (hn : 0 < n) : (x % (e * n)) / e = (x / e) % n := by
  have h1 := Int.mul_ediv_add_emod x e
  have h2 := Int.mul_ediv_add_emod (x / e) n
  have r1 := Int.emod_nonneg x (show e ≠ 0 by omega)
  have r2 := Int.emod_lt_of_pos x he
  have i1 := Int.emod_nonneg (x / e) (show n ≠ 0 by omega)
  have i2 := Int.emod_lt_of_pos (x / e) hn
  generalize x / e = q at *
  generalize x % e = r at *
  generalize q / n = k at *
  generalize q % n = i at *
  have hen : 0 < e * n := Int.mul_pos he hn
  have e1 : x = (e * n) * k + (e * i + r) := by rw [← h1, ← h2]; clear h1 h2 r1 r2 i1 i2 hen; grind
  have b1 : 0 ≤ e * i := Int.mul_nonneg (by omega) i1
  have b2 : e * i + r < e * n := by
    have h3 : e * (i + 1) ≤ e * n := Int.mul_le_mul_of_nonneg_left (by omega) (by omega)
    rw [Int.mul_add, Int.mul_one] at h3
    omega
  have e2 : x % (e * n) = e * i + r := by
    rw [e1, Int.add_comm, Int.add_mul_emod_self_left]
    exact Int.emod_eq_of_lt (by omega) b2
  rw [e2, Int.mul_comm e i, Int.add_comm, Int.add_mul_ediv_right _ _ (by omega), Int.ediv_eq_zero_of_lt r1 r2]
  omega
/-- truncating division of what may be negative -/
theorem floor_t {a b : Int} (hb : 0 < b) : (if a.tmod b < 0 then a.tdiv b - 1 else a.tdiv b) = a / b := by
  rcases Int.lt_or_le a 0 with h | h
  · have h1 : a.tdiv b = -((-a) / b) := by
      have : a = -(-a) := by omega
      rw [this, Int.neg_tdiv, Int.tdiv_eq_ediv_of_nonneg (by omega)]
      simp
    have h2 : a.tmod b = -((-a) % b) := by
      have : a = -(-a) := by omega
      rw [this, Int.neg_tmod, Int.tmod_eq_emod_of_nonneg (by omega)]
      simp
    rw [h1, h2]
    have m1 := Int.mul_ediv_add_emod (-a) b
    have r1 := Int.emod_nonneg (-a) (show b ≠ 0 by omega)
    have r2 := Int.emod_lt_of_pos (-a) hb
    have m2 := Int.mul_ediv_add_emod a b
    have s1 := Int.emod_nonneg a (show b ≠ 0 by omega)
    have s2 := Int.emod_lt_of_pos a hb
    generalize (-a) / b = q at *
    generalize (-a) % b = r at *
    generalize a / b = p at *
    generalize a % b = s at *
    have e : b * (p + q) = -(r + s) := by rw [Int.mul_add]; omega
    split
    · have : -(2 * b) < b * (p + q) := by omega
      have h3 : b * (p + q) < 0 := by omega
      have h4 : p + q < 0 := by
        rcases Int.lt_or_le (p + q) 0 with g | g
        · exact g
        · have := Int.mul_nonneg (show 0 ≤ b by omega) g; omega
      have h5 : -2 < p + q := by
        rcases Int.lt_or_le (-2) (p + q) with g | g
        · exact g
        · have := Int.mul_le_mul_of_nonneg_left g (show 0 ≤ b by omega); omega
      omega
    · have hr0 : r = 0 := by omega
      subst hr0
      have h4 : ¬ p + q < 0 := fun g => by
        have := Int.mul_le_mul_of_nonneg_left (show p + q ≤ -1 by omega) (show 0 ≤ b by omega)
        omega
      have h5 : ¬ 0 < p + q := fun g => by
        have := Int.mul_le_mul_of_nonneg_left (show 1 ≤ p + q by omega) (show 0 ≤ b by omega)
        omega
      omega
  · rw [Int.tdiv_eq_ediv_of_nonneg h, Int.tmod_eq_emod_of_nonneg h, if_neg (by have := Int.emod_nonneg a (show b ≠ 0 by omega); omega)]
/-- a remainder brought up -/
theorem mod_t {a b : Int} (hb : 0 < b) : (if a.tmod b < 0 then a.tmod b + b else a.tmod b) = a % b := by
  have h := floor_t (a := a) hb
  have h1 := Int.mul_tdiv_add_tmod a b
  have h2 := Int.mul_ediv_add_emod a b
  split at h
  · rename_i hc
    rw [if_pos hc]
    rw [← h, Int.mul_sub] at h2
    omega
  · rename_i hc
    rw [if_neg hc]
    rw [← h] at h2
    omega
/-! periods of a list -/
def repB (xs : List Int) (k : Nat) : Bool := decide (xs.length % k = 0) && decide (xs.drop k = xs.take (xs.length - k))
def perK (xs : List Int) : Nat := ((List.range (xs.length + 1)).find? fun k => decide (1 ≤ k) && repB xs k).getD 0
/-- the same as k further on, for the first i numbers -/
def sameTo (xs : List Int) (k i : Nat) : Bool := decide (xs.length % k = 0) && (List.range i).all fun j => nth xs j == nth xs (j + k)
def noC : Cy := ⟨0, 0, 0, []⟩
def shortR (c : Cy) : Cy × Int := if cyOk c = true then (⟨c.id, c.bg, c.ev, c.hs.take (perK c.hs)⟩, 0) else (noC, 1)
/-! sums of cycles -/
def togG (a b : Cy) : Int := Int.gcd (Int.gcd a.ev b.ev) (a.bg - b.bg)
def sumA (a b : Cy) (i : Nat) : Int := valC a (a.bg + i * togG a b) + valC b (a.bg + i * togG a b)
def sumT (a b : Cy) (n : Nat) : List Int := (List.range n).map (sumA a b)
theorem foldl_min (x : Int) : ∀ xs : List Int, xs.foldl min x ≤ x ∧ (∀ y ∈ xs, xs.foldl min x ≤ y) ∧ (xs.foldl min x = x ∨ xs.foldl min x ∈ xs)
  | [] => ⟨Int.le_refl _, by simp, .inl rfl⟩
  | y :: ys => by
    obtain ⟨h1, h2, h3⟩ := foldl_min (min x y) ys
    simp only [List.foldl_cons]
    refine ⟨by omega, fun z hz => ?_, ?_⟩
    · rcases List.mem_cons.1 hz with rfl | hz
      · omega
      · exact h2 z hz
    · rcases h3 with h3 | h3
      · rw [h3]
        rcases Int.le_total x y with h | h
        · rw [Int.min_eq_left h]; exact .inl rfl
        · rw [Int.min_eq_right h]; exact .inr (List.mem_cons_self ..)
      · exact .inr (List.mem_cons_of_mem _ h3)
theorem foldl_take (f : Int → Int → Int) (x : Int) {xs : List Int} {k : Nat} (h : k < xs.length) : (xs.take (k + 1)).foldl f x = f ((xs.take k).foldl f x) (nth xs k) := by
  rw [List.take_succ_eq_append_getElem h, List.foldl_append, nth_eq h]
  rfl
def minH (hs : List Int) : Int := hs.foldl min (nth hs 0)
def lessH (hs : List Int) (m : Int) (k : Nat) : List Int := (hs.take k).map (· - m) ++ hs.drop k
def apartB (hs : List Int) : Bool := hs.any fun x => decide (4000 < x - minH hs)
def apartR (c : Cy) : Int × Cy × Int := if cyOk c = true then (if apartB c.hs = true then (0, noC, 3) else (minH c.hs, ⟨c.id, c.bg, c.ev, c.hs.map (· - minH c.hs)⟩, 0)) else (0, noC, 1)
theorem CyOk.min {c : Cy} (k : CyOk c) : -4000 ≤ minH c.hs ∧ minH c.hs ≤ 4000 := by
  obtain ⟨h1, h2, h3⟩ := foldl_min (nth c.hs 0) c.hs
  have h0 := k.at_ 0
  unfold minH
  rcases h3 with h3 | h3
  · rw [h3]; exact h0
  · exact k.hs _ h3
end Go.Proofs.YtgjkfmcjalcefaaGreat
