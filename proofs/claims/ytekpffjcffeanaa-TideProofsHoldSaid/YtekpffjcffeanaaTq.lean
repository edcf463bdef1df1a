/- What Shortest, Apart and Together keep: plain facts. -/
import Derived.Test.YtekpffjcffeanaaTi
namespace Go.Proofs.Ytekpffjcffeanaa
open Go.Proofs.Ytekpffjcffeanaa.Ev

theorem rep_iff {xs : List Int} {k : Nat} : repB xs k = true ↔ xs.length % k = 0 ∧ ∀ i, i + k < xs.length → nth xs i = nth xs (i + k) := by
  unfold repB
  rw [Bool.and_eq_true, decide_eq_true_iff, decide_eq_true_iff, rep_drop]
theorem rep_mod {xs : List Int} {k : Nat} (h1 : 1 ≤ k) (h : repB xs k = true) : ∀ i, i < xs.length → nth xs i = nth xs (i % k) := by
  obtain ⟨_, h2⟩ := rep_iff.1 h
  intro i
  induction i using Nat.strongRecOn with
  | _ i ih =>
    intro hi
    by_cases hk : i < k
    · rw [Nat.mod_eq_of_lt hk]
    · have e1 := h2 (i - k) (by omega)
      rw [show i - k + k = i by omega] at e1
      rw [← e1, ih (i - k) (by omega) (by omega)]
      congr 1
      exact (Nat.mod_eq_sub_mod (by omega)).symm
theorem nth_take {xs : List Int} {k i : Nat} (h : i < k) : nth (xs.take k) i = nth xs i := by
  unfold nth
  rw [List.getElem?_take_of_lt h]
/-- the values of a shorter cycle -/
theorem short_val {id bg ev : Int} {hs : List Int} {k : Nat} (h1 : 1 ≤ k) (h2 : k ≤ hs.length) (h : repB hs k = true) (t : Int) : valC ⟨id, bg, ev, hs.take k⟩ t = valC ⟨id, bg, ev, hs⟩ t := by
  have hl : (hs.take k).length = k := by rw [List.length_take]; omega
  have hd : ((k : Nat) : Int) ∣ ((hs.length : Nat) : Int) := by
    have := (rep_iff.1 h).1
    exact Int.ofNat_dvd.2 (Nat.dvd_of_mod_eq_zero this)
  unfold valC idxC
  simp only [hl]
  generalize (t - bg) / ev = q
  have r1 := Int.emod_nonneg q (show (hs.length : Int) ≠ 0 by omega)
  have r2 := Int.emod_lt_of_pos q (show (0 : Int) < hs.length by omega)
  have s1 := Int.emod_nonneg q (show (k : Int) ≠ 0 by omega)
  have s2 := Int.emod_lt_of_pos q (show (0 : Int) < k by omega)
  have e : (q % (hs.length : Int)) % (k : Int) = q % k := Int.emod_emod_of_dvd q hd
  have e2 : (((q % (hs.length : Int)).toNat % k : Nat) : Int) = (q % (hs.length : Int)) % (k : Int) := by rw [Int.natCast_emod, Int.toNat_of_nonneg r1]
  rw [nth_take (by omega), rep_mod h1 h (q % (hs.length : Int)).toNat (by omega)]
  congr 1
  omega
theorem short_ok {id bg ev : Int} {hs : List Int} {k : Nat} (h1 : 1 ≤ k) (h2 : k ≤ hs.length) (c : CyOk ⟨id, bg, ev, hs⟩) : CyOk ⟨id, bg, ev, hs.take k⟩ where
  id1 := c.id1
  id2 := c.id2
  bg1 := c.bg1
  bg2 := c.bg2
  ev1 := c.ev1
  ev2 := c.ev2
  n1 := by simp only [List.length_take]; omega
  n2 := by have := c.n2; simp only [List.length_take] at this ⊢; omega
  hs := fun x hx => c.hs x (List.mem_of_mem_take hx)
/-- the shortest one has no shorter period -/
theorem per_short {hs : List Int} (h : 1 ≤ hs.length) : perK (hs.take (perK hs)) = perK hs := by
  obtain ⟨p1, p2, p3, p4⟩ := perK_spec h
  have hl : (hs.take (perK hs)).length = perK hs := by rw [List.length_take]; omega
  generalize perK hs = p at *
  have hself : repB (hs.take p) p = true := by
    have := repB_all (xs := hs.take p) (by omega)
    rwa [hl] at this
  refine perK_eq p1 (by omega) hself fun j j1 j2 => ?_
  cases hj : repB (hs.take p) j with
  | false => rfl
  | true =>
    exfalso
    obtain ⟨q1, q2⟩ := rep_iff.1 hj
    rw [hl] at q1 q2
    obtain ⟨r1, r2⟩ := rep_iff.1 p3
    have hm := rep_mod j1 hj
    have key : ∀ i, i < hs.length → nth hs i = nth (hs.take p) (i % j) := fun i hi => by
      have hip := Nat.mod_lt i (show p > 0 by omega)
      rw [rep_mod p1 p3 i hi, ← nth_take (xs := hs) hip, hm (i % p) (by omega), Nat.mod_mod_of_dvd i (Nat.dvd_of_mod_eq_zero q1)]
    have : repB hs j = true := rep_iff.2 ⟨by
      have := Nat.dvd_trans (Nat.dvd_of_mod_eq_zero q1) (Nat.dvd_of_mod_eq_zero r1)
      exact Nat.mod_eq_zero_of_dvd this, fun i hi => by
      rw [key i (by omega), key (i + j) hi, Nat.add_mod_right]⟩
    rw [p4 j j1 j2] at this
    cases this
/-- two periods of a function have their divisor for a period -/
theorem gcd_per {f : Nat → Int} : ∀ (a b : Nat), (∀ n, f (n + a) = f n) → (∀ n, f (n + b) = f n) → ∀ n, f (n + Nat.gcd a b) = f n := by
  intro a b
  induction a, b using Nat.gcd.induction with
  | H0 b => intro _ hb; rw [Nat.gcd_zero_left]; exact hb
  | H1 a b ha ih =>
    intro h1 h2
    rw [Nat.gcd_rec]
    refine ih (fun n => ?_) h1
    have hq : ∀ q n, f (n + a * q) = f n := by
      intro q
      induction q with
      | zero => intro n; rw [Nat.mul_zero, Nat.add_zero]
      | succ q ihq => intro n; rw [Nat.mul_succ, ← Nat.add_assoc, h1, ihq]
    have := hq (b / a) (n + b % a)
    rw [← this, Nat.add_assoc, Nat.mod_add_div, h2]
/-- no shorter beginning has the same values -/
theorem no_shorter {xs : List Int} {m : Nat} (hp : perK xs = xs.length) (h1 : 1 ≤ m) (h2 : m ≤ xs.length) (h : ∀ n, n < m * xs.length → nth xs (n % m) = nth xs (n % xs.length)) : m = xs.length := by
  generalize hl : xs.length = p at *
  by_cases hpm : p = 1
  · omega
  have hp2 : 2 ≤ p := by omega
  let f : Nat → Int := fun n => nth xs (n % p)
  have fp : ∀ n, f (n + p) = f n := fun n => by show nth xs ((n + p) % p) = nth xs (n % p); rw [Nat.add_mod_right]
  have fm : ∀ n, f (n + m) = f n := fun n => by
    show nth xs ((n + m) % p) = nth xs (n % p)
    have hN := Nat.mod_lt n (show p > 0 by omega)
    rw [← Nat.mod_add_mod]
    generalize n % p = N at *
    by_cases hb : N + m < m * p
    · rw [← h (N + m) hb, Nat.add_mod_right]
      have hN2 : N < m * p := by omega
      rw [h N hN2, Nat.mod_eq_of_lt hN]
    · have hm1 : m = 1 := by
        by_cases e : m = 1
        · exact e
        · exfalso
          have : 2 * (p - 1) ≤ m * (p - 1) := Nat.mul_le_mul_right _ (by omega)
          rw [Nat.mul_sub_one m p] at this
          have := Nat.le_mul_of_pos_right m (show 0 < p by omega)
          omega
      subst hm1
      have e : N = p - 1 := by omega
      subst e
      rw [show p - 1 + 1 = p by omega, Nat.mod_self]
      have := h (p - 1) (by omega)
      rw [Nat.mod_one, Nat.mod_eq_of_lt (show p - 1 < p by omega)] at this
      exact this
  have fg := gcd_per m p fm fp
  have hg : Nat.gcd m p ∣ p := Nat.gcd_dvd_right m p
  have hgpos : 0 < Nat.gcd m p := Nat.gcd_pos_of_pos_left p (by omega)
  have hgle : Nat.gcd m p ≤ m := Nat.gcd_le_left p (by omega)
  have hrep : repB xs (Nat.gcd m p) = true := rep_iff.2 ⟨by rw [hl]; exact Nat.mod_eq_zero_of_dvd hg, fun i hi => by
    have := fg i
    rw [hl] at hi
    show nth xs i = nth xs (i + Nat.gcd m p)
    have e1 : f i = nth xs i := by show nth xs (i % p) = _; rw [Nat.mod_eq_of_lt (by omega)]
    have e2 : f (i + Nat.gcd m p) = nth xs (i + Nat.gcd m p) := by show nth xs ((i + Nat.gcd m p) % p) = _; rw [Nat.mod_eq_of_lt hi]
    rw [← e1, ← e2, this]⟩
  obtain ⟨_, _, _, s4⟩ := perK_spec (xs := xs) (by omega)
  rw [hp] at s4
  by_cases e : Nat.gcd m p = p
  · have := Nat.dvd_of_mod_eq_zero (Nat.mod_eq_zero_of_dvd (Nat.gcd_dvd_left m p))
    rw [e] at this
    have := Nat.le_of_dvd (by omega) this
    omega
  · have := s4 (Nat.gcd m p) (by omega) (by
      have := Nat.le_of_dvd (by omega) hg
      omega)
    rw [hrep] at this
    cases this
/-! a cycle less its least height -/
theorem apart_ok {id bg ev : Int} {hs : List Int} (c : CyOk ⟨id, bg, ev, hs⟩) (h : ¬ apartB hs = true) : CyOk ⟨id, bg, ev, hs.map (· - minH hs)⟩ where
  id1 := c.id1
  id2 := c.id2
  bg1 := c.bg1
  bg2 := c.bg2
  ev1 := c.ev1
  ev2 := c.ev2
  n1 := by have := c.n1; simpa using this
  n2 := by have := c.n2; simpa using this
  hs := fun x hx => by
    obtain ⟨y, hy, rfl⟩ := List.mem_map.1 hx
    have h1 := (foldl_min (nth hs 0) hs).2.1 y hy
    have h2 : ¬ 4000 < y - minH hs := fun q => h (by unfold apartB; rw [List.any_eq_true]; exact ⟨y, hy, by simpa using q⟩)
    unfold minH at *
    omega
theorem apart_val {id bg ev : Int} {hs : List Int} (c : CyOk ⟨id, bg, ev, hs⟩) (t : Int) : valC ⟨id, bg, ev, hs.map (· - minH hs)⟩ t = valC ⟨id, bg, ev, hs⟩ t - minH hs := by
  have h := idxC_lt c t
  unfold valC
  have e : idxC ⟨id, bg, ev, hs.map (· - minH hs)⟩ t = idxC ⟨id, bg, ev, hs⟩ t := by unfold idxC; simp
  rw [e]
  simp only at h ⊢
  rw [nth_eq (by simpa using h), nth_eq h, List.getElem_map]
/-! sums -/
theorem val_shift {c : Cy} (k : CyOk c) {g N u t : Int} (hg : 0 < g) (h1 : g ∣ c.ev) (h2 : c.ev * c.hs.length ∣ g * N) (h3 : g ∣ u - c.bg) : valC c (u + g * (((t - u) / g) % N)) = valC c t := by
  unfold valC idxC
  congr 2
  obtain ⟨w, hw⟩ := h3
  have k1 := k.ev1
  have k2 := k.n1
  have e1 : (u + g * (((t - u) / g) % N) - c.bg) = g * (w + ((t - u) / g) % N) := by rw [Int.mul_add, ← hw]; omega
  have e2 : t - c.bg = g * w + (t - u) := by rw [← hw]; omega
  have e3 : (t - c.bg) / g = w + (t - u) / g := by rw [e2, Int.mul_add_ediv_left _ _ (by omega)]
  obtain ⟨e, he0⟩ := h1
  have he : 0 < e := by
    rcases Int.lt_or_le 0 e with q | q
    · exact q
    · have := Int.mul_le_mul_of_nonneg_left q (show 0 ≤ g by omega); omega
  have h4 : e * c.hs.length ∣ N := by
    rw [he0, Int.mul_assoc] at h2
    exact Int.dvd_of_mul_dvd_mul_left (show g ≠ 0 by omega) h2
  rw [e1, he0, Int.mul_ediv_mul_of_pos _ _ hg, ← Int.ediv_ediv_of_nonneg (show 0 ≤ g by omega), e3]
  generalize (t - u) / g = q
  have hL : (0 : Int) < c.hs.length := by omega
  have hp1 := phase_eq (x := w + q % N) (e := e) (n := c.hs.length) he hL
  have hp2 := phase_eq (x := w + q) (e := e) (n := c.hs.length) he hL
  have a1 : (w + q % N) % (e * c.hs.length) = (w + q) % (e * c.hs.length) := by
    rw [Int.add_emod, Int.emod_emod_of_dvd q h4, ← Int.add_emod]
  rw [← hp1, ← hp2, a1]
theorem tog_ok {a b : Cy} (ka : CyOk a) (hn : 1 ≤ togN a b) (hn2 : ¬ togN a b > 60) (h : (sumT a b (togN a b).toNat).all (fun x => inB x 4000) = true) (g1 : 1 ≤ togG a b) (g2 : togG a b ≤ 120) : CyOk ⟨a.id, a.bg, togG a b, sumT a b (togN a b).toNat⟩ where
  id1 := ka.id1
  id2 := ka.id2
  bg1 := ka.bg1
  bg2 := ka.bg2
  ev1 := g1
  ev2 := g2
  n1 := by rw [sumT_len]; omega
  n2 := by rw [sumT_len]; omega
  hs := fun x hx => inB_iff.1 (List.all_eq_true.1 h x hx)
theorem gcd_dvd3 (a b c : Int) : (Int.gcd (Int.gcd a b) c : Int) ∣ a ∧ (Int.gcd (Int.gcd a b) c : Int) ∣ b ∧ (Int.gcd (Int.gcd a b) c : Int) ∣ c :=
  ⟨Int.dvd_trans (Int.gcd_dvd_left ..) (Int.gcd_dvd_left ..), Int.dvd_trans (Int.gcd_dvd_left ..) (Int.gcd_dvd_right ..), Int.gcd_dvd_right ..⟩
theorem lcm_dvd {a b : Int} : a ∣ lcmI a b ∧ b ∣ lcmI a b := by
  obtain ⟨u, hu⟩ := Int.gcd_dvd_left a b
  obtain ⟨w, hw⟩ := Int.gcd_dvd_right a b
  unfold lcmI
  by_cases h0 : (Int.gcd a b : Int) = 0
  · have ha : a = 0 := by
      have := Int.gcd_eq_zero_iff.1 (show Int.gcd a b = 0 by omega)
      exact this.1
    subst ha
    simp
  · constructor
    · have e : a / (Int.gcd a b : Int) * b = a * w := by
        generalize (Int.gcd a b : Int) = g at *
        subst hu hw
        rw [Int.mul_ediv_cancel_left _ h0, Int.mul_comm u, Int.mul_assoc, Int.mul_comm w u, Int.mul_assoc]
      rw [e]
      exact Int.dvd_mul_right ..
    · exact Int.dvd_mul_left ..
/-- the values of a sum of two cycles -/
theorem tog_val {a b : Cy} (ka : CyOk a) (kb : CyOk b) (hn : 1 ≤ togN a b) (g1 : 1 ≤ togG a b) (t : Int) : valC ⟨a.id, a.bg, togG a b, sumT a b (togN a b).toNat⟩ t = valC a t + valC b t := by
  obtain ⟨d1, d2, d3⟩ := gcd_dvd3 a.ev b.ev (a.bg - b.bg)
  change togG a b ∣ a.ev at d1
  change togG a b ∣ b.ev at d2
  change togG a b ∣ a.bg - b.bg at d3
  obtain ⟨l1, l2⟩ := lcm_dvd (a := a.ev * a.hs.length) (b := b.ev * b.hs.length)
  have hgL : togG a b ∣ lcmI (a.ev * a.hs.length) (b.ev * b.hs.length) := Int.dvd_trans (Int.dvd_trans d1 (Int.dvd_mul_right ..)) l1
  have hN : togG a b * togN a b = lcmI (a.ev * a.hs.length) (b.ev * b.hs.length) := Int.mul_ediv_cancel' hgL
  rw [← hN] at l1 l2
  have v1 := val_shift ka (t := t) (u := a.bg) (N := togN a b) (show 0 < togG a b by omega) d1 l1 (by rw [Int.sub_self]; exact Int.dvd_zero _)
  have v2 := val_shift kb (t := t) (u := a.bg) (N := togN a b) (show 0 < togG a b by omega) d2 l2 d3
  have hlen := sumT_len a b (togN a b).toNat
  have m1 := Int.emod_nonneg ((t - a.bg) / togG a b) (show togN a b ≠ 0 by omega)
  have m2 := Int.emod_lt_of_pos ((t - a.bg) / togG a b) (show 0 < togN a b by omega)
  have e : valC ⟨a.id, a.bg, togG a b, sumT a b (togN a b).toNat⟩ t = sumA a b (((t - a.bg) / togG a b) % togN a b).toNat := by
    unfold valC idxC
    simp only [hlen]
    rw [Int.toNat_of_nonneg (show 0 ≤ togN a b by omega), nth_eq (by rw [hlen]; omega)]
    simp [sumT]
  rw [e]
  unfold sumA
  rw [Int.toNat_of_nonneg m1, Int.mul_comm _ (togG a b), v1, v2]
theorem togN_pos {a b : Cy} (ka : CyOk a) (kb : CyOk b) (g1 : 1 ≤ togG a b) : 1 ≤ togN a b := by
  obtain ⟨d1, d2, d3⟩ := gcd_dvd3 a.ev b.ev (a.bg - b.bg)
  change togG a b ∣ a.ev at d1
  obtain ⟨l1, l2⟩ := lcm_dvd (a := a.ev * a.hs.length) (b := b.ev * b.hs.length)
  have hgL : togG a b ∣ lcmI (a.ev * a.hs.length) (b.ev * b.hs.length) := Int.dvd_trans (Int.dvd_trans d1 (Int.dvd_mul_right ..)) l1
  obtain ⟨p1, p2⟩ := len_pos (id := a.id) (bg := a.bg) ka
  obtain ⟨p3, p4⟩ := len_pos (id := b.id) (bg := b.bg) kb
  obtain ⟨q1, _⟩ := lcm_bd (A := 7200) p1 p2 p3 p4
  have := Int.ediv_pos_of_pos_of_dvd q1 (show 0 ≤ togG a b by omega) hgL
  unfold togN
  omega
end Go.Proofs.Ytekpffjcffeanaa
