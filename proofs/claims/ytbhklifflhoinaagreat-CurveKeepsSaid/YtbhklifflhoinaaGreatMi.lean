/- Plain facts of inverses: points of a curve that rises or falls everywhere, and their order. No walk. -/
import Derived.Test.YtbhklifflhoinaaGreatMd
namespace Go.Proofs.YtbhklifflhoinaaGreat

/-- the point (a/b, n/d) lies on piece i -/
structure On (X Y : Nat → Int) (m : Nat) (a b n d : Int) (i : Nat) : Prop where
  hi : i + 1 < m
  b0 : 0 < b
  d0 : 0 < d
  l : X i * b ≤ a
  r : a ≤ X (i + 1) * b
  e : (n - Y i * d) * (X (i + 1) - X i) * b = (a - X i * b) * (Y (i + 1) - Y i) * d
theorem sign_mul_pos {p r : Int} (h : 0 < r) : (p * r).sign = p.sign := by rw [Int.sign_mul, Int.sign_eq_one_of_pos h, Int.mul_one]
theorem sign_of_mul {p q r s : Int} (hr : 0 < r) (hs : 0 < s) (h : p * r = q * s) : p.sign = q.sign := by rw [← sign_mul_pos hr, h, sign_mul_pos hs]
theorem both_sign {u v p q : Int} (hp : 0 < p) (hq : 0 < q) (h : u * p = v * q) (hu : 0 ≤ u) : 0 ≤ v ∧ (u = 0 ↔ v = 0) := by
  have e := sign_of_mul hp hq h
  refine ⟨?_, ?_⟩
  · have := Int.sign_nonneg_iff.2 hu
    rw [e] at this
    exact Int.sign_nonneg_iff.1 this
  · rw [← Int.sign_eq_zero_iff_zero, e, Int.sign_eq_zero_iff_zero]
theorem sign_same_pc {X Y : Nat → Int} {m i : Nat} {a b n d a' b' n' d' : Int} (hX : X i < X (i + 1)) (hY : Y i < Y (i + 1)) (p : On X Y m a b n d i) (p' : On X Y m a' b' n' d' i) : (a' * b - a * b').sign = (n' * d - n * d').sign := by
  have e := p.e
  have e' := p'.e
  have hS : 0 < Y (i + 1) - Y i := by omega
  have hR : 0 < X (i + 1) - X i := by omega
  refine sign_of_mul (r := (Y (i + 1) - Y i) * (d * d')) (s := (X (i + 1) - X i) * (b * b')) (Int.mul_pos hS (Int.mul_pos p.d0 p'.d0)) (Int.mul_pos hR (Int.mul_pos p.b0 p'.b0)) ?_
  generalize X (i + 1) - X i = R at e e' ⊢
  generalize Y (i + 1) - Y i = S at e e' ⊢
  have h1 : (n' - Y i * d') * R * b' * (b * d) = (a' - X i * b') * S * d' * (b * d) := by rw [e']
  have h2 : (n - Y i * d) * R * b * (b' * d') = (a - X i * b) * S * d * (b' * d') := by rw [e]
  grind
theorem sign_lt_pc {X Y : Nat → Int} {m i j : Nat} {a b n d a' b' n' d' : Int} (hX : ∀ i, i + 1 < m → X i < X (i + 1)) (hY : ∀ i, i + 1 < m → Y i < Y (i + 1)) (hij : i < j) (p : On X Y m a b n d i) (p' : On X Y m a' b' n' d' j) : (a' * b - a * b').sign = (n' * d - n * d').sign := by
  have hR := hX i p.hi
  have hS := hY i p.hi
  have hR' := hX j p'.hi
  have hS' := hY j p'.hi
  have b0 := p.b0
  have d0 := p.d0
  have b0' := p'.b0
  have d0' := p'.d0
  have e := p.e
  have e' := p'.e
  have jm := p'.hi
  obtain ⟨v0, v1⟩ := both_sign (u := X (i + 1) * b - a) (v := Y (i + 1) * d - n) (p := (Y (i + 1) - Y i) * d) (q := (X (i + 1) - X i) * b) (Int.mul_pos (by omega) d0) (Int.mul_pos (by omega) b0) (by grind) (by have := p.r; omega)
  obtain ⟨w0, w1⟩ := both_sign (u := a' - X j * b') (v := n' - Y j * d') (p := (Y (j + 1) - Y j) * d') (q := (X (j + 1) - X j) * b') (Int.mul_pos (by omega) d0') (Int.mul_pos (by omega) b0') (by grind) (by have := p'.l; omega)
  have u0 : 0 ≤ X (i + 1) * b - a := by have := p.r; omega
  have t0 : 0 ≤ a' - X j * b' := by have := p'.l; omega
  have xx := up_le hX (show i + 1 ≤ j by omega) (by omega)
  have yy := up_le hY (show i + 1 ≤ j by omega) (by omega)
  have eX : a' * b - a * b' = (a' - X j * b') * b + (X (i + 1) * b - a) * b' + (X j - X (i + 1)) * (b * b') := by grind
  have eY : n' * d - n * d' = (n' - Y j * d') * d + (Y (i + 1) * d - n) * d' + (Y j - Y (i + 1)) * (d * d') := by grind
  have bb := Int.mul_pos b0 b0'
  have dd := Int.mul_pos d0 d0'
  have x1 : 0 ≤ (a' - X j * b') * b := Int.mul_nonneg t0 (by omega)
  have x2 : 0 ≤ (X (i + 1) * b - a) * b' := Int.mul_nonneg u0 (by omega)
  have x3 : 0 ≤ (X j - X (i + 1)) * (b * b') := Int.mul_nonneg (by omega) (by omega)
  have y1 : 0 ≤ (n' - Y j * d') * d := Int.mul_nonneg w0 (by omega)
  have y2 : 0 ≤ (Y (i + 1) * d - n) * d' := Int.mul_nonneg v0 (by omega)
  have y3 : 0 ≤ (Y j - Y (i + 1)) * (d * d') := Int.mul_nonneg (by omega) (by omega)
  rw [eX, eY]
  have pos : ∀ {x y : Int}, 0 < x → 0 < y → x.sign = y.sign := fun h1 h2 => by rw [Int.sign_eq_one_of_pos h1, Int.sign_eq_one_of_pos h2]
  by_cases h1 : i + 1 < j
  · have q1 := up_lt hX h1 (by omega)
    have q2 := up_lt hY h1 (by omega)
    have z1 : 0 < (X j - X (i + 1)) * (b * b') := Int.mul_pos (by omega) bb
    have z2 : 0 < (Y j - Y (i + 1)) * (d * d') := Int.mul_pos (by omega) dd
    exact pos (by omega) (by omega)
  · by_cases h2 : X (i + 1) * b - a = 0
    · by_cases h3 : a' - X j * b' = 0
      · have hj : j = i + 1 := by omega
        rw [h2, h3, v1.1 h2, w1.1 h3, hj]
        simp
      · have z1 : 0 < (a' - X j * b') * b := Int.mul_pos (by omega) b0
        have z2 : 0 < (n' - Y j * d') * d := Int.mul_pos (by have : n' - Y j * d' ≠ 0 := fun e => h3 (w1.2 e)
                                                             omega) d0
        exact pos (by omega) (by omega)
    · have z1 : 0 < (X (i + 1) * b - a) * b' := Int.mul_pos (by omega) b0'
      have z2 : 0 < (Y (i + 1) * d - n) * d' := Int.mul_pos (by have : Y (i + 1) * d - n ≠ 0 := fun e => h2 (v1.2 e)
                                                                omega) d0'
      exact pos (by omega) (by omega)
theorem sign_on {X Y : Nat → Int} {m i j : Nat} {a b n d a' b' n' d' : Int} (hX : ∀ i, i + 1 < m → X i < X (i + 1)) (hY : ∀ i, i + 1 < m → Y i < Y (i + 1)) (p : On X Y m a b n d i) (p' : On X Y m a' b' n' d' j) : (a' * b - a * b').sign = (n' * d - n * d').sign := by
  rcases Nat.lt_trichotomy i j with h | h | h
  · exact sign_lt_pc hX hY h p p'
  · subst h
    exact sign_same_pc (hX i p.hi) (hY i p.hi) p p'
  · have := sign_lt_pc hX hY h p' p
    rw [show a' * b - a * b' = -(a * b' - a' * b) by omega, show n' * d - n * d' = -(n * d' - n' * d) by omega, Int.sign_neg, Int.sign_neg, this]
theorem On.neg {X Y : Nat → Int} {m i : Nat} {a b n d : Int} (p : On X Y m a b n d i) : On X (fun i => - Y i) m a b (-n) d i :=
  ⟨p.hi, p.b0, p.d0, p.l, p.r, by have := p.e; grind⟩
theorem ivt {f : Nat → Int} {y : Int} (h0 : f 0 ≤ y) : ∀ m, 0 < m → y ≤ f m → ∃ i, i + 1 ≤ m ∧ f i ≤ y ∧ y ≤ f (i + 1)
  | 0, h, _ => by omega
  | m + 1, _, h => by
    by_cases hm : 0 < m ∧ y ≤ f m
    · obtain ⟨i, a, b, c⟩ := ivt h0 m hm.1 hm.2
      exact ⟨i, by omega, b, c⟩
    · by_cases h1 : m = 0
      · subst h1; exact ⟨0, by omega, h0, h⟩
      · exact ⟨m, by omega, by omega, h⟩

/-! curves -/
theorem way_val {ks : List (Int × Int)} (hw : wayK ks ≠ 0) : wayK ks = 1 ∨ wayK ks = -1 := by
  rcases way_cases ks with h | h | h
  · exact .inl h
  · exact .inr h
  · exact absurd h hw
/-- the order of points of a curve that rises or falls everywhere -/
theorem order_on {ks err} (v : Vd ks err) (hw : wayK ks ≠ 0) {i j : Nat} {a b n d a' b' n' d' : Int} (p : On (kx ks) (ky ks) ks.length a b n d i) (p' : On (kx ks) (ky ks) ks.length a' b' n' d' j) : (a' * b - a * b').sign = wayK ks * (n' * d - n * d').sign := by
  have hX : ∀ i, i + 1 < ks.length → kx ks i < kx ks (i + 1) := fun i hi => v.klt (Nat.lt_succ_self i) hi
  rcases way_val hw with h | h
  · rw [h, Int.one_mul]
    exact sign_on hX (fun i hi => way_up (i := i) h hi) p p'
  · have := sign_on (Y := fun i => - ky ks i) hX (fun i hi => by have := way_down h hi; show - ky ks i < - ky ks (i + 1); omega) p.neg p'.neg
    rw [h, this, show -n' * d - -n * d' = -(n' * d - n * d') by grind, Int.sign_neg]
    omega
theorem inv_on {ks err} (v : Vd ks err) (hw : wayK ks ≠ 0) {y : Int} (h0 : hLo ks ≤ y) (h1 : y ≤ hHi ks) (hl : 1 < ks.length) : ∃ i, On (kx ks) (ky ks) ks.length (invOf ks y).1 (invOf ks y).2 y 1 i := by
  cases hf : firstPc ks (atV ks y) with
  | none =>
    exfalso
    have hex : ∃ i, i + 1 < ks.length ∧ atV ks y i = true := by
      unfold hLo at h0
      unfold hHi at h1
      rcases way_val hw with h | h
      · have := up_le (f := ky ks) (n := ks.length) (fun i hi => way_up h hi) (show 0 ≤ ks.length - 1 by omega) (by omega)
        obtain ⟨i, a, b, c⟩ := ivt (f := ky ks) (y := y) (by omega) (ks.length - 1) (by omega) (by omega)
        have := way_up h (show i + 1 < ks.length by omega)
        exact ⟨i, by omega, by simp only [atV, Bool.and_eq_true, decide_eq_true_eq]; omega⟩
      · have : - ky ks 0 ≤ - ky ks (ks.length - 1) := up_le (f := fun i => - ky ks i) (n := ks.length) (fun i hi => by have := way_down h hi; show - ky ks i < - ky ks (i + 1); omega) (show 0 ≤ ks.length - 1 by omega) (by omega)
        obtain ⟨i, a, b, c⟩ := ivt (f := fun i => - ky ks i) (y := -y) (by omega) (ks.length - 1) (by omega) (by omega)
        try simp only at b c
        have := way_down h (show i + 1 < ks.length by omega)
        exact ⟨i, by omega, by simp only [atV, Bool.and_eq_true, decide_eq_true_eq]; omega⟩
    obtain ⟨i, hi, ht⟩ := hex
    rw [firstPc_no hf hi] at ht
    cases ht
  | some i =>
    have hi := firstPc_lt hf
    have hp := firstPc_p hf
    simp only [atV, Bool.and_eq_true, decide_eq_true_eq] at hp
    have hne := way_ne hw hi
    have hX : kx ks i < kx ks (i + 1) := v.klt (Nat.lt_succ_self i) hi
    have hb : 0 < loD (invK ks y i) (riseK ks i) := loD_pos' hne
    have hc := lo_cross (n := invK ks y i) (d := riseK ks i)
    have e1 : invOf ks y = (loN (invK ks y i) (riseK ks i), loD (invK ks y i) (riseK ks i)) := by unfold invOf; rw [hf]
    rw [e1]
    simp only
    generalize loN (invK ks y i) (riseK ks i) = a at hc ⊢
    generalize loD (invK ks y i) (riseK ks i) = b at hb hc ⊢
    unfold invK at hc
    have k1 : (a - kx ks i * b) * riseK ks i = (y - ky ks i) * (runK ks i * b) := by grind
    have k2 : (kx ks (i + 1) * b - a) * riseK ks i = (ky ks (i + 1) - y) * (runK ks i * b) := by
      have : (kx ks (i + 1) * b - a) * riseK ks i = runK ks i * b * riseK ks i - (a - kx ks i * b) * riseK ks i := by unfold runK; grind
      rw [this, k1]
      unfold riseK
      grind
    have hrb : 0 < runK ks i * b := Int.mul_pos (by unfold runK; omega) hb
    have hs : ∀ {p q : Int}, p * riseK ks i = q * (runK ks i * b) → (0 < riseK ks i → 0 ≤ q) → (riseK ks i < 0 → q ≤ 0) → 0 ≤ p := fun {p q} e g1 g2 => by
      by_cases hr : 0 < riseK ks i
      · exact (both_sign hrb hr e.symm (g1 hr)).1
      · have hr' : 0 < -riseK ks i := by omega
        exact (both_sign (u := -q) (v := p) hrb hr' (by rw [Int.neg_mul, ← e, Int.mul_neg]) (by have := g2 (by omega); omega)).1
    refine ⟨i, hi, hb, by omega, ?_, ?_, ?_⟩
    · have := hs k1 (fun hr => by unfold riseK at hr; omega) (fun hr => by unfold riseK at hr; omega)
      omega
    · have := hs k2 (fun hr => by unfold riseK at hr; omega) (fun hr => by unfold riseK at hr; omega)
      omega
    · show (y - ky ks i * 1) * runK ks i * b = (a - kx ks i * b) * riseK ks i * 1
      rw [Int.mul_one, Int.mul_one, k1, Int.mul_assoc]
theorem piece_at {ks err} (v : Vd ks err) {x : Int} (h : inDom ks x x = true) (hl : 1 < ks.length) : ∃ i, i + 1 < ks.length ∧ kx ks i ≤ x ∧ x ≤ kx ks (i + 1) := by
  simp only [inDom, Bool.and_eq_true, decide_eq_true_eq] at h
  rw [dLo_kx, dHi_kx] at h
  by_cases h0 : kx ks 0 < x
  · obtain ⟨i, a, b, c⟩ := piece_of v h0 (ks.length - 1) (by omega) h.2
    exact ⟨i, by omega, b, c⟩
  · have := v.klt (show 0 < 1 by omega) (show 1 < ks.length by omega)
    exact ⟨0, by omega, by omega, by simp; omega⟩
theorem val_pt {ks err} (v : Vd ks err) {x : Int} (h : inDom ks x x = true) (hl : 1 < ks.length) : ∃ i, On (kx ks) (ky ks) ks.length x 1 (valN ks x) (valD ks x) i := by
  obtain ⟨i, hi, k1, k2⟩ := piece_at v h hl
  obtain ⟨_, _, h3, _⟩ := val_bd v h
  have e := val_on v hi k1 k2
  refine ⟨i, hi, by omega, h3, by omega, by omega, ?_⟩
  show (valN ks x - ky ks i * valD ks x) * runK ks i * 1 = (x - kx ks i * 1) * riseK ks i * valD ks x
  unfold lineK at e
  grind
theorem one_inv {ks : List (Int × Int)} (h : ks.length = 1) {y : Int} : invOf ks y = (kx ks 0, 1) := by
  have hf : firstPc ks (atV ks y) = none := firstPc_none_of fun j hj => by omega
  have := lo_whole (a := kx ks 0) (r := 1) (by omega)
  unfold invOf
  rw [hf]
  rw [Int.mul_one] at this
  simp only [this.1, this.2]
theorem one_dom {ks : List (Int × Int)} (h : ks.length = 1) {x : Int} (hd : inDom ks x x = true) : x = kx ks 0 := by
  simp only [inDom, Bool.and_eq_true, decide_eq_true_eq] at hd
  rw [dLo_kx, dHi_kx, h] at hd
  simp at hd
  omega
theorem one_h {ks : List (Int × Int)} (h : ks.length = 1) : hLo ks = ky ks 0 ∧ hHi ks = ky ks 0 := by
  unfold hLo hHi
  rw [h]
  simp
/-- an inverse and a value: on the same side -/
theorem inv_val {ks err} (v : Vd ks err) (hw : wayK ks ≠ 0) {x y : Int} (h0 : hLo ks ≤ y) (h1 : y ≤ hHi ks) (hd : inDom ks x x = true) : (x * (invOf ks y).2 - (invOf ks y).1).sign = wayK ks * (valN ks x - y * valD ks x).sign := by
  by_cases hl : ks.length = 1
  · obtain ⟨e1, e2⟩ := one_h hl
    obtain ⟨e3, e4⟩ := val_one hl x
    rw [one_inv hl, one_dom hl hd, ← one_dom hl hd, e3, e4, show y = ky ks 0 by omega, one_dom hl hd]
    simp
  · have hp := v.pos
    obtain ⟨i, p⟩ := inv_on v hw h0 h1 (by omega)
    obtain ⟨j, p'⟩ := val_pt v hd (by omega)
    have := order_on v hw p p'
    rw [Int.mul_one, Int.mul_one] at this
    exact this
theorem inv_inv {ks err} (v : Vd ks err) (hw : wayK ks ≠ 0) {y z : Int} (h0 : hLo ks ≤ y) (h1 : y < z) (h2 : z ≤ hHi ks) : (wayK ks = 1 → lessF (invOf ks y) (invOf ks z) = true) ∧ (wayK ks = -1 → lessF (invOf ks z) (invOf ks y) = true) := by
  have hl : 1 < ks.length := by
    have hp := v.pos
    by_cases hl : ks.length = 1
    · obtain ⟨e1, e2⟩ := one_h hl
      omega
    · omega
  obtain ⟨i, p⟩ := inv_on v hw h0 (by omega) hl
  obtain ⟨j, p'⟩ := inv_on v hw (by omega) h2 hl
  have e := order_on v hw p p'
  rw [Int.sign_eq_one_of_pos (show 0 < z * 1 - y * 1 by omega), Int.mul_one] at e
  refine ⟨fun h => ?_, fun h => ?_⟩
  · rw [lessF_iff]
    rw [h] at e
    have := Int.sign_eq_one_iff_pos.1 e
    omega
  · rw [lessF_iff]
    rw [h] at e
    have := Int.sign_eq_neg_one_iff_neg.1 e
    omega
theorem inv_int {ks err} (v : Vd ks err) (hw : wayK ks ≠ 0) {y : Int} (h0 : hLo ks ≤ y) (h1 : y ≤ hHi ks) (hb : (invOf ks y).2 = 1) : inDom ks (invOf ks y).1 (invOf ks y).1 = true ∧ valN ks (invOf ks y).1 = y ∧ valD ks (invOf ks y).1 = 1 := by
  have hp := v.pos
  have hd : inDom ks (invOf ks y).1 (invOf ks y).1 = true := by
    by_cases hl : ks.length = 1
    · rw [one_inv hl]
      simp only [inDom, Bool.and_eq_true, decide_eq_true_eq, dLo_kx, dHi_kx, hl]
      simp
    · obtain ⟨i, p⟩ := inv_on v hw h0 h1 (by omega)
      have a1 := p.l
      have a2 := p.r
      rw [hb] at a1 a2
      have hi := p.hi
      have q1 := up_le (f := kx ks) (n := ks.length) (fun i hi => v.klt (Nat.lt_succ_self i) hi) (show 0 ≤ i by omega) (by omega)
      have q2 := up_le (f := kx ks) (n := ks.length) (fun i hi => v.klt (Nat.lt_succ_self i) hi) (show i + 1 ≤ ks.length - 1 by omega) (by omega)
      unfold inDom
      rw [dLo_kx, dHi_kx, Bool.and_eq_true, decide_eq_true_iff, decide_eq_true_iff]
      omega
  have e := inv_val v hw h0 h1 hd
  rw [hb, Int.mul_one, Int.sub_self] at e
  have hz : (valN ks (invOf ks y).1 - y * valD ks (invOf ks y).1).sign = 0 := by
    rcases way_val hw with h | h <;> rw [h] at e <;> simp at e <;> simpa using e.symm
  have hz' := Int.sign_eq_zero_iff_zero.1 hz
  have hok := val_ok v hd
  simp only [isF, Bool.and_eq_true, decide_eq_true_eq] at hok
  have hdv : (valD ks (invOf ks y).1 : Int) ∣ valN ks (invOf ks y).1 := ⟨y, by rw [Int.mul_comm]; omega⟩
  have hg : Int.gcd (valN ks (invOf ks y).1) (valD ks (invOf ks y).1) = (valD ks (invOf ks y).1).natAbs := Int.gcd_eq_natAbs_right hdv
  have h1' : valD ks (invOf ks y).1 = 1 := by
    have := hok.2.2.2
    omega
  refine ⟨hd, ?_, h1'⟩
  rw [h1'] at hz'
  omega
/-- a value lies between the ends -/
theorem val_range {ks err} (v : Vd ks err) (hw : wayK ks ≠ 0) {x : Int} (hd : inDom ks x x = true) : hLo ks * valD ks x ≤ valN ks x ∧ valN ks x ≤ hHi ks * valD ks x := by
  have hp := v.pos
  obtain ⟨_, _, d0, _⟩ := val_bd v hd
  by_cases hl : ks.length = 1
  · obtain ⟨e1, e2⟩ := one_h hl
    obtain ⟨e3, e4⟩ := val_one hl x
    rw [e1, e2, e3, e4]
    omega
  · obtain ⟨j, p'⟩ := val_pt v hd (by omega)
    have hd' := hd
    simp only [inDom, Bool.and_eq_true, decide_eq_true_eq] at hd'
    rw [dLo_kx, dHi_kx] at hd'
    have p0 : On (kx ks) (ky ks) ks.length (kx ks 0) 1 (ky ks 0) 1 0 := ⟨by omega, by omega, by omega, by omega, by have := v.klt (show 0 < 1 by omega) (show 1 < ks.length by omega); simp; omega, by simp⟩
    have p1 : On (kx ks) (ky ks) ks.length (kx ks (ks.length - 1)) 1 (ky ks (ks.length - 1)) 1 (ks.length - 2) := ⟨by omega, by omega, by omega, by have := v.klt (show ks.length - 2 < ks.length - 1 by omega) (by omega); omega, by rw [show ks.length - 2 + 1 = ks.length - 1 by omega]; omega, by rw [show ks.length - 2 + 1 = ks.length - 1 by omega]; grind⟩
    have e0 := order_on v hw p0 p'
    have e1 := order_on v hw p' p1
    have s0 : 0 ≤ (x * 1 - kx ks 0 * 1).sign := Int.sign_nonneg_iff.2 (by omega)
    have s1 : 0 ≤ (kx ks (ks.length - 1) * 1 - x * 1).sign := Int.sign_nonneg_iff.2 (by omega)
    rw [e0] at s0
    rw [e1] at s1
    unfold hLo hHi
    rcases way_val hw with h | h
    · rw [h, Int.one_mul] at s0 s1
      have s0 := Int.sign_nonneg_iff.1 s0
      have s1 := Int.sign_nonneg_iff.1 s1
      have := up_le (f := ky ks) (n := ks.length) (fun i hi => way_up h hi) (show 0 ≤ ks.length - 1 by omega) (by omega)
      rw [Int.min_eq_left this, Int.max_eq_right this]
      omega
    · rw [h] at s0 s1
      have s0 : 0 ≤ -(valN ks x * 1 - ky ks 0 * valD ks x) := Int.sign_nonneg_iff.1 (by rw [Int.sign_neg]; omega)
      have s1 : 0 ≤ -(ky ks (ks.length - 1) * valD ks x - valN ks x * 1) := Int.sign_nonneg_iff.1 (by rw [Int.sign_neg]; omega)
      have : - ky ks 0 ≤ - ky ks (ks.length - 1) := up_le (f := fun i => - ky ks i) (n := ks.length) (fun i hi => by have := way_down h hi; show - ky ks i < - ky ks (i + 1); omega) (show 0 ≤ ks.length - 1 by omega) (by omega)
      rw [Int.min_eq_right (by omega), Int.max_eq_left (by omega)]
      omega
theorem inv_ok {ks err} (v : Vd ks err) (hw : wayK ks ≠ 0) {y : Int} (h0 : hLo ks ≤ y) (h1 : y ≤ hHi ks) : isF (invOf ks y).1 (invOf ks y).2 = true := by
  obtain ⟨b0, b1, b2⟩ := v.hBd
  have hp := v.pos
  cases hf : firstPc ks (atV ks y) with
  | none =>
    have e : invOf ks y = (loN (kx ks 0) 1, loD (kx ks 0) 1) := by unfold invOf; rw [hf]
    have := v.kx0 hp
    have := v.kx1 hp
    have hle := (loD_pos (n := kx ks 0) (d := 1) (by omega)).2
    rw [e]
    show isF (loN (kx ks 0) 1) (loD (kx ks 0) 1) = true
    rw [isF_lo (by omega) (inB_iff.2 ⟨by omega, by omega⟩)]
    exact decide_eq_true (by omega)
  | some i =>
    have hi := firstPc_lt hf
    have hne := way_ne hw hi
    obtain ⟨⟨a1, a2⟩, ⟨a3, a4⟩, a5, a6, a7⟩ := v.pc hi
    have e : invOf ks y = (loN (invK ks y i) (riseK ks i), loD (invK ks y i) (riseK ks i)) := by unfold invOf; rw [hf]
    have hr : -131072 ≤ riseK ks i ∧ riseK ks i ≤ 131072 := by unfold riseK; omega
    have m1 := mul_bd (show -2000 ≤ kx ks i by omega) (show kx ks i ≤ 2000 by omega) hr.1 hr.2
    have m2 := mul_bd (show -131072 ≤ y - ky ks i by omega) (show y - ky ks i ≤ 131072 by omega) (show -2000 ≤ runK ks i by unfold runK; omega) (by unfold runK; omega)
    have hle : loD (invK ks y i) (riseK ks i) ≤ 131072 := by
      by_cases hs : 0 < riseK ks i
      · have := (loD_pos (n := invK ks y i) hs).2; omega
      · have h2 := (lo_neg (n := invK ks y i) (d := riseK ks i) (by omega)).2
        have := (loD_pos (n := -invK ks y i) (d := -riseK ks i) (by omega)).2
        omega
    rw [e]
    show isF (loN (invK ks y i) (riseK ks i)) (loD (invK ks y i) (riseK ks i)) = true
    rw [isF_lo hne (inB_iff.2 ⟨by unfold invK; omega, by unfold invK; omega⟩)]
    exact decide_eq_true (by omega)
end Go.Proofs.YtbhklifflhoinaaGreat
