/- Plain facts of differences of curves, and of what is least or greatest. No walk. -/
import Derived.Test.YtbhklifflhoinaaGreatMo
namespace Go.Proofs.YtbhklifflhoinaaGreat

/-- what is best at a corner is best at all integers -/
theorem first_same {f : Int → Int × Int} {lo hi : Int} {xs : List Int} (hlh : lo ≤ hi) (hs : xs.Pairwise (· < ·)) (hsub : ∀ x ∈ xs, lo ≤ x ∧ x ≤ hi) (hlo : lo ∈ xs) (hhi : hi ∈ xs) (hp : ∀ y, lo ≤ y → y ≤ hi → 0 < (f y).2) (hc : ∀ x, lo < x → x < hi → x ∉ xs → Col f x)
    (lt : Int × Int → Int × Int → Bool) (hl : lt = lessF ∨ lt = moreF) (ok : LtOk lt) : bestIx lt (0, 0) (xs.map f) xs.length < xs.length ∧ First lt f (fun y => lo ≤ y ∧ y ≤ hi) (xs[bestIx lt (0, 0) (xs.map f) xs.length]?.getD 0) := by
  have hX := intsX_len lo hi
  have hpos : 0 < xs.length := List.length_pos_of_mem hlo
  have F1 := best_first ok (f := f) (intsX_sorted lo hi) (by omega) (fun x hx => by have := intsX_mem.1 hx; exact hp x this.1 this.2)
  have F2 := best_first ok (f := f) hs hpos (fun x hx => hp x (hsub x hx).1 (hsub x hx).2)
  have b1 := bestIx_lt lt (0, 0) ((intsX lo hi).map f) (k := (intsX lo hi).length) (by simp) (by rw [List.length_map, hX]; omega)
  have b2 := bestIx_lt lt (0, 0) (xs.map f) (k := xs.length) (by simp) (by simpa using hpos)
  rw [List.length_map] at b1 b2
  rw [intsX_get (by omega)] at F1
  have F1' : First lt f (fun y => lo ≤ y ∧ y ≤ hi) (lo + (bestIx lt (0, 0) ((intsX lo hi).map f) (intsX lo hi).length : Nat)) := ⟨intsX_mem.1 F1.mem, fun y hy => F1.best y (intsX_mem.2 hy), fun y hy => F1.first y (intsX_mem.2 hy)⟩
  refine ⟨b2, ?_⟩
  have e : lo + (bestIx lt (0, 0) ((intsX lo hi).map f) (intsX lo hi).length : Nat) = xs[bestIx lt (0, 0) (xs.map f) xs.length]?.getD 0 := by
    refine First.eq (X := (· ∈ xs)) ⟨?_, fun y hy => F1'.best y (hsub y hy), fun y hy => F1'.first y (hsub y hy)⟩ F2
    generalize lo + (bestIx lt (0, 0) ((intsX lo hi).map f) (intsX lo hi).length : Nat) = x at F1'
    by_cases hx : x ∈ xs
    · exact hx
    · have h1 : x ≠ lo := fun e => hx (e ▸ hlo)
      have h2 : x ≠ hi := fun e => hx (e ▸ hhi)
      have := F1'.mem
      exact absurd (hc x (by omega) (by omega) hx) (fun c => first_col hl hp F1' (by omega) (by omega) c)
  rw [← e]
  exact F1'
/-- a peak's ends, and where they are -/
structure Peak (f : Int → Int × Int) (lo hi : Int) (p : Pk) : Prop where
  mn : First lessF f (fun y => lo ≤ y ∧ y ≤ hi) p.al
  mx : First moreF f (fun y => lo ≤ y ∧ y ≤ hi) p.ah
  el : f p.al = (p.ln, p.ld)
  eh : f p.ah = (p.hn, p.hd)
theorem peak_of {f : Int → Int × Int} {lo hi : Int} {xs : List Int} (hlh : lo ≤ hi) (hs : xs.Pairwise (· < ·)) (hsub : ∀ x ∈ xs, lo ≤ x ∧ x ≤ hi) (hlo : lo ∈ xs) (hhi : hi ∈ xs) (hp : ∀ y, lo ≤ y → y ≤ hi → 0 < (f y).2) (hc : ∀ x, lo < x → x < hi → x ∉ xs → Col f x) : Peak f lo hi (pkOf xs (xs.map f)) := by
  obtain ⟨l2, l1⟩ := first_same hlh hs hsub hlo hhi hp hc lessF (.inl rfl) lessF_ok
  obtain ⟨m2, m1⟩ := first_same hlh hs hsub hlo hhi hp hc moreF (.inr rfl) moreF_ok
  have hv : ∀ {j : Nat}, j < xs.length → f (xs[j]?.getD 0) = (xs.map f)[j]?.getD (0, 0) := fun {j} hj => by simp [hj]
  refine ⟨?_, ?_, ?_, ?_⟩
  · simp only [pkOf, List.length_map]; exact l1
  · simp only [pkOf, List.length_map]; exact m1
  · simp only [pkOf, List.length_map]; exact hv l2
  · simp only [pkOf, List.length_map]; exact hv m2
theorem over_peak {ks err lo hi} (h : errOn ks err lo hi = 0) : Peak (valF ks) lo hi (overK ks lo hi) := by
  obtain ⟨hch, hlh, hd⟩ := errOn_zero h
  have v := vd_of_chk hch
  obtain ⟨d1, d2⟩ := v.dom hd
  refine peak_of hlh (cornX_sorted _ _ _) (fun x hx => cornX_mem hlh hx) (cornX_iff.2 (.inl rfl)) (cornX_iff.2 (.inr (.inl rfl))) (fun y h1 h2 => (v.fr (x := y) (by omega) (by omega)).d1) (fun x h1 h2 hx => ?_)
  obtain ⟨i, a, b, c⟩ := between v hd h1 h2 (fun k hk g1 g2 e => hx (cornX_iff.2 (.inr (.inr ⟨_, List.mem_singleton.2 rfl, k, hk, g1, g2, e⟩))))
  exact val_col v a b c

/-! differences -/
def difN (ka kb : List (Int × Int)) (x : Int) : Int := valN ka x * valD kb x - valN kb x * valD ka x
def difD (ka kb : List (Int × Int)) (x : Int) : Int := valD ka x * valD kb x
def difF (ka kb : List (Int × Int)) (x : Int) : Int × Int := (loN (difN ka kb x) (difD ka kb x), loD (difN ka kb x) (difD ka kb x))
theorem cancel_pos {a b c : Int} (hc : 0 < c) (h : c * a = c * b) : a = b := Int.eq_of_mul_eq_mul_left (by omega) h
theorem dif_col {ka kb : List (Int × Int)} {x : Int} (ha : Col (valF ka) x) (hb : Col (valF kb) x) (hp : ∀ y, x - 1 ≤ y → y ≤ x + 1 → 0 < valD ka y ∧ 0 < valD kb y) : Col (difF ka kb) x := by
  obtain ⟨D, p, q, r, hD, a1, a2, a3, a4⟩ := ha
  obtain ⟨E, s, t, u, hE, b1, b2, b3, b4⟩ := hb
  have key : ∀ y p s, x - 1 ≤ y → y ≤ x + 1 → (valF ka y).1 * D = p * (valF ka y).2 → (valF kb y).1 * E = s * (valF kb y).2 → (difF ka kb y).1 * (D * E) = (p * E - s * D) * (difF ka kb y).2 := fun y p s h1 h2 e1 e2 => by
    obtain ⟨p1, p2⟩ := hp y h1 h2
    have e3 := lo_cross (n := difN ka kb y) (d := difD ka kb y)
    have hpos : 0 < difD ka kb y := Int.mul_pos p1 p2
    refine cancel_pos hpos ?_
    show difD ka kb y * (loN (difN ka kb y) (difD ka kb y) * (D * E)) = difD ka kb y * ((p * E - s * D) * loD (difN ka kb y) (difD ka kb y))
    generalize loN (difN ka kb y) (difD ka kb y) = A at e3
    generalize loD (difN ka kb y) (difD ka kb y) = B at e3
    unfold difN difD at e3
    unfold difD
    simp only [valF] at e1 e2
    generalize valN ka y = n at e1 e3 ⊢
    generalize valD ka y = d at e1 e3 ⊢
    generalize valN kb y = m at e2 e3 ⊢
    generalize valD kb y = e at e2 e3 ⊢
    grind
  exact ⟨D * E, p * E - s * D, q * E - t * D, r * E - u * D, Int.mul_pos hD hE, key _ _ _ (by omega) (by omega) a1 b1, key _ _ _ (by omega) (by omega) a2 b2, key _ _ _ (by omega) (by omega) a3 b3, by grind⟩
def apartK (ka kb : List (Int × Int)) (lo hi : Int) : Pk := pkOf (cornX lo hi [⟨none, 0, ka, 0⟩, ⟨none, 0, kb, 0⟩]) ((cornX lo hi [⟨none, 0, ka, 0⟩, ⟨none, 0, kb, 0⟩]).map (difF ka kb))
theorem apart_peak {ka ea kb eb lo hi} (va : Vd ka ea) (vb : Vd kb eb) (hlh : lo ≤ hi) (hda : inDom ka lo hi = true) (hdb : inDom kb lo hi = true) : Peak (difF ka kb) lo hi (apartK ka kb lo hi) := by
  obtain ⟨d1, d2⟩ := va.dom hda
  have hpos : ∀ y, lo ≤ y → y ≤ hi → 0 < valD ka y ∧ 0 < valD kb y := fun y h1 h2 => ⟨(va.fr (x := y) (by omega) (by omega)).d1, (vb.fr (x := y) (by omega) (by omega)).d1⟩
  refine peak_of hlh (cornX_sorted _ _ _) (fun x hx => cornX_mem hlh hx) (cornX_iff.2 (.inl rfl)) (cornX_iff.2 (.inr (.inl rfl))) (fun y h1 h2 => loD_pos' (by have := Int.mul_pos (hpos y h1 h2).1 (hpos y h1 h2).2; unfold difD; omega)) (fun x h1 h2 hx => ?_)
  obtain ⟨i, a, b, c⟩ := between va hda h1 h2 (fun k hk g1 g2 e => hx (cornX_iff.2 (.inr (.inr ⟨_, List.mem_cons_self, k, hk, g1, g2, e⟩))))
  obtain ⟨j, a', b', c'⟩ := between vb hdb h1 h2 (fun k hk g1 g2 e => hx (cornX_iff.2 (.inr (.inr ⟨_, List.mem_cons_of_mem _ List.mem_cons_self, k, hk, g1, g2, e⟩))))
  exact dif_col (val_col va a b c) (val_col vb a' b' c') (fun y g1 g2 => hpos y (by omega) (by omega))

/-! how large a value can be -/
theorem line_bd {ks err} (v : Vd ks err) {i : Nat} (hi : i + 1 < ks.length) {x : Int} (h1 : kx ks i ≤ x) (h2 : x ≤ kx ks (i + 1)) : -(65536 * runK ks i) ≤ lineK ks i x ∧ lineK ks i x ≤ 65536 * runK ks i := by
  have e : lineK ks i x = ky ks i * (kx ks (i + 1) - x) + ky ks (i + 1) * (x - kx ks i) := by
    unfold lineK runK riseK
    grind
  have a0 := v.ky0 (show i < ks.length by omega)
  have a1 := v.ky1 (show i < ks.length by omega)
  have b0 := v.ky0 hi
  have b1 := v.ky1 hi
  have c1 : -65536 * (kx ks (i + 1) - x) ≤ ky ks i * (kx ks (i + 1) - x) := Int.mul_le_mul_of_nonneg_right a0 (by omega)
  have c2 : ky ks i * (kx ks (i + 1) - x) ≤ 65536 * (kx ks (i + 1) - x) := Int.mul_le_mul_of_nonneg_right a1 (by omega)
  have c3 : -65536 * (x - kx ks i) ≤ ky ks (i + 1) * (x - kx ks i) := Int.mul_le_mul_of_nonneg_right b0 (by omega)
  have c4 : ky ks (i + 1) * (x - kx ks i) ≤ 65536 * (x - kx ks i) := Int.mul_le_mul_of_nonneg_right b1 (by omega)
  unfold runK
  omega
theorem val_one {ks : List (Int × Int)} (h : ks.length = 1) (x : Int) : valN ks x = ky ks 0 ∧ valD ks x = 1 := by
  have hf : firstPc ks (inPc ks x x) = none := firstPc_none_of fun j hj => by omega
  unfold valN valD lnOf
  rw [hf]
  have := lo_whole (a := ky ks 0) (r := 1) (by omega)
  simp only [lnAt, Ln.num, Int.zero_mul, Int.add_zero]
  exact this
theorem val_bd {ks err} (v : Vd ks err) {x : Int} (h : inDom ks x x = true) : -(65536 * valD ks x) ≤ valN ks x ∧ valN ks x ≤ 65536 * valD ks x ∧ 0 < valD ks x ∧ valD ks x ≤ 2000 := by
  obtain ⟨d1, d2⟩ := v.dom h
  have hfr := v.fr (x := x) (by omega) (by omega)
  have hd := hfr.d1
  have hp := v.pos
  simp only [inDom, Bool.and_eq_true, decide_eq_true_eq] at h
  rw [dLo_kx, dHi_kx] at h
  have hle : valD ks x ≤ 2000 := by
    have h3 := loD_pos (n := (lnOf ks x x).num x) (v.lnOk x x).d1
    have h4 : (lnOf ks x x).ru ≤ 2000 := by
      unfold lnOf
      cases e : firstPc ks (inPc ks x x) with
      | none => simp [lnAt]
      | some i =>
        have hi := firstPc_lt e
        have := v.kx0 (show i < ks.length by omega)
        have := v.kx1 hi
        simp only [lnAt]
        omega
    unfold valD
    omega
  by_cases h1 : ks.length = 1
  · obtain ⟨e1, e2⟩ := val_one h1 x
    have := v.ky0 hp
    have := v.ky1 hp
    rw [e1, e2]
    omega
  · obtain ⟨i, hi, k1, k2⟩ : ∃ i, i + 1 < ks.length ∧ kx ks i ≤ x ∧ x ≤ kx ks (i + 1) := by
      by_cases h0 : kx ks 0 < x
      · obtain ⟨i, a, b, c⟩ := piece_of v h0 (ks.length - 1) (by omega) h.2
        exact ⟨i, by omega, b, c⟩
      · have := v.klt (show 0 < 1 by omega) (show 1 < ks.length by omega)
        exact ⟨0, by omega, by omega, by simp; omega⟩
    have e := val_on v hi k1 k2
    obtain ⟨l1, l2⟩ := line_bd v hi k1 k2
    have hr : 0 < runK ks i := by have := v.klt (show i < i + 1 by omega) hi; unfold runK; omega
    have m1 : -(65536 * runK ks i) * valD ks x ≤ lineK ks i x * valD ks x := Int.mul_le_mul_of_nonneg_right l1 (by omega)
    have m2 : lineK ks i x * valD ks x ≤ 65536 * runK ks i * valD ks x := Int.mul_le_mul_of_nonneg_right l2 (by omega)
    rw [← e] at m1 m2
    refine ⟨?_, ?_, hd, hle⟩
    · refine Int.le_of_mul_le_mul_left (a := runK ks i) ?_ hr
      grind
    · refine Int.le_of_mul_le_mul_left (a := runK ks i) ?_ hr
      grind
/-- a difference is a fraction within the limits -/
theorem dif_bd {ka ea kb eb x} (va : Vd ka ea) (vb : Vd kb eb) (ha : inDom ka x x = true) (hb : inDom kb x x = true) : -549755813888 ≤ difN ka kb x ∧ difN ka kb x ≤ 549755813888 ∧ 0 < difD ka kb x ∧ difD ka kb x ≤ 4194304 := by
  obtain ⟨a1, a2, a3, a4⟩ := val_bd va ha
  obtain ⟨b1, b2, b3, b4⟩ := val_bd vb hb
  unfold difN difD
  have hd : valD ka x * valD kb x ≤ 2000 * 2000 := Int.mul_le_mul a4 b4 (by omega) (by omega)
  have hd0 : 0 < valD ka x * valD kb x := Int.mul_pos a3 b3
  have m1 : -(65536 * valD ka x) * valD kb x ≤ valN ka x * valD kb x := Int.mul_le_mul_of_nonneg_right a1 (by omega)
  have m2 : valN ka x * valD kb x ≤ 65536 * valD ka x * valD kb x := Int.mul_le_mul_of_nonneg_right a2 (by omega)
  have m3 : -(65536 * valD kb x) * valD ka x ≤ valN kb x * valD ka x := Int.mul_le_mul_of_nonneg_right b1 (by omega)
  have m4 : valN kb x * valD ka x ≤ 65536 * valD kb x * valD ka x := Int.mul_le_mul_of_nonneg_right b2 (by omega)
  have e1 : -(65536 * valD ka x) * valD kb x = -65536 * (valD ka x * valD kb x) := by grind
  have e2 : 65536 * valD ka x * valD kb x = 65536 * (valD ka x * valD kb x) := by grind
  have e3 : -(65536 * valD kb x) * valD ka x = -65536 * (valD ka x * valD kb x) := by grind
  have e4 : 65536 * valD kb x * valD ka x = 65536 * (valD ka x * valD kb x) := by grind
  omega
theorem dif_ok {ka ea kb eb x} (va : Vd ka ea) (vb : Vd kb eb) (ha : inDom ka x x = true) (hb : inDom kb x x = true) : isF (difF ka kb x).1 (difF ka kb x).2 = true := by
  obtain ⟨h1, h2, h3, h4⟩ := dif_bd va vb ha hb
  have := loD_pos (n := difN ka kb x) h3
  show isF (loN _ _) (loD _ _) = true
  rw [isF_lo (by omega) (inB_iff.2 ⟨h1, h2⟩)]
  exact decide_eq_true (by omega)
theorem val_ok {ks err x} (v : Vd ks err) (h : inDom ks x x = true) : isF (valN ks x) (valD ks x) = true := by
  obtain ⟨h1, h2, h3, h4⟩ := val_bd v h
  have hg : Int.gcd (valN ks x) (valD ks x) = 1 := lo_gcd (by have := (v.lnOk x x).d1; omega)
  simp only [isF, Bool.and_eq_true, decide_eq_true_eq, inB_iff]
  exact ⟨by omega, by omega, ⟨by omega, by omega⟩, hg⟩
theorem inDom_sub {ks lo hi x : _} (h : inDom ks lo hi = true) (h1 : lo ≤ x) (h2 : x ≤ hi) : inDom ks x x = true := by
  simp only [inDom, Bool.and_eq_true, decide_eq_true_eq] at h ⊢
  omega
end Go.Proofs.YtbhklifflhoinaaGreat
