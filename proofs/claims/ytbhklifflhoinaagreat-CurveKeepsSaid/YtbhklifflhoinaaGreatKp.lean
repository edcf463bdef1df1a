/- What Refine, Thin, Cut, Add and Minus keep: plain facts of the lists of knots. -/
import Derived.Test.YtbhklifflhoinaaGreatCq
import Derived.Test.YtbhklifflhoinaaGreatMg
import Derived.Test.YtbhklifflhoinaaGreatMo
import Derived.Test.YtbhklifflhoinaaGreatBe
namespace Go.Proofs.YtbhklifflhoinaaGreat
open Go.Proofs.YtbhklifflhoinaaGreat.Ev

theorem corX_asc (ks : List (Int × Int)) (lo hi : Int) : (corX ks lo hi).Pairwise (· < ·) := cornX_sorted ..
theorem corX_iff {ks : List (Int × Int)} {lo hi x : Int} : x ∈ corX ks lo hi ↔ x = lo ∨ x = hi ∨ ∃ k ∈ ks, lo < k.1 ∧ k.1 < hi ∧ k.1 = x := by
  unfold corX
  rw [cornX_iff]
  simp
/-! equal fractions in lowest terms -/
theorem dvd_cop {k m n : Int} (h : k ∣ m * n) (g : Int.gcd k m = 1) : k ∣ n := by
  have h1 : k.natAbs ∣ m.natAbs * n.natAbs := by rw [← Int.natAbs_mul]; exact Int.natAbs_dvd_natAbs.2 h
  exact Int.natAbs_dvd_natAbs.1 (Nat.Coprime.dvd_of_dvd_mul_left g h1)
theorem fr_uniq {n d m e : Int} (h1 : Int.gcd n d = 1) (h2 : Int.gcd m e = 1) (hd : 0 < d) (he : 0 < e) (h : n * e = m * d) : n = m ∧ d = e := by
  have a1 : d ∣ e := by
    have : d ∣ n * e := by rw [h]; exact Int.dvd_mul_left ..
    exact dvd_cop this (by rw [Int.gcd_comm]; exact h1)
  have a2 : e ∣ d := by
    have : e ∣ m * d := by rw [← h]; exact Int.dvd_mul_left ..
    exact dvd_cop this (by rw [Int.gcd_comm]; exact h2)
  have b1 := Int.le_of_dvd he a1
  have b2 := Int.le_of_dvd hd a2
  have e1 : d = e := by omega
  subst e1
  exact ⟨Int.eq_of_mul_eq_mul_right (by omega) h, rfl⟩
theorem vD_pos {ks err} (v : Vd ks err) (x : Int) : 0 < valD ks x := (loD_pos (v.lnOk x x).d1).1
theorem first_at {ks : List (Int × Int)} {x : Int} : ∀ n, n < ks.length → x ≤ kx ks n → ∃ i, FirstAt ks x i
  | 0, hn, h => ⟨0, hn, h, fun j hj => by omega⟩
  | n + 1, hn, h => by
    by_cases h2 : x ≤ kx ks n
    · exact first_at n (by omega) h2
    · by_cases h3 : ∃ j, j < n + 1 ∧ x ≤ kx ks j
      · obtain ⟨j, hj, h4⟩ := h3
        exact first_at j (by omega) h4
      · exact ⟨n + 1, hn, h, fun j hj => by
          exact Int.not_le.1 fun h4 => h3 ⟨j, hj, h4⟩⟩
/-- a piece of ks that holds what lies between two neighbours of ms -/
theorem pieceAt {ks : List (Int × Int)} {err : Int} (v : Vd ks err) {p q : Int} (hpq : p < q) (h0 : kx ks 0 ≤ p) (h1 : q ≤ kx ks (ks.length - 1)) (hno : ∀ k ∈ ks, ¬ (p < k.1 ∧ k.1 < q)) : ∃ j, j + 1 < ks.length ∧ kx ks j ≤ p ∧ q ≤ kx ks (j + 1) := by
  have hp := v.pos
  obtain ⟨i, hi⟩ := first_at (ks := ks) (x := q) (ks.length - 1) (by omega) h1
  have hpos : 0 < i := by
    rcases Nat.eq_zero_or_pos i with rfl | h
    · have := hi.ge; omega
    · exact h
  have hlt := hi.lt
  refine ⟨i - 1, by omega, ?_, ?_⟩
  · have h2 := hi.before (i - 1) (by omega)
    have h3 := hno ks[i - 1] (List.getElem_mem (by omega))
    rw [kx_eq (by omega)] at h2 ⊢
    omega
  · rw [show i - 1 + 1 = i by omega]
    exact hi.ge
theorem asc_no {ms : List (Int × Int)} (h : Asc ms) {i : Nat} (hi : i + 1 < ms.length) : ∀ k ∈ ms, ¬ (ms[i].1 < k.1 ∧ k.1 < ms[i + 1].1) := by
  intro k hk
  obtain ⟨j, hj, rfl⟩ := List.getElem_of_mem hk
  rintro ⟨h1, h2⟩
  rcases Nat.lt_trichotomy j i with g | rfl | g
  · have := asc_get h g (by omega); omega
  · omega
  · by_cases e : j = i + 1
    · subst e; omega
    · have := asc_get h (show i + 1 < j by omega) hj; omega
/-- the knots of ms lie on ks, and all of ks's knots within are among them: then the values are the same -/
theorem val_sub {ks ms : List (Int × Int)} {e e' : Int} (v : Vd ks e) (w : Vd ms e') (hf : ∀ p ∈ ms, p.2 = valN ks p.1 ∧ valD ks p.1 = 1) (hall : ∀ p ∈ ks, dLo ms ≤ p.1 → p.1 ≤ dHi ms → p ∈ ms) (hlo : dLo ks ≤ dLo ms) (hhi : dHi ms ≤ dHi ks) {x : Int} (hx : inDom ms x x = true) : valN ms x = valN ks x ∧ valD ms x = valD ks x := by
  simp only [inDom, Bool.and_eq_true, decide_eq_true_eq] at hx
  have hp := v.pos
  have hpm := w.pos
  obtain ⟨i, hi⟩ := first_at (ks := ms) (x := x) (ms.length - 1) (by omega) hx.2
  have hlt := hi.lt
  have hx1 : kx ms 0 ≤ x := hx.1
  obtain ⟨k1, k2⟩ := val_first w.up hi hx1
  by_cases hxe : kx ms i = x
  · obtain ⟨a1, a2⟩ := k1 hxe
    obtain ⟨b1, b2⟩ := hf ms[i] (List.getElem_mem hlt)
    rw [← kx_eq hlt, hxe] at b1 b2
    rw [← ky_eq hlt] at b1
    exact ⟨by rw [a1, b1], by rw [a2, b2]⟩
  · obtain ⟨hpos, l1, l2, -, -⟩ := k2 hxe
    obtain ⟨i, rfl⟩ : ∃ k, i = k + 1 := ⟨i - 1, by omega⟩
    simp only [Nat.add_sub_cancel] at l1
    have hlt0 : i < ms.length := by omega
    have hm := vd_asc w
    have d0 : dLo ms ≤ kx ms i := by
      rcases Nat.eq_zero_or_pos i with rfl | g
      · exact Int.le_refl _
      · have := w.klt g hlt0; exact Int.le_of_lt this
    have d1 : kx ms (i + 1) ≤ dHi ms := by
      by_cases g : i + 1 = ms.length - 1
      · rw [g]; exact Int.le_refl _
      · have := w.klt (show i + 1 < ms.length - 1 by omega) (by omega); exact Int.le_of_lt this
    have hno : ∀ k ∈ ks, ¬ (kx ms i < k.1 ∧ k.1 < kx ms (i + 1)) := fun k hk hc => by
      have := asc_no hm hlt k (hall k hk (by omega) (by omega))
      rw [kx_eq hlt0, kx_eq hlt] at hc
      exact this hc
    obtain ⟨j, hj, j1, j2⟩ := pieceAt v (show kx ms i < kx ms (i + 1) by omega) (by have : kx ks 0 = dLo ks := rfl; omega) (by have : kx ks (ks.length - 1) = dHi ks := rfl; omega) hno
    have e1 := val_on v hj j1 (show kx ms i ≤ kx ks (j + 1) by omega)
    have e2 := val_on v hj (show kx ks j ≤ kx ms (i + 1) by omega) j2
    have e3 := val_on v hj (show kx ks j ≤ x by omega) (show x ≤ kx ks (j + 1) by omega)
    have e4 := val_on w hlt (show kx ms i ≤ x by omega) (show x ≤ kx ms (i + 1) by omega)
    obtain ⟨f1, f2⟩ := hf ms[i] (List.getElem_mem hlt0)
    obtain ⟨f3, f4⟩ := hf ms[i + 1] (List.getElem_mem hlt)
    rw [← kx_eq hlt0] at f1 f2
    rw [← kx_eq hlt] at f3 f4
    rw [← ky_eq hlt0] at f1
    rw [← ky_eq hlt] at f3
    rw [← f1, f2] at e1
    rw [← f3, f4] at e2
    have hR : 0 < runK ks j := by have := v.klt (show j < j + 1 by omega) hj; unfold runK; omega
    have hr : 0 < runK ms i := by unfold runK; omega
    have hrR := Int.mul_pos hr hR
    refine fr_uniq (val_gcd w x) (val_gcd v x) (vD_pos w x) (vD_pos v x) ?_
    refine Int.eq_of_mul_eq_mul_right (show runK ms i * runK ks j ≠ 0 by omega) ?_
    unfold lineK at e1 e2 e3 e4
    have hrd : runK ms i = kx ms (i + 1) - kx ms i := rfl
    have hri : riseK ms i = ky ms (i + 1) - ky ms i := rfl
    generalize riseK ks j = B at *
    generalize runK ks j = R at *
    generalize valN ms x = n at *
    generalize valD ms x = d at *
    generalize valN ks x = m at *
    generalize valD ks x = e at *
    rw [hri] at e4
    rw [hrd] at e4 ⊢
    clear hrd hri f1 f2 f3 f4 hno hall hf
    generalize ky ms i = P at *
    generalize ky ms (i + 1) = Q at *
    generalize kx ms i = p at *
    generalize kx ms (i + 1) = q at *
    generalize ky ks j = A at *
    generalize kx ks j = a at *
    clear hm k1 k2 hi w v hx hx1 hlo hhi d0 d1 hR hr hrR hlt hlt0 hj hp hpm hpos hxe
    grind
/-! valid lists -/
theorem okFrom_mono {x y : Int} {ks : List (Int × Int)} (h : okFrom x ks = true) (hxy : y ≤ x) : okFrom y ks = true := by
  cases ks with
  | nil => rfl
  | cons k r =>
    simp only [okFrom, Bool.and_eq_true, decide_eq_true_eq] at h ⊢
    exact ⟨⟨⟨by omega, h.1.1.2⟩, h.1.2⟩, h.2⟩
theorem okFrom_of {ms : List (Int × Int)} : ∀ {x : Int}, Asc ms → (∀ p ∈ ms, x < p.1 ∧ p.1 ≤ 2000 ∧ -65536 ≤ p.2 ∧ p.2 ≤ 65536) → okFrom x ms = true := by
  induction ms with
  | nil => intro x _ _; rfl
  | cons k r ih =>
    intro x h hb
    obtain ⟨h1, h2⟩ := List.pairwise_cons.1 h
    obtain ⟨b1, b2, b3, b4⟩ := hb k (List.mem_cons_self ..)
    simp only [okFrom, Bool.and_eq_true, decide_eq_true_eq, inB]
    exact ⟨⟨⟨b1, b2⟩, b3, b4⟩, ih h2 fun p hp => by
      obtain ⟨c1, c2, c3, c4⟩ := hb p (List.mem_cons_of_mem _ hp)
      exact ⟨h1 p hp, c2, c3, c4⟩⟩
theorem vd_of {ms : List (Int × Int)} {e : Int} (hne : ms ≠ []) (hl : ms.length ≤ 40) (h0 : 0 ≤ e) (h1 : e ≤ 4000) (h : Asc ms) (hb : ∀ p ∈ ms, 0 ≤ p.1 ∧ p.1 ≤ 2000 ∧ -65536 ≤ p.2 ∧ p.2 ≤ 65536) : Vd ms e :=
  ⟨hne, hl, h0, h1, okFrom_of h fun p hp => by
    obtain ⟨a, b, c, d⟩ := hb p hp
    exact ⟨by omega, b, c, d⟩⟩
theorem Vd.mem {ks e} (v : Vd ks e) {p : Int × Int} (hp : p ∈ ks) : 0 ≤ p.1 ∧ p.1 ≤ 2000 ∧ -65536 ≤ p.2 ∧ p.2 ≤ 65536 := by
  obtain ⟨i, hi, rfl⟩ := List.getElem_of_mem hp
  exact ⟨v.x0 i hi, v.x1 i hi, v.y0 i hi, v.y1 i hi⟩
theorem Vd.sub {ks ms : List (Int × Int)} {e : Int} (v : Vd ks e) (hs : ms.Sublist ks) (hne : ms ≠ []) : Vd ms e :=
  vd_of hne (Nat.le_trans hs.length_le v.le) v.e0 v.e1 ((vd_asc v).sublist hs) fun p hp => v.mem (hs.subset hp)
/-! the knots that matter, by neighbours -/
def bend3 (p q r : Int × Int) : Bool := !((q.2 - p.2) * (r.1 - q.1) == (r.2 - q.2) * (q.1 - p.1))
def thG : Int × Int → List (Int × Int) → List (Int × Int)
  | _, [] => []
  | _, [q] => [q]
  | p, q :: r :: l => if bend3 p q r = true then q :: thG q (r :: l) else thG q (r :: l)
def thL : List (Int × Int) → List (Int × Int)
  | [] => []
  | p :: l => p :: thG p l
theorem thin_go {ks : List (Int × Int)} : ∀ (l A : List (Int × Int)) (p : Int × Int), ks = A ++ p :: l → thinK ks = thinTo ks (A.length + 1) ++ thG p l := by
  intro l
  induction l with
  | nil =>
    intro A p h
    rw [thG, List.append_nil, thinK, h]
    simp
  | cons q l ih =>
    intro A p h
    have h2 : ks = (A ++ [p]) ++ q :: l := by rw [h]; simp
    have hA : ks.length = A.length + 1 + 1 + l.length := by rw [h]; simp; omega
    have g0 : ks[A.length]? = some p := by rw [h]; simp
    have g1 : ks[A.length + 1]? = some q := by rw [h2, List.getElem?_append_right (by simp)]; simp
    have k0 : kx ks A.length = p.1 ∧ ky ks A.length = p.2 := by simp [kx, ky, g0]
    have k1 : kx ks (A.length + 1) = q.1 ∧ ky ks (A.length + 1) = q.2 := by simp [kx, ky, g1]
    have := ih (A ++ [p]) q h2
    rw [this, List.length_append, List.length_singleton, thinTo_succ, List.append_assoc]
    congr 1
    cases l with
    | nil =>
      have hk : keepK ks (A.length + 1) = true := by simp [keepK, hA]
      rw [if_pos hk, k1.1, k1.2]
      simp [thG]
    | cons r l =>
      have g2 : ks[A.length + 1 + 1]? = some r := by rw [h2, List.getElem?_append_right (by simp)]; simp
      have k2 : kx ks (A.length + 1 + 1) = r.1 ∧ ky ks (A.length + 1 + 1) = r.2 := by simp [kx, ky, g2]
      have hk : keepK ks (A.length + 1) = bend3 p q r := by
        unfold keepK bendAt bend3
        rw [show A.length + 1 - 1 = A.length by omega, k0.1, k0.2, k1.1, k1.2, k2.1, k2.2]
        have d2 : ¬ (A.length + 1 + 1 = ks.length) := by simp at hA; omega
        simp [d2]
      rw [hk, thG, k1.1, k1.2]
      cases bend3 p q r <;> simp
theorem thinK_thL (ks : List (Int × Int)) : thinK ks = thL ks := by
  cases ks with
  | nil => rfl
  | cons p l =>
    have := thin_go (ks := p :: l) l [] p rfl
    rw [this, List.length_nil, thinTo_one]
    simp [thL, kx, ky]
/-- q lies on the way from p to r -/
structure Mid (p q r : Int × Int) : Prop where
  a : p.1 < q.1
  b : q.1 < r.1
  l : (q.2 - p.2) * (r.1 - q.1) = (r.2 - q.2) * (q.1 - p.1)
theorem bool_eq_of {a b : Bool} (h : a = true ↔ b = true) : a = b := by cases a <;> cases b <;> simp_all
theorem Mid.fore {p q r x : Int × Int} (h : Mid p q r) : bend3 x p q = bend3 x p r := by
  obtain ⟨a, b, l⟩ := h
  have h1 : ((p.2 - x.2) * (q.1 - p.1) == (q.2 - p.2) * (p.1 - x.1)) = ((p.2 - x.2) * (r.1 - p.1) == (r.2 - p.2) * (p.1 - x.1)) := by
    apply bool_eq_of
    rw [beq_iff_eq, beq_iff_eq]
    constructor
    · intro e
      refine Int.eq_of_mul_eq_mul_right (show q.1 - p.1 ≠ 0 by omega) ?_
      grind
    · intro e
      refine Int.eq_of_mul_eq_mul_right (show r.1 - p.1 ≠ 0 by omega) ?_
      grind
  unfold bend3
  rw [h1]
theorem Mid.aft {p q r s : Int × Int} (h : Mid p q r) : bend3 q r s = bend3 p r s := by
  obtain ⟨a, b, l⟩ := h
  have h1 : ((r.2 - q.2) * (s.1 - r.1) == (s.2 - r.2) * (r.1 - q.1)) = ((r.2 - p.2) * (s.1 - r.1) == (s.2 - r.2) * (r.1 - p.1)) := by
    apply bool_eq_of
    rw [beq_iff_eq, beq_iff_eq]
    constructor
    · intro e
      refine Int.eq_of_mul_eq_mul_right (show r.1 - q.1 ≠ 0 by omega) ?_
      grind
    · intro e
      refine Int.eq_of_mul_eq_mul_right (show r.1 - p.1 ≠ 0 by omega) ?_
      grind
  unfold bend3
  rw [h1]
theorem Mid.no {p q r : Int × Int} (h : Mid p q r) : bend3 p q r = false := by
  unfold bend3
  rw [h.l]
  simp
theorem Mid.go {p q r : Int × Int} (h : Mid p q r) (B : List (Int × Int)) : thG q (r :: B) = thG p (r :: B) := by
  cases B with
  | nil => rfl
  | cons s B => rw [thG, thG, h.aft]
theorem Mid.from {p q r : Int × Int} (h : Mid p q r) (B : List (Int × Int)) : thG p (q :: r :: B) = thG p (r :: B) := by
  rw [thG, h.no, if_neg (by simp), h.go]
theorem Mid.ins {p q r : Int × Int} (h : Mid p q r) (B : List (Int × Int)) : ∀ (A : List (Int × Int)) (x : Int × Int), thG x (A ++ p :: q :: r :: B) = thG x (A ++ p :: r :: B)
  | [], x => by
    show thG x (p :: q :: r :: B) = thG x (p :: r :: B)
    have e := h.from B
    conv => lhs; unfold thG
    conv => rhs; unfold thG
    rw [h.fore, e]
  | a :: A, x => by
    have e := h.ins B A a
    cases A with
    | nil =>
      simp only [List.nil_append, List.cons_append] at e ⊢
      conv => lhs; unfold thG
      conv => rhs; unfold thG
      rw [e]
    | cons b A =>
      simp only [List.cons_append] at e ⊢
      conv => lhs; unfold thG
      conv => rhs; unfold thG
      rw [e]
theorem Mid.insL {p q r : Int × Int} (h : Mid p q r) (A B : List (Int × Int)) : thL (A ++ p :: q :: r :: B) = thL (A ++ p :: r :: B) := by
  cases A with
  | nil =>
    show p :: thG p (q :: r :: B) = p :: thG p (r :: B)
    rw [h.from]
  | cons a A =>
    show a :: thG a (A ++ p :: q :: r :: B) = a :: thG a (A ++ p :: r :: B)
    rw [h.ins]
theorem own_mem {ks : List (Int × Int)} {e : Int} (v : Vd ks e) {p : Int × Int} (hp : p ∈ ks) : p.2 = valN ks p.1 ∧ valD ks p.1 = 1 := by
  obtain ⟨i, hi, rfl⟩ := List.getElem_of_mem hp
  obtain ⟨h1, h2⟩ := own_val v hi
  rw [kx_eq hi] at h1 h2
  rw [ky_eq hi] at h1
  exact ⟨h1.symm, h2⟩
theorem mem_dom {ks : List (Int × Int)} {e : Int} (v : Vd ks e) {p : Int × Int} (hp : p ∈ ks) : dLo ks ≤ p.1 ∧ p.1 ≤ dHi ks := by
  obtain ⟨i, hi, rfl⟩ := List.getElem_of_mem hp
  have h1 : dLo ks = kx ks 0 := rfl
  have h2 : dHi ks = kx ks (ks.length - 1) := rfl
  rw [← kx_eq hi, h1, h2]
  constructor
  · rcases Nat.eq_zero_or_pos i with rfl | g
    · exact Int.le_refl _
    · exact Int.le_of_lt (v.klt g hi)
  · by_cases g : i = ks.length - 1
    · rw [← g]; exact Int.le_refl _
    · exact Int.le_of_lt (v.klt (show i < ks.length - 1 by omega) (by omega))
theorem dLo_mem {ks : List (Int × Int)} (h : ks ≠ []) : ∃ p ∈ ks, p.1 = dLo ks := by
  have hp : 0 < ks.length := List.length_pos_iff.2 h
  exact ⟨ks[0], List.getElem_mem hp, (kx_eq hp).symm⟩
theorem dHi_mem {ks : List (Int × Int)} (h : ks ≠ []) : ∃ p ∈ ks, p.1 = dHi ks := by
  have hp : 0 < ks.length := List.length_pos_iff.2 h
  exact ⟨ks[ks.length - 1], List.getElem_mem (by omega), (kx_eq (show ks.length - 1 < ks.length by omega)).symm⟩
/-- the same curve, to whoever asks for values -/
def Like (ks ms : List (Int × Int)) : Prop := dLo ms = dLo ks ∧ dHi ms = dHi ks ∧ ∀ x, inDom ks x x = true → valN ms x = valN ks x ∧ valD ms x = valD ks x
theorem Like.refl (ks : List (Int × Int)) : Like ks ks := ⟨rfl, rfl, fun _ _ => ⟨rfl, rfl⟩⟩
theorem inDom_like {ks ms : List (Int × Int)} (h1 : dLo ms = dLo ks) (h2 : dHi ms = dHi ks) (x : Int) : inDom ms x x = inDom ks x x := by unfold inDom; rw [h1, h2]
theorem Like.trans {ks ms ns : List (Int × Int)} (h : Like ks ms) (k : Like ms ns) : Like ks ns :=
  ⟨k.1.trans h.1, k.2.1.trans h.2.1, fun x hx => by
    obtain ⟨a1, a2⟩ := h.2.2 x hx
    obtain ⟨b1, b2⟩ := k.2.2 x (by rw [inDom_like h.1 h.2.1]; exact hx)
    exact ⟨b1.trans a1, b2.trans a2⟩⟩
theorem Like.symm {ks ms : List (Int × Int)} (h : Like ks ms) : Like ms ks :=
  ⟨h.1.symm, h.2.1.symm, fun x hx => by
    obtain ⟨a1, a2⟩ := h.2.2 x (by rw [← inDom_like h.1 h.2.1]; exact hx)
    exact ⟨a1.symm, a2.symm⟩⟩
theorem Mid.val {A B : List (Int × Int)} {p q r : Int × Int} {e e' : Int} (h : Mid p q r) (v : Vd (A ++ p :: r :: B) e) (w : Vd (A ++ p :: q :: r :: B) e') : Like (A ++ p :: r :: B) (A ++ p :: q :: r :: B) := by
  have g0 : (A ++ p :: r :: B)[A.length]? = some p := by simp
  have g1 : (A ++ p :: r :: B)[A.length + 1]? = some r := by rw [show A ++ p :: r :: B = (A ++ [p]) ++ r :: B by simp, List.getElem?_append_right (by simp)]; simp
  have d1 : dLo (A ++ p :: q :: r :: B) = dLo (A ++ p :: r :: B) := by cases A <;> simp [dLo]
  have d2 : dHi (A ++ p :: q :: r :: B) = dHi (A ++ p :: r :: B) := by
    unfold dHi
    rw [← List.getLast?_eq_getElem?, ← List.getLast?_eq_getElem?]
    simp [List.getLast?_append, List.getLast?_cons]
  have hl : A.length + 1 < (A ++ p :: r :: B).length := by simp
  have k0 : kx (A ++ p :: r :: B) A.length = p.1 ∧ ky (A ++ p :: r :: B) A.length = p.2 := by unfold kx ky; rw [g0]; exact ⟨rfl, rfl⟩
  have k1 : kx (A ++ p :: r :: B) (A.length + 1) = r.1 ∧ ky (A ++ p :: r :: B) (A.length + 1) = r.2 := by unfold kx ky; rw [g1]; exact ⟨rfl, rfl⟩
  have hsub : (A ++ p :: r :: B).Sublist (A ++ p :: q :: r :: B) := List.Sublist.append_left ((List.sublist_cons_self q _).cons_cons p) A
  refine ⟨d1, d2, fun x hx => ?_⟩
  refine val_sub v w (fun z hz => ?_) (fun z hz _ _ => hsub.subset hz) (by rw [d1]; exact Int.le_refl _) (by rw [d2]; exact Int.le_refl _) (by rw [inDom_like d1 d2]; exact hx)
  by_cases hzq : z = q
  · subst hzq
    obtain ⟨h1, h2, h3⟩ := h
    have e1 := val_on v hl (x := z.1) (by rw [k0.1]; omega) (by rw [k1.1]; omega)
    have hR : 0 < runK (A ++ p :: r :: B) A.length := by unfold runK; rw [k0.1, k1.1]; omega
    obtain ⟨n1, n2⟩ := fr_uniq (val_gcd v z.1) (show Int.gcd z.2 1 = 1 by simp) (vD_pos v z.1) (by omega) (by
      refine Int.eq_of_mul_eq_mul_right (show runK (A ++ p :: r :: B) A.length ≠ 0 by omega) ?_
      unfold lineK riseK runK at e1
      unfold runK
      rw [k0.1, k0.2, k1.1, k1.2] at e1
      rw [k0.1, k1.1]
      generalize valN (A ++ p :: r :: B) z.1 = n at *
      generalize valD (A ++ p :: r :: B) z.1 = d at *
      clear hR hsub k0 k1 g0 g1 hl d1 d2 hx
      grind)
    exact ⟨n1.symm, n2⟩
  · refine own_mem v ?_
    simp only [List.mem_append, List.mem_cons] at hz ⊢
    grind
theorem asc_tri {x q r : Int × Int} {A l : List (Int × Int)} (h : Asc (A ++ x :: q :: r :: l)) : x.1 < q.1 ∧ q.1 < r.1 := by
  have := (List.pairwise_append.1 h).2.1
  obtain ⟨h1, h2⟩ := List.pairwise_cons.1 this
  exact ⟨h1 q (List.mem_cons_self ..), (List.pairwise_cons.1 h2).1 r (List.mem_cons_self ..)⟩
theorem mid_of {x q r : Int × Int} (h1 : x.1 < q.1) (h2 : q.1 < r.1) (h : bend3 x q r = false) : Mid x q r := ⟨h1, h2, by simpa [bend3] using h⟩
theorem thG_like : ∀ (n : Nat) (l : List (Int × Int)), l.length = n → ∀ (A : List (Int × Int)) (x : Int × Int) {e : Int}, Vd (A ++ x :: l) e → Vd (A ++ x :: thG x l) e ∧ Like (A ++ x :: l) (A ++ x :: thG x l)
  | 0, [], _, A, x, e, v => ⟨v, Like.refl _⟩
  | 1, [q], _, A, x, e, v => ⟨v, Like.refl _⟩
  | n + 2, q :: r :: l, hn, A, x, e, v => by
    have hasc := asc_tri (vd_asc v)
    rw [thG]
    by_cases hb : bend3 x q r = true
    · rw [if_pos hb]
      have v' : Vd ((A ++ [x]) ++ q :: r :: l) e := by simpa using v
      obtain ⟨h1, h2⟩ := thG_like (n + 1) (r :: l) (by simpa using hn) (A ++ [x]) q v'
      simp only [List.append_assoc, List.singleton_append] at h1 h2
      exact ⟨h1, h2⟩
    · rw [if_neg hb]
      have hm := mid_of hasc.1 hasc.2 (by simpa using hb)
      have v' : Vd (A ++ x :: r :: l) e := v.sub (List.Sublist.append_left ((List.sublist_cons_self q _).cons_cons x) A) (by simp)
      obtain ⟨h1, h2⟩ := thG_like (n + 1) (r :: l) (by simpa using hn) A x v'
      rw [hm.go]
      exact ⟨h1, (hm.val v' v).symm.trans h2⟩
theorem thin_like {ks : List (Int × Int)} {e : Int} (v : Vd ks e) : Vd (thinK ks) e ∧ Like ks (thinK ks) := by
  rw [thinK_thL]
  cases ks with
  | nil => exact absurd rfl v.ne
  | cons p l => exact thG_like l.length l rfl [] p v
/-! each one matters -/
def AllB : List (Int × Int) → Prop
  | p :: q :: r :: l => bend3 p q r = true ∧ AllB (q :: r :: l)
  | _ => True
theorem Mid.trans {q r s t : Int × Int} (h : Mid q r s) (k : Mid q s t) : Mid q r t := by
  obtain ⟨h1, h2, h3⟩ := h
  obtain ⟨k1, k2, k3⟩ := k
  refine ⟨h1, by omega, ?_⟩
  refine Int.eq_of_mul_eq_mul_right (show s.1 - q.1 ≠ 0 by omega) ?_
  grind
theorem thG_head : ∀ (l : List (Int × Int)) (q r : Int × Int), Asc (q :: r :: l) → ∃ s t, thG q (r :: l) = s :: t ∧ (s = r ∨ Mid q r s)
  | [], q, r, _ => ⟨r, [], rfl, .inl rfl⟩
  | r2 :: l, q, r, h => by
    have hasc := asc_tri (A := []) h
    rw [thG]
    by_cases hb : bend3 q r r2 = true
    · rw [if_pos hb]
      exact ⟨r, _, rfl, .inl rfl⟩
    · rw [if_neg hb]
      have hm := mid_of hasc.1 hasc.2 (by simpa using hb)
      have h' : Asc (q :: r2 :: l) := h.sublist ((List.sublist_cons_self r _).cons_cons q)
      obtain ⟨s, t, e1, e2⟩ := thG_head l q r2 h'
      rw [hm.go]
      refine ⟨s, t, e1, .inr ?_⟩
      rcases e2 with rfl | e2
      · exact hm
      · exact hm.trans e2
theorem thG_all : ∀ (n : Nat) (l : List (Int × Int)), l.length = n → ∀ (x : Int × Int), Asc (x :: l) → AllB (x :: thG x l)
  | 0, [], _, x, _ => trivial
  | 1, [q], _, x, _ => trivial
  | n + 2, q :: r :: l, hn, x, h => by
    have hasc := asc_tri (A := []) h
    rw [thG]
    by_cases hb : bend3 x q r = true
    · rw [if_pos hb]
      have h' : Asc (q :: r :: l) := (List.pairwise_cons.1 h).2
      obtain ⟨s, t, e1, e2⟩ := thG_head l q r h'
      have := thG_all (n + 1) (r :: l) (by simpa using hn) q h'
      rw [e1] at this ⊢
      refine ⟨?_, this⟩
      rcases e2 with rfl | e2
      · exact hb
      · rw [← e2.fore]; exact hb
    · rw [if_neg hb]
      have hm := mid_of hasc.1 hasc.2 (by simpa using hb)
      rw [hm.go]
      exact thG_all (n + 1) (r :: l) (by simpa using hn) x (h.sublist ((List.sublist_cons_self q _).cons_cons x))
theorem all_thG : ∀ (l : List (Int × Int)) (x : Int × Int), AllB (x :: l) → thG x l = l
  | [], _, _ => rfl
  | [_], _, _ => rfl
  | q :: r :: l, x, h => by rw [thG, if_pos h.1, all_thG (r :: l) q h.2]
theorem all_bend : ∀ (l : List (Int × Int)) (i : Nat), AllB l → i + 2 < l.length → bendAt l (i + 1) = true
  | [], _, _, h => by simp at h
  | [_], _, _, h => by simp at h
  | [_, _], i, _, h => absurd h (by simp)
  | p :: q :: r :: l, 0, h, _ => h.1
  | p :: q :: r :: l, i + 1, h, hi => by
    have := all_bend (q :: r :: l) i h.2 (by simpa using hi)
    exact this
theorem thin_all {ks : List (Int × Int)} {e : Int} (v : Vd ks e) : AllB (thinK ks) := by
  rw [thinK_thL]
  cases ks with
  | nil => exact absurd rfl v.ne
  | cons p l => exact thG_all l.length l rfl p (vd_asc v)
theorem thin_thin {ks : List (Int × Int)} {e : Int} (v : Vd ks e) : thinK (thinK ks) = thinK ks := by
  have h := thin_all v
  rw [thinK_thL (thinK ks)]
  cases hk : thinK ks with
  | nil => rfl
  | cons p l =>
    rw [hk] at h
    show p :: thG p l = p :: l
    rw [all_thG l p h]
/-! Refine -/
theorem has_dom {ks : List (Int × Int)} {x : Int} (h : hasKn ks x = true) : dLo ks ≤ x ∧ x ≤ dHi ks ∧ valD ks x = 1 := by
  simp only [hasKn, inDom, Bool.and_eq_true, decide_eq_true_eq, beq_iff_eq] at h
  exact ⟨h.1.1, h.1.2, h.2⟩
theorem has_bd {ks : List (Int × Int)} {e x : Int} (v : Vd ks e) (h : hasKn ks x = true) : -65536 ≤ valN ks x ∧ valN ks x ≤ 65536 := by
  obtain ⟨h1, h2, h3⟩ := has_dom h
  have hp := v.pos
  obtain ⟨i, hi⟩ := first_at (ks := ks) (x := x) (ks.length - 1) (by omega) h2
  have hlt := hi.lt
  by_cases hx : kx ks i = x
  · obtain ⟨a, _⟩ := own_val v hlt
    rw [hx] at a
    rw [a]
    exact ⟨by rw [ky_eq hlt]; exact v.y0 i hlt, by rw [ky_eq hlt]; exact v.y1 i hlt⟩
  · have hge := hi.ge
    have hpos : 0 < i := by
      rcases Nat.eq_zero_or_pos i with rfl | g
      · have : dLo ks = kx ks 0 := rfl
        omega
      · exact g
    obtain ⟨i, rfl⟩ : ∃ k, i = k + 1 := ⟨i - 1, by omega⟩
    have hb := hi.before i (by omega)
    have e1 := val_on v hlt (show kx ks i ≤ x by omega) hge
    rw [h3, Int.mul_one] at e1
    unfold lineK riseK runK at e1
    have p0 := v.y0 i (by omega)
    have p1 := v.y1 i (by omega)
    have q0 := v.y0 (i + 1) hlt
    have q1 := v.y1 (i + 1) hlt
    rw [← ky_eq (show i < ks.length by omega)] at p0 p1
    rw [← ky_eq hlt] at q0 q1
    generalize ky ks i = P at *
    generalize ky ks (i + 1) = Q at *
    generalize kx ks i = p at *
    generalize kx ks (i + 1) = q at *
    generalize valN ks x = n at *
    have ht : 0 ≤ x - p := by omega
    have hs : 0 ≤ q - x := by omega
    have m1 := Int.mul_le_mul_of_nonneg_right p1 hs
    have m2 := Int.mul_le_mul_of_nonneg_right q1 ht
    have m3 := Int.mul_le_mul_of_nonneg_right p0 hs
    have m4 := Int.mul_le_mul_of_nonneg_right q0 ht
    have e2 : n * (q - p) = P * (q - x) + Q * (x - p) := by rw [e1]; clear m1 m2 m3 m4; grind
    have e3 : 65536 * (q - x) + 65536 * (x - p) = 65536 * (q - p) := by omega
    have e4 : -65536 * (q - x) + -65536 * (x - p) = -65536 * (q - p) := by omega
    constructor
    · exact Int.le_of_mul_le_mul_right (show -65536 * (q - p) ≤ n * (q - p) by rw [e2, ← e4]; exact Int.add_le_add m3 m4) (by omega)
    · exact Int.le_of_mul_le_mul_right (show n * (q - p) ≤ 65536 * (q - p) by rw [e2, ← e3]; exact Int.add_le_add m1 m2) (by omega)
theorem asc_split (x : Int) : ∀ {l : List (Int × Int)}, Asc l → ∃ A B, l = A ++ B ∧ (∀ p ∈ A, p.1 < x) ∧ ∀ p ∈ B, x ≤ p.1
  | [], _ => ⟨[], [], rfl, by simp, by simp⟩
  | p :: l, h => by
    obtain ⟨h1, h2⟩ := List.pairwise_cons.1 h
    by_cases hp : p.1 < x
    · obtain ⟨A, B, e, a, b⟩ := asc_split x h2
      refine ⟨p :: A, B, by rw [e]; rfl, fun q hq => ?_, b⟩
      rcases List.mem_cons.1 hq with rfl | hq
      · exact hp
      · exact a q hq
    · refine ⟨[], p :: l, rfl, by simp, fun q hq => ?_⟩
      rcases List.mem_cons.1 hq with rfl | hq
      · omega
      · have := h1 q hq; omega
theorem mg_mem {ks qs : List (Int × Int)} {xs : List Int} {e : Int} (v : Vd ks e) (hq : Mg ks xs qs) (hall : ∀ x ∈ xs, hasKn ks x = true) {p : Int × Int} (hp : p ∈ qs) : p.2 = valN ks p.1 ∧ valD ks p.1 = 1 ∧ dLo ks ≤ p.1 ∧ p.1 ≤ dHi ks := by
  rcases (hq.2 p).1 hp with h | h
  · obtain ⟨a, b⟩ := own_mem v h
    obtain ⟨c, d⟩ := mem_dom v h
    exact ⟨a, b, c, d⟩
  · obtain ⟨x, hx, rfl⟩ := List.mem_map.1 h
    obtain ⟨a, b, c⟩ := has_dom (hall x hx)
    exact ⟨rfl, c, a, b⟩
theorem put_step {ks qs : List (Int × Int)} {xs : List Int} {e x : Int} (v : Vd ks e) (hq : Mg ks xs qs) (hall : ∀ y ∈ xs, hasKn ks y = true) (hx : hasKn ks x = true) : ∃ rs, Mg ks (xs ++ [x]) rs ∧ thL rs = thL qs := by
  have hmem : ∀ {rs : List (Int × Int)}, (∀ p, p ∈ rs ↔ p ∈ qs ∨ p = (x, valN ks x)) → ∀ p, p ∈ rs ↔ p ∈ ks ∨ p ∈ newK ks (xs ++ [x]) := fun h p => by
    rw [h, hq.2, newK, newK, List.map_append, List.mem_append]
    simp [or_assoc]
  by_cases hin : (x, valN ks x) ∈ qs
  · refine ⟨qs, ⟨hq.1, hmem fun p => ⟨.inl, ?_⟩⟩, rfl⟩
    rintro (h | rfl)
    · exact h
    · exact hin
  have hne : ∀ p ∈ qs, p.1 ≠ x := fun p hp hc => hin (by
    have := (mg_mem v hq hall hp).1
    have : p = (x, valN ks x) := Prod.ext hc (by rw [this, hc])
    rw [← this]; exact hp)
  obtain ⟨A, B, hAB, hA, hB⟩ := asc_split x hq.1
  have hB' : ∀ p ∈ B, x < p.1 := fun p hp => by
    have h1 := hB p hp
    have h2 := hne p (by rw [hAB]; exact List.mem_append_right _ hp)
    omega
  obtain ⟨h1, h2, h3⟩ := has_dom hx
  have hAne : A ≠ [] := by
    rintro rfl
    obtain ⟨p, hp, e1⟩ := dLo_mem v.ne
    have := hB' p (by have := (hq.2 p).2 (.inl hp); rw [hAB] at this; simpa using this)
    omega
  have hBne : B ≠ [] := by
    rintro rfl
    obtain ⟨p, hp, e1⟩ := dHi_mem v.ne
    have := hA p (by have := (hq.2 p).2 (.inl hp); rw [hAB] at this; simpa using this)
    omega
  obtain ⟨A', p, rfl⟩ : ∃ A' p, A = A' ++ [p] := ⟨A.dropLast, A.getLast hAne, (List.dropLast_concat_getLast hAne).symm⟩
  obtain ⟨r, B', rfl⟩ : ∃ r B', B = r :: B' := by
    cases B with
    | nil => exact absurd rfl hBne
    | cons r B' => exact ⟨r, B', rfl⟩
  have hpm : p ∈ qs := by rw [hAB]; simp
  have hrm : r ∈ qs := by rw [hAB]; simp
  have hpx := hA p (by simp)
  have hxr := hB' r (by simp)
  obtain ⟨p1, p2, p3, p4⟩ := mg_mem v hq hall hpm
  obtain ⟨r1, r2, r3, r4⟩ := mg_mem v hq hall hrm
  have hasc := hq.1
  rw [hAB] at hasc
  obtain ⟨a1, a2, a3⟩ := List.pairwise_append.1 hasc
  have hno : ∀ k ∈ ks, ¬ (p.1 < k.1 ∧ k.1 < r.1) := by
    rintro k hk ⟨c1, c2⟩
    have hk' := (hq.2 k).2 (.inl hk)
    rw [hAB, List.mem_append, List.mem_append, List.mem_singleton, List.mem_cons] at hk'
    rcases hk' with (h | rfl) | (rfl | h)
    · have := (List.pairwise_append.1 a1).2.2 k h p (by simp); omega
    · omega
    · omega
    · have := (List.pairwise_cons.1 a2).1 k h; omega
  obtain ⟨j, hj, j1, j2⟩ := pieceAt v (show p.1 < r.1 by omega) p3 r4 hno
  have e1 := val_on v hj j1 (show p.1 ≤ kx ks (j + 1) by omega)
  have e2 := val_on v hj (show kx ks j ≤ r.1 by omega) j2
  have e3 := val_on v hj (show kx ks j ≤ x by omega) (show x ≤ kx ks (j + 1) by omega)
  rw [← p1, p2] at e1
  rw [← r1, r2] at e2
  rw [h3] at e3
  have hR : 0 < runK ks j := by have := v.klt (show j < j + 1 by omega) hj; unfold runK; omega
  have hm : Mid p (x, valN ks x) r := by
    refine ⟨hpx, hxr, ?_⟩
    show (valN ks x - p.2) * (r.1 - x) = (r.2 - valN ks x) * (x - p.1)
    refine Int.eq_of_mul_eq_mul_right (show runK ks j ≠ 0 by omega) ?_
    unfold lineK at e1 e2 e3
    generalize riseK ks j = b at *
    generalize runK ks j = R at *
    generalize valN ks x = y at *
    generalize ky ks j = P at *
    generalize kx ks j = q at *
    clear hR hno a1 a2 a3 hasc hAB hA hB hB' hmem hin hne hx hall hq hpm hrm p1 r1 p2 r2 hpx hxr
    grind
  refine ⟨A' ++ p :: (x, valN ks x) :: r :: B', ⟨?_, hmem fun z => ?_⟩, ?_⟩
  · have : A' ++ p :: (x, valN ks x) :: r :: B' = (A' ++ [p]) ++ (x, valN ks x) :: r :: B' := by simp
    rw [this]
    refine List.pairwise_append.2 ⟨a1, List.pairwise_cons.2 ⟨hB', a2⟩, fun z hz y hy => ?_⟩
    rcases List.mem_cons.1 hy with rfl | hy
    · exact hA z hz
    · exact a3 z hz y hy
  · rw [hAB]
    simp only [List.mem_append, List.mem_cons, List.not_mem_nil, or_false]
    grind
  · rw [hm.insL, hAB]
    congr 1
    simp
theorem put_all {ks : List (Int × Int)} {e : Int} (v : Vd ks e) : ∀ (ys xs : List Int) (qs : List (Int × Int)), Mg ks xs qs → thL qs = thL ks → (∀ y ∈ xs ++ ys, hasKn ks y = true) → ∃ rs, Mg ks (xs ++ ys) rs ∧ thL rs = thL ks
  | [], xs, qs, h, ht, _ => ⟨qs, by rw [List.append_nil]; exact h, ht⟩
  | y :: ys, xs, qs, h, ht, hall => by
    obtain ⟨rs, h1, h2⟩ := put_step v h (fun z hz => hall z (by simp [hz])) (hall y (by simp))
    obtain ⟨ns, h3, h4⟩ := put_all v ys (xs ++ [y]) rs h1 (h2.trans ht) (fun z hz => hall z (by simpa using hz))
    exact ⟨ns, by simpa using h3, h4⟩
theorem all_of {ks : List (Int × Int)} {xs : List Int} (h : ¬ allK ks xs = false) : ∀ x ∈ xs, hasKn ks x = true := by
  have : allK ks xs = true := by simpa using h
  exact List.all_eq_true.1 this
theorem merge_thin {ks : List (Int × Int)} {xs : List Int} {e : Int} (v : Vd ks e) (h : ∀ x ∈ xs, hasKn ks x = true) : thinK (mergeK ks xs) = thinK ks := by
  obtain ⟨rs, h1, h2⟩ := put_all v xs [] ks (Mg.nil v) rfl h
  have := h1.uniq v
  rw [List.nil_append] at this
  rw [thinK_thL, thinK_thL, ← this]
  exact h2
theorem merge_vd {ks : List (Int × Int)} {xs : List Int} {e : Int} (v : Vd ks e) (h : ∀ x ∈ xs, hasKn ks x = true) (hl : (mergeK ks xs).length ≤ 40) : Vd (mergeK ks xs) e := by
  have hm := mergeK_mg v xs
  refine vd_of (fun hn => ?_) hl v.e0 v.e1 hm.1 fun p hp => ?_
  · obtain ⟨p, hp, _⟩ := dLo_mem v.ne
    have := (hm.2 p).2 (.inl hp)
    rw [hn] at this
    cases this
  · rcases (hm.2 p).1 hp with h1 | h1
    · exact v.mem h1
    · obtain ⟨x, hx, rfl⟩ := List.mem_map.1 h1
      obtain ⟨a, b, c⟩ := has_dom (h x hx)
      obtain ⟨d, f⟩ := has_bd v (h x hx)
      obtain ⟨p, hp, e1⟩ := dLo_mem v.ne
      obtain ⟨q, hq, e2⟩ := dHi_mem v.ne
      have := (v.mem hp).1
      have := (v.mem hq).2.1
      exact ⟨by simp only; omega, by simp only; omega, d, f⟩
theorem merge_val {ks : List (Int × Int)} {xs : List Int} {e : Int} (v : Vd ks e) (h : ∀ x ∈ xs, hasKn ks x = true) (hl : (mergeK ks xs).length ≤ 40) {x : Int} (hx : inDom (mergeK ks xs) x x = true) : valN (mergeK ks xs) x = valN ks x ∧ valD (mergeK ks xs) x = valD ks x := by
  have hm := mergeK_mg v xs
  have w := merge_vd v h hl
  refine val_sub v w (fun p hp => ?_) (fun p hp _ _ => (hm.2 p).2 (.inl hp)) ?_ ?_ hx
  · obtain ⟨a, b, _⟩ := mg_mem v hm h hp
    exact ⟨a, b⟩
  · obtain ⟨p, hp, e1⟩ := dLo_mem w.ne
    have := (mg_mem v hm h hp).2.2.1
    omega
  · obtain ⟨p, hp, e1⟩ := dHi_mem w.ne
    have := (mg_mem v hm h hp).2.2.2
    omega
/-! Cut -/
theorem cut_ends {ks : List (Int × Int)} {lo hi : Int} (hlh : lo ≤ hi) : dLo (newK ks (corX ks lo hi)) = lo ∧ dHi (newK ks (corX ks lo hi)) = hi ∧ newK ks (corX ks lo hi) ≠ [] ∧ Asc (newK ks (corX ks lo hi)) := by
  have ha : Asc (newK ks (corX ks lo hi)) := by
    unfold Asc newK
    rw [List.pairwise_map]
    exact corX_asc ks lo hi
  have hlo : (lo, valN ks lo) ∈ newK ks (corX ks lo hi) := List.mem_map.2 ⟨lo, corX_iff.2 (.inl rfl), rfl⟩
  have hhi : (hi, valN ks hi) ∈ newK ks (corX ks lo hi) := List.mem_map.2 ⟨hi, corX_iff.2 (.inr (.inl rfl)), rfl⟩
  have hb : ∀ p ∈ newK ks (corX ks lo hi), lo ≤ p.1 ∧ p.1 ≤ hi := fun p hp => by
    obtain ⟨x, hx, rfl⟩ := List.mem_map.1 hp
    rcases corX_iff.1 hx with rfl | rfl | ⟨k, _, h1, h2, rfl⟩ <;> simp only <;> omega
  have hne : newK ks (corX ks lo hi) ≠ [] := fun h => by rw [h] at hlo; cases hlo
  generalize newK ks (corX ks lo hi) = ms at *
  have hp : 0 < ms.length := List.length_pos_iff.2 hne
  refine ⟨?_, ?_, hne, ha⟩
  · obtain ⟨i, hi', e⟩ := List.getElem_of_mem hlo
    have h1 := (hb ms[0] (List.getElem_mem hp)).1
    have e0 : dLo ms = ms[0].1 := kx_eq hp
    rcases Nat.eq_zero_or_pos i with rfl | g
    · rw [e0, e]
    · have := asc_get ha g hi'
      rw [e] at this
      simp only at this
      omega
  · obtain ⟨i, hi', e⟩ := List.getElem_of_mem hhi
    have h1 := (hb ms[ms.length - 1] (List.getElem_mem (by omega))).2
    have e0 : dHi ms = ms[ms.length - 1].1 := kx_eq (show ms.length - 1 < ms.length by omega)
    by_cases g : i = ms.length - 1
    · subst g
      rw [e0, e]
    · have := asc_get ha (show i < ms.length - 1 by omega) (by omega)
      rw [e] at this
      simp only at this
      omega
theorem cut_vd {ks : List (Int × Int)} {e lo hi : Int} (v : Vd ks e) (hlh : lo ≤ hi) (h : ∀ x ∈ corX ks lo hi, hasKn ks x = true) (hl : (corX ks lo hi).length ≤ 40) : Vd (newK ks (corX ks lo hi)) e := by
  obtain ⟨_, _, h3, h4⟩ := cut_ends (ks := ks) hlh
  refine vd_of h3 (by unfold newK; rw [List.length_map]; exact hl) v.e0 v.e1 h4 fun p hp => ?_
  obtain ⟨x, hx, rfl⟩ := List.mem_map.1 hp
  obtain ⟨a, b, c⟩ := has_dom (h x hx)
  obtain ⟨d, f⟩ := has_bd v (h x hx)
  obtain ⟨p, hp, e1⟩ := dLo_mem v.ne
  obtain ⟨q, hq, e2⟩ := dHi_mem v.ne
  have := (v.mem hp).1
  have := (v.mem hq).2.1
  exact ⟨by simp only; omega, by simp only; omega, d, f⟩
theorem cut_val {ks : List (Int × Int)} {e lo hi : Int} (v : Vd ks e) (hlh : lo ≤ hi) (hd : inDom ks lo hi = true) (h : ∀ x ∈ corX ks lo hi, hasKn ks x = true) (hl : (corX ks lo hi).length ≤ 40) {x : Int} (hx : inDom (newK ks (corX ks lo hi)) x x = true) : valN (newK ks (corX ks lo hi)) x = valN ks x ∧ valD (newK ks (corX ks lo hi)) x = valD ks x := by
  obtain ⟨h1, h2, h3, h4⟩ := cut_ends (ks := ks) hlh
  simp only [inDom, Bool.and_eq_true, decide_eq_true_eq] at hd
  refine val_sub v (cut_vd v hlh h hl) (fun p hp => ?_) (fun p hp c1 c2 => ?_) (by omega) (by omega) hx
  · obtain ⟨x, hx, rfl⟩ := List.mem_map.1 hp
    exact ⟨rfl, (has_dom (h x hx)).2.2⟩
  · have hp2 := (own_mem v hp).1
    have e1 : p = (p.1, valN ks p.1) := Prod.ext rfl hp2
    rw [e1]
    refine List.mem_map.2 ⟨p.1, corX_iff.2 ?_, rfl⟩
    by_cases g1 : p.1 = lo
    · exact .inl g1
    by_cases g2 : p.1 = hi
    · exact .inr (.inl g2)
    exact .inr (.inr ⟨p, hp, by omega, by omega, rfl⟩)
/-! sums -/
theorem sum_at {ka kb : List (Int × Int)} {t : Int} {n i : Nat} (h : i < n) : kx (sumK ka kb t n) i = kx ka i ∧ ky (sumK ka kb t n) i = ky ka i + t * ky kb i := by
  have : (sumK ka kb t n)[i]? = some (kx ka i, ky ka i + t * ky kb i) := by simp [sumK, h]
  unfold kx ky
  rw [this]
  exact ⟨rfl, rfl⟩
theorem sum_back {ka kb : List (Int × Int)} : sumK (sumK ka kb 1 ka.length) kb (-1) ka.length = ka := by
  apply List.ext_getElem (by rw [sumK_len])
  intro i h1 h2
  have e1 := sum_at (ka := sumK ka kb 1 ka.length) (kb := kb) (t := -1) h2
  have e2 := sum_at (ka := ka) (kb := kb) (t := 1) h2
  rw [kx_eq h1, ky_eq h1, e2.1, e2.2, kx_eq h2, ky_eq h2] at e1
  exact Prod.ext e1.1 (by rw [e1.2]; omega)
theorem sum_dom {ka kb : List (Int × Int)} {t : Int} (hp : 0 < ka.length) : dLo (sumK ka kb t ka.length) = dLo ka ∧ dHi (sumK ka kb t ka.length) = dHi ka := by
  refine ⟨(sum_at hp).1, ?_⟩
  unfold dHi
  rw [sumK_len]
  exact (sum_at (show ka.length - 1 < ka.length by omega)).1
theorem sum_val {ka kb : List (Int × Int)} {ea eb es x : Int} (va : Vd ka ea) (vb : Vd kb eb) (vs : Vd (sumK ka kb 1 ka.length) es) (hs : sameX ka kb = true) (hx : inDom ka x x = true) :
    valN (sumK ka kb 1 ka.length) x * valD ka x * valD kb x = (valN ka x * valD kb x + valN kb x * valD ka x) * valD (sumK ka kb 1 ka.length) x := by
  obtain ⟨hl, hxs⟩ := sameX_iff.1 hs
  simp only [inDom, Bool.and_eq_true, decide_eq_true_eq] at hx
  have hp := va.pos
  obtain ⟨i, hi⟩ := first_at (ks := ka) (x := x) (ka.length - 1) (by omega) hx.2
  have hlt := hi.lt
  have hge := hi.ge
  have hx0 : kx ka 0 ≤ x := hx.1
  by_cases hxe : kx ka i = x
  · obtain ⟨a1, a2⟩ := own_val va hlt
    obtain ⟨b1, b2⟩ := own_val vb (show i < kb.length by omega)
    obtain ⟨c1, c2⟩ := own_val vs (show i < (sumK ka kb 1 ka.length).length by rw [sumK_len]; exact hlt)
    obtain ⟨s1, s2⟩ := sum_at (ka := ka) (kb := kb) (t := 1) hlt
    rw [s1, s2] at c1
    rw [s1] at c2
    rw [← hxs i hlt] at b1 b2
    rw [hxe] at a1 a2 b1 b2 c1 c2
    rw [a1, a2, b1, b2, c1, c2]
    omega
  · have hpos : 0 < i := by
      rcases Nat.eq_zero_or_pos i with rfl | g
      · omega
      · exact g
    obtain ⟨i, rfl⟩ : ∃ k, i = k + 1 := ⟨i - 1, by omega⟩
    have hb := hi.before i (by omega)
    have hl0 : i < ka.length := by omega
    obtain ⟨s1, s2⟩ := sum_at (ka := ka) (kb := kb) (t := 1) hlt
    obtain ⟨s3, s4⟩ := sum_at (ka := ka) (kb := kb) (t := 1) hl0
    have e1 := val_on va hlt (show kx ka i ≤ x by omega) hge
    have e2 := val_on vb (show i + 1 < kb.length by omega) (show kx kb i ≤ x by rw [← hxs i hl0]; omega) (show x ≤ kx kb (i + 1) by rw [← hxs (i + 1) hlt]; exact hge)
    have e3 := val_on vs (show i + 1 < (sumK ka kb 1 ka.length).length by rw [sumK_len]; exact hlt) (x := x) (by rw [s3]; omega) (by rw [s1]; exact hge)
    unfold lineK riseK runK at e1 e2 e3
    rw [s1, s2, s3, s4] at e3
    rw [← hxs i hl0, ← hxs (i + 1) hlt] at e2
    have hR : kx ka (i + 1) - kx ka i ≠ 0 := by omega
    refine Int.eq_of_mul_eq_mul_right hR ?_
    generalize valN (sumK ka kb 1 ka.length) x = N at *
    generalize valD (sumK ka kb 1 ka.length) x = D at *
    generalize valN ka x = n at *
    generalize valD ka x = d at *
    generalize valN kb x = m at *
    generalize valD kb x = f at *
    generalize kx ka (i + 1) = q at *
    generalize kx ka i = p at *
    generalize ky ka (i + 1) = Y at *
    generalize ky ka i = Z at *
    generalize ky kb (i + 1) = S at *
    generalize ky kb i = T at *
    clear hi hlt hge hx hx0 hxe hpos hb hl0 s1 s2 s3 s4 hR hxs hl va vb vs hs hp
    grind
/-! the corners are few -/
theorem inner_len {ks : List (Int × Int)} {e lo hi : Int} (v : Vd ks e) (hlt : lo < hi) (h0 : dLo ks ≤ lo) (h1 : hi ≤ dHi ks) : (innerX lo hi ks).length + 2 ≤ ks.length := by
  unfold innerX
  rw [List.length_map]
  cases ks with
  | nil => exact absurd rfl v.ne
  | cons p l =>
    have e0 : dLo (p :: l) = p.1 := rfl
    rw [List.filter_cons_of_neg (p := fun k : Int × Int => decide (lo < k.1) && decide (k.1 < hi)) (a := p) (by simp; omega)]
    have hl : l ≠ [] := by
      rintro rfl
      have e1 : dHi [p] = p.1 := rfl
      omega
    obtain ⟨m, q, rfl⟩ : ∃ m q, l = m ++ [q] := ⟨l.dropLast, l.getLast hl, (List.dropLast_concat_getLast hl).symm⟩
    have e1 : dHi (p :: (m ++ [q])) = q.1 := by
      unfold dHi
      rw [← List.getLast?_eq_getElem?]
      simp [List.getLast?_cons]
    rw [List.filter_append, List.filter_cons_of_neg (p := fun k : Int × Int => decide (lo < k.1) && decide (k.1 < hi)) (a := q) (by simp; omega), List.filter_nil, List.append_nil]
    have := List.length_filter_le (fun k : Int × Int => decide (lo < k.1) && decide (k.1 < hi)) m
    simp
    omega
theorem corX_len {ks : List (Int × Int)} {e lo hi : Int} (v : Vd ks e) (hlh : lo ≤ hi) (hd : inDom ks lo hi = true) : (corX ks lo hi).length ≤ 40 := by
  simp only [inDom, Bool.and_eq_true, decide_eq_true_eq] at hd
  have h1 := uniq_len (sortX (rawX lo hi [⟨none, 0, ks, 0⟩]))
  rw [sortX_len] at h1
  have h2 : (rawX lo hi [⟨none, 0, ks, 0⟩]).length = 2 + (innerX lo hi ks).length := by simp [rawX]; omega
  have h3 : (corX ks lo hi).length ≤ 2 + (innerX lo hi ks).length := by unfold corX cornX; omega
  have h4 := v.le
  by_cases e : lo = hi
  · have : innerX lo hi ks = [] := by
      unfold innerX
      rw [List.filter_eq_nil_iff.2 (fun a _ => by simp; omega)]
      rfl
    rw [this] at h3
    simp at h3
    omega
  · have := inner_len v (show lo < hi by omega) hd.1 hd.2
    omega
end Go.Proofs.YtbhklifflhoinaaGreat
