/- Plain facts of waters minute by minute: a cycle's place and how long it stays; what is added up in a minute. No walk. -/
import Derived.Test.YtekpffjcffeanaaUp
namespace Go.Proofs.Ytekpffjcffeanaa

/-- which height a cycle has in a minute, and for how many minutes it stays from then on -/
def kS (c : Cy) (t : Int) : Int := ((t - c.bg) / c.ev) % (c.hs.length : Int)
def lS (c : Cy) (t : Int) : Int := c.ev - (t - c.bg) % c.ev
theorem kS_bd {c : Cy} (k : CyOk c) (t : Int) : 0 ≤ kS c t ∧ kS c t < c.hs.length := by
  have h1 := k.n1
  exact ⟨Int.emod_nonneg _ (by omega), Int.emod_lt_of_pos _ (by omega)⟩
theorem lS_bd {c : Cy} (k : CyOk c) (t : Int) : 1 ≤ lS c t ∧ lS c t ≤ c.ev := by
  have h1 := k.ev1
  have h2 := Int.emod_nonneg (t - c.bg) (show c.ev ≠ 0 by omega)
  have h3 := Int.emod_lt_of_pos (t - c.bg) (show 0 < c.ev by omega)
  unfold lS
  omega
/-- the state behind a division once -/
theorem kS_phase {c : Cy} (k : CyOk c) (t : Int) : ((t - c.bg) % (c.ev * (c.hs.length : Int))) / c.ev = kS c t := phase_eq (by have := k.ev1; omega) (by have := k.n1; omega)
theorem lS_phase {c : Cy} (t : Int) : c.ev - ((t - c.bg) % (c.ev * (c.hs.length : Int))) % c.ev = lS c t := by
  unfold lS
  rw [Int.emod_emod_of_dvd _ (Int.dvd_mul_right _ _)]
theorem step_eq {x e : Int} (he : 0 < e) : (x % e + 1 = e → (x + 1) / e = x / e + 1 ∧ (x + 1) % e = 0) ∧ (x % e + 1 < e → (x + 1) / e = x / e ∧ (x + 1) % e = x % e + 1) := by
  have h1 := Int.mul_ediv_add_emod x e
  have r1 := Int.emod_nonneg x (show e ≠ 0 by omega)
  constructor
  · intro h
    have e1 : x + 1 = e * (x / e + 1) := by rw [Int.mul_add]; omega
    rw [e1]
    exact ⟨Int.mul_ediv_cancel_left _ (by omega), Int.mul_emod_right _ _⟩
  · intro h
    have e1 : x + 1 = (x % e + 1) + e * (x / e) := by omega
    constructor
    · rw [e1, Int.add_mul_ediv_left _ _ (by omega), Int.ediv_eq_zero_of_lt (by omega) h]; omega
    · rw [e1, Int.add_mul_emod_self_left, Int.emod_eq_of_lt (by omega) h]
theorem next_turn {c : Cy} (k : CyOk c) {t : Int} (h : lS c t - 1 = 0) : kS c (t + 1) = (kS c t + 1) % (c.hs.length : Int) ∧ lS c (t + 1) = c.ev := by
  have he := k.ev1
  have hn := k.n1
  obtain ⟨h1, h2⟩ := (step_eq (x := t - c.bg) (e := c.ev) (by omega)).1 (by unfold lS at h; omega)
  unfold kS lS
  rw [show t + 1 - c.bg = t - c.bg + 1 by omega, h1, h2]
  exact ⟨(Int.emod_add_emod _ _ _).symm, by omega⟩
theorem next_stay {c : Cy} (k : CyOk c) {t : Int} (h : lS c t - 1 ≠ 0) : kS c (t + 1) = kS c t ∧ lS c (t + 1) = lS c t - 1 := by
  have he := k.ev1
  have hb := lS_bd k t
  obtain ⟨h1, h2⟩ := (step_eq (x := t - c.bg) (e := c.ev) (by omega)).2 (by unfold lS at h hb; omega)
  unfold kS lS
  rw [show t + 1 - c.bg = t - c.bg + 1 by omega, h1, h2]
  exact ⟨rfl, by omega⟩
/-- what is added up in a minute: the correction, the first k cycles, then zeros -/
def addK (cs : List Cy) (ss : List Sh) (t : Int) (k : Nat) : List Int := corD (t / 1440) ss :: ((cs.take k).map fun c => valC c t) ++ List.replicate (6 - k) 0
def addA (cs : List Cy) (ss : List Sh) (t : Int) : List Int := addK cs ss t cs.length
theorem addK_len {cs : List Cy} {ss : List Sh} {t : Int} {k : Nat} (h : k ≤ cs.length) (h6 : k ≤ 6) : (addK cs ss t k).length = 7 := by
  unfold addK
  simp
  omega
theorem addK_set {cs : List Cy} {ss : List Sh} {t : Int} {k : Nat} (h : k < cs.length) (h6 : cs.length ≤ 6) : (addK cs ss t k).set (k + 1) (valC (nthC cs k) t) = addK cs ss t (k + 1) := by
  unfold addK
  rw [List.take_succ_eq_append_getElem h, List.map_append, nthC_eq h]
  rw [List.set_append_right _ _ (by simp; omega)]
  have e1 : k + 1 - (corD (t / 1440) ss :: ((cs.take k).map fun c => valC c t)).length = 0 := by simp; omega
  rw [e1, show 6 - k = (6 - (k + 1)) + 1 by omega, List.replicate_succ, List.set_cons_zero]
  simp
theorem addA_sum {cs : List Cy} {ss : List Sh} {t : Int} : (addA cs ss t).foldl (· + ·) 0 = bareV cs ss t := by
  have hz : ∀ (n : Nat) (x : Int), (List.replicate n (0 : Int)).foldl (· + ·) x = x := fun n => by
    induction n with
    | zero => intro x; rfl
    | succ n ih => intro x; rw [List.replicate_succ, List.foldl_cons, ih]; omega
  have hs : ∀ (l : List Int) (x : Int), l.foldl (· + ·) x = x + l.foldl (· + ·) 0 := fun l => by
    induction l with
    | nil => intro x; simp
    | cons y l ih => intro x; rw [List.foldl_cons, List.foldl_cons, ih (x + y), ih (0 + y)]; omega
  unfold addA addK bareV sumV
  rw [List.foldl_append, hz, List.foldl_cons, hs]
  omega
theorem addA_bd {cs : List Cy} {ss : List Sh} {t : Int} (hc : ∀ c ∈ cs, CyOk c) (hs : ∀ s ∈ ss, -4000 ≤ s.ad ∧ s.ad ≤ 4000) : ∀ x ∈ addA cs ss t, -4000 ≤ x ∧ x ≤ 4000 := by
  intro x hx
  unfold addA addK at hx
  rcases List.mem_append.1 hx with hx | hx
  · rcases List.mem_cons.1 hx with rfl | hx
    · exact corD_bd hs
    · obtain ⟨c, h1, rfl⟩ := List.mem_map.1 hx
      exact valC_bd (hc c (List.mem_of_mem_take h1)) t
  · have := List.eq_of_mem_replicate hx
    omega
/-- ids that differ -/
theorem chkC_nodup : ∀ {cs : List Cy} {seen : List Int}, chkC seen cs = 0 → (ids cs).Nodup ∧ ∀ x ∈ ids cs, x ∉ seen
  | [], _, _ => ⟨List.nodup_nil, fun _ h => by cases h⟩
  | c :: r, seen, h => by
    unfold chkC at h
    split at h
    · cases h
    · split at h
      · cases h
      · rename_i h2
        obtain ⟨h3, h4⟩ := chkC_nodup h
        refine ⟨List.nodup_cons.2 ⟨fun q => h4 _ q (by simp), h3⟩, fun x hx => ?_⟩
        rcases List.mem_cons.1 hx with rfl | hx
        · exact h2
        · intro q
          exact h4 x hx (List.mem_append.2 (.inl q))
/-- the error of a water, then that of the minutes in which it is looked at -/
def minR (level : Int) (cs : List Cy) (ss : List Sh) (lo hi : Int) : Int :=
  if chkW level cs ss ≠ 0 then chkW level cs ss else if (decide (0 ≤ lo) && decide (lo ≤ 1048576)) = false ∨ (decide (0 ≤ hi) && decide (hi ≤ 1048576)) = false ∨ hi < lo then 1 else if 10080 < hi - lo + 1 then 2 else 0
structure MinOk (level : Int) (cs : List Cy) (ss : List Sh) (lo hi : Int) : Prop where
  w : WOk level cs ss
  l1 : 0 ≤ lo
  le : lo ≤ hi
  h2 : hi ≤ 1048576
  n : hi - lo < 10080
theorem minR_ok {level : Int} {cs : List Cy} {ss : List Sh} {lo hi : Int} (h : minR level cs ss lo hi = 0) : MinOk level cs ss lo hi := by
  unfold minR at h
  split at h
  · rename_i h1; exact absurd h h1
  · rename_i h1
    split at h
    · cases h
    · rename_i h2
      split at h
      · cases h
      · simp at h2 h1
        exact ⟨chkW_ok h1, by omega, by omega, by omega, by omega⟩
end Go.Proofs.Ytekpffjcffeanaa
