/- What Both is: plain facts for CurveTruth. -/
import Derived.Test.YtcaemeedmnpdjaaBt
import Derived.Test.YtcaemeedmnpdjaaCz
import Derived.Test.YtcaemeedmnpdjaaAt
namespace Go.Proofs.Ytcaemeedmnpdjaa
open Go.Proofs.Ytcaemeedmnpdjaa.Ev

def loA (x : Int) (c : Cv) : Int × Int := (enOf x c).1
def hiA (x : Int) (c : Cv) : Int × Int := (enOf x c).2
/-- all curves of a list are valid, and known at x -/
structure AllAt (l : List Cv) (x : Int) : Prop where
  le : l.length ≤ 12
  vd : ∀ i (hi : i < l.length), Vd l[i].ks l[i].err
  dom : ∀ i (hi : i < l.length), inDom l[i].ks x x = true
theorem allAt_of {l : List Cv} {x : Int} (h : sheafErr (l.map Cv.c) x = 0) : AllAt l x ∧ 0 < l.length := by
  unfold sheafErr at h
  split at h
  · contradiction
  rename_i h1
  split at h
  · contradiction
  rename_i h2
  split at h
  · cases h
  rename_i h3
  obtain ⟨a, b⟩ := vd_of_sheaf (l := l) (by simpa using h1)
  exact ⟨⟨a, b, sheaf_dom (by simpa using h2)⟩, by simp at h3; exact List.length_pos_iff.2 h3⟩
theorem chkL_zero {l : List Cv} (h : ∀ i (hi : i < l.length), Vd l[i].ks l[i].err) : chkL (l.map Cv.c) = 0 := by
  induction l with
  | nil => rfl
  | cons c l ih =>
    have h0 := (h 0 (by simp)).chk
    simp only [List.getElem_cons_zero] at h0
    simp only [List.map_cons, chkL, Cv.c, h0, if_true]
    exact ih fun i hi => by have := h (i + 1) (by simpa using hi); simpa using this
theorem sheafErr_zero_of {l : List Cv} {x : Int} (k : AllAt l x) (hp : 0 < l.length) : sheafErr (l.map Cv.c) x = 0 := by
  have h1 : chkSheaf (l.map Cv.c) = 0 := by
    unfold chkSheaf
    rw [if_neg (by have := k.le; simp; omega)]
    exact chkL_zero k.vd
  have h2 : chkOn (l.map Cv.c) x x = 0 := by
    unfold chkOn
    rw [if_neg (by omega), if_pos]
    unfold covL
    rw [List.all_eq_true]
    intro c hc
    obtain ⟨d, hd, rfl⟩ := List.mem_map.1 hc
    obtain ⟨i, hi, rfl⟩ := List.getElem_of_mem hd
    exact k.dom i hi
  unfold sheafErr
  rw [if_neg (by simp [h1]), if_neg (by simp [h2]), if_neg (by simp; intro e; subst e; simp at hp)]
theorem bestIx_map {lt : Int × Int → Int × Int → Bool} (p : EnT → Int × Int) (hp : p ((0, 0), (0, 0)) = (0, 0)) (es : List EnT) (k : Nat) : bestIx (fun a b => lt (p a) (p b)) ((0, 0), (0, 0)) es k = bestIx lt (0, 0) (es.map p) k := by
  rw [best_map lt p, hp]
/-- the greatest of the least values, and the least of the greatest ones -/
structure BothIs (l : List Cv) (x : Int) (I J : Nat) : Prop where
  hI : I < l.length
  hJ : J < l.length
  lo : ∀ j (hj : j < l.length), moreF (loA x l[j]) (loA x l[I]) = false
  hi : ∀ j (hj : j < l.length), lessF (hiA x l[j]) (hiA x l[J]) = false
  eq : bothR l x = if moreF (loA x l[I]) (hiA x l[J]) = true then ⟨0, 0, 0, 0, 9⟩ else ⟨(loA x l[I]).1, (loA x l[I]).2, (hiA x l[J]).1, (hiA x l[J]).2, 0⟩
theorem both_is {l : List Cv} {x : Int} (k : AllAt l x) (hp : 0 < l.length) : ∃ I J, BothIs l x I J := by
  have hpos : ∀ i (hi : i < l.length), 0 < valD l[i].ks x := fun i hi => (val_bd (k.vd i hi) (k.dom i hi)).2.2.1
  have hL : ∀ j (hj : j < l.length), ((l.map (enOf x)).map (·.1))[j]?.getD (0, 0) = loA x l[j] := fun j hj => by simp [hj, loA]
  have hH : ∀ j (hj : j < l.length), ((l.map (enOf x)).map (·.2))[j]?.getD (0, 0) = hiA x l[j] := fun j hj => by simp [hj, hiA]
  obtain ⟨a1, a2, _⟩ := best_char moreF_ok (fs := (l.map (enOf x)).map (·.1)) (fun a ha => by
    obtain ⟨e, he, rfl⟩ := List.mem_map.1 ha
    obtain ⟨c, hc, rfl⟩ := List.mem_map.1 he
    obtain ⟨i, hi, rfl⟩ := List.getElem_of_mem hc
    exact hpos i hi) l.length hp (by simp)
  obtain ⟨b1, b2, _⟩ := best_char lessF_ok (fs := (l.map (enOf x)).map (·.2)) (fun a ha => by
    obtain ⟨e, he, rfl⟩ := List.mem_map.1 ha
    obtain ⟨c, hc, rfl⟩ := List.mem_map.1 he
    obtain ⟨i, hi, rfl⟩ := List.getElem_of_mem hc
    exact hpos i hi) l.length hp (by simp)
  have eI : bI (l.map (enOf x)) = bestIx moreF (0, 0) ((l.map (enOf x)).map (·.1)) l.length := by
    unfold bI
    rw [List.length_map]
    exact bestIx_map (lt := moreF) (·.1) rfl _ _
  have eJ : bJ (l.map (enOf x)) = bestIx lessF (0, 0) ((l.map (enOf x)).map (·.2)) l.length := by
    unfold bJ
    rw [List.length_map]
    exact bestIx_map (lt := lessF) (·.2) rfl _ _
  generalize bestIx moreF (0, 0) ((l.map (enOf x)).map (·.1)) l.length = I at a1 a2 eI
  generalize bestIx lessF (0, 0) ((l.map (enOf x)).map (·.2)) l.length = J at b1 b2 eJ
  refine ⟨I, J, a1, b1, fun j hj => ?_, fun j hj => ?_, ?_⟩
  · have := a2 j hj
    rw [hL j hj, hL I a1] at this
    exact this
  · have := b2 j hj
    rw [hH j hj, hH J b1] at this
    exact this
  · have hA : ∀ j (hj : j < l.length), enAt (l.map (enOf x)) j = enOf x l[j] := fun j hj => by simp [enAt, hj]
    unfold bothR
    rw [if_pos (sheafErr_zero_of k hp), eI, eJ, hA I a1, hA J b1]
    rfl
/-- two curves clash exactly if their true values cannot meet -/
theorem both_two {c0 c1 : Cv} {x : Int} (k : AllAt [c0, c1] x) : ((bothR [c0, c1] x).e == 9) = !meetX c0.ks c0.err c1.ks c1.err x := by
  obtain ⟨I, J, hI, hJ, lo, hi, eq⟩ := both_is k (by simp)
  have v0 := k.vd 0 (by simp)
  have v1 := k.vd 1 (by simp)
  have d0 := k.dom 0 (by simp)
  have d1 := k.dom 1 (by simp)
  simp only [List.getElem_cons_zero, List.getElem_cons_succ] at v0 v1 d0 d1
  have p0 := (val_bd v0 d0).2.2.1
  have p1 := (val_bd v1 d1).2.2.1
  have g0 := v0.e0
  have g1 := v1.e0
  have hd : 0 < difD c0.ks c1.ks x := (dif_bd v0 v1 d0 d1).2.2.1
  have m0 : 0 ≤ c0.err * valD c0.ks x := Int.mul_nonneg g0 (by omega)
  have m1 : 0 ≤ c1.err * valD c1.ks x := Int.mul_nonneg g1 (by omega)
  have hany : moreF (loA x [c0, c1][I]) (hiA x [c0, c1][J]) = true ↔ (moreF (loA x c0) (hiA x c1) = true ∨ moreF (loA x c1) (hiA x c0) = true) := by
    have key : ∀ i (h1 : i < [c0, c1].length) j (h2 : j < [c0, c1].length), moreF (loA x [c0, c1][i]) (hiA x [c0, c1][j]) = true → moreF (loA x [c0, c1][I]) (hiA x [c0, c1][J]) = true := fun i h1 j h2 hm => by
      have hpl : ∀ i (hi : i < [c0, c1].length), 0 < (loA x [c0, c1][i]).2 := fun i hi => (val_bd (k.vd i hi) (k.dom i hi)).2.2.1
      have hph : ∀ i (hi : i < [c0, c1].length), 0 < (hiA x [c0, c1][i]).2 := fun i hi => (val_bd (k.vd i hi) (k.dom i hi)).2.2.1
      have l1 := lo i h1
      have l2 := hi j h2
      rw [← Bool.not_eq_true, moreF_iff] at l1
      rw [← Bool.not_eq_true, lessF_iff] at l2
      rw [moreF_iff] at hm ⊢
      have s1 := cross_trans' (a := (hiA x [c0, c1][J]).1) (b := (hiA x [c0, c1][J]).2) (c := (hiA x [c0, c1][j]).1) (d := (hiA x [c0, c1][j]).2) (e := (loA x [c0, c1][i]).1) (f := (loA x [c0, c1][i]).2) (hph J hJ) (hph j h2) (hpl i h1) (by omega) hm
      exact cross_trans (a := (hiA x [c0, c1][J]).1) (b := (hiA x [c0, c1][J]).2) (c := (loA x [c0, c1][i]).1) (d := (loA x [c0, c1][i]).2) (e := (loA x [c0, c1][I]).1) (f := (loA x [c0, c1][I]).2) (hph J hJ) (hpl i h1) (hpl I hI) s1 (by omega)
    constructor
    · intro h
      have hself : ∀ (c : Cv), 0 ≤ c.err → 0 < valD c.ks x → ¬ moreF (loA x c) (hiA x c) = true := fun c e0 e1 hm => by
        rw [moreF_iff] at hm
        simp only [loA, hiA, enOf] at hm
        have m : 0 ≤ c.err * valD c.ks x := Int.mul_nonneg e0 (by omega)
        have := Int.lt_of_mul_lt_mul_right hm (by omega)
        rw [show (0 - c.err) * valD c.ks x = -(c.err * valD c.ks x) by grind] at this
        omega
      have hI' : I = 0 ∨ I = 1 := by simp at hI; omega
      have hJ' : J = 0 ∨ J = 1 := by simp at hJ; omega
      rcases hI' with rfl | rfl <;> rcases hJ' with rfl | rfl
      · exact absurd h (hself c0 g0 p0)
      · exact .inl h
      · exact .inr h
      · exact absurd h (hself c1 g1 p1)
    · rintro (h | h)
      · exact key 0 (by simp) 1 (by simp) h
      · exact key 1 (by simp) 0 (by simp) h
  have e1 : moreF (loA x c0) (hiA x c1) = true ↔ (c0.err + c1.err) * difD c0.ks c1.ks x < difN c0.ks c1.ks x := by
    rw [moreF_iff]
    simp only [loA, hiA, enOf]
    unfold difD difN
    have q1 : (valN c1.ks x + c1.err * valD c1.ks x) * valD c0.ks x = valN c1.ks x * valD c0.ks x + c1.err * (valD c0.ks x * valD c1.ks x) := by grind
    have q2 : (valN c0.ks x + (0 - c0.err) * valD c0.ks x) * valD c1.ks x = valN c0.ks x * valD c1.ks x - c0.err * (valD c0.ks x * valD c1.ks x) := by grind
    have q3 : (c0.err + c1.err) * (valD c0.ks x * valD c1.ks x) = c0.err * (valD c0.ks x * valD c1.ks x) + c1.err * (valD c0.ks x * valD c1.ks x) := by grind
    omega
  have e2 : moreF (loA x c1) (hiA x c0) = true ↔ (c0.err + c1.err) * difD c0.ks c1.ks x < - difN c0.ks c1.ks x := by
    rw [moreF_iff]
    simp only [loA, hiA, enOf]
    unfold difD difN
    have q1 : (valN c0.ks x + c0.err * valD c0.ks x) * valD c1.ks x = valN c0.ks x * valD c1.ks x + c0.err * (valD c0.ks x * valD c1.ks x) := by grind
    have q2 : (valN c1.ks x + (0 - c1.err) * valD c1.ks x) * valD c0.ks x = valN c1.ks x * valD c0.ks x - c1.err * (valD c0.ks x * valD c1.ks x) := by grind
    have q3 : (c0.err + c1.err) * (valD c0.ks x * valD c1.ks x) = c0.err * (valD c0.ks x * valD c1.ks x) + c1.err * (valD c0.ks x * valD c1.ks x) := by grind
    omega
  rw [eq, Bool.eq_iff_iff]
  unfold meetX
  by_cases hm : moreF (loA x [c0, c1][I]) (hiA x [c0, c1][J]) = true
  · rw [if_pos hm]
    have := hany.1 hm
    rw [e1, e2] at this
    simp
    omega
  · rw [if_neg hm]
    have : ¬ (moreF (loA x c0) (hiA x c1) = true ∨ moreF (loA x c1) (hiA x c0) = true) := fun h => hm (hany.2 h)
    rw [e1, e2] at this
    simp
    omega
/-- a number that is in all of some curves' values -/
theorem both_in {l : List Cv} {x : Int} (k : AllAt l x) (hp : 0 < l.length) {t : Int × Int} (ht : 0 < t.2) (h : ∀ i (hi : i < l.length), lessF t (loA x l[i]) = false ∧ lessF (hiA x l[i]) t = false) : ∃ a b, bothR l x = ⟨a.1, a.2, b.1, b.2, 0⟩ ∧ lessF t a = false ∧ lessF b t = false ∧ (∃ i, ∃ hi : i < l.length, a = loA x l[i]) ∧ ∃ i, ∃ hi : i < l.length, b = hiA x l[i] := by
  obtain ⟨I, J, hI, hJ, lo, hi, eq⟩ := both_is k hp
  have hd : ∀ i (hi : i < l.length), 0 < valD l[i].ks x := fun i hi => (val_bd (k.vd i hi) (k.dom i hi)).2.2.1
  refine ⟨loA x l[I], hiA x l[J], ?_, (h I hI).1, (h J hJ).2, ⟨I, hI, rfl⟩, J, hJ, rfl⟩
  rw [eq, if_neg]
  intro hm
  have h1 := (h I hI).1
  have h2 := (h J hJ).2
  rw [moreF_iff] at hm
  rw [← Bool.not_eq_true, lessF_iff] at h1 h2
  have s := cross_trans (a := (hiA x l[J]).1) (b := (hiA x l[J]).2) (c := (loA x l[I]).1) (d := (loA x l[I]).2) (e := t.1) (f := t.2) (hd J hJ) (hd I hI) ht hm (by omega)
  omega
theorem isF_plus {ks err x k : _} (v : Vd ks err) (hd : inDom ks x x = true) (h0 : -8000 ≤ k) (h1 : k ≤ 8000) : isF (valN ks x + k * valD ks x) (valD ks x) = true := by
  obtain ⟨a, b, c, d⟩ := val_bd v hd
  obtain ⟨m1, m2⟩ := mul_bd h0 h1 (show -2000 ≤ valD ks x by omega) d
  have m3 : 65536 * valD ks x ≤ 65536 * 2000 := by omega
  have hg := val_gcd v x
  have hg2 : Int.gcd (valN ks x + k * valD ks x) (valD ks x) = 1 := by
    rw [Int.mul_comm k, Int.gcd_add_mul_left_left]
    exact hg
  simp only [isF, Bool.and_eq_true, decide_eq_true_eq, inB_iff]
  exact ⟨by omega, by omega, ⟨by omega, by omega⟩, hg2⟩
theorem clash_le {ka kb : List (Int × Int)} {ea eb x : Int} (h1 : shLo ka kb ≤ x) (h2 : x ≤ shHi ka kb) (hm : meetX ka ea kb eb x = false) : (clashK ka ea kb eb).2 = true ∧ (clashK ka ea kb eb).1 ≤ x := by
  unfold clashK clR
  cases e : (intsX (shLo ka kb) (shHi ka kb)).find? (fun x => !meetX ka ea kb eb x) with
  | none =>
    have := List.find?_eq_none.1 e x (intsX_mem.2 ⟨h1, h2⟩)
    simp [hm] at this
  | some y =>
    refine ⟨rfl, ?_⟩
    obtain ⟨_, l1, l2, e2, hno⟩ := List.find?_eq_some_iff_append.1 e
    have hx : x ∈ l1 ++ y :: l2 := by rw [← e2]; exact intsX_mem.2 ⟨h1, h2⟩
    have hs := intsX_sorted (shLo ka kb) (shHi ka kb)
    rw [e2] at hs
    rcases List.mem_append.1 hx with k | k
    · have := hno x k
      simp [hm] at this
    · rcases List.mem_cons.1 k with k | k
      · simp only; omega
      · have := (List.pairwise_cons.1 (List.pairwise_append.1 hs).2.1).1 x k
        simp only; omega
end Go.Proofs.Ytcaemeedmnpdjaa
