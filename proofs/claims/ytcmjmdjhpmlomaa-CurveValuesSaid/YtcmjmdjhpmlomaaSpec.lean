/- The contracts that were shown of the model, as answers of the calculator: for the laws of layer 1. -/
import Derived.Test.YtcmjmdjhpmlomaaLift
namespace Go.Proofs.Ytcmjmdjhpmlomaa
open Go.Proofs.Ytcmjmdjhpmlomaa.Ev

def pairsOf : List AV → Option (List (Int × Int))
  | [] => some []
  | .int .i64 x :: .int .i64 y :: l => (pairsOf l).map ((x, y) :: ·)
  | _ => none
def flat : List (Int × Int) → List AV
  | [] => []
  | k :: ks => .int .i64 k.1 :: .int .i64 k.2 :: flat ks
theorem flat_len : ∀ ks, (flat ks).length = ks.length * 2
  | [] => rfl
  | k :: ks => by simp [flat, flat_len ks]; omega
theorem pairs_flat : ∀ ks, pairsOf (flat ks) = some ks
  | [] => rfl
  | k :: ks => by simp [flat, pairsOf, pairs_flat ks]
/-- the knots that a slice shows -/
def knOf (h : Heap) : AV → Option (List (Int × Int))
  | .slice0 => some []
  | .slice b off n _ => if rowAt h b = true then (if n = 0 then some [] else (h.loadN b off (n * 2)).bind pairsOf) else none
  | _ => none
theorem KnH.flat {h : Heap} {b : Nat} : ∀ {ks : List (Int × Int)} {off : Nat}, KnH h b off ks → Rds h b off (flat ks)
  | [], _, _ => trivial
  | k :: ks, off, hk => by
    have h0 := hk 0 (by simp)
    have h1 : KnH h b (off + 2) ks := fun i hi => by
      have := hk (i + 1) (by simp; omega)
      rw [show off + (i + 1) * 2 = off + 2 + i * 2 by omega] at this
      simpa using this
    simp only [Nat.zero_mul, Nat.add_zero, List.getElem_cons_zero] at h0
    exact ⟨h0.1, h0.2.1, h1.flat⟩
theorem KnV.of {h : Heap} {kv : AV} {ks : List (Int × Int)} (hk : KnV h kv ks) : knOf h kv = some ks := by
  rcases hk with ⟨rfl, rfl⟩ | ⟨b, off, c, rfl, hk, _, hs⟩
  · rfl
  · simp only [knOf, if_pos hs]
    cases ks with
    | nil => rfl
    | cons k ks =>
      rw [if_neg (by simp), hk.flat.loadN (by simp [Go.Proofs.Ytcmjmdjhpmlomaa.flat]) (flat_len _)]
      exact pairs_flat _
theorem pairs_get : ∀ {l : List AV} {ks : List (Int × Int)}, pairsOf l = some ks → l = flat ks
  | [], ks, h => by simp [pairsOf] at h; subst h; rfl
  | v :: l, ks, h => by
    unfold pairsOf at h
    split at h
    · rename_i e; cases e
    · rename_i x y q e
      cases e
      simp only [Option.map_eq_some_iff] at h
      obtain ⟨r, h1, rfl⟩ := h
      rw [pairs_get h1]; rfl
    · cases h
theorem readF_at {f : Nat → Option AV} : ∀ {n off : Nat} {l : List AV}, readF f off n = some l → ∀ j (hj : j < l.length), f (off + j) = some l[j]
  | 0, _, l, h, j, hj => by simp [readF] at h; subst h; simp at hj
  | n + 1, off, l, h, j, hj => by
    simp only [readF] at h
    split at h
    · rename_i v q hv hq
      cases h
      cases j with
      | zero => simpa using hv
      | succ j =>
        have := readF_at hq j (by simpa using hj)
        rw [show off + (j + 1) = off + 1 + j by omega]
        simpa using this
    · cases h
theorem takeN_at {q : List AV} {n off : Nat} {l : List AV} (h : takeN n (dropN off q) = some l) (j : Nat) (hj : j < l.length) : nthN (off + j) q = some l[j] := by
  rw [dropN_eq] at h
  obtain ⟨h1, rfl⟩ := takeN_eq h
  rw [nthN_eq]
  simp at hj ⊢
theorem loadN_at {h : Heap} {b off n : Nat} {l : List AV} (k : h.loadN b off n = some l) (j : Nat) (hj : j < l.length) : h.at1 b (off + j) = some l[j] := by
  unfold Heap.loadN at k
  unfold Heap.at1
  split at k <;> rename_i hg
  · exact takeN_at k j hj
  · exact takeN_at k j hj
  · exact readF_at k j hj
  · cases k
theorem flat_get : ∀ {ks : List (Int × Int)} {i : Nat} (hi : i < ks.length), (flat ks)[i * 2]? = some (.int .i64 ks[i].1) ∧ (flat ks)[i * 2 + 1]? = some (.int .i64 ks[i].2)
  | k :: ks, 0, _ => by simp [flat]
  | k :: ks, i + 1, hi => by
    have := flat_get (ks := ks) (i := i) (by simpa using hi)
    rw [show (i + 1) * 2 = i * 2 + 1 + 1 by omega]
    simpa [flat] using this
/-- the other way: knots that the calculator shows stand in the model's memory -/
theorem kn_conc {top : Nat} {E : Env} {h : Heap} {W : World} {kv : AV} {U : Value} {ks : List (Int × Int)} (k : HR top E h W) (ho : knOf h kv = some ks) (hv : VR E kv U) : ∃ A c, U = .slice A ks.length c ∧ KnAt W A ks ∧ SlOk W A ks.length c := by
  unfold knOf at ho
  split at ho
  · cases ho
    simp only [VR] at hv
    subst hv
    exact ⟨none, 0, rfl, fun h => absurd rfl h, .inl ⟨rfl, rfl, rfl⟩⟩
  · rename_i b off n c
    split at ho
    · rename_i hs
      simp only [VR] at hv
      obtain ⟨b1, c1, e1, rfl⟩ := hv
      have hrow : (h.get b).isSome ∧ ∃ C t fr, W.heap[b1]? = some (.cells C t fr) := by
        unfold rowAt at hs
        split at hs <;> rename_i hg
        · obtain ⟨b2, c2, O, e2, e3, L, _, rfl⟩ := k.obj b _ hg
          rw [e1] at e2; cases e2
          exact ⟨by rw [hg]; rfl, _, _, _, e3⟩
        · obtain ⟨b2, c2, O, e2, e3, L, X, b3, c3, _, rfl, _⟩ := k.obj b _ hg
          rw [e1] at e2; cases e2
          exact ⟨by rw [hg]; rfl, _, _, _, e3⟩
        · obtain ⟨b2, c2, O, e2, e3, C, t, fr, rfl, _⟩ := k.obj b _ hg
          rw [e1] at e2; cases e2
          exact ⟨by rw [hg]; rfl, _, _, _, e3⟩
        · cases hs
      obtain ⟨hsome, hcells⟩ := hrow
      split at ho
      · rename_i h0
        subst h0
        cases ho
        exact ⟨_, _, rfl, fun h => absurd rfl h, .inr ⟨b1, off, rfl, hcells⟩⟩
      · rename_i h0
        simp only [Option.bind_eq_some_iff] at ho
        obtain ⟨l, hl, hp⟩ := ho
        have := pairs_get hp
        subst this
        have hlen : ks.length * 2 = n * 2 := by
          obtain ⟨L, _, q1, q2⟩ := k.load (P := Try.prog) hl e1
          rw [← flat_len, ← q1.len, q2]
        have hn : n = ks.length := by omega
        subst hn
        refine ⟨some ⟨b1, off, none⟩, _, rfl, fun hne => ⟨b1, off, rfl, (Array.getElem?_eq_some_iff.1 hcells.choose_spec.choose_spec.choose_spec).1, fun i hi => ?_⟩, .inr ⟨b1, off, rfl, hcells⟩⟩
        obtain ⟨f1, f2⟩ := flat_get hi
        have hb := Heap.get_lt k hsome
        have g : ∀ {j : Nat} {v : AV}, (flat ks)[j]? = some v → Rd h b (off + j) v := fun {j v} hj => by
          obtain ⟨q1, q2⟩ := List.getElem?_eq_some_iff.1 hj
          exact ⟨hb, by rw [loadN_at hl j q1, q2]⟩
        obtain ⟨V1, r1, r2⟩ := k.rd (g f1) e1
        obtain ⟨V2, r3, r4⟩ := k.rd (g f2) e1
        simp only [VR] at r2 r4
        subst r2 r4
        exact ⟨r1, r3⟩
    · cases ho
  · cases ho
end Go.Proofs.Ytcmjmdjhpmlomaa
