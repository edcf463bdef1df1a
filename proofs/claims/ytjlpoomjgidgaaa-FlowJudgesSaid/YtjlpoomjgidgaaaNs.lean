/- Plain facts of layer 5: the IDs of a checked trade. No walk, no number of a function. -/
import Derived.Test.YtjlpoomjgidgaaaNr
namespace Go.Proofs.Ytjlpoomjgidgaaa
theorem chkHo_nd : ∀ {l : List Ho} {seen : List Int}, chkHo seen l = 0 → (∀ x ∈ l, x.id ∉ seen) ∧ (hids l).Nodup
  | [], _, _ => ⟨fun _ h => by (cases h), List.nodup_nil⟩
  | y :: r, seen, h => by
    rw [chkHo] at h
    split at h
    · cases h
    · split at h
      · cases h
      · rename_i hy
        obtain ⟨h1, h2⟩ := chkHo_nd h
        refine ⟨fun x hx => ?_, ?_⟩
        · rcases List.mem_cons.1 hx with rfl | hx
          · exact hy
          · exact fun e => h1 x hx (List.mem_append_left _ e)
        · show (y.id :: hids r).Nodup
          rw [List.nodup_cons]
          refine ⟨fun e => ?_, h2⟩
          obtain ⟨x, hx, ex⟩ := List.mem_map.1 (show y.id ∈ r.map (·.id) from e)
          exact h1 x hx (by rw [ex]; simp)
theorem chkMv_in {hs : List Ho} : ∀ {l : List Mv} {seen : List Int}, chkMv hs seen l = 0 → ∀ x ∈ l, x.fr ∈ hids hs ∧ x.to ∈ hids hs
  | y :: r, seen, h, x, hx => by
    rw [chkMv] at h
    split at h
    · rename_i hne; exact absurd h hne
    · rename_i hok
      split at h
      · cases h
      · rcases List.mem_cons.1 hx with rfl | hx
        · have h1 : mvErr hs x = 0 := by omega
          unfold mvErr at h1
          split at h1
          · cases h1
          · split at h1
            · cases h1
            · rename_i h2
              simp only [not_or, Classical.not_not] at h2
              exact h2
        · exact chkMv_in h x hx
theorem chkT_ids {hs : List Ho} {ms : List Mv} (h : chkT hs ms = 0) : (hids hs).Nodup ∧ ∀ x ∈ ms, x.fr ∈ hids hs ∧ x.to ∈ hids hs := by
  unfold chkT at h
  split at h
  · cases h
  · split at h
    · rename_i h1; exact absurd h h1
    · rename_i h1
      exact ⟨(chkHo_nd (seen := []) (by omega)).2, chkMv_in h⟩
/-- the place of an ID among distinct ones -/
theorem plI_idx {l : List Int} {n : Int} {i : Nat} (hn : l.Nodup) (hi : i < l.length) : plI l n = i ↔ l[i] = n := by
  constructor
  · intro h
    have hm : n ∈ l := plI_ge.1 (by omega)
    obtain ⟨j, hj, rfl⟩ := List.mem_iff_getElem.1 hm
    have hno : l[j] ∉ l.take j := fun e => by
      obtain ⟨k, hk, ek⟩ := List.mem_iff_getElem.1 e
      rw [List.getElem_take] at ek
      rw [List.length_take] at hk
      have := (List.getElem_inj hn).1 ek
      omega
    rw [plI_at hj rfl hno] at h
    have : j = i := by omega
    subst this
    rfl
  · intro h
    refine plI_at hi h fun e => ?_
    obtain ⟨k, hk, ek⟩ := List.mem_iff_getElem.1 e
    rw [List.getElem_take] at ek
    rw [List.length_take] at hk
    rw [← h] at ek
    have := (List.getElem_inj hn).1 ek
    omega
end Go.Proofs.Ytjlpoomjgidgaaa
