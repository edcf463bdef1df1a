/- Gauges of the reference: against, Rests; plain facts: the least that do not agree. -/
import Derived.Test.YtgjkfmcjalcefaaGreatJa
namespace Go.Proofs.YtgjkfmcjalcefaaGreat
open Go.Proofs.YtgjkfmcjalcefaaGreat.Ev

def rgF (cs : List Cy) (ss : List Sh) (v : Int) (x : Int) (g : Ga) : Int := if agG cs ss g v = false ∧ (x = 0 ∨ g.id < x) then g.id else x
def ragR (cs : List Cy) (ss : List Sh) (l : List Ga) (v : Int) : Int := if inB v 4000 = true then l.foldl (rgF cs ss v) 0 else 0
theorem rag_succ {cs ss} {l : List Ga} {v : Int} {k : Nat} (h : k < l.length) : (l.take (k + 1)).foldl (rgF cs ss v) 0 = rgF cs ss v ((l.take k).foldl (rgF cs ss v) 0) (nthG l k) := by
  rw [List.take_succ_eq_append_getElem h, List.foldl_append, nthG_eq h]
  rfl
theorem rg_fold {cs ss} {v : Int} : ∀ (l : List Ga) (x r : Int), (∀ g ∈ l, GaOk g) → ((r = 0 ∧ x = 1099511627776) ∨ (r = x ∧ r ≠ 0)) → (r = 0 ∧ ∀ g ∈ l, agG cs ss g v = true) ∨ l.foldl (rgF cs ss v) r = l.foldl (agF cs ss v) x
  | [], x, r, _, h => by
    rcases h with ⟨h1, h2⟩ | ⟨h1, h2⟩
    · exact .inl ⟨h1, fun _ q => by cases q⟩
    · exact .inr h1
  | g :: m, x, r, hg, h => by
    have hg1 := hg g (List.mem_cons_self ..)
    have hgm : ∀ g ∈ m, GaOk g := fun y hy => hg y (List.mem_cons_of_mem _ hy)
    have i1 := hg1.id1
    have i2 := hg1.id2
    rw [List.foldl_cons, List.foldl_cons]
    cases ha : agG cs ss g v with
    | true =>
      have e1 : rgF cs ss v r g = r := if_neg (by simp [ha])
      have e2 : agF cs ss v x g = x := if_pos ha
      rw [e1, e2]
      rcases rg_fold m x r hgm h with ⟨h1, h2⟩ | h1
      · exact .inl ⟨h1, fun y hy => by
          rcases List.mem_cons.1 hy with rfl | hy
          · exact ha
          · exact h2 y hy⟩
      · exact .inr h1
    | false =>
      have e2 : agF cs ss v x g = min x g.id := if_neg (by simp [ha])
      rw [e2]
      have e1 : rgF cs ss v r g = min x g.id := by
        unfold rgF
        rcases h with ⟨h1, h2⟩ | ⟨h1, h2⟩
        · rw [if_pos ⟨ha, .inl h1⟩]
          omega
        · by_cases q : g.id < r
          · rw [if_pos ⟨ha, .inr q⟩]
            omega
          · rw [if_neg (fun q2 => by rcases q2.2 with q3 | q3 <;> omega)]
            omega
      rw [e1]
      have hne : min x g.id ≠ 0 := by rcases h with ⟨h1, h2⟩ | ⟨h1, h2⟩ <;> omega
      rcases rg_fold m (min x g.id) (min x g.id) hgm (.inr ⟨rfl, hne⟩) with ⟨h1, _⟩ | h1
      · exact absurd h1 hne
      · exact .inr h1
theorem rag_eq {cs ss} {l : List Ga} {v : Int} (hg : ∀ g ∈ l, GaOk g) (hn : inB v 4000 = true → ∃ g ∈ l, agG cs ss g v = false) : ragR cs ss l v = agsR cs ss l v := by
  unfold ragR agsR
  by_cases h : inB v 4000 = true
  · rw [if_pos h, if_pos h]
    rcases rg_fold l 1099511627776 0 hg (.inl ⟨rfl, rfl⟩) with ⟨_, h1⟩ | h1
    · exfalso
      obtain ⟨g, h2, h3⟩ := hn h
      rw [h1 g h2] at h3
      cases h3
    · exact h1
  · rw [if_neg h, if_neg h]
theorem not_all {cs ss} {l : List Ga} {v : Int} (hb : -4000 ≤ v ∧ v ≤ 4000) (h : ¬ ((comG cs ss l).1 ≤ v ∧ v ≤ (comG cs ss l).2)) : ∃ g ∈ l, agG cs ss g v = false := by
  refine Classical.byContradiction fun hx => h ((com_iff cs ss l v).2 ⟨hb, fun g hg => ?_⟩)
  have : agG cs ss g v = true := by
    cases q : agG cs ss g v with
    | true => rfl
    | false => exact absurd ⟨g, hg, q⟩ hx
  unfold agG at this
  simpa using this
theorem inB_bd {v : Int} (h : inB v 4000 = true) : -4000 ≤ v ∧ v ≤ 4000 := by
  unfold inB at h
  simp at h
  omega
end Go.Proofs.YtgjkfmcjalcefaaGreat
