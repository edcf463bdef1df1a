/- Layer 8, plain: postings are in pairs that are together 0. -/
import Derived.Test.YtkebbdpfjhhdhaaGreatFm
/- Layer 8: Balances, Hold; the law of LedgerBalanced. -/
namespace Go.Proofs.YtkebbdpfjhhdhaaGreat
open Go.Proofs.YtkebbdpfjhhdhaaGreat.Ev

def acB (n : Int) : Bool := inB n 1 3 || otB n
end Go.Proofs.YtkebbdpfjhhdhaaGreat

/- Layer 8, plain: postings are in pairs that are together 0. -/
namespace Go.Proofs.YtkebbdpfjhhdhaaGreat
open Go.Proofs.YtkebbdpfjhhdhaaGreat.Ev

inductive Prs : List Po → Prop
  | nil : Prs []
  | snoc {l : List Po} (p q : Po) : Prs l → p.it = q.it → p.dy = q.dy → q.am = 0 - p.am → Prs (l ++ [p, q])
theorem Prs.doB {b c : Bk} {x : Im} (k : Prs b.ps) (h : doB b x = some c) : Prs c.ps := by
  have ht : ∀ {it dy am to fr}, trB b it dy am to fr = some c → Prs c.ps := fun h => by
    rw [(trB_tk h).2.2.2.2]
    exact .snoc _ _ k rfl rfl rfl
  unfold Proofs.YtkebbdpfjhhdhaaGreat.doB at h
  repeat' split at h
  all_goals first | (cases h; done) | (cases h; exact k) | exact ht h
theorem Prs.list : ∀ {l : List Im} {b : Bk}, Prs b.ps → Prs (bookL b l).ps
  | [], _, k => k
  | x :: l, b, k => Prs.list (l := l) (b := stepB b x) (by
    unfold stepB
    cases h : Proofs.YtkebbdpfjhhdhaaGreat.doB b x with
    | none => exact k
    | some c =>
      have h2 := k.doB h
      exact h2)
theorem Prs.at_ {l : List Po} (k : Prs l) : l.length % 2 = 0 ∧ ∀ i, i < l.length → i % 2 = 0 → (nthE l (i + 1)).it = (nthE l i).it ∧ (nthE l (i + 1)).am = 0 - (nthE l i).am := by
  induction k with
  | nil => exact ⟨rfl, fun i h => by simp at h⟩
  | @snoc l p q k h1 h2 h3 ih =>
    obtain ⟨i1, i2⟩ := ih
    refine ⟨by simp; omega, fun i hi he => ?_⟩
    by_cases hl : i < l.length
    · have h4 : i + 1 < l.length := by omega
      have e1 : nthE (l ++ [p, q]) i = nthE l i := by unfold nthE; rw [List.getElem?_append_left hl]
      have e2 : nthE (l ++ [p, q]) (i + 1) = nthE l (i + 1) := by unfold nthE; rw [List.getElem?_append_left h4]
      rw [e1, e2]
      exact i2 i hl he
    · have h4 : i = l.length := by simp at hi; omega
      subst h4
      have e1 : nthE (l ++ [p, q]) l.length = p := by simp [nthE]
      have e2 : nthE (l ++ [p, q]) (l.length + 1) = q := by simp [nthE]
      rw [e1, e2]
      exact ⟨h1.symm, h3⟩
theorem Prs.sum {l : List Po} (k : Prs l) (d : Int) : ((hldP l d).map (·.2)).sum = 0 := by
  induction k with
  | nil => rfl
  | @snoc l p q k h1 h2 h3 ih =>
    unfold hldP at *
    rw [List.filter_append, List.map_append, List.map_append, List.sum_append, ih]
    by_cases h : p.dy ≤ d
    · have h' : q.dy ≤ d := by omega
      simp [h, h']
      omega
    · have h' : ¬ q.dy ≤ d := by omega
      simp [h, h']
end Go.Proofs.YtkebbdpfjhhdhaaGreat
