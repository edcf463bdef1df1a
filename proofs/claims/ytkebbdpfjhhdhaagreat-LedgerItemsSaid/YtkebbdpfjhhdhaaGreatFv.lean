/- Layer 8: items that were made, as what is asked of; a row's beginning. -/
import Derived.Test.YtkebbdpfjhhdhaaGreatDu
import Derived.Test.YtkebbdpfjhhdhaaGreatFm
/- Layer 8: the reference's comparisons of lists that are the same. -/
namespace Go.Proofs.YtkebbdpfjhhdhaaGreat
open Go.Proofs.YtkebbdpfjhhdhaaGreat.Ev

instance : DecidableEq Po := fun x y => by
  cases x; cases y
  simp only [Po.mk.injEq]
  infer_instance
end Go.Proofs.YtkebbdpfjhhdhaaGreat

/- Layer 8: items that were made, as what is asked of; a row's beginning. -/
namespace Go.Proofs.YtkebbdpfjhhdhaaGreat
open Go.Proofs.YtkebbdpfjhhdhaaGreat.Ev

theorem IsR.g {h0 h : Heap} {W : List Nat} {V : Ob} {l : List Im} {w : AV} {Lw : Ob} {n : Nat} (k : IsR 114 7 n (enF imC l) w Lw) (hn : l.length = n) (hh : Vw h0 W V h) (hm : ∀ x ∈ Lw, x ∈ V) : ImG h w l := by
  subst hn
  rcases k.rowN with ⟨rfl, rfl, h1, h2⟩ | ⟨j, rfl, rfl, h1⟩
  · have : l = [] := List.length_eq_zero_iff.1 h1
    subst this
    exact ⟨.nil, fun q hq => by simp at hq⟩
  · have ho := hh.own _ (hm _ (List.mem_cons_self ..))
    refine ⟨?_, fun q hq => ⟨.slice j 0 q (.m 0), ?_, fun h2 V2 hh2 => ?_⟩⟩
    · rcases Nat.eq_zero_or_pos l.length with h0 | h0
      · have : l = [] := List.length_eq_zero_iff.1 h0
        subst this
        refine .emp j 0 (.m 0) ho.2 ?_
        unfold Heap.loadN
        rw [ho.1]
        rfl
      · exact .some j 0 (.m 0) l h0 (eh_row hh (hm _ (List.mem_cons_self ..)))
    · exact (eh_row hh (hm _ (List.mem_cons_self ..))).takV (by omega)
    · exact slice_toK (qs := l) ((hh2.old j ho.2 (by simp)).trans ho.1) (by omega)
end Go.Proofs.YtkebbdpfjhhdhaaGreat
