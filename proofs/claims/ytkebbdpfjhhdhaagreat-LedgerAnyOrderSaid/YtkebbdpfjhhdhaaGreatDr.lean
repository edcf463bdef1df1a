/- Layer 8: the reference's Formed. -/
import Derived.Test.YtkebbdpfjhhdhaaGreatFg
import Derived.Test.YtkebbdpfjhhdhaaGreatDi
/- Parts of a row: its first elements, its last ones, as what an append takes. For all types of elements. -/
namespace Go.Proofs.YtkebbdpfjhhdhaaGreat.Ev
section
variable {α : Type} {enc : α → List AV} {sz : Nat} {P : Program} {t e : TypeId} {h0 : Heap} {W : List Nat} {V : Ob}
/-- where a row is -/
def RowAt (h0 : Heap) (W : List Nat) (V : Ob) (i : Nat) (l : List AV) (e : TypeId) (sz : Nat) : Prop := ∀ h, Vw h0 W V h → h.get i = some (.row l e sz)
theorem RowAt.own {i : Nat} {l : List AV} (hm : (i, AObj.row l e sz) ∈ V) : RowAt h0 W V i l e sz := fun _ hh => (hh.own _ hm).1
theorem RowAt.old {i : Nat} {l : List AV} (hg : h0.get i = some (.row l e sz)) (hi : i < h0.next) (hw : i ∉ W) : RowAt h0 W V i l e sz := fun _ hh => (hh.old i hi hw).trans hg
theorem RowAt.less {V' : Ob} {i : Nat} {l : List AV} (k : RowAt h0 W V i l e sz) (hs : ∀ x ∈ V, x ∈ V') : RowAt h0 W V' i l e sz := fun h hh => k h ⟨hh.gd, hh.nx, hh.old, fun p hp => hh.own p (hs p hp)⟩
def fromR (i n k sz : Nat) : AV := if k = 0 ∨ k < n then .slice i (k * sz) (n - k) (.m k) else .sliceE i (k * sz) k
end
section
variable {P : Program} {B : Base} {Q : Post} {h0 : Heap} {W : List Nat} {N : Nat} {D : List Nat} {K : List Fr} {s : Sl} {L : Ob} {n : Nat} {ops : Array Oper} {rnd : Option Nat}
end
end Go.Proofs.YtkebbdpfjhhdhaaGreat.Ev

/- Layer 8: the reference's Formed. -/
namespace Go.Proofs.YtkebbdpfjhhdhaaGreat
open Go.Proofs.YtkebbdpfjhhdhaaGreat.Ev

end Go.Proofs.YtkebbdpfjhhdhaaGreat
