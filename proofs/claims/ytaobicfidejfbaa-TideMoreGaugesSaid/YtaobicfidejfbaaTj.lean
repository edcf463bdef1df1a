/- The law TideCycles over the calculator's memory. -/
import Derived.Test.YtaobicfidejfbaaTi
namespace Go.Proofs.Ytaobicfidejfbaa
open Go.Proofs.Ytaobicfidejfbaa.Ev

section
variable (L1 L2 L3 L4 L5 L6 : Ob)
end
theorem sanity_con (h : Heap) (g : Gd h) : Con Try.prog Bs 5 [] h [] (.bool true) [] := Con.base rfl g
theorem Ev.Vw.two {h0 h : Heap} {W : List Nat} {V L1 L2 : Ob} {xs : List Int} {v1 v2 : AV} (hh : Vw h0 W V h) (k1 : IsIs xs v1 L1) (k2 : IsIs xs v2 L2) (s1 : L1.Sublist V) (s2 : L2.Sublist V) : ItV h v1 xs ∧ ItV h v2 xs := ⟨k1.itV hh s1, k2.itV hh s2⟩
end Go.Proofs.Ytaobicfidejfbaa
