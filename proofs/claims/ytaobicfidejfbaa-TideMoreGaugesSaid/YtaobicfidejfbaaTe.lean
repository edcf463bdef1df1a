/- Shortest, the program's and the reference's, over the calculator's memory. -/
import Derived.Test.YtaobicfidejfbaaTd
namespace Go.Proofs.Ytaobicfidejfbaa
open Go.Proofs.Ytaobicfidejfbaa.Ev

/-- a list of ints, nil or the call's own -/
def IsIs (xs : List Int) (v : AV) (L : Ob) : Prop := (v = .slice0 ∧ L = [] ∧ xs = []) ∨ ∃ i c o, v = .slice i 0 xs.length c ∧ L = [(i, o)] ∧ o.has (xs.map (AV.int .i64))
theorem IsIs.itV {h0 h : Heap} {W : List Nat} {V L : Ob} {xs : List Int} {v : AV} (k : IsIs xs v L) (hh : Vw h0 W V h) (hs : L.Sublist V) : ItV h v xs := by
  rcases k with ⟨rfl, rfl, rfl⟩ | ⟨i, c, o, rfl, rfl, ho⟩
  · exact .inl ⟨.inl rfl, rfl⟩
  · have hm : (i, o) ∈ V := hs.subset (List.mem_singleton.2 rfl)
    exact .inr ⟨i, 0, c, rfl, hh.ins hm ho⟩
theorem IsIs.ok {xs : List Int} {v : AV} {L : Ob} (k : IsIs xs v L) : okCell v = true := by
  rcases k with ⟨rfl, _⟩ | ⟨i, c, o, rfl, _⟩ <;> rfl
def CyOut (r : Cy × Int) (v : AV) (L : Ob) : Prop := ∃ hv, IsIs r.1.hs hv L ∧ v = .tup [.agg [.int .i64 r.1.id, .int .i64 r.1.bg, .int .i64 r.1.ev, hv], .int .i64 r.2]
def CyRef (r : Cy × Int) (v : AV) (L : Ob) : Prop := ∃ hv, IsIs r.1.hs hv L ∧ v = .agg [.int .i64 r.1.id, .int .i64 r.1.bg, .int .i64 r.1.ev, hv, .int .i64 r.2]
end Go.Proofs.Ytaobicfidejfbaa
