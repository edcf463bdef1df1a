/- The law TideCyclesHold over the calculator's memory. -/
import Derived.Test.YtgjkfmcjalcefaaGreatTd
/- Shortest, the program's and the reference's, over the calculator's memory. -/
namespace Go.Proofs.YtgjkfmcjalcefaaGreat
open Go.Proofs.YtgjkfmcjalcefaaGreat.Ev

/-- a list of ints, nil or the call's own -/
def IsIs (xs : List Int) (v : AV) (L : Ob) : Prop := (v = .slice0 ∧ L = [] ∧ xs = []) ∨ ∃ i c o, v = .slice i 0 xs.length c ∧ L = [(i, o)] ∧ o.has (xs.map (AV.int .i64))
theorem IsIs.itV {h0 h : Heap} {W : List Nat} {V L : Ob} {xs : List Int} {v : AV} (k : IsIs xs v L) (hh : Vw h0 W V h) (hs : L.Sublist V) : ItV h v xs := by
  rcases k with ⟨rfl, rfl, rfl⟩ | ⟨i, c, o, rfl, rfl, ho⟩
  · exact .inl ⟨.inl rfl, rfl⟩
  · have hm : (i, o) ∈ V := hs.subset (List.mem_singleton.2 rfl)
    exact .inr ⟨i, 0, c, rfl, hh.ins hm ho⟩
theorem IsIs.ok {xs : List Int} {v : AV} {L : Ob} (k : IsIs xs v L) : okCell v = true := by
  rcases k with ⟨rfl, _⟩ | ⟨i, c, o, rfl, _⟩ <;> rfl
def CyOut (r : Cy × Int) (v : AV) (L : Ob) : Prop := ∃ hv, IsIs r.1.hs hv L ∧ v = .tup [.agg [.int .i64 r.1.id, .int .i64 r.1.bg, .int .i64 r.1.ev, hv], .int .i64 r.2]
def CyRef (r : Cy × Int) (v : AV) (L : Ob) : Prop := ∃ hv, IsIs r.1.hs hv L ∧ v = .agg [.int .i64 r.1.id, .int .i64 r.1.bg, .int .i64 r.1.ev, hv, .int .i64 r.2]
end Go.Proofs.YtgjkfmcjalcefaaGreat

/- Together, the program's and the reference's, over the calculator's memory. -/
namespace Go.Proofs.YtgjkfmcjalcefaaGreat
open Go.Proofs.YtgjkfmcjalcefaaGreat.Ev

theorem store4 {P : Program} {t ty : TypeId} {x y z u a b c w : AV} (hs : sizeT P t = some 4) (ha : okCell a = true) (hb : okCell b = true) (hc : okCell c = true) (hw : okCell w = true) : (AObj.cells [x, y, z, u] ty).store P t 0 (.agg [a, b, c, w]) = some (.cells [a, b, c, w] ty) := by
  simp [AObj.store, hs, AV.cells, ha, hb, hc, hw, AObj.put, overN]
end Go.Proofs.YtgjkfmcjalcefaaGreat

/- The reference's Together over the calculator's memory. -/
namespace Go.Proofs.YtgjkfmcjalcefaaGreat
open Go.Proofs.YtgjkfmcjalcefaaGreat.Ev

theorem store5 {P : Program} {t ty : TypeId} {x y z u o w : AV} {a b c e : Int} (hs : sizeT P t = some 5) (hw : okCell w = true) {off : Nat} (hoff : off = 0) : (AObj.cells [x, y, z, u, o] ty).store P t off (.agg [.int .i64 a, .int .i64 b, .int .i64 c, w, .int .i64 e]) = some (.cells [.int .i64 a, .int .i64 b, .int .i64 c, w, .int .i64 e] ty) := by
  subst hoff
  have h1 : okCell (.int .i64 a) = true := rfl
  have h2 : okCell (.int .i64 b) = true := rfl
  have h3 : okCell (.int .i64 c) = true := rfl
  have h4 : okCell (.int .i64 e) = true := rfl
  simp [AObj.store, hs, AV.cells, h1, h2, h3, h4, hw, AObj.put, overN]
end Go.Proofs.YtgjkfmcjalcefaaGreat

/- Apart, the program's and the reference's, over the calculator's memory. -/
namespace Go.Proofs.YtgjkfmcjalcefaaGreat
open Go.Proofs.YtgjkfmcjalcefaaGreat.Ev

set_option maxRecDepth 100000 in
set_option maxHeartbeats 4000000 in
theorem least_con (h : Heap) (g : Gd h) (x : Int) (v : AV) (xs : List Int) (hv : ItV h v xs) (hl : xs.length ≤ 1000) :
    Con Tryz.prog Bs 79 [.int .i64 x, v] h [] (.int .i64 (xs.foldl min x)) [] := by
  refine Con.start rfl Tryz.func79 rfl rfl Tryz.ntmps79 rfl rfl g ?_
  (refine WK.seq ?_; refine WK.region ?_; refine St.assign ?_; refine WO.nil ?_; refine WK.seq ?_; refine WK.seq ?_; refine WK.region ?_; refine St.move ?_)
  refine St.lenV rfl hv.len ?_
  (refine St.move ?_; refine WO.nil ?_; refine WK.block ?_)
  by_cases hn : xs.length = 0
  · have e1 : xs = [] := List.length_eq_zero_iff.1 hn
    subst e1
    refine WK.unroll ?_
    (refine WK.seq ?_; refine WK.region ?_; refine St.bin ?_; refine WO.nil ?_; refine WK.seq ?_; refine WK.condF ?_; refine WK.exit ?_; refine WK.seq ?_; refine WK.region ?_; refine St.move ?_; refine St.assign ?_; refine WO.nil ?_)
    refine St.ret (by first | exact .tmp .nil | exact .cell .nil | exact .cell (.tmp .nil) | exact .tmp (.tmp .nil) | exact .cell (.cell .nil) | exact .tmp (.cell .nil) | exact .nil | exact .tmp (.cell (.tmp .nil)) | exact .cell (.tmp (.tmp .nil)) | exact .cell (.cell (.tmp .nil)) | exact .tmp (.tmp (.tmp .nil)) | exact .cell (.cell (.cell .nil))) ?_
    rfl
  obtain ⟨b, off, c, rfl, hk⟩ := hv.ne (by omega)
  refine WK.inv (ι := Nat) (fun z => [(0, .int .i64 ((xs.take z).foldl min x)), (7, .slice b off xs.length c), (8, .int .i64 xs.length), (9, .int .i64 z)]) (fun _ => []) (fun z => z ≤ xs.length) (fun z => xs.length - z) 0 (by omega) ⟨rfl, rfl, rfl, rfl, trivial⟩ (by (repeat (first | exact List.Sublist.refl _ | exact List.nil_sublist _ | apply List.Sublist.cons_cons | apply List.Sublist.cons))) ?_
  rintro k hkl ih
  (refine WK.seq ?_; refine WK.region ?_; refine St.bin ?_; refine WO.nil ?_; refine WK.seq ?_)
  refine St.splitC (fun hc => ?_) (fun hc => ?_)
  · have hlt : k < xs.length := by simp at hc; omega
    have hs := foldl_take min x hlt
    (refine WK.skip ?_; refine WK.seq ?_; refine WK.block ?_; refine WK.seq ?_; refine WK.region ?_)
    refine St.at ?_
    refine St.loadX (fun h hh => ((hk.vw hh).at_ (z := (k : Int)) (n := k) (by omega) hlt).one rfl) ?_
    (refine St.assign ?_; refine WO.nil ?_; refine WK.seq ?_; refine WK.region ?_; refine St.move ?_; refine St.move ?_; refine St.bin ?_; refine WO.nil ?_)
    refine St.splitC (fun hc2 => ?_) (fun hc2 => ?_)
    · have : min ((xs.take k).foldl min x) (nth xs k) = nth xs k := by simp at hc2; omega
      rw [this] at hs
      (refine WK.region ?_; refine St.move ?_; refine St.assign ?_; refine WO.nil ?_; refine WK.blk ?_; refine WK.region ?_; refine St.binI ?_; refine St.move ?_; refine WO.nil ?_)
      refine WK.le ?_ (by (repeat (first | exact List.Sublist.refl _ | exact List.nil_sublist _ | apply List.Sublist.cons_cons | apply List.Sublist.cons))) (ih (k + 1) hlt (by omega))
      exact ⟨congrArg (fun z => some (AV.int .i64 z)) hs.symm, rfl, rfl, rfl, trivial⟩
    · have : min ((xs.take k).foldl min x) (nth xs k) = (xs.take k).foldl min x := by simp at hc2; omega
      rw [this] at hs
      (refine WK.skip ?_; refine WK.blk ?_; refine WK.region ?_; refine St.binI ?_; refine St.move ?_; refine WO.nil ?_)
      refine WK.le ?_ (by (repeat (first | exact List.Sublist.refl _ | exact List.nil_sublist _ | apply List.Sublist.cons_cons | apply List.Sublist.cons))) (ih (k + 1) hlt (by omega))
      exact ⟨congrArg (fun z => some (AV.int .i64 z)) hs.symm, rfl, rfl, rfl, trivial⟩
  · have : k = xs.length := by simp at hc; omega
    subst this
    rw [List.take_length]
    (refine WK.exit ?_; refine WK.seq ?_; refine WK.region ?_; refine St.move ?_; refine St.assign ?_; refine WO.nil ?_)
    refine St.ret (by first | exact .tmp .nil | exact .cell .nil | exact .cell (.tmp .nil) | exact .tmp (.tmp .nil) | exact .cell (.cell .nil) | exact .tmp (.cell .nil) | exact .nil | exact .tmp (.cell (.tmp .nil)) | exact .cell (.tmp (.tmp .nil)) | exact .cell (.cell (.tmp .nil)) | exact .tmp (.tmp (.tmp .nil)) | exact .cell (.cell (.cell .nil))) ?_
    rfl
/-- what Apart returns -/
def ApOut (r : Int × Cy × Int) (v : AV) (L : Ob) : Prop := ∃ hv, IsIs r.2.1.hs hv L ∧ v = .tup [.int .i64 r.1, .agg [.int .i64 r.2.1.id, .int .i64 r.2.1.bg, .int .i64 r.2.1.ev, hv], .int .i64 r.2.2]
end Go.Proofs.YtgjkfmcjalcefaaGreat

/- The reference's Apart over the calculator's memory. -/
namespace Go.Proofs.YtgjkfmcjalcefaaGreat
open Go.Proofs.YtgjkfmcjalcefaaGreat.Ev

def apTo (hs : List Int) (k : Nat) : List Int := (hs.take k).map (· - minH hs)
end Go.Proofs.YtgjkfmcjalcefaaGreat

/- What Shortest, Apart and Together keep: plain facts. -/
namespace Go.Proofs.YtgjkfmcjalcefaaGreat
open Go.Proofs.YtgjkfmcjalcefaaGreat.Ev

end Go.Proofs.YtgjkfmcjalcefaaGreat

/- The law TideCycles over the calculator's memory. -/
namespace Go.Proofs.YtgjkfmcjalcefaaGreat
open Go.Proofs.YtgjkfmcjalcefaaGreat.Ev

section
variable (L1 L2 L3 L4 L5 L6 : Ob)
end
theorem sanity_con (h : Heap) (g : Gd h) : Con Tryz.prog Bs 6 [] h [] (.bool true) [] := Con.base rfl g
theorem Ev.Vw.two {h0 h : Heap} {W : List Nat} {V L1 L2 : Ob} {xs : List Int} {v1 v2 : AV} (hh : Vw h0 W V h) (k1 : IsIs xs v1 L1) (k2 : IsIs xs v2 L2) (s1 : L1.Sublist V) (s2 : L2.Sublist V) : ItV h v1 xs ∧ ItV h v2 xs := ⟨k1.itV hh s1, k2.itV hh s2⟩
end Go.Proofs.YtgjkfmcjalcefaaGreat

/- The law TideCyclesHold over the calculator's memory. -/
namespace Go.Proofs.YtgjkfmcjalcefaaGreat
open Go.Proofs.YtgjkfmcjalcefaaGreat.Ev

def isMin (t : Int) : Bool := decide (0 ≤ t) && decide (t ≤ 1048576)
def cvalR (c : Cy) (t : Int) : Int × Int := if cyOk c = true ∧ isMin t = true then (valC c t, 0) else (0, 1)
/-- is there a difference among the first n? -/
def difTo (xs : List Int) (m n : Nat) : Bool := (List.range n).any fun i => nth xs (i % m) != nth xs (i % xs.length)
end Go.Proofs.YtgjkfmcjalcefaaGreat
