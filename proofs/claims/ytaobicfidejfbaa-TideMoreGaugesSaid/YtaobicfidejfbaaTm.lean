/- Apart, the program's and the reference's, over the calculator's memory. -/
import Derived.Test.YtaobicfidejfbaaTg
namespace Go.Proofs.Ytaobicfidejfbaa
open Go.Proofs.Ytaobicfidejfbaa.Ev

set_option maxRecDepth 100000 in
set_option maxHeartbeats 4000000 in
theorem least_con (h : Heap) (g : Gd h) (x : Int) (v : AV) (xs : List Int) (hv : ItV h v xs) (hl : xs.length ≤ 1000) :
    Con Try.prog Bs 51 [.int .i64 x, v] h [] (.int .i64 (xs.foldl min x)) [] := by
  refine Con.start rfl Try.func51 rfl rfl Try.ntmps51 rfl rfl g ?_
  (refine WK.seq ?_; refine WK.region ?_; refine St.assign ?_; refine WO.nil ?_; refine WK.seq ?_; refine WK.seq ?_; refine WK.region ?_; refine St.move ?_)
  refine St.lenV rfl hv.len ?_
  (refine St.move ?_; refine WO.nil ?_; refine WK.block ?_)
  by_cases hn : xs.length = 0
  · have e1 : xs = [] := List.length_eq_zero_iff.1 hn
    subst e1
    refine WK.unroll ?_
    (refine WK.seq ?_; refine WK.region ?_; refine St.bin ?_; refine WO.nil ?_; refine WK.seq ?_; refine WK.condF ?_; refine WK.exit ?_; refine WK.seq ?_; refine WK.region ?_; refine St.move ?_; refine St.assign ?_; refine WO.nil ?_)
    refine St.ret (by first | exact .tmp .nil | exact .cell .nil | exact .cell (.tmp .nil) | exact .tmp (.tmp .nil) | exact .cell (.cell .nil) | exact .tmp (.cell .nil) | exact .nil | exact .tmp (.cell (.tmp .nil)) | exact .cell (.tmp (.tmp .nil)) | exact .cell (.cell (.tmp .nil)) | exact .tmp (.tmp (.tmp .nil)) | exact .cell (.cell (.cell .nil))) ?_
    rfl
  obtain ⟨b, off, c, rfl, hk⟩ := hv.ne (by omega)
  refine WK.inv (ι := Nat) (fun z => [(0, .int .i64 ((xs.take z).foldl min x)), (7, .slice b off xs.length c), (8, .int .i64 xs.length), (9, .int .i64 z)]) (fun _ => []) (fun z => z ≤ xs.length) (fun z => xs.length - z) 0 (by omega) ⟨rfl, rfl, rfl, rfl, trivial⟩ (by (repeat (first | exact List.Sublist.refl _ | exact List.nil_sublist _ | apply List.Sublist.cons_cons | apply List.Sublist.cons))) ?_
  rintro k hkl ih
  (refine WK.seq ?_; refine WK.region ?_; refine St.bin ?_; refine WO.nil ?_; refine WK.seq ?_)
  refine St.splitC (fun hc => ?_) (fun hc => ?_)
  · have hlt : k < xs.length := by simp at hc; omega
    have hs := foldl_take min x hlt
    (refine WK.skip ?_; refine WK.seq ?_; refine WK.block ?_; refine WK.seq ?_; refine WK.region ?_)
    refine St.at ?_
    refine St.loadX (fun h hh => ((hk.vw hh).at_ (z := (k : Int)) (n := k) (by omega) hlt).one rfl) ?_
    (refine St.assign ?_; refine WO.nil ?_; refine WK.seq ?_; refine WK.region ?_; refine St.move ?_; refine St.move ?_; refine St.bin ?_; refine WO.nil ?_)
    refine St.splitC (fun hc2 => ?_) (fun hc2 => ?_)
    · have : min ((xs.take k).foldl min x) (nth xs k) = nth xs k := by simp at hc2; omega
      rw [this] at hs
      (refine WK.region ?_; refine St.move ?_; refine St.assign ?_; refine WO.nil ?_; refine WK.blk ?_; refine WK.region ?_; refine St.binI ?_; refine St.move ?_; refine WO.nil ?_)
      refine WK.le ?_ (by (repeat (first | exact List.Sublist.refl _ | exact List.nil_sublist _ | apply List.Sublist.cons_cons | apply List.Sublist.cons))) (ih (k + 1) hlt (by omega))
      exact ⟨congrArg (fun z => some (AV.int .i64 z)) hs.symm, rfl, rfl, rfl, trivial⟩
    · have : min ((xs.take k).foldl min x) (nth xs k) = (xs.take k).foldl min x := by simp at hc2; omega
      rw [this] at hs
      (refine WK.skip ?_; refine WK.blk ?_; refine WK.region ?_; refine St.binI ?_; refine St.move ?_; refine WO.nil ?_)
      refine WK.le ?_ (by (repeat (first | exact List.Sublist.refl _ | exact List.nil_sublist _ | apply List.Sublist.cons_cons | apply List.Sublist.cons))) (ih (k + 1) hlt (by omega))
      exact ⟨congrArg (fun z => some (AV.int .i64 z)) hs.symm, rfl, rfl, rfl, trivial⟩
  · have : k = xs.length := by simp at hc; omega
    subst this
    rw [List.take_length]
    (refine WK.exit ?_; refine WK.seq ?_; refine WK.region ?_; refine St.move ?_; refine St.assign ?_; refine WO.nil ?_)
    refine St.ret (by first | exact .tmp .nil | exact .cell .nil | exact .cell (.tmp .nil) | exact .tmp (.tmp .nil) | exact .cell (.cell .nil) | exact .tmp (.cell .nil) | exact .nil | exact .tmp (.cell (.tmp .nil)) | exact .cell (.tmp (.tmp .nil)) | exact .cell (.cell (.tmp .nil)) | exact .tmp (.tmp (.tmp .nil)) | exact .cell (.cell (.cell .nil))) ?_
    rfl
/-- what Apart returns -/
def ApOut (r : Int × Cy × Int) (v : AV) (L : Ob) : Prop := ∃ hv, IsIs r.2.1.hs hv L ∧ v = .tup [.int .i64 r.1, .agg [.int .i64 r.2.1.id, .int .i64 r.2.1.bg, .int .i64 r.2.1.ev, hv], .int .i64 r.2.2]
end Go.Proofs.Ytaobicfidejfbaa
