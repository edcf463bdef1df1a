/- Gauges in memory; the program's small functions of gauges, and checkGauges. -/
import Derived.Test.YtekpffjcffeanaaUd
import Derived.Test.YtekpffjcffeanaaQp
namespace Go.Proofs.Ytekpffjcffeanaa
open Go.Proofs.Ytekpffjcffeanaa.Ev

def gaC (g : Ga) : List AV := [.int .i64 g.id, .int .i64 g.tk, .int .i64 g.lo, .int .i64 g.hi]
/-- gauges in memory -/
def GaH (h : Heap) (b off : Nat) (l : List Ga) : Prop := ∀ i, i < l.length → Rds h b (off + i * 4) (gaC (nthG l i))
theorem GaH.vw {h0 h : Heap} {V : Ob} {b off l} (k : GaH h0 b off l) (hh : Vw h0 [] V h) : GaH h b off l := fun i hi => hh.rds (by simp) (k i hi)
theorem GaH.at_ {h : Heap} {b off l} (k : GaH h b off l) {z : Int} {n : Nat} (e : z.toNat = n) (hi : n < l.length) : Rds h b (off + z.toNat * 4) [.int .i64 (nthG l n).id, .int .i64 (nthG l n).tk, .int .i64 (nthG l n).lo, .int .i64 (nthG l n).hi] := by
  subst e; exact k _ hi
def GaV (h : Heap) (v : AV) (l : List Ga) : Prop := ((v = .slice0 ∨ v = .sliceZ) ∧ l = []) ∨ ∃ b off c, v = .slice b off l.length c ∧ GaH h b off l
theorem GaV.vw {h0 h : Heap} {V : Ob} {v l} (k : GaV h0 v l) (hh : Vw h0 [] V h) : GaV h v l := by
  rcases k with k | ⟨b, off, c, rfl, k⟩
  · exact .inl k
  · exact .inr ⟨b, off, c, rfl, k.vw hh⟩
theorem GaV.ne {h : Heap} {v : AV} {l : List Ga} (k : GaV h v l) (hn : 0 < l.length) : ∃ b off c, v = .slice b off l.length c ∧ GaH h b off l := by
  rcases k with ⟨_, rfl⟩ | k
  · simp at hn
  · exact k
theorem GaV.len {h : Heap} {v : AV} {l : List Ga} (k : GaV h v l) : ∀ h2, lenA Try.prog 64 h2 v = some (.int .i64 (l.length : Int)) := by
  intro h2
  unfold lenA
  rw [Try.underlying64]
  rcases k with ⟨rfl | rfl, rfl⟩ | ⟨b, off, c, rfl, _⟩ <;> rfl
set_option maxRecDepth 100000 in
theorem isSpan_con (h : Heap) (g : Gd h) (a b : Int) : Con Try.prog Bs 87 [.agg [.int .i64 a, .int .i64 b]] h [] (.bool (decide (a ≤ b))) [] := by
  refine Con.start rfl Try.func87 rfl rfl Try.ntmps87 rfl rfl g ?_
  (refine WK.seq ?_; refine WK.region ?_; refine St.box fun _ _ => ?_; refine St.assign ?_; refine WO.nil ?_; refine WK.seq ?_; refine WK.region ?_; refine St.fieldAddr ?_; refine St.load ?_; refine St.fieldAddr ?_; refine St.load ?_; refine St.bin ?_; refine St.assign ?_; refine WO.nil ?_)
  refine St.ret (by first | exact .tmp .nil | exact .cell .nil | exact .cell (.tmp .nil) | exact .tmp (.tmp .nil) | exact .cell (.cell .nil) | exact .tmp (.cell .nil) | exact .nil | exact .tmp (.cell (.tmp .nil)) | exact .cell (.tmp (.tmp .nil)) | exact .cell (.cell (.tmp .nil)) | exact .tmp (.tmp (.tmp .nil)) | exact .cell (.cell (.cell .nil))) ?_
  rfl
end Go.Proofs.Ytekpffjcffeanaa
