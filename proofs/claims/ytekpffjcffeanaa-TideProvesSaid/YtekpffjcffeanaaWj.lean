/- Lists of stands that are read; the reference's stands; comparing lists of stands. -/
import Derived.Test.YtekpffjcffeanaaWi
import Derived.Test.YtekpffjcffeanaaWr
namespace Go.Proofs.Ytekpffjcffeanaa
open Go.Proofs.Ytekpffjcffeanaa.Ev

/-- stands in memory -/
def StH (h : Heap) (b off : Nat) (l : List Sd) : Prop := ∀ i, i < l.length → Rds h b (off + i * 3) (sdC (nthD l i))
theorem StH.vw {h0 h : Heap} {V : Ob} {b off l} (k : StH h0 b off l) (hh : Vw h0 [] V h) : StH h b off l := fun i hi => hh.rds (by simp) (k i hi)
theorem StH.at_ {h : Heap} {b off l} (k : StH h b off l) {z : Int} {n : Nat} (e : z.toNat = n) (hi : n < l.length) : Rds h b (off + z.toNat * 3) [.int .i64 (nthD l n).lo, .int .i64 (nthD l n).hi, .int .i64 (nthD l n).ht] := by
  subst e; exact k _ hi
def StV (h : Heap) (v : AV) (l : List Sd) : Prop := ((v = .slice0 ∨ v = .sliceZ) ∧ l = []) ∨ ∃ b off c, v = .slice b off l.length c ∧ StH h b off l
theorem StV.vw {h0 h : Heap} {V : Ob} {v l} (k : StV h0 v l) (hh : Vw h0 [] V h) : StV h v l := by
  rcases k with k | ⟨b, off, c, rfl, k⟩
  · exact .inl k
  · exact .inr ⟨b, off, c, rfl, k.vw hh⟩
theorem StV.ne {h : Heap} {v : AV} {l : List Sd} (k : StV h v l) (hn : 0 < l.length) : ∃ b off c, v = .slice b off l.length c ∧ StH h b off l := by
  rcases k with ⟨_, rfl⟩ | k
  · simp at hn
  · exact k
theorem StV.len {h : Heap} {v : AV} {l : List Sd} (k : StV h v l) : ∀ h2, lenA Try.prog 47 h2 v = some (.int .i64 (l.length : Int)) := by
  intro h2
  unfold lenA
  rw [Try.underlying47]
  rcases k with ⟨rfl | rfl, rfl⟩ | ⟨b, off, c, rfl, _⟩ <;> rfl
theorem isl_len {l : List AV} {n : Nat} {v : AV} {Lv : Ob} {t e : TypeId} {sz : Nat} (hw : IsL e sz n l v Lv) (ht : Try.prog.underlying t = some (.slice e)) : ∀ h2, lenA Try.prog t h2 v = some (.int .i64 (n : Int)) := by
  intro h2
  unfold lenA
  rw [ht]
  rcases hw.open_ with ⟨rfl, _, h1, _⟩ | ⟨i, c, o, rfl, rfl, ho, _⟩
  · rw [h1]; rfl
  · rfl
/-! stands that are the same -/
def sdEq (x y : Sd) : Bool := (x.lo == y.lo && x.hi == y.hi) && x.ht == y.ht
end Go.Proofs.Ytekpffjcffeanaa
