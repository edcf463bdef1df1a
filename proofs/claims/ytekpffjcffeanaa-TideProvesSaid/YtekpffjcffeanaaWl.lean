/- HighWaters, LowWaters; the reference's Turning; the law TideTurns. -/
import Derived.Test.YtekpffjcffeanaaWk
namespace Go.Proofs.Ytekpffjcffeanaa
open Go.Proofs.Ytekpffjcffeanaa.Ev

theorem store_res {t ty : TypeId} {x y u : AV} {e : Int} (hs : sizeT Try.prog t = some 2) (ho : okCell u = true) : (AObj.cells [x, y] ty).store Try.prog t 0 (.agg [u, .int .i64 e]) = some (.cells [u, .int .i64 e] ty) := by
  have ha : ([u, AV.int .i64 e]).all okCell = true := by
    simp only [List.all_cons, ho, List.all_nil]
    rfl
  unfold AObj.store
  rw [hs]
  simp only []
  rw [if_pos ⟨rfl, ha⟩]
  rfl
theorem isl_form {e : TypeId} {sz n : Nat} {l : List AV} {v : AV} {L : Ob} (k : IsL e sz n l v L) : v = .slice0 ∨ ∃ i n c, v = .slice i 0 n c := by
  cases k with
  | nil => exact .inl rfl
  | cells => exact .inr ⟨_, _, _, rfl⟩
  | row => exact .inr ⟨_, _, _, rfl⟩
end Go.Proofs.Ytekpffjcffeanaa
