/- What the base of layer 5 rests on: slices.Grow of no ints. -/
import Derived.Test.YtjlpoomjgidgaaaGa
import Derived.Test.YtjlpoomjgidgaaaShelfG
import Derived.Laws.AppendOwn
namespace Go.Proofs.Ytjlpoomjgidgaaa
open Go.Proofs.Ytjlpoomjgidgaaa.Ev Go.Sort Go.RowKit Go.Lib

theorem growInt_sound : SoundC Try.prog (growB 77 1 3) := by
  refine growB_sound (Ev.enters_of Try.func77 rfl rfl) (by decide) fun n w h0 h1 => ?_
  have hs : (Try.prog.info? 3).map (·.size) = some 1 := by kernel_rfl
  have hb : (Try.prog.info? 3).map (·.bytes) = some 8 := by kernel_rfl
  have hz : ((Try.prog.info? 3).bind (·.zero)).map (·.cells.size) = some 1 := by kernel_rfl
  obtain ⟨i0, hi0⟩ : ∃ i, Try.prog.info? 3 = some i := by
    cases h : Try.prog.info? 3 with
    | none => rw [h] at hs; cases hs
    | some i => exact ⟨i, rfl⟩
  rw [hi0] at hs hb hz
  simp only [Option.map_some, Option.some.injEq, Option.bind_some, Option.map_eq_some_iff] at hs hb hz
  obtain ⟨z, hz0, hz1⟩ := hz
  have := Any8.slices_Grow_grow Try.growInt i0 z hi0 hz0 (by omega) none 0 0 n [] w (Nat.le_refl _) (by omega) (by rw [hb]; omega) (by omega) (by simp) (fun _ => rfl) (fun a e => by cases e)
  refine this.mono ?_
  rintro e w' ⟨rfl, rfl⟩
  have hg := grownCap_ge w (0 + n) 0 3
  have hzc : ∀ k, (Builtin.zeroCells z.cells k).size = k * 1 := fun k => by
    unfold Builtin.zeroCells
    simp [hz1]
  refine ⟨(([] : List Value).toArray ++ Builtin.zeroCells z.cells (0 + n - 0) ++ Builtin.zeroCells z.cells (grownCap w (0 + n) 0 3 - (0 + n))).toList, grownCap w (0 + n) 0 3, rfl, by rw [Array.toArray_toList]; rfl, ?_⟩
  generalize grownCap w (0 + n) 0 3 = gc at *
  simp only [Array.length_toList, Array.size_append, hzc]
  simp
  omega
end Go.Proofs.Ytjlpoomjgidgaaa
