/- Lengths of what Refine, Thin and Cut return; the length of a list as an operation; a list of ints in the model's memory. -/
import Derived.Test.YtbhklifflhoinaaGreatLiftA
import Derived.Test.YtbhklifflhoinaaGreatCu
import Derived.Test.YtbhklifflhoinaaGreatTn
namespace Go.Proofs.YtbhklifflhoinaaGreat
open Go.RowKit Go.Proofs.YtbhklifflhoinaaGreat.Ev

theorem refineR_len (ks : List (Int × Int)) (err : Int) (xs : List Int) : (refineR ks err xs).1.length ≤ 1000000 := by
  unfold refineR
  repeat' split
  all_goals simp only [List.length_nil]
  all_goals omega
theorem thinR_len {ks : List (Int × Int)} {err : Int} (h : ks.length ≤ 60) : (thinR ks err).1.length ≤ 1000000 := by
  have := thinK_len ks
  unfold thinR
  split
  · simp only; omega
  · simp
theorem cutR_len (ks : List (Int × Int)) (err lo hi : Int) : (cutR ks err lo hi).1.length ≤ 1000000 := by
  unfold cutR
  split
  · simp
  · rename_i h
    have v := vd_of_chk (errOn_zero (by simpa using h)).1
    split
    · simp
    · have hcl : (corX ks lo hi).length ≤ 2 + 40 * 1 := cornX_le2 (lo := lo) (hi := hi) (l := [⟨none, 0, ks, 0⟩]) (one_all (p := fun c : Cur => c.ks.length ≤ 40) v.le)
      simp only [newK_length]
      omega
theorem Ev.St.lenV {P : Program} {B : Base} {Q : Post} {h0 : Heap} {W : List Nat} {N : Nat} {D : List Nat} {K : List Fr} {s : Sl} {L : Ob} {T : Tg} {md : Bool} {ops : Array Oper} {d : Nat} {ty : TypeId} {pos : String} {af : Array Edge} {gd : Option (Nat × Bool)} {l : List Oper} {x : Operand} {t : TypeId} {n : Nat} {v : AV} (hx : evS s x = some v) (hl : ∀ h, lenA P t h v = some (.int .i64 (n : Int))) (k : WO P B Q h0 W N D K md ops l ((d, .int .i64 (n : Int)) :: s) L T) (hw : wantS ops s N ⟨some d, .call ⟨.builtin .len, #[x], #[t]⟩, ty, pos, af, gd⟩ = some true := by exact rfl) (hd : Nat.blt d N = true := by exact rfl) : WO P B Q h0 W N D K md ops (⟨some d, .call ⟨.builtin .len, #[x], #[t]⟩, ty, pos, af, gd⟩ :: l) s L T :=
  WO.pure hw hd (fun h => by unfold evOp; simp [oCall, mapO, hx, evBuiltin, hl h]) k
theorem XsH.len {h : Heap} {v : AV} {xs : List Int} (k : XsH h v xs) : ∀ h2, lenA Tryz.prog 25 h2 v = some (.int .i64 (xs.length : Int)) := by
  intro h2
  unfold lenA
  rw [Tryz.underlying25]
  rcases k with ⟨rfl | rfl, rfl⟩ | ⟨b, off, c, rfl, _⟩ <;> rfl
/-- ints in the model's memory -/
def ItAt (w : World) (A : Option Addr) (xs : List Int) : Prop := xs ≠ [] → ∃ b off, A = some ⟨b, off, none⟩ ∧ b < w.heap.size ∧ ∀ i (h : i < xs.length), w.cell? ⟨b, off + i, none⟩ = some (.int .i64 xs[i])
theorem it_abs {w : World} {A : Option Addr} {c : Nat} {xs : List Int} (hA : SlOk w A xs.length c) (hk : ItAt w A xs) : ∃ xv, XsH (absH w) xv xs ∧ VR (idE w.heap.size) xv (.slice A xs.length c) := by
  rcases hA with ⟨rfl, h0, rfl⟩ | ⟨b, off, rfl, C, t, fr, hC⟩
  · have : xs = [] := List.length_eq_zero_iff.1 h0
    subst this
    exact ⟨.slice0, .inl ⟨.inl rfl, rfl⟩, by simp [VR]⟩
  · have hb := (Array.getElem?_eq_some_iff.1 hC).1
    refine ⟨.slice b off xs.length (.k c), .inr ⟨b, off, .k c, rfl, fun i hi => ?_⟩, by simp only [VR]; exact ⟨b, 0, if_pos hb, rfl⟩⟩
    obtain ⟨b', off', e, hb', hc⟩ := hk (by intro h; subst h; simp at hi)
    cases e
    exact absH_rd (hc i hi) rfl
end Go.Proofs.YtbhklifflhoinaaGreat
