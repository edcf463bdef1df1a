/- Layer 8: arguments that are structs of integers: what they read as; how a contract over the calculator's memory is said of the model. -/
import Derived.Deep.Slices
import Derived.Deep.Fields
import Derived.Deep.Strs
import Derived.Lib.SmallJoins
import Derived.Test.YtnihpojigpomkaaGreatRow
import Derived.Test.YtnihpojigpomkaaGreatSan
import Derived.Test.YtnihpojigpomkaaGreatDe
namespace Go.Proofs.YtnihpojigpomkaaGreat
open Go.ChangeShapes Go.WideShapes Go.ChangeAt Go.RowKit Go.Deep Go.Proofs.YtnihpojigpomkaaGreat.Ev

theorem Bs_sound : SoundC Tryz.prog Bs := sayB_sound (Ev.enters_of Tryz.func6 rfl rfl) sanity_any
theorem vr_int {E : Env} {k : IntKind} {n : Int} : VR E (.int k n) (.int k n) := by simp [VR]
section
variable {W : World}
/-- an argument's slice lies in memory, or is nil -/
def SlOk (W : World) (A : Option Addr) (n c : Nat) : Prop := (A = none ∧ n = 0 ∧ c = 0) ∨ ∃ b off, A = some ⟨b, off, none⟩ ∧ ∃ C t fr, W.heap[b]? = some (.cells C t fr)
end
section
variable {H : Type} {enc : TypeId × Value → H} {W : World} {base b0 : Nat} {spare : Nat → Bool} {held : Bool} {r : Reach}

theorem ex_list {α : Type} {p : Nat → α → Prop} : ∀ {n : Nat}, (∀ i, i < n → ∃ x, p i x) → ∃ l : List α, l.length = n ∧ ∀ i (h : i < l.length), p i l[i]
  | 0, _ => ⟨[], rfl, fun i h => absurd h (by simp)⟩
  | n + 1, h => by
    obtain ⟨l, hl, hp⟩ := ex_list (n := n) fun i hi => h i (by omega)
    obtain ⟨x, hx⟩ := h n (by omega)
    refine ⟨l ++ [x], by simp [hl], fun i hi => ?_⟩
    by_cases e : i < l.length
    · rw [List.getElem_append_left e]; exact hp i e
    · have : i = n := by simp [hl] at hi; omega
      subst this
      rw [List.getElem_append_right (by omega)]
      simpa [hl] using hx
/-- elements of an argument lie in memory -/
def At (W : World) {α : Type} [Inhabited α] (enc : α → List AV) (sz : Nat) (A : Option Addr) (l : List α) : Prop := l ≠ [] → ∃ b off, A = some ⟨b, off, none⟩ ∧ b < W.heap.size ∧ EH enc sz (absH W) b off l
/-- fields that are ints, one cell each, one behind the other -/
def intS (P : Program) : List Field → Nat → Bool
  | [], _ => true
  | f :: fs, i => Nat.beq f.offset i && ((match P.underlying f.type, sizeT P f.type with
    | some (.int .i64), some 1 => true
    | _, _ => false) && intS P fs (i + 1))
theorem intS_at {P : Program} : ∀ {fs : List Field} {i : Nat}, intS P fs i = true → ∀ (k : Nat) (f : Field), fs[k]? = some f → f.offset = i + k ∧ P.underlying f.type = some (.int .i64) ∧ P.cellsOf f.type = 1
  | [], i, _, k, f, h => by simp at h
  | f0 :: fs, i, h, k, f, hk => by
    unfold intS at h
    simp only [Bool.and_eq_true] at h
    obtain ⟨h2, h3, h4⟩ := h
    cases k with
    | zero =>
      simp only [List.getElem?_cons_zero, Option.some.injEq] at hk
      subst hk
      have := Nat.eq_of_beq_eq_true h2
      split at h3
      · rename_i a b; exact ⟨by omega, a, cellsOf_one b⟩
      · cases h3
    | succ k =>
      obtain ⟨g2, g3⟩ := intS_at h4 k f (by simpa using hk)
      exact ⟨by omega, g3⟩
set_option maxRecDepth 100000 in
theorem ints_struct {t : TypeId} {fs : Array Field} (ht : Tryz.prog.underlying t = some (.struct fs)) (hc : Tryz.prog.cellsOf t = fs.size) (hf : intS Tryz.prog fs.toList 0 = true) {v : Value} {d : DataW H} {p : List MemPlace} (hv : Value.okWide Tryz.prog W r b0 t v) (h : DataW.Trod enc Tryz.prog W base spare held t v d p) :
    ∃ l : List Int, l.length = fs.size ∧ v = .agg (l.map fun n => Value.int .i64 n).toArray := by
  obtain ⟨cs, rfl, hsz⟩ := okWide_struct ht hv
  obtain ⟨fuel, hF⟩ := h
  obtain ⟨xs, n, _, _, hl, hlen, hq⟩ := DataW.trod_struct ht hF
  rw [hc] at hsz
  obtain ⟨l, hll, hk⟩ := ex_list (n := fs.size) (p := fun i (k : Int) => cs[i]? = some (.int .i64 k)) fun i hi => by
    have hfi : fs.toList[i]? = some fs[i] := by simp [hi]
    obtain ⟨o, u, c⟩ := intS_at hf i fs[i] hfi
    obtain ⟨y, hy⟩ : ∃ y, DataW.trod enc Tryz.prog W base spare held n fs[i].type (((Value.agg cs).cells.toList.drop fs[i].offset).take (Tryz.prog.cellsOf fs[i].type)) = some y := by
      have := hq i fs[i] (by simp [hi])
      exact ⟨xs[i]'(by omega), by rw [this]; exact List.getElem?_eq_getElem _⟩
    rw [o, c, Nat.zero_add] at hy
    have hcl : (Value.agg cs).cells.toList = cs.toList := rfl
    rw [hcl, List.drop_eq_getElem_cons (by simp; omega)] at hy
    obtain ⟨x, e1, _⟩ := DataW.trod_int u hy
    refine ⟨x, ?_⟩
    simp at e1
    rw [Array.getElem?_eq_getElem (by omega), e1]
  refine ⟨l, hll, ?_⟩
  congr 1
  refine Array.ext (by simp; omega) fun i h1 h2 => ?_
  have := hk i (by omega)
  rw [Array.getElem?_eq_getElem h1] at this
  simpa using this
theorem len4 {l : List Int} (h : l.length = 4) : ∃ a b c d, l = [a, b, c, d] := by
  match l, h with
  | [a, b, c, d], _ => exact ⟨a, b, c, d, rfl⟩
set_option maxRecDepth 100000 in
theorem open_posting {v : Value} {d : DataW H} {p : List MemPlace} (hv : Value.okWide Tryz.prog W r b0 23 v) (h : DataW.Trod enc Tryz.prog W base spare held 23 v d p) : ∃ x : Po, v = .agg #[.int .i64 x.it, .int .i64 x.dy, .int .i64 x.ac, .int .i64 x.am] := by
  obtain ⟨l, hl, rfl⟩ := ints_struct Tryz.underlying23 (by kernel_rfl) (by decide +kernel) hv h
  obtain ⟨a, b, c, d, rfl⟩ := len4 hl
  exact ⟨⟨a, b, c, d⟩, rfl⟩
end
theorem vr_posting {E : Env} {x : Po} : VR E (.agg (poC x)) (.agg #[.int .i64 x.it, .int .i64 x.dy, .int .i64 x.ac, .int .i64 x.am]) := by
  simp only [VR]
  exact ⟨[.int .i64 x.it, .int .i64 x.dy, .int .i64 x.ac, .int .i64 x.am], rfl, VRs.cons vr_int (VRs.cons vr_int (VRs.cons vr_int (VRs.cons vr_int VRs.nil)))⟩
end Go.Proofs.YtnihpojigpomkaaGreat
