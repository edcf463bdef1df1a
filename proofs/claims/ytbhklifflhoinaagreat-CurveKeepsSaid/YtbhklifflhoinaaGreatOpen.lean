/- An argument that is a curve, a span, a peak: what it reads as. -/
import Derived.Deep.Slices
import Derived.Deep.Fields
import Derived.Test.YtbhklifflhoinaaGreatRow
import Derived.Test.YtbhklifflhoinaaGreatPl
namespace Go.Proofs.YtbhklifflhoinaaGreat
open Go.ChangeShapes Go.WideShapes Go.ChangeAt Go.RowKit Go.Deep

section
variable {H : Type} {enc : TypeId × Value → H} {W : World} {base b0 : Nat} {spare : Nat → Bool} {held : Bool} {r : Reach}

theorem cell_spot {a : Addr} {v : Value} (h : W.cell? a = some v) : a.spot = none ∧ a.block < W.heap.size := by
  unfold World.cell? at h
  split at h
  · rename_i hb
    split at h
    · cases h
    · rename_i hs
      exact ⟨by simpa using hs, (Array.getElem?_eq_some_iff.1 hb).1⟩
  · cases h
theorem ex_list {α : Type} {p : Nat → α → Prop} : ∀ {n : Nat}, (∀ i, i < n → ∃ x, p i x) → ∃ l : List α, l.length = n ∧ ∀ i (h : i < l.length), p i l[i]
  | 0, _ => ⟨[], rfl, fun i h => absurd h (by simp)⟩
  | n + 1, h => by
    obtain ⟨l, hl, hp⟩ := ex_list (n := n) fun i hi => h i (by omega)
    obtain ⟨x, hx⟩ := h n (by omega)
    refine ⟨l ++ [x], by simp [hl], fun i hi => ?_⟩
    by_cases e : i < l.length
    · rw [List.getElem_append_left e]; exact hp i e
    · have : i = n := by simp [hl] at hi; omega
      subst this
      rw [List.getElem_append_right (by omega)]
      simpa [hl] using hx

set_option maxRecDepth 100000 in
/-- two cells that are numbers -/
theorem open_pair2 {t : TypeId} {f0 f1 : Field} (hs : Tryz.prog.underlying t = some (.struct #[f0, f1])) (hone : oneCellFields Tryz.prog #[f0, f1] = true)
    (h0 : Tryz.prog.underlying f0.type = some (.int .i64)) (h1 : Tryz.prog.underlying f1.type = some (.int .i64)) {n : Nat} {cs : List Value} {y : DataW H × List MemPlace} (h : DataW.trod enc Tryz.prog W base spare held n t cs = some y) (hl : cs.length = 2) :
    ∃ a b : Int, cs = [.int .i64 a, .int .i64 b] := by
  obtain ⟨y0, y1, n, hx, _, g0, g1⟩ := trod_struct2 hs h
  obtain ⟨o0, k0⟩ := hone_of hone 0 f0 rfl
  obtain ⟨o1, k1⟩ := hone_of hone 1 f1 rfl
  match cs, hl with
  | [c0, c1], _ =>
    rw [o0, k0] at g0
    rw [o1, k1] at g1
    obtain ⟨a, e0, _⟩ := DataW.trod_int h0 g0
    obtain ⟨b, e1, _⟩ := DataW.trod_int h1 g1
    simp at e0 e1
    exact ⟨a, b, by rw [e0, e1]⟩

set_option maxRecDepth 100000 in
theorem open_knots {n : Nat} {cs : List Value} {y : DataW H × List MemPlace} (h : DataW.trod enc Tryz.prog W base spare held n 22 cs = some y) :
    ∃ (A : Option Addr) (c : Nat) (ks : List (Int × Int)), cs = [.slice A ks.length c] ∧ KnAt W A ks ∧ ks.length ≤ maxLen := by
  rcases open_slice Tryz.underlying22 h with ⟨rfl, _⟩ | ⟨a, len, cap, m, n, D, Pl, rfl, hb, hl, hm, hmm, _, hi⟩
  · exact ⟨none, 0, [], rfl, fun hne => absurd rfl hne, by simp⟩
  · have hC : Tryz.prog.cellsOf 81 = 2 := by kernel_rfl
    rw [hC] at hi
    have hlm : len ≤ m := by rw [hmm]; split <;> omega
    obtain ⟨ks, hkl, hk⟩ := ex_list (n := len) (p := fun i (k : Int × Int) => W.cell? (a.add (i * 2)) = some (.int .i64 k.1) ∧ W.cell? (a.add (i * 2 + 1)) = some (.int .i64 k.2)) fun i hil => by
      obtain ⟨cs', hc, ht⟩ := hi i (by omega)
      obtain ⟨_, hlen, hat⟩ := World.cells?_some hc
      obtain ⟨x, y, rfl⟩ := open_pair2 Tryz.underlying81 (by kernel_rfl) Tryz.underlying3 Tryz.underlying3 ht hlen
      refine ⟨(x, y), ?_, ?_⟩
      · have := hat 0 (by omega); simpa [Addr.add] using this
      · have := hat 1 (by omega)
        rw [add_add] at this
        simpa using this
    subst hkl
    refine ⟨some a, cap, ks, rfl, fun hne => ?_, by omega⟩
    have h0 := hk 0 (List.length_pos_iff.2 hne)
    simp only [Nat.zero_mul] at h0
    have e0 : a.add 0 = a := rfl
    rw [e0] at h0
    obtain ⟨hsp, hbl⟩ := cell_spot h0.1
    obtain ⟨b, off, sp⟩ := a
    subst hsp
    refine ⟨b, off, rfl, hbl, fun i hi => ?_⟩
    have := hk i hi
    have e1 : (⟨b, off, none⟩ : Addr).add (i * 2) = ⟨b, off + i * 2, none⟩ := by unfold Addr.add; split <;> simp_all
    have e2 : (⟨b, off, none⟩ : Addr).add (i * 2 + 1) = ⟨b, off + i * 2 + 1, none⟩ := by unfold Addr.add; split <;> simp_all [Nat.add_assoc]
    rw [e1, e2] at this
    exact this

/-- an argument's slice lies in memory, or is nil -/
def SlOk (W : World) (A : Option Addr) (n c : Nat) : Prop := (A = none ∧ n = 0 ∧ c = 0) ∨ ∃ b off, A = some ⟨b, off, none⟩ ∧ ∃ C t fr, W.heap[b]? = some (.cells C t fr)
theorem has_lt {P : Program} {W : World} {r : Reach} {base : Nat} {a : Addr} {e : TypeId} {n : Nat} (h : W.has P r base a e n) : ∃ b off, a = ⟨b, off, none⟩ ∧ ∃ C t fr, W.heap[b]? = some (.cells C t fr) := by
  obtain ⟨_, hs, row, cells, hsh, _⟩ := h
  obtain ⟨b, off, sp⟩ := a
  cases hs
  refine ⟨b, off, rfl, ?_⟩
  unfold World.shape? at hsh
  split at hsh
  · rename_i C t fr hb; exact ⟨C, t, fr, hb⟩
  · cases hsh
theorem slOk_of {P : Program} {r : Reach} {b0 : Nat} {t e : TypeId} {A : Option Addr} {n c : Nat} (ht : P.underlying t = some (.slice e)) (h : Cell.okWide P W r b0 t (.slice A n c)) : SlOk W A n c := by
  unfold Cell.okWide at h
  rw [ht] at h
  simp only at h
  unfold Cell.ok at h
  rw [ht] at h
  cases A with
  | none =>
    simp only at h
    split at h <;> first | (cases h; done) | skip
    all_goals first | exact .inl ⟨rfl, rfl, rfl⟩ | (rename_i h1 _; cases h1; exact .inl ⟨rfl, rfl, rfl⟩) | (rename_i h1; cases h1; exact .inl ⟨rfl, rfl, rfl⟩) | (simp_all; done)
  | some a =>
    simp only at h
    obtain ⟨b, off, rfl, hb⟩ := has_lt h.2.2
    exact .inr ⟨b, off, rfl, hb⟩
theorem field0_ok {P : Program} {r : Reach} {b0 : Nat} {t t0 t1 : TypeId} {fs : Array Field} {v0 v1 : Value} (ht : P.underlying t = some (.struct fs)) (hc : P.cellTypes P.depth t = some [t0, t1]) (h : Value.okWide P W r b0 t (.agg #[v0, v1])) : Cell.okWide P W r b0 t0 v0 := by
  unfold Value.okWide at h
  rw [ht] at h
  obtain ⟨cs, e, _, ts, h1, _, h2⟩ := h
  cases e
  rw [hc] at h1
  cases h1
  obtain ⟨u, h3, h4⟩ := h2 0 v0 rfl
  simp at h3
  rw [h3]
  exact h4
set_option maxRecDepth 100000 in
theorem curve_ok {r : Reach} {b0 : Nat} {A : Option Addr} {n c : Nat} {e : Value} (h : Value.okWide Tryz.prog W r b0 24 (.agg #[.slice A n c, e])) : SlOk W A n c :=
  slOk_of Tryz.underlying22 (field0_ok (t1 := 3) Tryz.underlying24 (by kernel_rfl) h)

set_option maxRecDepth 100000 in
theorem open_curve {v : Value} {d : DataW H} {p : List MemPlace} (hv : Value.okWide Tryz.prog W r b0 24 v) (h : DataW.Trod enc Tryz.prog W base spare held 24 v d p) :
    ∃ (A : Option Addr) (c : Nat) (ks : List (Int × Int)) (err : Int), v = .agg #[.slice A ks.length c, .int .i64 err] ∧ KnAt W A ks ∧ ks.length ≤ maxLen := by
  obtain ⟨v0, v1, y0, y1, k, rfl, _, _, h0, h1⟩ := Joins.open_agg2 Tryz.underlying24 (by kernel_rfl) (by kernel_rfl) hv h
  obtain ⟨A, c, ks, e0, hk, hl⟩ := open_knots h0
  obtain ⟨err, e1, _⟩ := DataW.trod_int Tryz.underlying3 h1
  simp only [List.cons.injEq, and_true] at e0 e1
  subst e0 e1
  exact ⟨A, c, ks, err, rfl, hk, hl⟩

set_option maxRecDepth 100000 in
theorem open_span {v : Value} {d : DataW H} {p : List MemPlace} (hv : Value.okWide Tryz.prog W r b0 27 v) (h : DataW.Trod enc Tryz.prog W base spare held 27 v d p) :
    ∃ lo hi : Int, v = .agg #[.int .i64 lo, .int .i64 hi] := by
  obtain ⟨v0, v1, y0, y1, k, rfl, _, _, h0, h1⟩ := Joins.open_agg2 Tryz.underlying27 (by kernel_rfl) (by kernel_rfl) hv h
  obtain ⟨n, e0, _⟩ := DataW.trod_int Tryz.underlying3 h0
  obtain ⟨m, e1, _⟩ := DataW.trod_int Tryz.underlying3 h1
  simp only [List.cons.injEq, and_true] at e0 e1
  subst e0 e1
  exact ⟨n, m, rfl⟩
end
end Go.Proofs.YtbhklifflhoinaaGreat
