/- An argument that is a cycle: what it reads as; how a contract over the calculator's memory is said of the model. -/
import Derived.Deep.Slices
import Derived.Deep.Fields
import Derived.Test.YtgjkfmcjalcefaaGreatRow
import Derived.Test.YtgjkfmcjalcefaaGreatSan
import Derived.Test.YtgjkfmcjalcefaaGreatZs
import Derived.Test.YtgjkfmcjalcefaaGreatTb
namespace Go.Proofs.YtgjkfmcjalcefaaGreat
open Go.ChangeShapes Go.WideShapes Go.ChangeAt Go.RowKit Go.Deep Go.Proofs.YtgjkfmcjalcefaaGreat.Ev

theorem vr_int {E : Env} {k : IntKind} {n : Int} : VR E (.int k n) (.int k n) := by simp [VR]
theorem vr_agg4 {E : Env} {a b c d : AV} {x y z u : Value} (h1 : VR E a x) (h2 : VR E b y) (h3 : VR E c z) (h4 : VR E d u) : VR E (.agg [a, b, c, d]) (.agg #[x, y, z, u]) := by
  simp only [VR]
  exact ⟨[x, y, z, u], rfl, VRs.cons h1 (VRs.cons h2 (VRs.cons h3 (VRs.cons h4 VRs.nil)))⟩
theorem vrs1 {E : Env} {a : AV} {x : Value} (h1 : VR E a x) : VRs E [a] [x] := VRs.cons h1 VRs.nil
theorem vrs2 {E : Env} {a b : AV} {x y : Value} (h1 : VR E a x) (h2 : VR E b y) : VRs E [a, b] [x, y] := VRs.cons h1 (VRs.cons h2 VRs.nil)
theorem vrs3 {E : Env} {a b c : AV} {x y z : Value} (h1 : VR E a x) (h2 : VR E b y) (h3 : VR E c z) : VRs E [a, b, c] [x, y, z] := VRs.cons h1 (vrs2 h2 h3)
section
variable {W : World}
/-- an argument's slice lies in memory, or is nil -/
def SlOk (W : World) (A : Option Addr) (n c : Nat) : Prop := (A = none ∧ n = 0 ∧ c = 0) ∨ ∃ b off, A = some ⟨b, off, none⟩ ∧ ∃ C t fr, W.heap[b]? = some (.cells C t fr)
theorem has_lt {P : Program} {W : World} {r : Reach} {base : Nat} {a : Addr} {e : TypeId} {n : Nat} (h : W.has P r base a e n) : ∃ b off, a = ⟨b, off, none⟩ ∧ ∃ C t fr, W.heap[b]? = some (.cells C t fr) := by
  obtain ⟨_, hs, row, cells, hsh, _⟩ := h
  obtain ⟨b, off, sp⟩ := a
  cases hs
  refine ⟨b, off, rfl, ?_⟩
  unfold World.shape? at hsh
  split at hsh
  · rename_i C t fr hb; exact ⟨C, t, fr, hb⟩
  · cases hsh
theorem slOk_of {P : Program} {r : Reach} {b0 : Nat} {t e : TypeId} {A : Option Addr} {n c : Nat} (ht : P.underlying t = some (.slice e)) (h : Cell.okWide P W r b0 t (.slice A n c)) : SlOk W A n c := by
  unfold Cell.okWide at h
  rw [ht] at h
  simp only at h
  unfold Cell.ok at h
  rw [ht] at h
  cases A with
  | none =>
    simp only at h
    split at h <;> first | (cases h; done) | skip
    all_goals first | exact .inl ⟨rfl, rfl, rfl⟩ | (rename_i h1 _; cases h1; exact .inl ⟨rfl, rfl, rfl⟩) | (rename_i h1; cases h1; exact .inl ⟨rfl, rfl, rfl⟩) | (simp_all; done)
  | some a =>
    simp only at h
    obtain ⟨b, off, rfl, hb⟩ := has_lt h.2.2
    exact .inr ⟨b, off, rfl, hb⟩
end
theorem field_ok {P : Program} {W : World} {r : Reach} {b0 : Nat} {t ti : TypeId} {fs : Array Field} {ts : List TypeId} {vs : Array Value} {i : Nat} {v : Value} (ht : P.underlying t = some (.struct fs)) (hc : P.cellTypes P.depth t = some ts) (hi : ts[i]? = some ti) (hv : vs[i]? = some v) (h : Value.okWide P W r b0 t (.agg vs)) : Cell.okWide P W r b0 ti v := by
  unfold Value.okWide at h
  rw [ht] at h
  obtain ⟨cs, e, _, ts', h1, _, h2⟩ := h
  cases e
  rw [hc] at h1
  cases h1
  obtain ⟨u, h3, h4⟩ := h2 i v hv
  have h5 : some ti = some u := by
    have h6 := (List.getElem?_eq_some_iff.1 hi).1
    rw [← hi]
    simpa [Nat.mod_eq_of_lt h6] using h3
  cases h5
  exact h4
/-- ints in the model's memory -/
def ItAt (w : World) (A : Option Addr) (xs : List Int) : Prop := xs ≠ [] → ∃ b off, A = some ⟨b, off, none⟩ ∧ b < w.heap.size ∧ ∀ i (h : i < xs.length), w.cell? ⟨b, off + i, none⟩ = some (.int .i64 xs[i])
theorem it_abs {w : World} {A : Option Addr} {c : Nat} {xs : List Int} (hA : SlOk w A xs.length c) (hl : xs.length ≤ c) (hk : ItAt w A xs) : ∃ xv, ItA (absH w) xv xs ∧ VR (idE w.heap.size) xv (.slice A xs.length c) := by
  rcases hA with ⟨rfl, h0, rfl⟩ | ⟨b, off, rfl, C, t, fr, hC⟩
  · have : xs = [] := List.length_eq_zero_iff.1 h0
    subst this
    exact ⟨.slice0, .inl ⟨.inl rfl, rfl⟩, by simp [VR]⟩
  · have hb := (Array.getElem?_eq_some_iff.1 hC).1
    refine ⟨.slice b off xs.length (.k c), .inr ⟨b, off, .k c, rfl, .inl ⟨c, rfl, hl⟩, fun i hi => ?_⟩, by simp only [VR]; exact ⟨b, 0, if_pos hb, rfl⟩⟩
    obtain ⟨b', off', e, hb', hc⟩ := hk (by intro h; subst h; simp at hi)
    cases e
    rw [Nat.mul_one]
    exact absH_rd (hc i hi) rfl
section
variable {H : Type} {enc : TypeId × Value → H} {W : World} {base b0 : Nat} {spare : Nat → Bool} {held : Bool} {r : Reach}

theorem cell_spot {a : Addr} {v : Value} (h : W.cell? a = some v) : a.spot = none ∧ a.block < W.heap.size := by
  unfold World.cell? at h
  split at h
  · rename_i hb
    split at h
    · cases h
    · rename_i hs
      exact ⟨by simpa using hs, (Array.getElem?_eq_some_iff.1 hb).1⟩
  · cases h
theorem ex_list {α : Type} {p : Nat → α → Prop} : ∀ {n : Nat}, (∀ i, i < n → ∃ x, p i x) → ∃ l : List α, l.length = n ∧ ∀ i (h : i < l.length), p i l[i]
  | 0, _ => ⟨[], rfl, fun i h => absurd h (by simp)⟩
  | n + 1, h => by
    obtain ⟨l, hl, hp⟩ := ex_list (n := n) fun i hi => h i (by omega)
    obtain ⟨x, hx⟩ := h n (by omega)
    refine ⟨l ++ [x], by simp [hl], fun i hi => ?_⟩
    by_cases e : i < l.length
    · rw [List.getElem_append_left e]; exact hp i e
    · have : i = n := by simp [hl] at hi; omega
      subst this
      rw [List.getElem_append_right (by omega)]
      simpa [hl] using hx

set_option maxRecDepth 100000 in
theorem open_ints {n : Nat} {cs : List Value} {y : DataW H × List MemPlace} (h : DataW.trod enc Tryz.prog W base spare held n 45 cs = some y) :
    ∃ (A : Option Addr) (c : Nat) (xs : List Int), cs = [.slice A xs.length c] ∧ xs.length ≤ c ∧ ItAt W A xs := by
  rcases open_slice Tryz.underlying45 h with ⟨rfl, _⟩ | ⟨a, len, cap, m, n, D, Pl, rfl, hb, hl, hm, hmm, _, hi⟩
  · exact ⟨none, 0, [], rfl, Nat.le_refl _, fun hne => absurd rfl hne⟩
  · have hC : Tryz.prog.cellsOf 3 = 1 := by kernel_rfl
    rw [hC] at hi
    have hlm : len ≤ m := by rw [hmm]; split <;> omega
    obtain ⟨xs, hkl, hk⟩ := ex_list (n := len) (p := fun i (k : Int) => W.cell? (a.add i) = some (.int .i64 k)) fun i hil => by
      obtain ⟨cs', hc, ht⟩ := hi i (by omega)
      obtain ⟨_, hlen, hat⟩ := World.cells?_some hc
      match cs', hlen with
      | [c0], _ =>
        obtain ⟨x, e1, _⟩ := DataW.trod_int Tryz.underlying3 ht
        simp only [List.cons.injEq, and_true] at e1
        subst e1
        have := hat 0 (by simp)
        exact ⟨x, by simpa [Addr.add] using this⟩
    subst hkl
    refine ⟨some a, cap, xs, rfl, hl, fun hne => ?_⟩
    have h0 := hk 0 (List.length_pos_iff.2 hne)
    have e0 : a.add 0 = a := rfl
    rw [e0] at h0
    obtain ⟨hsp, hbl⟩ := cell_spot h0
    obtain ⟨b, off, sp⟩ := a
    subst hsp
    refine ⟨b, off, rfl, hbl, fun i hi => ?_⟩
    have := hk i hi
    have e1 : (⟨b, off, none⟩ : Addr).add i = ⟨b, off + i, none⟩ := by unfold Addr.add; split <;> simp_all
    rw [e1] at this
    exact this
set_option maxRecDepth 100000 in
theorem open_cycle {v : Value} {d : DataW H} {p : List MemPlace} (hv : Value.okWide Tryz.prog W r b0 55 v) (h : DataW.Trod enc Tryz.prog W base spare held 55 v d p) :
    ∃ (id bg ev : Int) (A : Option Addr) (c : Nat) (hs : List Int), v = .agg #[.int .i64 id, .int .i64 bg, .int .i64 ev, .slice A hs.length c] ∧ hs.length ≤ c ∧ ItAt W A hs ∧ SlOk W A hs.length c := by
  obtain ⟨v0, v1, v2, v3, y0, y1, y2, y3, k, rfl, _, _, h0, h1, h2, h3⟩ := Joins.open_agg4 Tryz.underlying55 (by kernel_rfl) (by kernel_rfl) hv h
  obtain ⟨id, e0, _⟩ := DataW.trod_int Tryz.underlying3 h0
  obtain ⟨bg, e1, _⟩ := DataW.trod_int Tryz.underlying3 h1
  obtain ⟨ev, e2, _⟩ := DataW.trod_int Tryz.underlying3 h2
  obtain ⟨A, c, hs, e3, hl, hk⟩ := open_ints h3
  simp only [List.cons.injEq, and_true] at e0 e1 e2 e3
  subst e0 e1 e2 e3
  exact ⟨id, bg, ev, A, c, hs, rfl, hl, hk, slOk_of Tryz.underlying45 (field_ok (i := 3) (ts := [3, 3, 3, 45]) Tryz.underlying55 (by kernel_rfl) rfl rfl hv)⟩
end
end Go.Proofs.YtgjkfmcjalcefaaGreat
