/- Layer 9: arguments that are letters: what they read as. -/
import Derived.Test.YtehmkhlcejcniaaOp
import Derived.Test.YtehmkhlcejcniaaMa
namespace Go.Proofs.Ytehmkhlcejcniaa
open Go.ChangeShapes Go.WideShapes Go.ChangeAt Go.RowKit Go.Deep Go.Proofs.Ytehmkhlcejcniaa.Ev

section
variable {H : Type} {enc : TypeId × Value → H} {W : World} {base b0 : Nat} {spare : Nat → Bool} {held : Bool} {r : Reach}
set_option maxRecDepth 100000 in
theorem ints_cells {t : TypeId} {fs : Array Field} (ht : Try.prog.underlying t = some (.struct fs)) (hc : Try.prog.cellsOf t = fs.size) (hf : intS Try.prog fs.toList 0 = true) {fuel : Nat} {cs : List Value} {x : DataW H × List MemPlace} (h : DataW.trod enc Try.prog W base spare held fuel t cs = some x) :
    ∃ l : List Int, l.length = fs.size ∧ cs = l.map fun n => Value.int .i64 n := by
  obtain ⟨xs, n, _, _, hl, hlen, hq⟩ := DataW.trod_struct ht h
  rw [hc] at hl
  obtain ⟨l, hll, hk⟩ := ex_list (n := fs.size) (p := fun i (k : Int) => cs[i]? = some (.int .i64 k)) fun i hi => by
    have hfi : fs.toList[i]? = some fs[i] := by simp [hi]
    obtain ⟨o, u, c⟩ := intS_at hf i fs[i] hfi
    obtain ⟨y, hy⟩ : ∃ y, DataW.trod enc Try.prog W base spare held n fs[i].type ((cs.drop fs[i].offset).take (Try.prog.cellsOf fs[i].type)) = some y := by
      have := hq i fs[i] (by simp [hi])
      exact ⟨xs[i]'(by omega), by rw [this]; exact List.getElem?_eq_getElem _⟩
    rw [o, c, Nat.zero_add] at hy
    rw [List.drop_eq_getElem_cons (by omega)] at hy
    obtain ⟨x, e1, _⟩ := DataW.trod_int u hy
    refine ⟨x, ?_⟩
    rw [List.take_succ_cons, List.take_zero] at e1
    have e2 := (List.cons.inj e1).1
    rw [List.getElem?_eq_getElem (by omega), e2]
  refine ⟨l, hll, ?_⟩
  refine List.ext_getElem (by simp; omega) fun i h1 h2 => ?_
  have := hk i (by omega)
  rw [List.getElem?_eq_getElem h1] at this
  simpa using this
set_option maxRecDepth 100000 in
theorem trod_letters {n : Nat} {cs : List Value} {y : DataW H × List MemPlace} (h : DataW.trod enc Try.prog W base spare held n 24 cs = some y) :
    ∃ (A : Option Addr) (c : Nat) (l : List Le), cs = [.slice A l.length c] ∧ l.length ≤ c ∧ At W leC 8 A l := by
  rcases open_slice Try.underlying24 h with ⟨rfl, _⟩ | ⟨a, len, cap, m, n, D, Pl, rfl, hb, hl, hm, hmm, _, hi⟩
  · exact ⟨none, 0, [], rfl, Nat.le_refl _, fun hne => absurd rfl hne⟩
  · have hC : Try.prog.cellsOf 38 = 8 := by kernel_rfl
    rw [hC] at hi
    have hlm : len ≤ m := by rw [hmm]; split <;> omega
    obtain ⟨l, hkl, hk⟩ := ex_list (n := len) (p := fun i (k : Le) => W.cell? (a.add (i * 8)) = some (.int .i64 k.id) ∧ W.cell? (a.add (i * 8 + 1)) = some (.int .i64 k.cs) ∧ W.cell? (a.add (i * 8 + 2)) = some (.int .i64 k.kd) ∧ W.cell? (a.add (i * 8 + 3)) = some (.int .i64 k.rd) ∧ W.cell? (a.add (i * 8 + 4)) = some (.int .i64 k.fr) ∧ W.cell? (a.add (i * 8 + 5)) = some (.int .i64 k.to) ∧ W.cell? (a.add (i * 8 + 6)) = some (.int .i64 k.vo) ∧ W.cell? (a.add (i * 8 + 7)) = some (.int .i64 k.fi)) fun i hil => by
      obtain ⟨cs', hcc, ht⟩ := hi i (by omega)
      obtain ⟨_, hlen, hat⟩ := World.cells?_some hcc
      obtain ⟨z, hz, rfl⟩ := ints_cells Try.underlying38 (by kernel_rfl) (by decide +kernel) ht
      obtain ⟨a1, a2, a3, a4, a5, a6, a7, a8, rfl⟩ := len8 hz
      refine ⟨⟨a1, a2, a3, a4, a5, a6, a7, a8⟩, ?_, ?_, ?_, ?_, ?_, ?_, ?_, ?_⟩
      · have := hat 0 (by simp); simpa [Addr.add] using this
      · have := hat 1 (by simp); rw [add_add] at this; simpa using this
      · have := hat 2 (by simp); rw [add_add] at this; simpa using this
      · have := hat 3 (by simp); rw [add_add] at this; simpa using this
      · have := hat 4 (by simp); rw [add_add] at this; simpa using this
      · have := hat 5 (by simp); rw [add_add] at this; simpa using this
      · have := hat 6 (by simp); rw [add_add] at this; simpa using this
      · have := hat 7 (by simp); rw [add_add] at this; simpa using this
    subst hkl
    refine ⟨some a, cap, l, rfl, hl, fun hne => ?_⟩
    have h0 := (hk 0 (List.length_pos_iff.2 hne)).1
    simp only [Nat.zero_mul] at h0
    have e0 : a.add 0 = a := rfl
    rw [e0] at h0
    obtain ⟨hsp, hbl⟩ := cell_spot h0
    obtain ⟨b, off, sp⟩ := a
    subst hsp
    refine ⟨b, off, rfl, hbl, fun i hi => ?_⟩
    obtain ⟨h1, h2, h3, h4, h5, h6, h7, h8⟩ := hk i hi
    rw [add3] at h1 h2 h3 h4 h5 h6 h7 h8
    rw [← nthE_eq hi] at h1 h2 h3 h4 h5 h6 h7 h8
    exact ⟨absH_rd h1 rfl, absH_rd h2 rfl, absH_rd h3 rfl, absH_rd h4 rfl, absH_rd h5 rfl, absH_rd h6 rfl, absH_rd h7 rfl, absH_rd h8 rfl, trivial⟩
set_option maxRecDepth 100000 in
theorem open_letters {v : Value} {d : DataW H} {p : List MemPlace} (hv : Value.okWide Try.prog W r b0 24 v) (h : DataW.Trod enc Try.prog W base spare held 24 v d p) :
    ∃ (A : Option Addr) (c : Nat) (l : List Le), v = .slice A l.length c ∧ SlOk W A l.length c ∧ l.length ≤ c ∧ At W leC 8 A l := by
  obtain ⟨n, hn⟩ := h
  obtain ⟨A, c, l, e, hl, k⟩ := trod_letters hn
  have hc := cell_okw Try.underlying24 hv
  have e2 := slice_of_cells Try.underlying24 hc e
  subst e2
  exact ⟨A, c, l, rfl, slOk_of Try.underlying24 hc, hl, k⟩
end
/-- elements of an argument, in the calculator's memory; nothing can be read of an empty list -/
theorem el_abs {w : World} {α : Type} [Inhabited α] {enc : α → List AV} {sz : Nat} {A : Option Addr} {c : Nat} {l : List α} (hA : SlOk w A l.length c) (hl : l.length ≤ c) (hk : At w enc sz A l) : ∃ v, ((v = .slice0 ∧ l = []) ∨ ∃ b off m, v = .slice b off l.length (.k m) ∧ l.length ≤ m ∧ EH enc sz (absH w) b off l ∧ b < (absH w).next ∧ (absH w).loadN b off 0 = some []) ∧ VR (idE w.heap.size) v (.slice A l.length c) := by
  rcases hA with ⟨rfl, h0, rfl⟩ | ⟨b, off, rfl, C, t, fr, hC⟩
  · have : l = [] := List.length_eq_zero_iff.1 h0
    subst this
    exact ⟨.slice0, .inl ⟨rfl, rfl⟩, by simp [VR]⟩
  · have hb := (Array.getElem?_eq_some_iff.1 hC).1
    refine ⟨.slice b off l.length (.k c), .inr ⟨b, off, c, rfl, hl, fun i hi => ?_, hb, ?_⟩, by simp only [VR]; exact ⟨b, 0, if_pos hb, rfl⟩⟩
    · obtain ⟨b', off', e, hb', hc⟩ := hk (by intro h; subst h; simp at hi)
      cases e
      exact hc i hi
    · unfold Heap.loadN
      rw [absH_get, hC]
      rfl
theorem elA_abs {w : World} {α : Type} [Inhabited α] {enc : α → List AV} {sz : Nat} {A : Option Addr} {c : Nat} {l : List α} (hA : SlOk w A l.length c) (hl : l.length ≤ c) (hk : At w enc sz A l) : ∃ v, EA enc sz (absH w) v l ∧ VR (idE w.heap.size) v (.slice A l.length c) := by
  obtain ⟨v, h, hv⟩ := el_abs hA hl hk
  refine ⟨v, ?_, hv⟩
  rcases h with h | ⟨b, off, m, h1, h2, h3, _⟩
  · exact .inl h
  · exact .inr ⟨b, off, m, h1, h2, h3⟩
end Go.Proofs.Ytehmkhlcejcniaa
