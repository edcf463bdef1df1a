/- Layer 8: arguments that are items: what they read as. -/
import Derived.Test.YtkebbdpfjhhdhaaGreatFi
import Derived.Test.YtkebbdpfjhhdhaaGreatFk
import Derived.Test.YtkebbdpfjhhdhaaGreatFg
/- Layer 8: what is asked for; Postings, Closed. -/
namespace Go.Proofs.YtkebbdpfjhhdhaaGreat
open Go.Proofs.YtkebbdpfjhhdhaaGreat.Ev

def boC (b : Bool) : List AV := [.bool b]
abbrev BoV := EV boC 1
/-- the error of what is asked for -/
def askE (l : List Im) (bs : List Bool) : Int := if chkI l = 0 then (if bs.all id = true then 0 else 1) else chkI l
/-- items of an argument: read, cut, cloned -/
structure ImG (h : Heap) (v : AV) (l : List Im) : Prop where
  z : ImZ h v l
  c : CutV h v l
theorem ImG.vw {h0 h : Heap} {V : Ob} {v : AV} {l : List Im} (k : ImG h0 v l) (hh : Vw h0 [] V h) : ImG h v l := ⟨k.z.vw hh, k.c.vw hh⟩
/-- a list, or an error -/
def LstR (e : TypeId) (sz : Nat) {α : Type} (enc : α → List AV) (er : Int) (xs : List α) (u : AV) (L : Ob) : Prop := ∃ w, u = .tup [w, .int .i64 er] ∧ ((er ≠ 0 ∧ w = .slice0 ∧ L = []) ∨ (er = 0 ∧ IsR e sz xs.length (enF enc xs) w L))
end Go.Proofs.YtkebbdpfjhhdhaaGreat

/- Layer 8: arguments that are items: what they read as. -/
namespace Go.Proofs.YtkebbdpfjhhdhaaGreat
open Go.ChangeShapes Go.WideShapes Go.ChangeAt Go.RowKit Go.Deep Go.Proofs.YtkebbdpfjhhdhaaGreat.Ev

theorem len7 {l : List Int} (h : l.length = 7) : ∃ a b c d e f g, l = [a, b, c, d, e, f, g] := by
  match l, h with
  | [a, b, c, d, e, f, g], _ => exact ⟨a, b, c, d, e, f, g, rfl⟩
section
variable {H : Type} {enc : TypeId × Value → H} {W : World} {base b0 : Nat} {spare : Nat → Bool} {held : Bool} {r : Reach}
set_option maxRecDepth 100000 in
theorem ints_cells {t : TypeId} {fs : Array Field} (ht : Tryz.prog.underlying t = some (.struct fs)) (hc : Tryz.prog.cellsOf t = fs.size) (hf : intS Tryz.prog fs.toList 0 = true) {fuel : Nat} {cs : List Value} {x : DataW H × List MemPlace} (h : DataW.trod enc Tryz.prog W base spare held fuel t cs = some x) :
    ∃ l : List Int, l.length = fs.size ∧ cs = l.map fun n => Value.int .i64 n := by
  obtain ⟨xs, n, _, _, hl, hlen, hq⟩ := DataW.trod_struct ht h
  rw [hc] at hl
  obtain ⟨l, hll, hk⟩ := ex_list (n := fs.size) (p := fun i (k : Int) => cs[i]? = some (.int .i64 k)) fun i hi => by
    have hfi : fs.toList[i]? = some fs[i] := by simp [hi]
    obtain ⟨o, u, c⟩ := intS_at hf i fs[i] hfi
    obtain ⟨y, hy⟩ : ∃ y, DataW.trod enc Tryz.prog W base spare held n fs[i].type ((cs.drop fs[i].offset).take (Tryz.prog.cellsOf fs[i].type)) = some y := by
      have := hq i fs[i] (by simp [hi])
      exact ⟨xs[i]'(by omega), by rw [this]; exact List.getElem?_eq_getElem _⟩
    rw [o, c, Nat.zero_add] at hy
    rw [List.drop_eq_getElem_cons (by omega)] at hy
    obtain ⟨x, e1, _⟩ := DataW.trod_int u hy
    refine ⟨x, ?_⟩
    rw [List.take_succ_cons, List.take_zero] at e1
    have e2 := (List.cons.inj e1).1
    rw [List.getElem?_eq_getElem (by omega), e2]
  refine ⟨l, hll, ?_⟩
  refine List.ext_getElem (by simp; omega) fun i h1 h2 => ?_
  have := hk i (by omega)
  rw [List.getElem?_eq_getElem h1] at this
  simpa using this
set_option maxRecDepth 100000 in
theorem trod_items {n : Nat} {cs : List Value} {y : DataW H × List MemPlace} (h : DataW.trod enc Tryz.prog W base spare held n 22 cs = some y) :
    ∃ (A : Option Addr) (c : Nat) (l : List Im), cs = [.slice A l.length c] ∧ l.length ≤ c ∧ At W imC 7 A l := by
  rcases open_slice Tryz.underlying22 h with ⟨rfl, _⟩ | ⟨a, len, cap, m, n, D, Pl, rfl, hb, hl, hm, hmm, _, hi⟩
  · exact ⟨none, 0, [], rfl, Nat.le_refl _, fun hne => absurd rfl hne⟩
  · have hC : Tryz.prog.cellsOf 114 = 7 := by kernel_rfl
    rw [hC] at hi
    have hlm : len ≤ m := by rw [hmm]; split <;> omega
    obtain ⟨l, hkl, hk⟩ := ex_list (n := len) (p := fun i (k : Im) => W.cell? (a.add (i * 7)) = some (.int .i64 k.id) ∧ W.cell? (a.add (i * 7 + 1)) = some (.int .i64 k.kn) ∧ W.cell? (a.add (i * 7 + 2)) = some (.int .i64 k.kd) ∧ W.cell? (a.add (i * 7 + 3)) = some (.int .i64 k.dy) ∧ W.cell? (a.add (i * 7 + 4)) = some (.int .i64 k.bl) ∧ W.cell? (a.add (i * 7 + 5)) = some (.int .i64 k.ac) ∧ W.cell? (a.add (i * 7 + 6)) = some (.int .i64 k.am)) fun i hil => by
      obtain ⟨cs', hcc, ht⟩ := hi i (by omega)
      obtain ⟨_, hlen, hat⟩ := World.cells?_some hcc
      obtain ⟨z, hz, rfl⟩ := ints_cells Tryz.underlying114 (by kernel_rfl) (by decide +kernel) ht
      obtain ⟨a1, a2, a3, a4, a5, a6, a7, rfl⟩ := len7 hz
      refine ⟨⟨a1, a2, a3, a4, a5, a6, a7⟩, ?_, ?_, ?_, ?_, ?_, ?_, ?_⟩
      · have := hat 0 (by simp); simpa [Addr.add] using this
      · have := hat 1 (by simp); rw [add_add] at this; simpa using this
      · have := hat 2 (by simp); rw [add_add] at this; simpa using this
      · have := hat 3 (by simp); rw [add_add] at this; simpa using this
      · have := hat 4 (by simp); rw [add_add] at this; simpa using this
      · have := hat 5 (by simp); rw [add_add] at this; simpa using this
      · have := hat 6 (by simp); rw [add_add] at this; simpa using this
    subst hkl
    refine ⟨some a, cap, l, rfl, hl, fun hne => ?_⟩
    have h0 := (hk 0 (List.length_pos_iff.2 hne)).1
    simp only [Nat.zero_mul] at h0
    have e0 : a.add 0 = a := rfl
    rw [e0] at h0
    obtain ⟨hsp, hbl⟩ := cell_spot h0
    obtain ⟨b, off, sp⟩ := a
    subst hsp
    refine ⟨b, off, rfl, hbl, fun i hi => ?_⟩
    obtain ⟨h1, h2, h3, h4, h5, h6, h7⟩ := hk i hi
    rw [add3] at h1 h2 h3 h4 h5 h6 h7
    rw [← nthE_eq hi] at h1 h2 h3 h4 h5 h6 h7
    exact ⟨absH_rd h1 rfl, absH_rd h2 rfl, absH_rd h3 rfl, absH_rd h4 rfl, absH_rd h5 rfl, absH_rd h6 rfl, absH_rd h7 rfl, trivial⟩
set_option maxRecDepth 100000 in
theorem open_items {v : Value} {d : DataW H} {p : List MemPlace} (hv : Value.okWide Tryz.prog W r b0 22 v) (h : DataW.Trod enc Tryz.prog W base spare held 22 v d p) :
    ∃ (A : Option Addr) (c : Nat) (l : List Im), v = .slice A l.length c ∧ SlOk W A l.length c ∧ l.length ≤ c ∧ At W imC 7 A l := by
  obtain ⟨n, hn⟩ := h
  obtain ⟨A, c, l, e, hl, k⟩ := trod_items hn
  have hc := cell_okw Tryz.underlying22 hv
  have e2 := slice_of_cells Tryz.underlying22 hc e
  subst e2
  exact ⟨A, c, l, rfl, slOk_of Tryz.underlying22 hc, hl, k⟩
end
/-- elements of an argument, in the calculator's memory; nothing can be read of an empty list -/
theorem el_abs {w : World} {α : Type} [Inhabited α] {enc : α → List AV} {sz : Nat} {A : Option Addr} {c : Nat} {l : List α} (hA : SlOk w A l.length c) (hl : l.length ≤ c) (hk : At w enc sz A l) : ∃ v, ((v = .slice0 ∧ l = []) ∨ ∃ b off m, v = .slice b off l.length (.k m) ∧ l.length ≤ m ∧ EH enc sz (absH w) b off l ∧ b < (absH w).next ∧ (absH w).loadN b off 0 = some []) ∧ VR (idE w.heap.size) v (.slice A l.length c) := by
  rcases hA with ⟨rfl, h0, rfl⟩ | ⟨b, off, rfl, C, t, fr, hC⟩
  · have : l = [] := List.length_eq_zero_iff.1 h0
    subst this
    exact ⟨.slice0, .inl ⟨rfl, rfl⟩, by simp [VR]⟩
  · have hb := (Array.getElem?_eq_some_iff.1 hC).1
    refine ⟨.slice b off l.length (.k c), .inr ⟨b, off, c, rfl, hl, fun i hi => ?_, hb, ?_⟩, by simp only [VR]; exact ⟨b, 0, if_pos hb, rfl⟩⟩
    · obtain ⟨b', off', e, hb', hc⟩ := hk (by intro h; subst h; simp at hi)
      cases e
      exact hc i hi
    · unfold Heap.loadN
      rw [absH_get, hC]
      rfl
set_option maxRecDepth 100000 in
theorem im_abs {w : World} {A : Option Addr} {c : Nat} {l : List Im} (hA : SlOk w A l.length c) (hl : l.length ≤ c) (hk : At w imC 7 A l) : ∃ v, (ImG (absH w) v l ∧ ArgS v l.length) ∧ VR (idE w.heap.size) v (.slice A l.length c) := by
  obtain ⟨v, h, hv⟩ := el_abs hA hl hk
  refine ⟨v, ?_, hv⟩
  have hs : sizeT Tryz.prog 114 = some 7 := by kernel_rfl
  rcases h with ⟨rfl, rfl⟩ | ⟨b, off, m, rfl, h2, h3, h4, h5⟩
  · exact ⟨⟨.nil, fun k hk => by simp at hk⟩, .inl rfl⟩
  · refine ⟨⟨?_, fun k hk2 => ⟨.slice b off k (.k m), h3.takV (by omega), fun h6 V hh => slK_to Tryz.underlying22 hs (by omega) h2⟩⟩, .inr ⟨b, off, m, rfl, h2⟩⟩
    rcases Nat.eq_zero_or_pos l.length with h0 | h0
    · have : l = [] := List.length_eq_zero_iff.1 h0
      subst this
      exact .emp b off (.k m) h4 h5
    · exact .some b off _ l h0 h3
end Go.Proofs.YtkebbdpfjhhdhaaGreat
