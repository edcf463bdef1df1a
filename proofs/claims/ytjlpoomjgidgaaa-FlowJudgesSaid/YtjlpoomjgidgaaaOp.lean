/- Layer 5: arguments that are trades, ints: what they read as; how a contract over the calculator's memory is said of the model. -/
import Derived.Deep.Slices
import Derived.Deep.Fields
import Derived.Deep.Strs
import Derived.Lib.SmallJoins
import Derived.Test.YtjlpoomjgidgaaaRow
import Derived.Test.YtjlpoomjgidgaaaSan
import Derived.Test.YtjlpoomjgidgaaaGh
import Derived.Test.YtjlpoomjgidgaaaNx
namespace Go.Proofs.Ytjlpoomjgidgaaa
open Go.ChangeShapes Go.WideShapes Go.ChangeAt Go.RowKit Go.Deep Go.Proofs.Ytjlpoomjgidgaaa.Ev

theorem Bs_sound : SoundC Try.prog Bs := SoundC.or (sayB_sound (Ev.enters_of Try.func6 rfl rfl) sanity_any) growInt_sound
theorem vr_int {E : Env} {k : IntKind} {n : Int} : VR E (.int k n) (.int k n) := by simp [VR]
theorem vr_agg2 {E : Env} {a b : AV} {x y : Value} (h1 : VR E a x) (h2 : VR E b y) : VR E (.agg [a, b]) (.agg #[x, y]) := by
  simp only [VR]
  exact ⟨[x, y], rfl, VRs.cons h1 (VRs.cons h2 VRs.nil)⟩
section
variable {W : World}
/-- an argument's slice lies in memory, or is nil -/
def SlOk (W : World) (A : Option Addr) (n c : Nat) : Prop := (A = none ∧ n = 0 ∧ c = 0) ∨ ∃ b off, A = some ⟨b, off, none⟩ ∧ ∃ C t fr, W.heap[b]? = some (.cells C t fr)
theorem has_lt {P : Program} {W : World} {r : Reach} {base : Nat} {a : Addr} {e : TypeId} {n : Nat} (h : W.has P r base a e n) : ∃ b off, a = ⟨b, off, none⟩ ∧ ∃ C t fr, W.heap[b]? = some (.cells C t fr) := by
  obtain ⟨_, hs, row, cells, hsh, _⟩ := h
  obtain ⟨b, off, sp⟩ := a
  cases hs
  refine ⟨b, off, rfl, ?_⟩
  unfold World.shape? at hsh
  split at hsh
  · rename_i C t fr hb; exact ⟨C, t, fr, hb⟩
  · cases hsh
theorem slOk_of {P : Program} {r : Reach} {b0 : Nat} {t e : TypeId} {A : Option Addr} {n c : Nat} (ht : P.underlying t = some (.slice e)) (h : Cell.okWide P W r b0 t (.slice A n c)) : SlOk W A n c := by
  unfold Cell.okWide at h
  rw [ht] at h
  simp only at h
  unfold Cell.ok at h
  rw [ht] at h
  cases A with
  | none =>
    simp only at h
    split at h <;> first | (cases h; done) | skip
    all_goals first | exact .inl ⟨rfl, rfl, rfl⟩ | (rename_i h1 _; cases h1; exact .inl ⟨rfl, rfl, rfl⟩) | (rename_i h1; cases h1; exact .inl ⟨rfl, rfl, rfl⟩) | (simp_all; done)
  | some a =>
    simp only at h
    obtain ⟨b, off, rfl, hb⟩ := has_lt h.2.2
    exact .inr ⟨b, off, rfl, hb⟩
end
theorem field_ok {P : Program} {W : World} {r : Reach} {b0 : Nat} {t ti : TypeId} {fs : Array Field} {ts : List TypeId} {vs : Array Value} {i : Nat} {v : Value} (ht : P.underlying t = some (.struct fs)) (hc : P.cellTypes P.depth t = some ts) (hi : ts[i]? = some ti) (hv : vs[i]? = some v) (h : Value.okWide P W r b0 t (.agg vs)) : Cell.okWide P W r b0 ti v := by
  unfold Value.okWide at h
  rw [ht] at h
  obtain ⟨cs, e, _, ts', h1, _, h2⟩ := h
  cases e
  rw [hc] at h1
  cases h1
  obtain ⟨u, h3, h4⟩ := h2 i v hv
  have h5 : some ti = some u := by
    have h6 := (List.getElem?_eq_some_iff.1 hi).1
    rw [← hi]
    simpa [Nat.mod_eq_of_lt h6] using h3
  cases h5
  exact h4
theorem add3 (b off k : Nat) : (⟨b, off, none⟩ : Addr).add k = ⟨b, off + k, none⟩ := by unfold Addr.add; split <;> simp_all
section
variable {H : Type} {enc : TypeId × Value → H} {W : World} {base b0 : Nat} {spare : Nat → Bool} {held : Bool} {r : Reach}

theorem cell_spot {a : Addr} {v : Value} (h : W.cell? a = some v) : a.spot = none ∧ a.block < W.heap.size := by
  unfold World.cell? at h
  split at h
  · rename_i hb
    split at h
    · cases h
    · rename_i hs
      exact ⟨by simpa using hs, (Array.getElem?_eq_some_iff.1 hb).1⟩
  · cases h
theorem ex_list {α : Type} {p : Nat → α → Prop} : ∀ {n : Nat}, (∀ i, i < n → ∃ x, p i x) → ∃ l : List α, l.length = n ∧ ∀ i (h : i < l.length), p i l[i]
  | 0, _ => ⟨[], rfl, fun i h => absurd h (by simp)⟩
  | n + 1, h => by
    obtain ⟨l, hl, hp⟩ := ex_list (n := n) fun i hi => h i (by omega)
    obtain ⟨x, hx⟩ := h n (by omega)
    refine ⟨l ++ [x], by simp [hl], fun i hi => ?_⟩
    by_cases e : i < l.length
    · rw [List.getElem_append_left e]; exact hp i e
    · have : i = n := by simp [hl] at hi; omega
      subst this
      rw [List.getElem_append_right (by omega)]
      simpa [hl] using hx
/-- elements of an argument lie in memory -/
def At (W : World) {α : Type} [Inhabited α] (enc : α → List AV) (sz : Nat) (A : Option Addr) (l : List α) : Prop := l ≠ [] → ∃ b off, A = some ⟨b, off, none⟩ ∧ b < W.heap.size ∧ EH enc sz (absH W) b off l
set_option maxRecDepth 100000 in
theorem trod_ints {n : Nat} {cs : List Value} {y : DataW H × List MemPlace} (h : DataW.trod enc Try.prog W base spare held n 26 cs = some y) :
    ∃ (A : Option Addr) (c : Nat) (l : List Int), cs = [.slice A l.length c] ∧ l.length ≤ c ∧ At W inC 1 A l := by
  rcases open_slice Try.underlying26 h with ⟨rfl, _⟩ | ⟨a, len, cap, m, n, D, Pl, rfl, hb, hl, hm, hmm, _, hi⟩
  · exact ⟨none, 0, [], rfl, Nat.le_refl _, fun hne => absurd rfl hne⟩
  · have hC : Try.prog.cellsOf 3 = 1 := by kernel_rfl
    rw [hC] at hi
    have hlm : len ≤ m := by rw [hmm]; split <;> omega
    obtain ⟨l, hkl, hk⟩ := ex_list (n := len) (p := fun i (k : Int) => W.cell? (a.add (i * 1)) = some (.int .i64 k)) fun i hil => by
      obtain ⟨cs', hc, ht⟩ := hi i (by omega)
      obtain ⟨_, hlen, hat⟩ := World.cells?_some hc
      match cs', hlen with
      | [c0], _ =>
        obtain ⟨x, e1, _⟩ := DataW.trod_int Try.underlying3 ht
        simp only [List.cons.injEq, and_true] at e1
        subst e1
        have := hat 0 (by simp)
        exact ⟨x, by simpa [Addr.add] using this⟩
    subst hkl
    refine ⟨some a, cap, l, rfl, hl, fun hne => ?_⟩
    have h0 := hk 0 (List.length_pos_iff.2 hne)
    simp only [Nat.zero_mul] at h0
    have e0 : a.add 0 = a := rfl
    rw [e0] at h0
    obtain ⟨hsp, hbl⟩ := cell_spot h0
    obtain ⟨b, off, sp⟩ := a
    subst hsp
    refine ⟨b, off, rfl, hbl, fun i hi => ?_⟩
    have h1 := hk i hi
    rw [add3] at h1
    rw [← nthE_eq hi] at h1
    exact ⟨absH_rd h1 rfl, trivial⟩
set_option maxRecDepth 100000 in
theorem trod_holders {n : Nat} {cs : List Value} {y : DataW H × List MemPlace} (h : DataW.trod enc Try.prog W base spare held n 22 cs = some y) :
    ∃ (A : Option Addr) (c : Nat) (l : List Ho), cs = [.slice A l.length c] ∧ l.length ≤ c ∧ At W hoC 6 A l := by
  rcases open_slice Try.underlying22 h with ⟨rfl, _⟩ | ⟨a, len, cap, m, n, D, Pl, rfl, hb, hl, hm, hmm, _, hi⟩
  · exact ⟨none, 0, [], rfl, Nat.le_refl _, fun hne => absurd rfl hne⟩
  · have hC : Try.prog.cellsOf 69 = 6 := by kernel_rfl
    rw [hC] at hi
    have hlm : len ≤ m := by rw [hmm]; split <;> omega
    obtain ⟨l, hkl, hk⟩ := ex_list (n := len) (p := fun i (k : Ho) => W.cell? (a.add (i * 6)) = some (.int .i64 k.id) ∧ W.cell? (a.add (i * 6 + 1)) = some (.int .i64 k.sl) ∧ W.cell? (a.add (i * 6 + 2)) = some (.int .i64 k.sh) ∧ W.cell? (a.add (i * 6 + 3)) = some (.int .i64 k.el) ∧ W.cell? (a.add (i * 6 + 4)) = some (.int .i64 k.eh) ∧ W.cell? (a.add (i * 6 + 5)) = some (.int .i64 k.bk)) fun i hil => by
      obtain ⟨cs', hc, ht⟩ := hi i (by omega)
      obtain ⟨_, hlen, hat⟩ := World.cells?_some hc
      obtain ⟨z0, z1, z2, z3, n', hx, _, g0, g1, g2, g3⟩ := Joins.trod_struct4 Try.underlying69 ht
      match cs', hlen with
      | [c0, c1, c2, c3, c4, c5], _ =>
        have k0 : Try.prog.cellsOf 3 = 1 := by kernel_rfl
        have k2 : Try.prog.cellsOf 60 = 2 := by kernel_rfl
        simp only [k0, List.drop_zero, List.take_succ_cons, List.take_zero] at g0
        simp only [k0, k2, List.drop_succ_cons, List.drop_zero, List.take_succ_cons, List.take_zero] at g1
        simp only [k0, k2, List.drop_succ_cons, List.drop_zero, List.take_succ_cons, List.take_zero] at g2
        simp only [k0, k2, List.drop_succ_cons, List.drop_zero, List.take_succ_cons, List.take_zero] at g3
        obtain ⟨id, e0, _⟩ := DataW.trod_int Try.underlying3 g0
        obtain ⟨y0, y1, n2, hx2, _, f0, f1⟩ := trod_struct2 Try.underlying60 g1
        simp only [k0, List.drop_zero, List.take_succ_cons, List.take_zero] at f0
        simp only [k0, List.drop_succ_cons, List.drop_zero, List.take_succ_cons, List.take_zero] at f1
        obtain ⟨sl, e1, _⟩ := DataW.trod_int Try.underlying3 f0
        obtain ⟨sh, e2, _⟩ := DataW.trod_int Try.underlying3 f1
        obtain ⟨y2, y3, n3, hx3, _, f2, f3⟩ := trod_struct2 Try.underlying60 g2
        simp only [k0, List.drop_zero, List.take_succ_cons, List.take_zero] at f2
        simp only [k0, List.drop_succ_cons, List.drop_zero, List.take_succ_cons, List.take_zero] at f3
        obtain ⟨el, e3, _⟩ := DataW.trod_int Try.underlying3 f2
        obtain ⟨eh, e4, _⟩ := DataW.trod_int Try.underlying3 f3
        obtain ⟨bk, e5, _⟩ := DataW.trod_int Try.underlying3 g3
        simp only [List.cons.injEq, and_true] at e0 e1 e2 e3 e4 e5
        subst e0 e1 e2 e3 e4 e5
        refine ⟨⟨id, sl, sh, el, eh, bk⟩, ?_, ?_, ?_, ?_, ?_, ?_⟩
        · have := hat 0 (by simp); simpa [Addr.add] using this
        · have := hat 1 (by simp); rw [add_add] at this; simpa using this
        · have := hat 2 (by simp); rw [add_add] at this; simpa using this
        · have := hat 3 (by simp); rw [add_add] at this; simpa using this
        · have := hat 4 (by simp); rw [add_add] at this; simpa using this
        · have := hat 5 (by simp); rw [add_add] at this; simpa using this
    subst hkl
    refine ⟨some a, cap, l, rfl, hl, fun hne => ?_⟩
    have h0 := (hk 0 (List.length_pos_iff.2 hne)).1
    simp only [Nat.zero_mul] at h0
    have e0 : a.add 0 = a := rfl
    rw [e0] at h0
    obtain ⟨hsp, hbl⟩ := cell_spot h0
    obtain ⟨b, off, sp⟩ := a
    subst hsp
    refine ⟨b, off, rfl, hbl, fun i hi => ?_⟩
    obtain ⟨h1, h2, h3, h4, h5, h6⟩ := hk i hi
    rw [add3] at h1 h2 h3 h4 h5 h6
    rw [← nthE_eq hi] at h1 h2 h3 h4 h5 h6
    exact ⟨absH_rd h1 rfl, absH_rd h2 rfl, absH_rd h3 rfl, absH_rd h4 rfl, absH_rd h5 rfl, absH_rd h6 rfl, trivial⟩
set_option maxRecDepth 100000 in
theorem trod_moves {n : Nat} {cs : List Value} {y : DataW H × List MemPlace} (h : DataW.trod enc Try.prog W base spare held n 23 cs = some y) :
    ∃ (A : Option Addr) (c : Nat) (l : List Mv), cs = [.slice A l.length c] ∧ l.length ≤ c ∧ At W mvC 5 A l := by
  rcases open_slice Try.underlying23 h with ⟨rfl, _⟩ | ⟨a, len, cap, m, n, D, Pl, rfl, hb, hl, hm, hmm, _, hi⟩
  · exact ⟨none, 0, [], rfl, Nat.le_refl _, fun hne => absurd rfl hne⟩
  · have hC : Try.prog.cellsOf 65 = 5 := by kernel_rfl
    rw [hC] at hi
    have hlm : len ≤ m := by rw [hmm]; split <;> omega
    obtain ⟨l, hkl, hk⟩ := ex_list (n := len) (p := fun i (k : Mv) => W.cell? (a.add (i * 5)) = some (.int .i64 k.id) ∧ W.cell? (a.add (i * 5 + 1)) = some (.int .i64 k.fr) ∧ W.cell? (a.add (i * 5 + 2)) = some (.int .i64 k.to) ∧ W.cell? (a.add (i * 5 + 3)) = some (.int .i64 k.lo) ∧ W.cell? (a.add (i * 5 + 4)) = some (.int .i64 k.hi)) fun i hil => by
      obtain ⟨cs', hc, ht⟩ := hi i (by omega)
      obtain ⟨_, hlen, hat⟩ := World.cells?_some hc
      obtain ⟨z0, z1, z2, z3, n', hx, _, g0, g1, g2, g3⟩ := Joins.trod_struct4 Try.underlying65 ht
      match cs', hlen with
      | [c0, c1, c2, c3, c4], _ =>
        have k0 : Try.prog.cellsOf 3 = 1 := by kernel_rfl
        have k2 : Try.prog.cellsOf 60 = 2 := by kernel_rfl
        simp only [k0, List.drop_zero, List.take_succ_cons, List.take_zero] at g0
        simp only [k0, List.drop_succ_cons, List.drop_zero, List.take_succ_cons, List.take_zero] at g1
        simp only [k0, List.drop_succ_cons, List.drop_zero, List.take_succ_cons, List.take_zero] at g2
        simp only [k0, k2, List.drop_succ_cons, List.drop_zero, List.take_succ_cons, List.take_zero] at g3
        obtain ⟨id, e0, _⟩ := DataW.trod_int Try.underlying3 g0
        obtain ⟨fr, e1, _⟩ := DataW.trod_int Try.underlying3 g1
        obtain ⟨to, e2, _⟩ := DataW.trod_int Try.underlying3 g2
        obtain ⟨y0, y1, n2, hx2, _, f0, f1⟩ := trod_struct2 Try.underlying60 g3
        simp only [k0, List.drop_zero, List.take_succ_cons, List.take_zero] at f0
        simp only [k0, List.drop_succ_cons, List.drop_zero, List.take_succ_cons, List.take_zero] at f1
        obtain ⟨lo, e3, _⟩ := DataW.trod_int Try.underlying3 f0
        obtain ⟨hi', e4, _⟩ := DataW.trod_int Try.underlying3 f1
        simp only [List.cons.injEq, and_true] at e0 e1 e2 e3 e4
        subst e0 e1 e2 e3 e4
        refine ⟨⟨id, fr, to, lo, hi'⟩, ?_, ?_, ?_, ?_, ?_⟩
        · have := hat 0 (by simp); simpa [Addr.add] using this
        · have := hat 1 (by simp); rw [add_add] at this; simpa using this
        · have := hat 2 (by simp); rw [add_add] at this; simpa using this
        · have := hat 3 (by simp); rw [add_add] at this; simpa using this
        · have := hat 4 (by simp); rw [add_add] at this; simpa using this
    subst hkl
    refine ⟨some a, cap, l, rfl, hl, fun hne => ?_⟩
    have h0 := (hk 0 (List.length_pos_iff.2 hne)).1
    simp only [Nat.zero_mul] at h0
    have e0 : a.add 0 = a := rfl
    rw [e0] at h0
    obtain ⟨hsp, hbl⟩ := cell_spot h0
    obtain ⟨b, off, sp⟩ := a
    subst hsp
    refine ⟨b, off, rfl, hbl, fun i hi => ?_⟩
    obtain ⟨h1, h2, h3, h4, h5⟩ := hk i hi
    rw [add3] at h1 h2 h3 h4 h5
    rw [← nthE_eq hi] at h1 h2 h3 h4 h5
    exact ⟨absH_rd h1 rfl, absH_rd h2 rfl, absH_rd h3 rfl, absH_rd h4 rfl, absH_rd h5 rfl, trivial⟩
set_option maxRecDepth 100000 in
theorem open_trade {v : Value} {d : DataW H} {p : List MemPlace} (hv : Value.okWide Try.prog W r b0 25 v) (h : DataW.Trod enc Try.prog W base spare held 25 v d p) :
    ∃ (A1 A2 : Option Addr) (c1 c2 : Nat) (l : List Ho) (m : List Mv), v = .agg #[.slice A1 l.length c1, .slice A2 m.length c2] ∧ SlOk W A1 l.length c1 ∧ SlOk W A2 m.length c2 ∧ l.length ≤ c1 ∧ m.length ≤ c2 ∧ At W hoC 6 A1 l ∧ At W mvC 5 A2 m := by
  obtain ⟨v0, v1, y0, y1, k, rfl, _, _, h0, h1⟩ := Joins.open_agg2 Try.underlying25 (by kernel_rfl) (by kernel_rfl) hv h
  obtain ⟨A1, c1, l, e1, hl1, hk1⟩ := trod_holders h0
  obtain ⟨A2, c2, m, e2, hl2, hk2⟩ := trod_moves h1
  simp only [List.cons.injEq, and_true] at e1 e2
  subst e1 e2
  exact ⟨A1, A2, c1, c2, l, m, rfl, slOk_of Try.underlying22 (field_ok (i := 0) (ts := [22, 23]) Try.underlying25 (by kernel_rfl) rfl rfl hv), slOk_of Try.underlying23 (field_ok (i := 1) (ts := [22, 23]) Try.underlying25 (by kernel_rfl) rfl rfl hv), hl1, hl2, hk1, hk2⟩
end
/-- elements of an argument, in the calculator's memory; nothing can be read of an empty list -/
theorem el_abs {w : World} {α : Type} [Inhabited α] {enc : α → List AV} {sz : Nat} {A : Option Addr} {c : Nat} {l : List α} (hA : SlOk w A l.length c) (hl : l.length ≤ c) (hk : At w enc sz A l) : ∃ v, ((v = .slice0 ∧ l = []) ∨ ∃ b off m, v = .slice b off l.length (.k m) ∧ l.length ≤ m ∧ EH enc sz (absH w) b off l ∧ b < (absH w).next ∧ (absH w).loadN b off 0 = some []) ∧ VR (idE w.heap.size) v (.slice A l.length c) := by
  rcases hA with ⟨rfl, h0, rfl⟩ | ⟨b, off, rfl, C, t, fr, hC⟩
  · have : l = [] := List.length_eq_zero_iff.1 h0
    subst this
    exact ⟨.slice0, .inl ⟨rfl, rfl⟩, by simp [VR]⟩
  · have hb := (Array.getElem?_eq_some_iff.1 hC).1
    refine ⟨.slice b off l.length (.k c), .inr ⟨b, off, c, rfl, hl, fun i hi => ?_, hb, ?_⟩, by simp only [VR]; exact ⟨b, 0, if_pos hb, rfl⟩⟩
    · obtain ⟨b', off', e, hb', hc⟩ := hk (by intro h; subst h; simp at hi)
      cases e
      exact hc i hi
    · unfold Heap.loadN
      rw [absH_get, hC]
      rfl
theorem ho_abs {w : World} {A : Option Addr} {c : Nat} {l : List Ho} (hA : SlOk w A l.length c) (hl : l.length ≤ c) (hk : At w hoC 6 A l) : ∃ v, HoZ (absH w) v l ∧ VR (idE w.heap.size) v (.slice A l.length c) := el_abs hA hl hk
theorem elA_abs {w : World} {α : Type} [Inhabited α] {enc : α → List AV} {sz : Nat} {A : Option Addr} {c : Nat} {l : List α} (hA : SlOk w A l.length c) (hl : l.length ≤ c) (hk : At w enc sz A l) : ∃ v, EA enc sz (absH w) v l ∧ VR (idE w.heap.size) v (.slice A l.length c) := by
  obtain ⟨v, h, hv⟩ := el_abs hA hl hk
  refine ⟨v, ?_, hv⟩
  rcases h with h | ⟨b, off, m, h1, h2, h3, _⟩
  · exact .inl h
  · exact .inr ⟨b, off, m, h1, h2, h3⟩
end Go.Proofs.Ytjlpoomjgidgaaa
