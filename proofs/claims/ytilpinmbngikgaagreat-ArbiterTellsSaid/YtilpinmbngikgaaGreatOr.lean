/- Layer 9: arguments that are letters: what they read as. -/
import Derived.Test.YtilpinmbngikgaaGreatRows
import Derived.Test.YtilpinmbngikgaaGreatChecked
import Derived.ProofKit
import Derived.Lib.SmallJoins
import Derived.Below
import Derived.ChangeSame
import Derived.Carry
import Derived.Deep.Slices
import Derived.Deep.Fields
import Derived.Deep.Strs
import Derived.Test.YtilpinmbngikgaaGreatSan
import Derived.Test.YtilpinmbngikgaaGreatLd
import Derived.Test.YtilpinmbngikgaaGreatBo
import Derived.Test.YtilpinmbngikgaaGreatMa
/- The frame of a law: what is left to show is that it returns true and leaves old memory as it was. -/
namespace Go.Proofs.YtilpinmbngikgaaGreat
open Go.ChangeShapes Go.WideShapes Go.ChangeAt Go.RowKit

theorem Tryz.own : ownKnob Tryz.prog.godebug = none := by kernel_rfl
theorem Tryz.laidOut : laidOutB Tryz.prog = true := by kernel_rfl

section
variable {H : Type} {enc : TypeId × Value → H} {P : Program}
/-- arguments that read from old memory read so still -/
theorem trodAll_stays (hl : laidOutB P = true) {W W' : World} (hb : Below W.heap.size W W') {sp : Nat → Bool} : ∀ {ts : List TypeId} {vs : List Value} {ds : List (DataW H)} {ps : List MemPlace},
    (∀ t ∈ ts, P.readableRec t = true ∧ t < P.types.size) → DataW.TrodAll enc P W 0 (fun _ => true) true ts vs ds ps → (∀ p ∈ ps, p.block < W.heap.size) → (∀ p ∈ ps, sp p.block = true) → DataW.TrodAll enc P W' 0 sp true ts vs ds ps
  | [], vs, ds, ps, _, h, _, _ => by
    cases vs <;> cases ds <;> first | exact h | (simp [DataW.TrodAll] at h)
  | t :: ts, vs, ds, ps, hr, h, hlt, hs => by
    obtain ⟨v, vs', d, ds', p, q, rfl, rfl, rfl, h1, h2⟩ := trodAll_cons h
    have r := hr t List.mem_cons_self
    exact trodAll_cons_mk (WideElems.Trod_stays hl r.1 r.2 h1 (fun x hx => hb.same (hlt x (List.mem_append.2 (.inl hx)))) (fun x hx => hs x (List.mem_append.2 (.inl hx))))
      (trodAll_stays hl hb (fun t' ht => hr t' (List.mem_cons_of_mem _ ht)) h2 (fun x hx => hlt x (List.mem_append.2 (.inr hx))) (fun x hx => hs x (List.mem_append.2 (.inr hx))))

theorem law_post {f : Func} {s : ChangeSpec} {apart fresh handsOn again : Bool} {W W' : World} {args : Array Value} {ds gs : List (DataW H)} {before : List MemPlace} {tb : TypeId}
    (hl : laidOutB P = true) (hW : DataW.Whole enc P f.params.toList s.vars apart W args.toList ds gs before) (hread : ∀ t ∈ f.params.toList, P.readableRec t = true ∧ t < P.types.size) (hrt : f.resultTypes = #[tb]) (ht : P.underlying tb = some .bool)
    (h1 : (s.fn H (ds ++ gs)).results = [.lit (.bool true)]) (h2 : (s.fn H (ds ++ gs)).args = ds) (h3 : s.vars = []) (h4 : (s.fn H (ds ++ gs)).vars = []) (hb : Below W.heap.size W W') : s.post enc P f apart fresh handsOn again W args (.bool true) W' := by
  have hlt : ∀ p ∈ before, p.block < W.heap.size := fun p hp => hW.lt p hp
  obtain ⟨pa, pv, hA, hV, hp, hz, hn⟩ := id hW
  have hv0 : pv = [] ∧ gs = [] := by
    rw [h3] at hV
    cases gs with
    | nil => exact ⟨hV, rfl⟩
    | cons g gs => simp [DataW.TrodVars] at hV
  obtain ⟨rfl, rfl⟩ := hv0
  rw [List.append_nil] at hp
  subst hp
  have hold : ∀ p ∈ before, (fun b => decide (b < W.heap.size)) p.block = true := fun p hp => by simpa using hlt p hp
  have hres : ∀ (b : Nat) (sp : Nat → Bool) (hd : Bool), DataW.TrodAll enc P W' b sp hd f.resultTypes.toList ((Value.bool true).resultList f.resultTypes.size) (s.fn H (ds ++ [])).results [] := fun b sp hd => by
    rw [h1, hrt]
    exact trodAll_mk1 (shut_bool ht true)
  have hargs : ∀ sp : Nat → Bool, (∀ p ∈ before, sp p.block = true) → DataW.TrodAll enc P W' 0 sp true f.params.toList args.toList (s.fn H (ds ++ [])).args before := fun sp hsp => by
    rw [h2]
    exact trodAll_stays hl hb hread hA hlt hsp
  have hvars : ∀ sp : Nat → Bool, DataW.TrodVars enc P W' sp s.vars (s.fn H (ds ++ [])).vars [] := fun sp => by
    rw [h3, h4]; rfl
  refine ⟨ds, [], before, [], before, [], hW, hres _ _ _, hargs _ hold, hvars _, World.keptBut_mono (fun p hp => ⟨hp, ?_⟩) (hb.frame (· ∈ before)), fun _ => ?_⟩
  · exact .inr (by simpa using hp)
  · refine ⟨ok_one hrt rfl (okWide_bool_mk ht true), _, _, ([] ++ before) ++ [], ⟨[] ++ before, [], trodAll_append (hargs _ (fun _ _ => rfl)) (hres _ _ _), hvars _, rfl, ?_, ?_⟩, ?_⟩
    · intro b off hp
      have hin : MemPlace.cell b off ∈ before := by simpa using hp
      rw [hb.frozen (hlt _ hin)]
      exact hz b off hin
    · intro ha
      simpa using hn ha
    · intro p hp _
      simpa using hp
end

end Go.Proofs.YtilpinmbngikgaaGreat

/- Layer 9: arguments that are structs of integers: what they read as; how a contract over the calculator's memory is said of the model. -/
namespace Go.Proofs.YtilpinmbngikgaaGreat
open Go.ChangeShapes Go.WideShapes Go.ChangeAt Go.RowKit Go.Deep Go.Proofs.YtilpinmbngikgaaGreat.Ev

theorem vr_int {E : Env} {k : IntKind} {n : Int} : VR E (.int k n) (.int k n) := by simp [VR]
section
variable {W : World}
/-- an argument's slice lies in memory, or is nil -/
def SlOk (W : World) (A : Option Addr) (n c : Nat) : Prop := (A = none ∧ n = 0 ∧ c = 0) ∨ ∃ b off, A = some ⟨b, off, none⟩ ∧ ∃ C t fr, W.heap[b]? = some (.cells C t fr)
theorem has_lt {P : Program} {W : World} {r : Reach} {base : Nat} {a : Addr} {e : TypeId} {n : Nat} (h : W.has P r base a e n) : ∃ b off, a = ⟨b, off, none⟩ ∧ ∃ C t fr, W.heap[b]? = some (.cells C t fr) := by
  obtain ⟨_, hs, row, cells, hsh, _⟩ := h
  obtain ⟨b, off, sp⟩ := a
  cases hs
  refine ⟨b, off, rfl, ?_⟩
  unfold World.shape? at hsh
  split at hsh
  · rename_i C t fr hb; exact ⟨C, t, fr, hb⟩
  · cases hsh
theorem slOk_of {P : Program} {r : Reach} {b0 : Nat} {t e : TypeId} {A : Option Addr} {n c : Nat} (ht : P.underlying t = some (.slice e)) (h : Cell.okWide P W r b0 t (.slice A n c)) : SlOk W A n c := by
  unfold Cell.okWide at h
  rw [ht] at h
  simp only at h
  unfold Cell.ok at h
  rw [ht] at h
  cases A with
  | none =>
    simp only at h
    split at h <;> first | (cases h; done) | skip
    all_goals first | exact .inl ⟨rfl, rfl, rfl⟩ | (rename_i h1 _; cases h1; exact .inl ⟨rfl, rfl, rfl⟩) | (rename_i h1; cases h1; exact .inl ⟨rfl, rfl, rfl⟩) | (simp_all; done)
  | some a =>
    simp only at h
    obtain ⟨b, off, rfl, hb⟩ := has_lt h.2.2
    exact .inr ⟨b, off, rfl, hb⟩
end
set_option maxRecDepth 100000 in
theorem cell_okw {W : World} {r : Reach} {b0 : Nat} {t e : TypeId} {v : Value} (ht : Tryz.prog.underlying t = some (.slice e)) (h : Value.okWide Tryz.prog W r b0 t v) : Cell.okWide Tryz.prog W r b0 t v := by
  unfold Value.okWide at h
  rw [ht] at h
  exact h
set_option maxRecDepth 100000 in
theorem slice_of_cells {W : World} {r : Reach} {b0 : Nat} {t e : TypeId} {v : Value} {A : Option Addr} {n c : Nat} (ht : Tryz.prog.underlying t = some (.slice e)) (h : Cell.okWide Tryz.prog W r b0 t v) (e0 : v.cells.toList = [.slice A n c]) : v = .slice A n c := by
  unfold Cell.okWide at h
  rw [ht] at h
  simp only at h
  unfold Cell.ok at h
  rw [ht] at h
  cases v <;> first | (simp [Value.cells] at e0; done) | skip
  all_goals first | (simpa [Value.cells] using e0) | (simp at h; done)
theorem add3 (b off k : Nat) : (⟨b, off, none⟩ : Addr).add k = ⟨b, off + k, none⟩ := by unfold Addr.add; split <;> simp_all
section
variable {H : Type} {enc : TypeId × Value → H} {W : World} {base b0 : Nat} {spare : Nat → Bool} {held : Bool} {r : Reach}

theorem cell_spot {a : Addr} {v : Value} (h : W.cell? a = some v) : a.spot = none ∧ a.block < W.heap.size := by
  unfold World.cell? at h
  split at h
  · rename_i hb
    split at h
    · cases h
    · rename_i hs
      exact ⟨by simpa using hs, (Array.getElem?_eq_some_iff.1 hb).1⟩
  · cases h
theorem ex_list {α : Type} {p : Nat → α → Prop} : ∀ {n : Nat}, (∀ i, i < n → ∃ x, p i x) → ∃ l : List α, l.length = n ∧ ∀ i (h : i < l.length), p i l[i]
  | 0, _ => ⟨[], rfl, fun i h => absurd h (by simp)⟩
  | n + 1, h => by
    obtain ⟨l, hl, hp⟩ := ex_list (n := n) fun i hi => h i (by omega)
    obtain ⟨x, hx⟩ := h n (by omega)
    refine ⟨l ++ [x], by simp [hl], fun i hi => ?_⟩
    by_cases e : i < l.length
    · rw [List.getElem_append_left e]; exact hp i e
    · have : i = n := by simp [hl] at hi; omega
      subst this
      rw [List.getElem_append_right (by omega)]
      simpa [hl] using hx
/-- elements of an argument lie in memory -/
def At (W : World) {α : Type} [Inhabited α] (enc : α → List AV) (sz : Nat) (A : Option Addr) (l : List α) : Prop := l ≠ [] → ∃ b off, A = some ⟨b, off, none⟩ ∧ b < W.heap.size ∧ EH enc sz (absH W) b off l
/-- fields that are ints, one cell each, one behind the other -/
def intS (P : Program) : List Field → Nat → Bool
  | [], _ => true
  | f :: fs, i => Nat.beq f.offset i && ((match P.underlying f.type, sizeT P f.type with
    | some (.int .i64), some 1 => true
    | _, _ => false) && intS P fs (i + 1))
theorem intS_at {P : Program} : ∀ {fs : List Field} {i : Nat}, intS P fs i = true → ∀ (k : Nat) (f : Field), fs[k]? = some f → f.offset = i + k ∧ P.underlying f.type = some (.int .i64) ∧ P.cellsOf f.type = 1
  | [], i, _, k, f, h => by simp at h
  | f0 :: fs, i, h, k, f, hk => by
    unfold intS at h
    simp only [Bool.and_eq_true] at h
    obtain ⟨h2, h3, h4⟩ := h
    cases k with
    | zero =>
      simp only [List.getElem?_cons_zero, Option.some.injEq] at hk
      subst hk
      have := Nat.eq_of_beq_eq_true h2
      split at h3
      · rename_i a b; exact ⟨by omega, a, cellsOf_one b⟩
      · cases h3
    | succ k =>
      obtain ⟨g2, g3⟩ := intS_at h4 k f (by simpa using hk)
      exact ⟨by omega, g3⟩
set_option maxRecDepth 100000 in
theorem ints_struct {t : TypeId} {fs : Array Field} (ht : Tryz.prog.underlying t = some (.struct fs)) (hc : Tryz.prog.cellsOf t = fs.size) (hf : intS Tryz.prog fs.toList 0 = true) {v : Value} {d : DataW H} {p : List MemPlace} (hv : Value.okWide Tryz.prog W r b0 t v) (h : DataW.Trod enc Tryz.prog W base spare held t v d p) :
    ∃ l : List Int, l.length = fs.size ∧ v = .agg (l.map fun n => Value.int .i64 n).toArray := by
  obtain ⟨cs, rfl, hsz⟩ := okWide_struct ht hv
  obtain ⟨fuel, hF⟩ := h
  obtain ⟨xs, n, _, _, hl, hlen, hq⟩ := DataW.trod_struct ht hF
  rw [hc] at hsz
  obtain ⟨l, hll, hk⟩ := ex_list (n := fs.size) (p := fun i (k : Int) => cs[i]? = some (.int .i64 k)) fun i hi => by
    have hfi : fs.toList[i]? = some fs[i] := by simp [hi]
    obtain ⟨o, u, c⟩ := intS_at hf i fs[i] hfi
    obtain ⟨y, hy⟩ : ∃ y, DataW.trod enc Tryz.prog W base spare held n fs[i].type (((Value.agg cs).cells.toList.drop fs[i].offset).take (Tryz.prog.cellsOf fs[i].type)) = some y := by
      have := hq i fs[i] (by simp [hi])
      exact ⟨xs[i]'(by omega), by rw [this]; exact List.getElem?_eq_getElem _⟩
    rw [o, c, Nat.zero_add] at hy
    have hcl : (Value.agg cs).cells.toList = cs.toList := rfl
    rw [hcl, List.drop_eq_getElem_cons (by simp; omega)] at hy
    obtain ⟨x, e1, _⟩ := DataW.trod_int u hy
    refine ⟨x, ?_⟩
    simp at e1
    rw [Array.getElem?_eq_getElem (by omega), e1]
  refine ⟨l, hll, ?_⟩
  congr 1
  refine Array.ext (by simp; omega) fun i h1 h2 => ?_
  have := hk i (by omega)
  rw [Array.getElem?_eq_getElem h1] at this
  simpa using this
theorem len1 {l : List Int} (h : l.length = 1) : ∃ a, l = [a] := by
  match l, h with
  | [a], _ => exact ⟨a, rfl⟩
theorem len8 {l : List Int} (h : l.length = 8) : ∃ a b c d e f g i, l = [a, b, c, d, e, f, g, i] := by
  match l, h with
  | [a, b, c, d, e, f, g, i], _ => exact ⟨a, b, c, d, e, f, g, i, rfl⟩
set_option maxRecDepth 100000 in
theorem open_court {v : Value} {d : DataW H} {p : List MemPlace} (hv : Value.okWide Tryz.prog W r b0 23 v) (h : DataW.Trod enc Tryz.prog W base spare held 23 v d p) : ∃ c : Int, v = .agg #[.int .i64 c] := by
  obtain ⟨l, hl, rfl⟩ := ints_struct Tryz.underlying23 (by kernel_rfl) (by decide +kernel) hv h
  obtain ⟨a, rfl⟩ := len1 hl
  exact ⟨a, rfl⟩
end
theorem vr_court {E : Env} {c : Int} : VR E (.agg [.int .i64 c]) (.agg #[.int .i64 c]) := by
  simp only [VR]
  exact ⟨[.int .i64 c], rfl, VRs.cons vr_int VRs.nil⟩
end Go.Proofs.YtilpinmbngikgaaGreat

/- Layer 9: arguments that are letters: what they read as. -/
namespace Go.Proofs.YtilpinmbngikgaaGreat
open Go.ChangeShapes Go.WideShapes Go.ChangeAt Go.RowKit Go.Deep Go.Proofs.YtilpinmbngikgaaGreat.Ev

section
variable {H : Type} {enc : TypeId × Value → H} {W : World} {base b0 : Nat} {spare : Nat → Bool} {held : Bool} {r : Reach}
set_option maxRecDepth 100000 in
theorem ints_cells {t : TypeId} {fs : Array Field} (ht : Tryz.prog.underlying t = some (.struct fs)) (hc : Tryz.prog.cellsOf t = fs.size) (hf : intS Tryz.prog fs.toList 0 = true) {fuel : Nat} {cs : List Value} {x : DataW H × List MemPlace} (h : DataW.trod enc Tryz.prog W base spare held fuel t cs = some x) :
    ∃ l : List Int, l.length = fs.size ∧ cs = l.map fun n => Value.int .i64 n := by
  obtain ⟨xs, n, _, _, hl, hlen, hq⟩ := DataW.trod_struct ht h
  rw [hc] at hl
  obtain ⟨l, hll, hk⟩ := ex_list (n := fs.size) (p := fun i (k : Int) => cs[i]? = some (.int .i64 k)) fun i hi => by
    have hfi : fs.toList[i]? = some fs[i] := by simp [hi]
    obtain ⟨o, u, c⟩ := intS_at hf i fs[i] hfi
    obtain ⟨y, hy⟩ : ∃ y, DataW.trod enc Tryz.prog W base spare held n fs[i].type ((cs.drop fs[i].offset).take (Tryz.prog.cellsOf fs[i].type)) = some y := by
      have := hq i fs[i] (by simp [hi])
      exact ⟨xs[i]'(by omega), by rw [this]; exact List.getElem?_eq_getElem _⟩
    rw [o, c, Nat.zero_add] at hy
    rw [List.drop_eq_getElem_cons (by omega)] at hy
    obtain ⟨x, e1, _⟩ := DataW.trod_int u hy
    refine ⟨x, ?_⟩
    rw [List.take_succ_cons, List.take_zero] at e1
    have e2 := (List.cons.inj e1).1
    rw [List.getElem?_eq_getElem (by omega), e2]
  refine ⟨l, hll, ?_⟩
  refine List.ext_getElem (by simp; omega) fun i h1 h2 => ?_
  have := hk i (by omega)
  rw [List.getElem?_eq_getElem h1] at this
  simpa using this
set_option maxRecDepth 100000 in
theorem trod_letters {n : Nat} {cs : List Value} {y : DataW H × List MemPlace} (h : DataW.trod enc Tryz.prog W base spare held n 24 cs = some y) :
    ∃ (A : Option Addr) (c : Nat) (l : List Le), cs = [.slice A l.length c] ∧ l.length ≤ c ∧ At W leC 8 A l := by
  rcases open_slice Tryz.underlying24 h with ⟨rfl, _⟩ | ⟨a, len, cap, m, n, D, Pl, rfl, hb, hl, hm, hmm, _, hi⟩
  · exact ⟨none, 0, [], rfl, Nat.le_refl _, fun hne => absurd rfl hne⟩
  · have hC : Tryz.prog.cellsOf 50 = 8 := by kernel_rfl
    rw [hC] at hi
    have hlm : len ≤ m := by rw [hmm]; split <;> omega
    obtain ⟨l, hkl, hk⟩ := ex_list (n := len) (p := fun i (k : Le) => W.cell? (a.add (i * 8)) = some (.int .i64 k.id) ∧ W.cell? (a.add (i * 8 + 1)) = some (.int .i64 k.cs) ∧ W.cell? (a.add (i * 8 + 2)) = some (.int .i64 k.kd) ∧ W.cell? (a.add (i * 8 + 3)) = some (.int .i64 k.rd) ∧ W.cell? (a.add (i * 8 + 4)) = some (.int .i64 k.fr) ∧ W.cell? (a.add (i * 8 + 5)) = some (.int .i64 k.to) ∧ W.cell? (a.add (i * 8 + 6)) = some (.int .i64 k.vo) ∧ W.cell? (a.add (i * 8 + 7)) = some (.int .i64 k.fi)) fun i hil => by
      obtain ⟨cs', hcc, ht⟩ := hi i (by omega)
      obtain ⟨_, hlen, hat⟩ := World.cells?_some hcc
      obtain ⟨z, hz, rfl⟩ := ints_cells Tryz.underlying50 (by kernel_rfl) (by decide +kernel) ht
      obtain ⟨a1, a2, a3, a4, a5, a6, a7, a8, rfl⟩ := len8 hz
      refine ⟨⟨a1, a2, a3, a4, a5, a6, a7, a8⟩, ?_, ?_, ?_, ?_, ?_, ?_, ?_, ?_⟩
      · have := hat 0 (by simp); simpa [Addr.add] using this
      · have := hat 1 (by simp); rw [add_add] at this; simpa using this
      · have := hat 2 (by simp); rw [add_add] at this; simpa using this
      · have := hat 3 (by simp); rw [add_add] at this; simpa using this
      · have := hat 4 (by simp); rw [add_add] at this; simpa using this
      · have := hat 5 (by simp); rw [add_add] at this; simpa using this
      · have := hat 6 (by simp); rw [add_add] at this; simpa using this
      · have := hat 7 (by simp); rw [add_add] at this; simpa using this
    subst hkl
    refine ⟨some a, cap, l, rfl, hl, fun hne => ?_⟩
    have h0 := (hk 0 (List.length_pos_iff.2 hne)).1
    simp only [Nat.zero_mul] at h0
    have e0 : a.add 0 = a := rfl
    rw [e0] at h0
    obtain ⟨hsp, hbl⟩ := cell_spot h0
    obtain ⟨b, off, sp⟩ := a
    subst hsp
    refine ⟨b, off, rfl, hbl, fun i hi => ?_⟩
    obtain ⟨h1, h2, h3, h4, h5, h6, h7, h8⟩ := hk i hi
    rw [add3] at h1 h2 h3 h4 h5 h6 h7 h8
    rw [← nthE_eq hi] at h1 h2 h3 h4 h5 h6 h7 h8
    exact ⟨absH_rd h1 rfl, absH_rd h2 rfl, absH_rd h3 rfl, absH_rd h4 rfl, absH_rd h5 rfl, absH_rd h6 rfl, absH_rd h7 rfl, absH_rd h8 rfl, trivial⟩
set_option maxRecDepth 100000 in
theorem open_letters {v : Value} {d : DataW H} {p : List MemPlace} (hv : Value.okWide Tryz.prog W r b0 24 v) (h : DataW.Trod enc Tryz.prog W base spare held 24 v d p) :
    ∃ (A : Option Addr) (c : Nat) (l : List Le), v = .slice A l.length c ∧ SlOk W A l.length c ∧ l.length ≤ c ∧ At W leC 8 A l := by
  obtain ⟨n, hn⟩ := h
  obtain ⟨A, c, l, e, hl, k⟩ := trod_letters hn
  have hc := cell_okw Tryz.underlying24 hv
  have e2 := slice_of_cells Tryz.underlying24 hc e
  subst e2
  exact ⟨A, c, l, rfl, slOk_of Tryz.underlying24 hc, hl, k⟩
end
/-- elements of an argument, in the calculator's memory; nothing can be read of an empty list -/
theorem el_abs {w : World} {α : Type} [Inhabited α] {enc : α → List AV} {sz : Nat} {A : Option Addr} {c : Nat} {l : List α} (hA : SlOk w A l.length c) (hl : l.length ≤ c) (hk : At w enc sz A l) : ∃ v, ((v = .slice0 ∧ l = []) ∨ ∃ b off m, v = .slice b off l.length (.k m) ∧ l.length ≤ m ∧ EH enc sz (absH w) b off l ∧ b < (absH w).next ∧ (absH w).loadN b off 0 = some []) ∧ VR (idE w.heap.size) v (.slice A l.length c) := by
  rcases hA with ⟨rfl, h0, rfl⟩ | ⟨b, off, rfl, C, t, fr, hC⟩
  · have : l = [] := List.length_eq_zero_iff.1 h0
    subst this
    exact ⟨.slice0, .inl ⟨rfl, rfl⟩, by simp [VR]⟩
  · have hb := (Array.getElem?_eq_some_iff.1 hC).1
    refine ⟨.slice b off l.length (.k c), .inr ⟨b, off, c, rfl, hl, fun i hi => ?_, hb, ?_⟩, by simp only [VR]; exact ⟨b, 0, if_pos hb, rfl⟩⟩
    · obtain ⟨b', off', e, hb', hc⟩ := hk (by intro h; subst h; simp at hi)
      cases e
      exact hc i hi
    · unfold Heap.loadN
      rw [absH_get, hC]
      rfl
theorem elA_abs {w : World} {α : Type} [Inhabited α] {enc : α → List AV} {sz : Nat} {A : Option Addr} {c : Nat} {l : List α} (hA : SlOk w A l.length c) (hl : l.length ≤ c) (hk : At w enc sz A l) : ∃ v, EA enc sz (absH w) v l ∧ VR (idE w.heap.size) v (.slice A l.length c) := by
  obtain ⟨v, h, hv⟩ := el_abs hA hl hk
  refine ⟨v, ?_, hv⟩
  rcases h with h | ⟨b, off, m, h1, h2, h3, _⟩
  · exact .inl h
  · exact .inr ⟨b, off, m, h1, h2, h3⟩
end Go.Proofs.YtilpinmbngikgaaGreat
