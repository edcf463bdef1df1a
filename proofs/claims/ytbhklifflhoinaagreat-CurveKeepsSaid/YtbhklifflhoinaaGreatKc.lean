/- slices.Compact of knots over the calculator's memory. -/
import Derived.Test.YtbhklifflhoinaaGreatEq
import Derived.Test.YtbhklifflhoinaaGreatTh
namespace Go.Proofs.YtbhklifflhoinaaGreat
open Go.Proofs.YtbhklifflhoinaaGreat.Ev

namespace Ev
section
variable {P : Program} {B : Base} {Q : Post} {h0 : Heap} {W : List Nat} {N : Nat} {D : List Nat} {K : List Fr} {s : Sl} {L : Ob} {T : Tg} {md : Bool} {ops : Array Oper} {d : Nat} {ty : TypeId} {pos : String} {af : Array Edge} {gd : Option (Nat × Bool)} {l : List Oper}
/-- an expression of slices whose value may hang on what is held -/
theorem St.sliceV {t : TypeId} {x : Operand} {lo hi mx : Option Operand} {v : AV} (he : ∀ h, Vw h0 W L h → evOp P h (evS s) ⟨some d, .slice t x lo hi mx, ty, pos, af, gd⟩ = some (.value v, h)) (k : WO P B Q h0 W N D K md ops l ((d, v) :: s) L T) (hw : wantS ops s N ⟨some d, .slice t x lo hi mx, ty, pos, af, gd⟩ = some true := by exact rfl) (hd : Nat.blt d N = true := by exact rfl) : WO P B Q h0 W N D K md ops (⟨some d, .slice t x lo hi mx, ty, pos, af, gd⟩ :: l) s L T :=
  WO.opE hw hd (fun _ h ha hh => ⟨h, ROp.value ha (he h hh) (Nat.le_refl _), hh.gd.ss⟩) k
/-- clear of a part of a row -/
theorem St.clear {A C : Ob} {t e et : TypeId} {x : Operand} {i off len sz : Nat} {c : ACap} {old zs new : List AV} {z : AV} (hL : L = A ++ (i, .row old et sz) :: C) (hx : evS s x = some (.slice i off len c)) (ht : P.underlying t = some (.slice e)) (hz : zeroT P e = some z) (hl : len ≠ 0) (hr : rep z.cells len = zs) (hok : zs.all okCell = true) (hn : overN off zs old = some new) (k : WO P B Q h0 W N D K false ops l s (A ++ (i, .row new et sz) :: C) [])
    (hw : wantS ops s N ⟨none, .call ⟨.builtin .clear, #[x], #[t]⟩, ty, pos, af, gd⟩ = some true := by exact rfl) : WO P B Q h0 W N D K false ops (⟨none, .call ⟨.builtin .clear, #[x], #[t]⟩, ty, pos, af, gd⟩ :: l) s L [] := by
  subst hL
  constructor
  · rintro - a h ha hh
    obtain ⟨h1, h3⟩ := hh.store (o' := .row new et sz)
    have hg := (hh.own (i, .row old et sz) (by simp)).1
    refine KRun.op (v := .tup []) (g := { h with t := h.t.set i (.row new et sz) }) (wantS_eq ha hw) (ROp.value ha ?_ (Nat.le_refl _)) rfl (k.seq rfl a _ ha h3)
    have hst : h.storeN i off zs = some { h with t := h.t.set i (.row new et sz) } := by
      simp only [Heap.storeN, Heap.row, Heap.setRow, hg, Option.bind_eq_bind, Option.bind_some, hn, h1]
    unfold evOp
    simp only [oCall, mapO, hx, evBuiltin, List.getElem?_toArray, List.getElem?_cons_zero, Option.bind_some, ht, hz, hr, hok, if_true, hst, Option.map_some, if_neg hl]
  · intro e; cases e
end
end Ev
/-- the first k pairs, neighbours that are equal come to one -/
def cmpTo (ps : List (Int × Int)) : Nat → List (Int × Int)
  | 0 => []
  | k + 1 => cmpTo ps k ++ if k ≠ 0 ∧ (kx ps k = kx ps (k - 1) ∧ ky ps k = ky ps (k - 1)) then [] else [(kx ps k, ky ps k)]
def compP (ps : List (Int × Int)) : List (Int × Int) := cmpTo ps ps.length
theorem cmpTo_len (ps : List (Int × Int)) : ∀ k, (cmpTo ps k).length ≤ k
  | 0 => by simp [cmpTo]
  | k + 1 => by
    have := cmpTo_len ps k
    simp only [cmpTo]
    split <;> simp <;> omega
set_option maxRecDepth 100000 in
theorem kn_eql (a b c d : Int) : evBin Tryz.prog .eql 81 (.agg [.int .i64 a, .int .i64 b]) (.agg [.int .i64 c, .int .i64 d]) = some (.bool ((a == c) && (b == d))) := by
  simp [evBin, evEq, guardOk, eqT, eqFs, partE, isAggT, takeN, dropN, nthN]
  cases a == c <;> cases b == d <;> rfl
theorem flatA_app (l m : List (Int × Int)) : flatA (l ++ m) = flatA l ++ flatA m := by simp [flatA]
theorem flatA_take (l : List (Int × Int)) (k : Nat) (h : k ≤ l.length) : (flatA l).take (k * 2) = flatA (l.take k) ∧ (flatA l).drop (k * 2) = flatA (l.drop k) := by
  have e : flatA l = flatA (l.take k) ++ flatA (l.drop k) := by rw [← flatA_app, List.take_append_drop]
  have hl : (flatA (l.take k)).length = k * 2 := by rw [flatA_len, List.length_take, Nat.min_eq_left h]
  constructor
  · rw [e, List.take_left' hl]
  · rw [e, List.drop_left' hl]
theorem over_pair (l : List (Int × Int)) (k : Nat) (h : k < l.length) (a b : Int) : overN (k * 2) [AV.int .i64 a, .int .i64 b] (flatA l) = some (flatA (l.set k (a, b))) := by
  rw [overN_mk (by rw [flatA_len]; simp; omega)]
  obtain ⟨e1, _⟩ := flatA_take l k (by omega)
  obtain ⟨_, e2⟩ := flatA_take l (k + 1) (by omega)
  rw [e1, show k * 2 + [AV.int .i64 a, .int .i64 b].length = (k + 1) * 2 by simp; omega, e2, List.set_eq_take_append_cons_drop, if_pos h, flatA_app]
  rw [List.append_assoc]
  congr 1
theorem rep_flat : ∀ n, rep [AV.int .i64 0, .int .i64 0] n = flatA (List.replicate n (0, 0))
  | 0 => rfl
  | n + 1 => by
    rw [List.replicate_succ]
    simp only [rep, rep_flat n]
    rfl
theorem over_zeros (l : List (Int × Int)) (k : Nat) (h : k ≤ l.length) : overN (k * 2) (flatA (List.replicate (l.length - k) (0, 0))) (flatA l) = some (flatA (l.take k ++ List.replicate (l.length - k) (0, 0))) := by
  rw [overN_mk (by rw [flatA_len, flatA_len]; simp; omega)]
  obtain ⟨e1, _⟩ := flatA_take l k h
  rw [e1, List.drop_eq_nil_of_le (by rw [flatA_len, flatA_len]; simp; omega), List.append_nil, flatA_app]
theorem kx_drop {l m : List (Int × Int)} {p : Nat} (h : l.drop p = m.drop p) {q : Nat} (hq : p ≤ q) : kx l q = kx m q ∧ ky l q = ky m q := by
  have : l[q]? = m[q]? := by
    have := congrArg (fun z => z[q - p]?) h
    simp only [List.getElem?_drop] at this
    rwa [show p + (q - p) = q by omega] at this
  unfold kx ky
  rw [this]
  exact ⟨rfl, rfl⟩
theorem known_row {h : Heap} {i : Nat} {qs : List (Int × Int)} {e : TypeId} (hg : h.get i = some (.row (flatA qs) e 2)) : knownN h i 2 = qs.length := by
  unfold knownN
  rw [hg]
  simp only [if_true]
  rw [flatA_len, Nat.mul_div_cancel _ (by omega)]
set_option maxRecDepth 100000 in
theorem slice_fromK {h : Heap} {i k : Nat} {qs : List (Int × Int)} {e : TypeId} (hg : h.get i = some (.row (flatA qs) e 2)) (hk : k < qs.length) : evSlice Tryz.prog h 22 (.slice i 0 qs.length (.m 0)) (some (.int .i64 k)) none none = some (.slice i (0 + k * 2) (qs.length - k) (.m (0 + k))) := by
  have e : sizeT Tryz.prog 81 = some 2 := by kernel_rfl
  unfold evSlice
  rw [if_neg (by simp), Tryz.underlying22]
  simp only [e, evSliceM, optB, boundIn, known_row hg]
  rw [if_pos (by omega)]
  simp
  omega
set_option maxRecDepth 100000 in
theorem slice_toK {h : Heap} {i k : Nat} {qs : List (Int × Int)} {e : TypeId} (hg : h.get i = some (.row (flatA qs) e 2)) (hk : k ≤ qs.length) : evSlice Tryz.prog h 22 (.slice i 0 qs.length (.m 0)) none (some (.int .i64 k)) none = some (.slice i 0 k (.m 0)) := by
  have e : sizeT Tryz.prog 81 = some 2 := by kernel_rfl
  unfold evSlice
  rw [if_neg (by simp), Tryz.underlying22]
  simp only [e, evSliceM, optB, boundIn, known_row hg]
  rw [if_pos (by omega)]
  simp
theorem cmpTo_dup {ps : List (Int × Int)} {k : Nat} (h : k ≠ 0 ∧ (kx ps k = kx ps (k - 1) ∧ ky ps k = ky ps (k - 1))) : cmpTo ps (k + 1) = cmpTo ps k := by
  simp only [cmpTo]
  rw [if_pos h, List.append_nil]
theorem cmpTo_new {ps : List (Int × Int)} {k : Nat} (h : ¬ (k ≠ 0 ∧ (kx ps k = kx ps (k - 1) ∧ ky ps k = ky ps (k - 1)))) : cmpTo ps (k + 1) = cmpTo ps k ++ [(kx ps k, ky ps k)] := by
  simp only [cmpTo]
  rw [if_neg h]
set_option maxRecDepth 100000 in
theorem store_pair {l l' : List AV} {e : TypeId} {sz off : Nat} {a b : Int} (h : overN off [AV.int .i64 a, .int .i64 b] l = some l') : (AObj.row l e sz).store Tryz.prog 81 off (.agg [.int .i64 a, .int .i64 b]) = some (.row l' e sz) := by
  have hs : sizeT Tryz.prog 81 = some 2 := by kernel_rfl
  simp [AObj.store, hs, AV.cells, okCell, AObj.put, h]
/-- the row while slices.Compact writes: z = (j, w, qs) -/
structure CmpIs (ps : List (Int × Int)) (k0 j w : Nat) (qs : List (Int × Int)) : Prop where
  j1 : 1 ≤ j
  jn : k0 + j ≤ ps.length
  hw : w = (cmpTo ps (k0 + j)).length
  len : qs.length = ps.length
  take : qs.take w = cmpTo ps (k0 + j)
  drop : qs.drop (k0 + j - 1) = ps.drop (k0 + j - 1)
  lt : w + 1 ≤ k0 + j
set_option maxRecDepth 100000 in
set_option maxHeartbeats 8000000 in
theorem compactKn_con (h : Heap) (i : Nat) (ps : List (Int × Int)) (hn0 : 0 < ps.length) (hb : ps.length ≤ 1000000) (k0 : SS h [i] [(i, .row (flatA ps) 81 2)] h) :
    ∃ rest, Con Tryz.prog Bs 42 [.slice i 0 ps.length (.m 0)] h [i] (.slice i 0 (compP ps).length (.m 0)) [(i, .row (flatA (compP ps ++ rest)) 81 2)] := by
  have key : ∃ v L, Con Tryz.prog Bs 42 [.slice i 0 ps.length (.m 0)] h [i] v L ∧ (v = .slice i 0 (compP ps).length (.m 0) ∧ ∃ rest, L = [(i, .row (flatA (compP ps ++ rest)) 81 2)]) := by
    have hWW := k0.ltW
    refine Con.startR rfl Tryz.func42 rfl rfl Tryz.ntmps42 rfl rfl k0 ?_
    (refine WK.seq ?_; refine WK.region ?_; refine St.assign ?_; refine WO.nil ?_; refine WK.seq ?_; refine WK.seq ?_; refine WK.region ?_; refine St.move ?_; refine St.len ?_; refine St.bin ?_; refine WO.nil ?_)
    refine St.splitC (fun hc => ?_) (fun hc => ?_)
    · have h1 : ps.length = 1 := by simp at hc; omega
      have hcp : compP ps = ps := by
        obtain ⟨p, rfl⟩ := List.length_eq_one_iff.1 h1
        simp [compP, cmpTo, kx, ky]
      (refine WK.seq ?_; refine WK.region ?_; refine St.move ?_; refine St.assign ?_; refine WO.nil ?_)
      refine St.ret (by first | exact .tmp .nil | exact .cell .nil | exact .cell (.tmp .nil) | exact .tmp (.tmp .nil) | exact .cell (.cell .nil) | exact .tmp (.cell .nil) | exact .nil | exact .tmp (.cell (.tmp .nil)) | exact .cell (.tmp (.tmp .nil)) | exact .cell (.cell (.tmp .nil)) | exact .tmp (.tmp (.tmp .nil)) | exact .cell (.cell (.cell .nil))) ?_
      rw [hcp]
      exact ⟨rfl, [], by rw [List.append_nil]⟩
    have h2 : 2 ≤ ps.length := by simp at hc; omega
    (refine WK.skip ?_; refine WK.seq ?_; refine WK.seq ?_; refine WK.region ?_; refine St.assign ?_; refine WO.nil ?_; refine WK.block ?_)
    refine WK.inv (ι := Nat) (fun k => [(0, .slice i 0 ps.length (.m 0)), (3, .int .i64 k)]) (fun _ => [(i, .row (flatA ps) 81 2)]) (fun k => 1 ≤ k ∧ k ≤ ps.length ∧ cmpTo ps k = ps.take k) (fun k => ps.length - k) 1 ⟨by omega, by omega, by obtain ⟨p, q, rfl⟩ := List.exists_cons_of_length_pos hn0; simp [cmpTo, kx, ky]⟩ ⟨rfl, rfl, trivial⟩ (by (repeat (first | exact List.Sublist.refl _ | exact List.nil_sublist _ | apply List.Sublist.cons_cons | apply List.Sublist.cons))) ?_
    rintro k ⟨hk1, hkn, hcm⟩ ih
    (refine WK.seq ?_; refine WK.seq ?_; refine WK.region ?_; refine St.move ?_; refine St.move ?_; refine St.len ?_; refine St.bin ?_; refine WO.nil ?_)
    refine St.splitC (fun hc2 => ?_) (fun hc2 => ?_)
    · have hlt : k < ps.length := by simp at hc2; omega
      (refine WK.skip ?_; refine WK.seq ?_; refine WK.block ?_; refine WK.seq ?_; refine WK.regionD ?_; refine St.move ?_; refine St.move ?_)
      refine St.at ?_
      skip
      refine St.loadX (fun h hh => ((hh.frs (fs := ps) (j := i) (o := .row (flatA ps) 81 2) (by simp) (AObj.has_row _ _ _)).knot hlt).agg (by simp) rfl rfl rfl) ?_
      (refine St.move ?_; refine St.move ?_; refine St.binI ?_)
      refine St.at ?_
      skip
      refine St.loadX (fun h hh => ((hh.frs (fs := ps) (j := i) (o := .row (flatA ps) 81 2) (by simp) (AObj.has_row _ _ _)).at_ (z := (k : Int) - 1) (n := k - 1) (by omega) (by omega)).agg (by simp) rfl rfl rfl) ?_
      skip
      refine St.binX (kn_eql _ _ _ _) rfl rfl ?_
      (refine WO.nil ?_)
      refine St.splitC (fun hc3 => ?_) (fun hc3 => ?_)
      rotate_left
      · have hne : ¬ (k ≠ 0 ∧ (kx ps k = kx ps (k - 1) ∧ ky ps k = ky ps (k - 1))) := by
          rintro ⟨_, e1, e2⟩
          simp [e1, e2] at hc3
        (refine WK.skip ?_; refine WK.blk ?_; refine WK.region ?_; refine St.move ?_; refine St.binI ?_; refine St.assign ?_; refine WO.nil ?_)
        refine WK.le ?_ (by (repeat (first | exact List.Sublist.refl _ | exact List.nil_sublist _ | apply List.Sublist.cons_cons | apply List.Sublist.cons))) (ih (k + 1) ⟨by omega, hlt, ?_⟩ (by omega))
        · exact ⟨rfl, rfl, trivial⟩
        · simp only [cmpTo]
          rw [if_neg hne, hcm, List.take_succ_eq_append_getElem hlt, kx_eq hlt, ky_eq hlt]
      have heq : k ≠ 0 ∧ (kx ps k = kx ps (k - 1) ∧ ky ps k = ky ps (k - 1)) := ⟨by omega, by simpa using hc3⟩
      clear ih
      (refine WK.seq ?_; refine WK.region ?_; refine St.move ?_; refine St.move ?_)
      refine St.sliceV (v := .slice i (0 + k * 2) (ps.length - k) (.m (0 + k))) (fun h2 hh => ?_) ?_
      · show plainV (evSlice Tryz.prog h2 22 (.slice i 0 ps.length (.m 0)) (some (.int .i64 k)) none none) h2 = _
        rw [slice_fromK (hh.own (i, .row (flatA ps) 81 2) (by simp)).1 hlt]
        rfl
      (refine St.assign ?_; refine WO.nil ?_; refine WK.seq ?_; refine WK.seq ?_; refine WK.region ?_; refine St.assign ?_; refine WO.nil ?_; refine WK.block ?_)
      have hcl : (cmpTo ps (k + 1)).length = k := by rw [cmpTo_dup heq, hcm, List.length_take]; omega
      refine WK.inv (ι := Nat × Nat × List (Int × Int)) (fun z => [(0, .slice i 0 ps.length (.m 0)), (3, .int .i64 z.2.1), (4, .slice i (0 + k * 2) (ps.length - k) (.m (0 + k))), (5, .int .i64 z.1)]) (fun z => [(i, .row (flatA z.2.2) 81 2)]) (fun z => CmpIs ps k z.1 z.2.1 z.2.2) (fun z => ps.length - z.1) (1, k, ps)
        ⟨Nat.le_refl _, by simp only; omega, hcl.symm, rfl, by rw [cmpTo_dup heq, hcm], rfl, by simp only; omega⟩ ⟨rfl, rfl, rfl, rfl, trivial⟩ (by (repeat (first | exact List.Sublist.refl _ | exact List.nil_sublist _ | apply List.Sublist.cons_cons | apply List.Sublist.cons))) ?_
      rintro ⟨j, w, qs⟩ ⟨j1, jn, hw, hlen, htake, hdrop, hlt2⟩ ih
      simp only at j1 jn hw hlen htake hdrop hlt2 ih ⊢
      (refine WK.seq ?_; refine WK.seq ?_; refine WK.region ?_; refine St.move ?_; refine St.move ?_; refine St.len ?_; refine St.bin ?_; refine WO.nil ?_)
      refine St.splitC (fun hc4 => ?_) (fun hc4 => ?_)
      · have hp : k + j < ps.length := by simp at hc4; omega
        obtain ⟨x1, y1⟩ := kx_drop hdrop (q := k + j) (by omega)
        obtain ⟨x2, y2⟩ := kx_drop hdrop (q := k + j - 1) (by omega)
        (refine WK.skip ?_; refine WK.seq ?_; refine WK.block ?_; refine WK.seq ?_; refine WK.regionD ?_; refine St.move ?_; refine St.move ?_)
        refine St.at ?_
        skip
        refine St.loadX (v := .agg [.int .i64 (kx ps (k + j)), .int .i64 (ky ps (k + j))]) (fun h hh => by
          have := (hh.frs (fs := qs) (j := i) (o := .row (flatA qs) 81 2) (by simp) (AObj.has_row _ _ _)).knot (i := k + j) (by omega)
          rw [x1, y1, show 0 + (k + j) * 2 = 0 + k * 2 + (j : Int).toNat * 2 by omega] at this
          exact this.agg (by simp) rfl rfl rfl) ?_
        (refine St.move ?_; refine St.move ?_; refine St.binI ?_)
        refine St.at ?_
        skip
        refine St.loadX (v := .agg [.int .i64 (kx ps (k + j - 1)), .int .i64 (ky ps (k + j - 1))]) (fun h hh => by
          have := (hh.frs (fs := qs) (j := i) (o := .row (flatA qs) 81 2) (by simp) (AObj.has_row _ _ _)).knot (i := k + j - 1) (by omega)
          rw [x2, y2, show 0 + (k + j - 1) * 2 = 0 + k * 2 + ((j : Int) - 1).toNat * 2 by omega] at this
          exact this.agg (by simp) rfl rfl rfl) ?_
        skip
        refine St.binX (kn_neq _ _ _ _) rfl rfl ?_
        (refine WO.nil ?_)
        refine St.splitC (fun hc5 => ?_) (fun hc5 => ?_)
        · have hne : ¬ (k + j ≠ 0 ∧ (kx ps (k + j) = kx ps (k + j - 1) ∧ ky ps (k + j) = ky ps (k + j - 1))) := by
            rintro ⟨_, e1, e2⟩
            simp [e1, e2] at hc5
          (refine WK.seq ?_; refine WK.region ?_; refine St.move ?_; refine St.move ?_; refine St.move ?_; refine St.move ?_)
          refine St.at ?_
          skip
          refine St.loadX (v := .agg [.int .i64 (kx ps (k + j)), .int .i64 (ky ps (k + j))]) (fun h hh => by
            have := (hh.frs (fs := qs) (j := i) (o := .row (flatA qs) 81 2) (by simp) (AObj.has_row _ _ _)).knot (i := k + j) (by omega)
            rw [x1, y1, show 0 + (k + j) * 2 = 0 + k * 2 + (j : Int).toNat * 2 by omega] at this
            exact this.agg (by simp) rfl rfl rfl) ?_
          skip
          refine St.at ?_
          skip
          have hst : (AObj.row (flatA qs) 81 2).store Tryz.prog 81 (0 + (w : Int).toNat * 2) (.agg [.int .i64 (kx ps (k + j)), .int .i64 (ky ps (k + j))]) = some (.row (flatA (qs.set w (kx ps (k + j), ky ps (k + j)))) 81 2) := by
            have := over_pair qs w (by omega) (kx ps (k + j)) (ky ps (k + j))
            rw [show w * 2 = 0 + (w : Int).toNat * 2 by omega] at this
            exact store_pair this
          refine St.store0 (hv := hst) ?_
          (refine WO.nil ?_; refine WK.region ?_; refine St.move ?_; refine St.binI ?_; refine St.assign ?_; refine WO.nil ?_; refine WK.blk ?_; refine WK.region ?_; refine St.move ?_; refine St.binI ?_; refine St.assign ?_; refine WO.nil ?_)
          refine WK.le ?_ (by (repeat (first | exact List.Sublist.refl _ | exact List.nil_sublist _ | apply List.Sublist.cons_cons | apply List.Sublist.cons))) (ih (j + 1, w + 1, qs.set w (kx ps (k + j), ky ps (k + j))) ⟨by simp only; omega, by simp only; omega, ?_, by simpa using hlen, ?_, ?_, by simp only; omega⟩ (by simp only; omega))
          · exact ⟨rfl, rfl, rfl, rfl, trivial⟩
          · show w + 1 = (cmpTo ps (k + j + 1)).length
            rw [cmpTo_new hne]
            simp; omega
          · show (qs.set w (kx ps (k + j), ky ps (k + j))).take (w + 1) = cmpTo ps (k + j + 1)
            rw [cmpTo_new hne, ← htake, List.set_eq_take_append_cons_drop, if_pos (by omega), show qs.take w ++ (kx ps (k + j), ky ps (k + j)) :: qs.drop (w + 1) = (qs.take w ++ [(kx ps (k + j), ky ps (k + j))]) ++ qs.drop (w + 1) by simp]
            exact List.take_left' (by simp; omega)
          · show (qs.set w (kx ps (k + j), ky ps (k + j))).drop (k + j) = ps.drop (k + j)
            rw [List.drop_set_of_lt (by omega)]
            have := congrArg (List.drop 1) hdrop
            rw [List.drop_drop, List.drop_drop, show k + j - 1 + 1 = k + j by omega] at this
            exact this
        · have hdup : k + j ≠ 0 ∧ (kx ps (k + j) = kx ps (k + j - 1) ∧ ky ps (k + j) = ky ps (k + j - 1)) := ⟨by omega, by simpa using hc5⟩
          (refine WK.skip ?_; refine WK.blk ?_; refine WK.region ?_; refine St.move ?_; refine St.binI ?_; refine St.assign ?_; refine WO.nil ?_)
          refine WK.le ?_ (by (repeat (first | exact List.Sublist.refl _ | exact List.nil_sublist _ | apply List.Sublist.cons_cons | apply List.Sublist.cons))) (ih (j + 1, w, qs) ⟨by simp only; omega, by simp only; omega, ?_, hlen, ?_, ?_, by simp only; omega⟩ (by simp only; omega))
          · exact ⟨rfl, rfl, rfl, rfl, trivial⟩
          · show w = (cmpTo ps (k + j + 1)).length
            rw [cmpTo_dup hdup]
            exact hw
          · show qs.take w = cmpTo ps (k + j + 1)
            rw [cmpTo_dup hdup]
            exact htake
          · show qs.drop (k + j) = ps.drop (k + j)
            have := congrArg (List.drop 1) hdrop
            rw [List.drop_drop, List.drop_drop, show k + j - 1 + 1 = k + j by omega] at this
            exact this
      · have hp : k + j = ps.length := by simp at hc4; omega
        rw [hp] at hw htake hlt2
        have hcp : compP ps = qs.take w := htake.symm
        have hwl : w = (compP ps).length := hw
        clear ih
        (refine WK.exit ?_; refine WK.seq ?_; refine WK.region ?_; refine St.move ?_; refine St.move ?_)
        refine St.sliceV (v := .slice i (0 + w * 2) (qs.length - w) (.m (0 + w))) (fun h2 hh => ?_) ?_
        · show plainV (evSlice Tryz.prog h2 22 (.slice i 0 ps.length (.m 0)) (some (.int .i64 w)) none none) h2 = _
          rw [← hlen, slice_fromK (hh.own (i, .row (flatA qs) 81 2) (by simp)).1 (by omega)]
          rfl
        refine St.clear (A := []) (C := []) (old := flatA qs) (new := flatA (qs.take w ++ List.replicate (qs.length - w) (0, 0))) (zs := flatA (List.replicate (qs.length - w) (0, 0))) (z := .agg [.int .i64 0, .int .i64 0]) rfl rfl Tryz.underlying22 (by kernel_rfl) (by omega) (rep_flat _) (flatA_ok _) (by rw [Nat.zero_add]; exact over_zeros qs w (by omega)) ?_
        (refine WO.nil ?_; refine WK.seq ?_; refine WK.region ?_; refine St.move ?_; refine St.move ?_)
        refine St.sliceV (v := .slice i 0 w (.m 0)) (fun h2 hh => ?_) ?_
        · show plainV (evSlice Tryz.prog h2 22 (.slice i 0 ps.length (.m 0)) none (some (.int .i64 w)) none) h2 = _
          have hl : (qs.take w ++ List.replicate (qs.length - w) ((0 : Int), (0 : Int))).length = ps.length := by simp; omega
          rw [← hl, slice_toK (hh.own (i, .row (flatA (qs.take w ++ List.replicate (qs.length - w) (0, 0))) 81 2) (by simp)).1 (by rw [hl]; omega)]
          rfl
        (refine St.assign ?_; refine WO.nil ?_)
        refine St.ret (by first | exact .tmp .nil | exact .cell .nil | exact .cell (.tmp .nil) | exact .tmp (.tmp .nil) | exact .cell (.cell .nil) | exact .tmp (.cell .nil) | exact .nil | exact .tmp (.cell (.tmp .nil)) | exact .cell (.tmp (.tmp .nil)) | exact .cell (.cell (.tmp .nil)) | exact .tmp (.tmp (.tmp .nil)) | exact .cell (.cell (.cell .nil))) ?_
        rw [← hcp]
        exact ⟨by rw [← hwl]; rfl, _, rfl⟩
    · have hk' : k = ps.length := by simp at hc2; omega
      have hcp : compP ps = ps := by unfold compP; rw [← hk', hcm, hk', List.take_length]
      (refine WK.exit ?_; refine WK.seq ?_; refine WK.region ?_; refine St.move ?_; refine St.assign ?_; refine WO.nil ?_)
      refine St.ret (by first | exact .tmp .nil | exact .cell .nil | exact .cell (.tmp .nil) | exact .tmp (.tmp .nil) | exact .cell (.cell .nil) | exact .tmp (.cell .nil) | exact .nil | exact .tmp (.cell (.tmp .nil)) | exact .cell (.tmp (.tmp .nil)) | exact .cell (.cell (.tmp .nil)) | exact .tmp (.tmp (.tmp .nil)) | exact .cell (.cell (.cell .nil))) ?_
      rw [hcp]
      exact ⟨rfl, [], by rw [List.append_nil]⟩
  obtain ⟨v, L, hc, rfl, rest, rfl⟩ := key
  exact ⟨rest, hc⟩
end Go.Proofs.YtbhklifflhoinaaGreat
