/- Layer 8: Clone of items, the program's sorted. -/
import Derived.Test.YtkebbdpfjhhdhaaGreatDi
import Derived.Test.YtkebbdpfjhhdhaaGreatDo
/- Layer 8: slices.Compact of items over the calculator's memory. -/
namespace Go.Proofs.YtkebbdpfjhhdhaaGreat
open Go.Proofs.YtkebbdpfjhhdhaaGreat.Ev

namespace Ev
section
variable {P : Program} {B : Base} {Q : Post} {h0 : Heap} {W : List Nat} {N : Nat} {D : List Nat} {K : List Fr} {s : Sl} {L : Ob} {T : Tg} {md : Bool} {ops : Array Oper} {d : Nat} {ty : TypeId} {pos : String} {af : Array Edge} {gd : Option (Nat × Bool)} {l : List Oper}
/-- clear of a part of a row -/
theorem St.clear {A C : Ob} {t e et : TypeId} {x : Operand} {i off len sz : Nat} {c : ACap} {old zs new : List AV} {z : AV} (hL : L = A ++ (i, .row old et sz) :: C) (hx : evS s x = some (.slice i off len c)) (ht : P.underlying t = some (.slice e)) (hz : zeroT P e = some z) (hl : len ≠ 0) (hr : rep z.cells len = zs) (hok : zs.all okCell = true) (hn : overN off zs old = some new) (k : WO P B Q h0 W N D K false ops l s (A ++ (i, .row new et sz) :: C) [])
    (hw : wantS ops s N ⟨none, .call ⟨.builtin .clear, #[x], #[t]⟩, ty, pos, af, gd⟩ = some true := by exact rfl) : WO P B Q h0 W N D K false ops (⟨none, .call ⟨.builtin .clear, #[x], #[t]⟩, ty, pos, af, gd⟩ :: l) s L [] := by
  subst hL
  constructor
  · rintro - a h ha hh
    obtain ⟨h1, h3⟩ := hh.store (o' := .row new et sz)
    have hg := (hh.own (i, .row old et sz) (by simp)).1
    refine KRun.op (v := .tup []) (g := { h with t := h.t.set i (.row new et sz) }) (wantS_eq ha hw) (ROp.value ha ?_ (Nat.le_refl _)) rfl (k.seq rfl a _ ha h3)
    have hst : h.storeN i off zs = some { h with t := h.t.set i (.row new et sz) } := by
      simp only [Heap.storeN, Heap.row, Heap.setRow, hg, Option.bind_eq_bind, Option.bind_some, hn, h1]
    unfold evOp
    simp only [oCall, mapO, hx, evBuiltin, List.getElem?_toArray, List.getElem?_cons_zero, Option.bind_some, ht, hz, hr, hok, if_true, hst, Option.map_some, if_neg hl]
  · intro e; cases e
end
end Ev
/-- the first k items, neighbours that are equal come to one -/
def cmpTo (ps : List Im) : Nat → List Im
  | 0 => []
  | k + 1 => cmpTo ps k ++ if k ≠ 0 ∧ nthE ps k = nthE ps (k - 1) then [] else [nthE ps k]
def compP (ps : List Im) : List Im := cmpTo ps ps.length
theorem cmpTo_len (ps : List Im) : ∀ k, (cmpTo ps k).length ≤ k
  | 0 => by simp [cmpTo]
  | k + 1 => by
    have := cmpTo_len ps k
    simp only [cmpTo]
    split <;> simp <;> omega
theorem im_eql (x y : Im) : evBin Tryz.prog .eql 114 (.agg (imC x)) (.agg (imC y)) = some (.bool (decide (x = y))) := by
  simp only [im_ext]
  simp [imC, evBin, evEq, guardOk, eqT, eqFs, partE, isAggT, nthN]
  by_cases h0 : x.id = y.id
  rotate_left
  · simp [h0]
  by_cases h1 : x.kn = y.kn
  rotate_left
  · simp [h0, h1]
  by_cases h2 : x.kd = y.kd
  rotate_left
  · simp [h0, h1, h2]
  by_cases h3 : x.dy = y.dy
  rotate_left
  · simp [h0, h1, h2, h3]
  by_cases h4 : x.bl = y.bl
  rotate_left
  · simp [h0, h1, h2, h3, h4]
  by_cases h5 : x.ac = y.ac
  rotate_left
  · simp [h0, h1, h2, h3, h4, h5]
  by_cases h6 : x.am = y.am
  rotate_left
  · simp [h0, h1, h2, h3, h4, h5, h6]
  simp [h0, h1, h2, h3, h4, h5, h6]
theorem enJ_len (l : List Im) : (enF imC l).length = l.length * 7 := enF_len imC_len l
theorem enJ_take (l : List Im) (k : Nat) (h : k ≤ l.length) : (enF imC l).take (k * 7) = enF imC (l.take k) ∧ (enF imC l).drop (k * 7) = enF imC (l.drop k) := by
  have e : enF imC l = enF imC (l.take k) ++ enF imC (l.drop k) := by rw [← enF_app, List.take_append_drop]
  have hl : (enF imC (l.take k)).length = k * 7 := by rw [enJ_len, List.length_take, Nat.min_eq_left h]
  constructor
  · rw [e, List.take_left' hl]
  · rw [e, List.drop_left' hl]
theorem over_item (l : List Im) (k : Nat) (h : k < l.length) (x : Im) : overN (k * 7) (imC x) (enF imC l) = some (enF imC (l.set k x)) := by
  rw [overN_mk (by rw [enJ_len, imC_len]; omega)]
  obtain ⟨e1, _⟩ := enJ_take l k (by omega)
  obtain ⟨_, e2⟩ := enJ_take l (k + 1) (by omega)
  rw [e1, show k * 7 + (imC x).length = (k + 1) * 7 by rw [imC_len]; omega, e2, List.set_eq_take_append_cons_drop, if_pos h, enF_app]
  rw [List.append_assoc]
  congr 1
theorem rep_flat : ∀ n, rep (imC default) n = enF imC (List.replicate n default)
  | 0 => rfl
  | n + 1 => by
    rw [List.replicate_succ]
    simp only [rep, rep_flat n]
    rfl
theorem over_zeros (l : List Im) (k : Nat) (h : k ≤ l.length) : overN (k * 7) (enF imC (List.replicate (l.length - k) default)) (enF imC l) = some (enF imC (l.take k ++ List.replicate (l.length - k) default)) := by
  rw [overN_mk (by rw [enJ_len, enJ_len]; simp; omega)]
  obtain ⟨e1, _⟩ := enJ_take l k h
  rw [e1, List.drop_eq_nil_of_le (by rw [enJ_len, enJ_len]; simp; omega), List.append_nil, enF_app]
theorem nth_drop {l m : List Im} {p : Nat} (h : l.drop p = m.drop p) {q : Nat} (hq : p ≤ q) : nthE l q = nthE m q := by
  have : l[q]? = m[q]? := by
    have := congrArg (fun z => z[q - p]?) h
    simp only [List.getElem?_drop] at this
    rwa [show p + (q - p) = q by omega] at this
  unfold nthE
  rw [this]
theorem known_row {h : Heap} {i : Nat} {qs : List Im} {e : TypeId} (hg : h.get i = some (.row (enF imC qs) e 7)) : knownN h i 7 = qs.length := by
  unfold knownN
  rw [hg]
  simp only [if_true]
  rw [enJ_len, Nat.mul_div_cancel _ (by omega)]
set_option maxRecDepth 100000 in
theorem slice_fromK {h : Heap} {i k : Nat} {qs : List Im} {e : TypeId} (hg : h.get i = some (.row (enF imC qs) e 7)) (hk : k < qs.length) : evSlice Tryz.prog h 22 (.slice i 0 qs.length (.m 0)) (some (.int .i64 k)) none none = some (.slice i (0 + k * 7) (qs.length - k) (.m (0 + k))) := by
  have e : sizeT Tryz.prog 114 = some 7 := by kernel_rfl
  unfold evSlice
  rw [if_neg (by simp), Tryz.underlying22]
  simp only [e, evSliceM, optB, boundIn, known_row hg]
  rw [if_pos (by omega)]
  simp
  omega
set_option maxRecDepth 100000 in
theorem slice_toK {h : Heap} {i k : Nat} {qs : List Im} {e : TypeId} (hg : h.get i = some (.row (enF imC qs) e 7)) (hk : k ≤ qs.length) : evSlice Tryz.prog h 22 (.slice i 0 qs.length (.m 0)) none (some (.int .i64 k)) none = some (.slice i 0 k (.m 0)) := by
  have e : sizeT Tryz.prog 114 = some 7 := by kernel_rfl
  unfold evSlice
  rw [if_neg (by simp), Tryz.underlying22]
  simp only [e, evSliceM, optB, boundIn, known_row hg]
  rw [if_pos (by omega)]
  simp
theorem cmpTo_dup {ps : List Im} {k : Nat} (h : k ≠ 0 ∧ nthE ps k = nthE ps (k - 1)) : cmpTo ps (k + 1) = cmpTo ps k := by
  simp only [cmpTo]
  rw [if_pos h, List.append_nil]
theorem cmpTo_new {ps : List Im} {k : Nat} (h : ¬ (k ≠ 0 ∧ nthE ps k = nthE ps (k - 1))) : cmpTo ps (k + 1) = cmpTo ps k ++ [nthE ps k] := by
  simp only [cmpTo]
  rw [if_neg h]
set_option maxRecDepth 100000 in
theorem store_item {l l' : List AV} {e : TypeId} {sz off : Nat} {x : Im} (h : overN off (imC x) l = some l') : (AObj.row l e sz).store Tryz.prog 114 off (.agg (imC x)) = some (.row l' e sz) := by
  have hs : sizeT Tryz.prog 114 = some 7 := by kernel_rfl
  unfold imC at h
  simp [imC, AObj.store, hs, AV.cells, okCell, AObj.put, h]
theorem eh_row {h0 h : Heap} {W : List Nat} {V : Ob} {i : Nat} {l : List Im} {e : TypeId} (hh : Vw h0 W V h) (hm : (i, AObj.row (enF imC l) e 7) ∈ V) : ImH h i 0 l := fun j hj => by
  rw [Nat.zero_add]
  exact hh.rdsEn hm (AObj.has_row _ _ _) _ _ _ (enF_drop imC_len l j hj)
/-- the row while slices.Compact writes: z = (j, w, qs) -/
structure CmpIs (ps : List Im) (k0 j w : Nat) (qs : List Im) : Prop where
  j1 : 1 ≤ j
  jn : k0 + j ≤ ps.length
  hw : w = (cmpTo ps (k0 + j)).length
  len : qs.length = ps.length
  take : qs.take w = cmpTo ps (k0 + j)
  drop : qs.drop (k0 + j - 1) = ps.drop (k0 + j - 1)
  lt : w + 1 ≤ k0 + j
set_option maxRecDepth 100000 in
set_option maxHeartbeats 8000000 in
theorem compact_con (h : Heap) (i : Nat) (ps : List Im) (hn0 : 0 < ps.length) (hb : ps.length ≤ 1000000) (k0 : SS h [i] [(i, .row (enF imC ps) 114 7)] h) :
    ∃ rest, Con Tryz.prog Bs 120 [.slice i 0 ps.length (.m 0)] h [i] (.slice i 0 (compP ps).length (.m 0)) [(i, .row (enF imC (compP ps ++ rest)) 114 7)] := by
  have key : ∃ v L, Con Tryz.prog Bs 120 [.slice i 0 ps.length (.m 0)] h [i] v L ∧ (v = .slice i 0 (compP ps).length (.m 0) ∧ ∃ rest, L = [(i, .row (enF imC (compP ps ++ rest)) 114 7)]) := by
    have hWW := k0.ltW
    refine Con.startR rfl Tryz.func120 rfl rfl Tryz.ntmps120 rfl rfl k0 ?_
    (refine WK.seq ?_; refine WK.region ?_; refine St.assign ?_; refine WO.nil ?_; refine WK.seq ?_; refine WK.seq ?_; refine WK.region ?_; refine St.move ?_; refine St.len ?_; refine St.bin ?_; refine WO.nil ?_)
    refine St.splitC (fun hc => ?_) (fun hc => ?_)
    · have h1 : ps.length = 1 := by simp at hc; omega
      have hcp : compP ps = ps := by
        obtain ⟨p, rfl⟩ := List.length_eq_one_iff.1 h1
        simp [compP, cmpTo, nthE]
      (refine WK.seq ?_; refine WK.region ?_; refine St.move ?_; refine St.assign ?_; refine WO.nil ?_)
      refine St.ret (by first | exact .tmp .nil | exact .cell .nil | exact .cell (.tmp .nil) | exact .tmp (.tmp .nil) | exact .cell (.cell .nil) | exact .tmp (.cell .nil) | exact .nil | exact .tmp (.cell (.tmp .nil)) | exact .cell (.tmp (.tmp .nil)) | exact .cell (.cell (.tmp .nil)) | exact .tmp (.tmp (.tmp .nil)) | exact .tmp (.tmp (.tmp (.tmp .nil))) | exact .cell (.cell (.cell .nil))) ?_
      rw [hcp]
      exact ⟨rfl, [], by rw [List.append_nil]⟩
    have h2 : 2 ≤ ps.length := by simp at hc; omega
    (refine WK.skip ?_; refine WK.seq ?_; refine WK.seq ?_; refine WK.region ?_; refine St.assign ?_; refine WO.nil ?_; refine WK.block ?_)
    refine WK.inv (ι := Nat) (fun k => [(0, .slice i 0 ps.length (.m 0)), (3, .int .i64 k)]) (fun _ => [(i, .row (enF imC ps) 114 7)]) (fun k => 1 ≤ k ∧ k ≤ ps.length ∧ cmpTo ps k = ps.take k) (fun k => ps.length - k) 1 ⟨by omega, by omega, by obtain ⟨p, q, rfl⟩ := List.exists_cons_of_length_pos hn0; simp [cmpTo, nthE]⟩ ⟨rfl, rfl, trivial⟩ (by (repeat (first | exact List.Sublist.refl _ | exact List.nil_sublist _ | apply List.Sublist.cons_cons | apply List.Sublist.cons))) ?_
    rintro k ⟨hk1, hkn, hcm⟩ ih
    (refine WK.seq ?_; refine WK.seq ?_; refine WK.region ?_; refine St.move ?_; refine St.move ?_; refine St.len ?_; refine St.bin ?_; refine WO.nil ?_)
    refine St.splitC (fun hc2 => ?_) (fun hc2 => ?_)
    · have hlt : k < ps.length := by simp at hc2; omega
      (refine WK.skip ?_; refine WK.seq ?_; refine WK.block ?_; refine WK.seq ?_; refine WK.regionD ?_; refine St.move ?_; refine St.move ?_)
      refine St.at ?_
      skip
      refine St.loadX (fun h hh => ((eh_row (l := ps) (i := i) (e := 114) hh (by simp)).at_ (z := (k : Int)) (n := k) (by omega) hlt).agg (by simp [imC]) rfl rfl rfl) ?_
      (refine St.move ?_; refine St.move ?_; refine St.binI ?_)
      refine St.at ?_
      skip
      refine St.loadX (fun h hh => ((eh_row (l := ps) (i := i) (e := 114) hh (by simp)).at_ (z := (k : Int) - 1) (n := k - 1) (by omega) (by omega)).agg (by simp [imC]) rfl rfl rfl) ?_
      skip
      refine St.binX (im_eql _ _) rfl rfl ?_
      (refine WO.nil ?_)
      refine St.splitC (fun hc3 => ?_) (fun hc3 => ?_)
      rotate_left
      · have hne : ¬ (k ≠ 0 ∧ (nthE ps k = nthE ps (k - 1))) := by
          rintro ⟨_, e1⟩
          simp [e1] at hc3
        (refine WK.skip ?_; refine WK.blk ?_; refine WK.region ?_; refine St.move ?_; refine St.binI ?_; refine St.assign ?_; refine WO.nil ?_)
        refine WK.le ?_ (by (repeat (first | exact List.Sublist.refl _ | exact List.nil_sublist _ | apply List.Sublist.cons_cons | apply List.Sublist.cons))) (ih (k + 1) ⟨by omega, hlt, ?_⟩ (by omega))
        · exact ⟨rfl, rfl, trivial⟩
        · simp only [cmpTo]
          rw [if_neg hne, hcm, List.take_succ_eq_append_getElem hlt, nthE_eq hlt]
      have heq : k ≠ 0 ∧ (nthE ps k = nthE ps (k - 1)) := ⟨by omega, by simpa using hc3⟩
      clear ih
      (refine WK.seq ?_; refine WK.region ?_; refine St.move ?_; refine St.move ?_)
      refine St.sliceG (v := .slice i (0 + k * 7) (ps.length - k) (.m (0 + k))) (fun h2 hh => ?_) ?_
      · show plainV (evSlice Tryz.prog h2 22 (.slice i 0 ps.length (.m 0)) (some (.int .i64 k)) none none) h2 = _
        rw [slice_fromK (hh.own (i, .row (enF imC ps) 114 7) (by simp)).1 hlt]
        rfl
      (refine St.assign ?_; refine WO.nil ?_; refine WK.seq ?_; refine WK.seq ?_; refine WK.region ?_; refine St.assign ?_; refine WO.nil ?_; refine WK.block ?_)
      have hcl : (cmpTo ps (k + 1)).length = k := by rw [cmpTo_dup heq, hcm, List.length_take]; omega
      refine WK.inv (ι := Nat × Nat × List Im) (fun z => [(0, .slice i 0 ps.length (.m 0)), (3, .int .i64 z.2.1), (4, .slice i (0 + k * 7) (ps.length - k) (.m (0 + k))), (5, .int .i64 z.1)]) (fun z => [(i, .row (enF imC z.2.2) 114 7)]) (fun z => CmpIs ps k z.1 z.2.1 z.2.2) (fun z => ps.length - z.1) (1, k, ps)
        ⟨Nat.le_refl _, by simp only; omega, hcl.symm, rfl, by rw [cmpTo_dup heq, hcm], rfl, by simp only; omega⟩ ⟨rfl, rfl, rfl, rfl, trivial⟩ (by (repeat (first | exact List.Sublist.refl _ | exact List.nil_sublist _ | apply List.Sublist.cons_cons | apply List.Sublist.cons))) ?_
      rintro ⟨j, w, qs⟩ ⟨j1, jn, hw, hlen, htake, hdrop, hlt2⟩ ih
      simp only at j1 jn hw hlen htake hdrop hlt2 ih ⊢
      (refine WK.seq ?_; refine WK.seq ?_; refine WK.region ?_; refine St.move ?_; refine St.move ?_; refine St.len ?_; refine St.bin ?_; refine WO.nil ?_)
      refine St.splitC (fun hc4 => ?_) (fun hc4 => ?_)
      · have hp : k + j < ps.length := by simp at hc4; omega
        have x1 := nth_drop hdrop (q := k + j) (by omega)
        have x2 := nth_drop hdrop (q := k + j - 1) (by omega)
        (refine WK.skip ?_; refine WK.seq ?_; refine WK.block ?_; refine WK.seq ?_; refine WK.regionD ?_; refine St.move ?_; refine St.move ?_)
        refine St.at ?_
        skip
        refine St.loadX (v := .agg (imC (nthE ps (k + j)))) (fun h hh => by
          have := eh_row (l := qs) (i := i) (e := 114) hh (by simp) (k + j) (by omega)
          rw [x1, show 0 + (k + j) * 7 = 0 + k * 7 + (j : Int).toNat * 7 by omega] at this
          exact this.agg (by simp [imC]) rfl rfl rfl) ?_
        (refine St.move ?_; refine St.move ?_; refine St.binI ?_)
        refine St.at ?_
        skip
        refine St.loadX (v := .agg (imC (nthE ps (k + j - 1)))) (fun h hh => by
          have := eh_row (l := qs) (i := i) (e := 114) hh (by simp) (k + j - 1) (by omega)
          rw [x2, show 0 + (k + j - 1) * 7 = 0 + k * 7 + ((j : Int) - 1).toNat * 7 by omega] at this
          exact this.agg (by simp [imC]) rfl rfl rfl) ?_
        skip
        refine St.binX (im_neq _ _) rfl rfl ?_
        (refine WO.nil ?_)
        refine St.splitC (fun hc5 => ?_) (fun hc5 => ?_)
        · have hne : ¬ (k + j ≠ 0 ∧ (nthE ps (k + j) = nthE ps (k + j - 1))) := by
            rintro ⟨_, e1⟩
            simp [e1] at hc5
          (refine WK.seq ?_; refine WK.region ?_; refine St.move ?_; refine St.move ?_; refine St.move ?_; refine St.move ?_)
          refine St.at ?_
          skip
          refine St.loadX (v := .agg (imC (nthE ps (k + j)))) (fun h hh => by
            have := eh_row (l := qs) (i := i) (e := 114) hh (by simp) (k + j) (by omega)
            rw [x1, show 0 + (k + j) * 7 = 0 + k * 7 + (j : Int).toNat * 7 by omega] at this
            exact this.agg (by simp [imC]) rfl rfl rfl) ?_
          skip
          refine St.at ?_
          skip
          have hst : (AObj.row (enF imC qs) 114 7).store Tryz.prog 114 (0 + (w : Int).toNat * 7) (.agg (imC (nthE ps (k + j)))) = some (.row (enF imC (qs.set w (nthE ps (k + j)))) 114 7) := by
            have := over_item qs w (by omega) (nthE ps (k + j))
            rw [show w * 7 = 0 + (w : Int).toNat * 7 by omega] at this
            exact store_item this
          refine St.store0 (hv := hst) ?_
          (refine WO.nil ?_; refine WK.region ?_; refine St.move ?_; refine St.binI ?_; refine St.assign ?_; refine WO.nil ?_; refine WK.blk ?_; refine WK.region ?_; refine St.move ?_; refine St.binI ?_; refine St.assign ?_; refine WO.nil ?_)
          refine WK.le ?_ (by (repeat (first | exact List.Sublist.refl _ | exact List.nil_sublist _ | apply List.Sublist.cons_cons | apply List.Sublist.cons))) (ih (j + 1, w + 1, qs.set w (nthE ps (k + j))) ⟨by simp only; omega, by simp only; omega, ?_, by simpa using hlen, ?_, ?_, by simp only; omega⟩ (by simp only; omega))
          · exact ⟨rfl, rfl, rfl, rfl, trivial⟩
          · show w + 1 = (cmpTo ps (k + j + 1)).length
            rw [cmpTo_new hne]
            simp; omega
          · show (qs.set w (nthE ps (k + j))).take (w + 1) = cmpTo ps (k + j + 1)
            rw [cmpTo_new hne, ← htake, List.set_eq_take_append_cons_drop, if_pos (by omega), show qs.take w ++ (nthE ps (k + j)) :: qs.drop (w + 1) = (qs.take w ++ [(nthE ps (k + j))]) ++ qs.drop (w + 1) by simp]
            exact List.take_left' (by simp; omega)
          · show (qs.set w (nthE ps (k + j))).drop (k + j) = ps.drop (k + j)
            rw [List.drop_set_of_lt (by omega)]
            have := congrArg (List.drop 1) hdrop
            rw [List.drop_drop, List.drop_drop, show k + j - 1 + 1 = k + j by omega] at this
            exact this
        · have hdup : k + j ≠ 0 ∧ (nthE ps (k + j) = nthE ps (k + j - 1)) := ⟨by omega, by simpa using hc5⟩
          (refine WK.skip ?_; refine WK.blk ?_; refine WK.region ?_; refine St.move ?_; refine St.binI ?_; refine St.assign ?_; refine WO.nil ?_)
          refine WK.le ?_ (by (repeat (first | exact List.Sublist.refl _ | exact List.nil_sublist _ | apply List.Sublist.cons_cons | apply List.Sublist.cons))) (ih (j + 1, w, qs) ⟨by simp only; omega, by simp only; omega, ?_, hlen, ?_, ?_, by simp only; omega⟩ (by simp only; omega))
          · exact ⟨rfl, rfl, rfl, rfl, trivial⟩
          · show w = (cmpTo ps (k + j + 1)).length
            rw [cmpTo_dup hdup]
            exact hw
          · show qs.take w = cmpTo ps (k + j + 1)
            rw [cmpTo_dup hdup]
            exact htake
          · show qs.drop (k + j) = ps.drop (k + j)
            have := congrArg (List.drop 1) hdrop
            rw [List.drop_drop, List.drop_drop, show k + j - 1 + 1 = k + j by omega] at this
            exact this
      · have hp : k + j = ps.length := by simp at hc4; omega
        rw [hp] at hw htake hlt2
        have hcp : compP ps = qs.take w := htake.symm
        have hwl : w = (compP ps).length := hw
        clear ih
        (refine WK.exit ?_; refine WK.seq ?_; refine WK.region ?_; refine St.move ?_; refine St.move ?_)
        refine St.sliceG (v := .slice i (0 + w * 7) (qs.length - w) (.m (0 + w))) (fun h2 hh => ?_) ?_
        · show plainV (evSlice Tryz.prog h2 22 (.slice i 0 ps.length (.m 0)) (some (.int .i64 w)) none none) h2 = _
          rw [← hlen, slice_fromK (hh.own (i, .row (enF imC qs) 114 7) (by simp)).1 (by omega)]
          rfl
        refine St.clear (A := []) (C := []) (old := enF imC qs) (new := enF imC (qs.take w ++ List.replicate (qs.length - w) default)) (zs := enF imC (List.replicate (qs.length - w) default)) (z := .agg (imC default)) rfl rfl Tryz.underlying22 (by kernel_rfl) (by omega) (rep_flat _) (enF_ok fun _ _ => rfl) (by rw [Nat.zero_add]; exact over_zeros qs w (by omega)) ?_
        (refine WO.nil ?_; refine WK.seq ?_; refine WK.region ?_; refine St.move ?_; refine St.move ?_)
        refine St.sliceG (v := .slice i 0 w (.m 0)) (fun h2 hh => ?_) ?_
        · show plainV (evSlice Tryz.prog h2 22 (.slice i 0 ps.length (.m 0)) none (some (.int .i64 w)) none) h2 = _
          have hl : (qs.take w ++ List.replicate (qs.length - w) (default : Im)).length = ps.length := by simp; omega
          rw [← hl, slice_toK (hh.own (i, .row (enF imC (qs.take w ++ List.replicate (qs.length - w) default)) 114 7) (by simp)).1 (by rw [hl]; omega)]
          rfl
        (refine St.assign ?_; refine WO.nil ?_)
        refine St.ret (by first | exact .tmp .nil | exact .cell .nil | exact .cell (.tmp .nil) | exact .tmp (.tmp .nil) | exact .cell (.cell .nil) | exact .tmp (.cell .nil) | exact .nil | exact .tmp (.cell (.tmp .nil)) | exact .cell (.tmp (.tmp .nil)) | exact .cell (.cell (.tmp .nil)) | exact .tmp (.tmp (.tmp .nil)) | exact .tmp (.tmp (.tmp (.tmp .nil))) | exact .cell (.cell (.cell .nil))) ?_
        rw [← hcp]
        exact ⟨by rw [← hwl]; rfl, _, rfl⟩
    · have hk' : k = ps.length := by simp at hc2; omega
      have hcp : compP ps = ps := by unfold compP; rw [← hk', hcm, hk', List.take_length]
      (refine WK.exit ?_; refine WK.seq ?_; refine WK.region ?_; refine St.move ?_; refine St.assign ?_; refine WO.nil ?_)
      refine St.ret (by first | exact .tmp .nil | exact .cell .nil | exact .cell (.tmp .nil) | exact .tmp (.tmp .nil) | exact .cell (.cell .nil) | exact .tmp (.cell .nil) | exact .nil | exact .tmp (.cell (.tmp .nil)) | exact .cell (.tmp (.tmp .nil)) | exact .cell (.cell (.tmp .nil)) | exact .tmp (.tmp (.tmp .nil)) | exact .tmp (.tmp (.tmp (.tmp .nil))) | exact .cell (.cell (.cell .nil))) ?_
      rw [hcp]
      exact ⟨rfl, [], by rw [List.append_nil]⟩
  obtain ⟨v, L, hc, rfl, rest, rfl⟩ := key
  exact ⟨rest, hc⟩
end Go.Proofs.YtkebbdpfjhhdhaaGreat

/- Layer 8: Clone of items, the program's sorted. -/
namespace Go.Proofs.YtkebbdpfjhhdhaaGreat
open Go.Proofs.YtkebbdpfjhhdhaaGreat.Ev

namespace Ev
section
variable {P : Program} {B : Base} {Q : Post} {h0 : Heap} {W : List Nat} {N : Nat} {D : List Nat} {K : List Fr} {s : Sl} {L : Ob} {ops : Array Oper} {d : Nat} {ty : TypeId} {pos : String} {af : Array Edge} {gd : Option (Nat × Bool)} {l : List Oper}
variable {x y : Operand} {t tx e : TypeId} {u : AV} {sz n : Nat} {new : List AV} {i2 off2 : Nat} {c2 : ACap}
/-- append to an empty list that was made just now -/
theorem St.appE0 {j0 : Nat} {ty0 : TypeId} (hj : (j0, .cells [] ty0) ∈ L) (k : ∀ j, h0.next ≤ j → WO P B Q h0 W N D K false ops l ((d, .slice j 0 n (.m 0)) :: s) ((j, .row new e sz) :: L) []) (q : AppQ P s x y t tx (.slice j0 0 0 (.k 0)) u e sz n new i2 off2 c2) (hl : ∀ h, Vw h0 W L h → h.loadN i2 off2 (n * sz) = some new) (h1 : 0 < n) (h2 : n ≤ 1000000)
    (hw : wantS ops s N ⟨some d, .call ⟨.builtin .append, #[x, y], #[t, tx]⟩, ty, pos, af, gd⟩ = some true := by exact rfl) (hd : Nat.blt d N = true := by exact rfl) : WO P B Q h0 W N D K false ops (⟨some d, .call ⟨.builtin .append, #[x, y], #[t, tx]⟩, ty, pos, af, gd⟩ :: l) s L [] := by
  refine WO.op1 (v := fun j => .slice j 0 n (.m 0)) (ob := fun _ => .row new e sz) hw hd (fun a h ha hh => ⟨_, h.next, ROp.value ha ?_ (Nat.le_succ _), hh.gd.ss.new _⟩) k
  rw [q.ev rfl (hl h hh)]
  have hld : h.loadN j0 0 (0 * sz) = some [] := by
    unfold Heap.loadN
    rw [(hh.own _ hj).1, Nat.zero_mul]
    rfl
  simp only [evOnto, Nat.zero_add, show ¬ n ≤ 0 from by omega, if_false, h2, if_true, hld, List.nil_append, evGrow, Option.map_some]
end
theorem St.callWR {P : Program} {B : Base} {Q : Post} {h0 : Heap} {W : List Nat} {N : Nat} {D : List Nat} {K : List Fr} {s : Sl} {L : Ob} {ops : Array Oper} {d : Nat} {op : Op} {ty : TypeId} {pos : String} {af : Array Edge} {gd : Option (Nat × Bool)} {l : List Oper} {f : Nat} {args : List AV} {R : AV → Ob → Prop} {Lw Lk : Ob} {W' : List Nat} (he : ∀ h, evOp P h (evS s) ⟨some d, op, ty, pos, af, gd⟩ = some (.enter f args, h)) (hc : ∀ h, SS h0 W L h → ∃ v L', Con P B f args h W' v L' ∧ R v L') (hL : (Lw ++ Lk).Perm L) (hW : Lw.map (·.1) = W') (k : ∀ v L', R v L' → WO P B Q h0 W N D K false ops l ((d, v) :: s) (L' ++ Lk) []) (hw : wantS ops s N ⟨some d, op, ty, pos, af, gd⟩ = some true := by exact rfl) (hd : Nat.blt d N = true := by exact rfl) : WO P B Q h0 W N D K false ops (⟨some d, op, ty, pos, af, gd⟩ :: l) s L [] := by
  constructor
  · rintro - a h ha hh
    obtain ⟨v, L', ⟨g, h1, h2⟩, hR⟩ := hc h hh
    obtain ⟨a', h3, h4⟩ := ha.put (d := some d) hd v
    exact KRun.op (wantS_eq ha hw) (ROp.enter ha (he h) h1) h3 ((k v L' hR).seq rfl a' g h4 (hh.trans h2 hL hW))
  · intro e; cases e
end Ev
/-- a list that may be read and handed on: nil, or empty, or elements in memory -/
inductive ImZ (h : Heap) : AV → List Im → Prop
  | nil : ImZ h .slice0 []
  | emp (b off : Nat) (m : ACap) : b < h.next → h.loadN b off 0 = .some [] → ImZ h (.slice b off 0 m) []
  | some (b off : Nat) (c : ACap) (l : List Im) : 0 < l.length → ImH h b off l → ImZ h (.slice b off l.length c) l
theorem loadN_old {h0 h : Heap} {V : Ob} {b off : Nat} (hb : b < h0.next) (hl : h0.loadN b off 0 = .some []) (hh : Vw h0 [] V h) : h.loadN b off 0 = .some [] := by
  unfold Heap.loadN at hl ⊢
  rw [hh.old b hb (by simp)]
  exact hl
theorem ImZ.vw {h0 h : Heap} {V : Ob} {v : AV} {l : List Im} (k : ImZ h0 v l) (hh : Vw h0 [] V h) : ImZ h v l := by
  cases k with
  | nil => exact .nil
  | emp b off m hb hl => exact .emp b off m (Nat.lt_of_lt_of_le hb hh.nx) (loadN_old hb hl hh)
  | some b off c l hn hk => exact .some b off c l hn (hk.vw hh)
theorem ImZ.eV {h : Heap} {v : AV} {l : List Im} (k : ImZ h v l) : ImV h v l := by
  cases k with
  | nil => exact .inl ⟨.inl rfl, rfl⟩
  | emp b off m hb hl => exact .inr ⟨b, off, m, rfl, fun i hi => by simp at hi⟩
  | some b off c l hn hk => exact .inr ⟨b, off, c, rfl, hk⟩
/-- what an append takes of it -/
theorem ImZ.comes {h : Heap} {v : AV} {l : List Im} {L : Ob} (k : ImZ h v l) (hl : l.length ≤ 1000000) : ComesA h [] L v 7 l.length (enF imC l) := by
  cases k with
  | nil => exact .inl ⟨rfl, rfl, rfl, fun _ _ => rfl⟩
  | emp b off m hb hz => exact .inl ⟨rfl, rfl, rfl, fun h2 hh => by
      show h2.loadN b off (0 * 7) = _
      rw [Nat.zero_mul]
      exact loadN_old hb hz ⟨hh.gd, hh.nx, hh.old, hh.own⟩⟩
  | some b off c l hn hk => exact comesE imC_len (by decide) hk (fun _ _ => rfl) (fun e => by omega) hl
/-- what Clone hands back -/
def ClR (l : List Im) (u : AV) (L : Ob) : Prop := (l = [] ∧ u = .slice0 ∧ L = []) ∨ (l = [] ∧ ∃ j t, u = .slice j 0 0 (.k 0) ∧ L = [(j, .cells [] t)]) ∨ (0 < l.length ∧ ∃ j, u = .slice j 0 l.length (.m 0) ∧ L = [(j, .row (enF imC l) 114 7)])
set_option maxRecDepth 100000 in
set_option maxHeartbeats 4000000 in
theorem clone_con (h : Heap) (g : Gd h) (v : AV) (l : List Im) (hv : ImZ h v l) (hl : l.length ≤ 1000000) :
    ∃ u L, Con Tryz.prog Bs 116 [v] h [] u L ∧ ClR l u L := by
  cases hv with
  | nil =>
    refine Con.subG (Con.startR rfl Tryz.func116 rfl rfl Tryz.ntmps116 rfl rfl (SS.init g) ?_)
    (refine WK.seq ?_; refine WK.region ?_; refine St.assign ?_; refine WO.nil ?_; refine WK.seq ?_; refine WK.seq ?_; refine WK.region ?_; refine St.move ?_; refine St.bin ?_; refine WO.nil ?_; refine WK.condT ?_; refine WK.seq ?_; refine WK.region ?_; refine St.assign ?_; refine WO.nil ?_)
    refine St.ret (by first | exact .tmp .nil | exact .cell .nil | exact .cell (.tmp .nil) | exact .tmp (.tmp .nil) | exact .cell (.cell .nil) | exact .tmp (.cell .nil) | exact .nil | exact .tmp (.cell (.tmp .nil)) | exact .cell (.tmp (.tmp .nil)) | exact .cell (.cell (.tmp .nil)) | exact .tmp (.tmp (.tmp .nil)) | exact .tmp (.tmp (.tmp (.tmp .nil))) | exact .cell (.cell (.cell .nil))) ?_
    exact ⟨[], List.nil_sublist _, .inl ⟨rfl, rfl, rfl⟩⟩
  | emp b off m hb hz =>
    refine Con.subG (Con.startR rfl Tryz.func116 rfl rfl Tryz.ntmps116 rfl rfl (SS.init g) ?_)
    (refine WK.seq ?_; refine WK.region ?_; refine St.assign ?_; refine WO.nil ?_; refine WK.seq ?_; refine WK.seq ?_; refine WK.region ?_; refine St.move ?_; refine St.bin ?_; refine WO.nil ?_; refine WK.condF ?_; refine WK.skip ?_; refine WK.seq ?_; refine WK.region ?_; refine St.mkS fun _ _ => ?_; refine St.move ?_)
    rename_i x hx
    refine St.app0 (Lv := [(x, .cells [] 114)]) (Lk := []) (len := 0) (old := []) (.cells x 0 [] 114 rfl rfl (Nat.le_refl _)) (List.Perm.refl _) ?_ ⟨rfl, rfl, rfl, rfl, rfl, rfl, rfl, rfl, rfl⟩ (fun h2 hh => by
      show h2.loadN b off (0 * 7) = _
      rw [Nat.zero_mul]
      exact loadN_old hb hz ⟨hh.gd, hh.nx, hh.old, hh.own⟩)
    (refine St.assign ?_; refine WO.nil ?_)
    refine St.ret (by first | exact .tmp .nil | exact .cell .nil | exact .cell (.tmp .nil) | exact .tmp (.tmp .nil) | exact .cell (.cell .nil) | exact .tmp (.cell .nil) | exact .nil | exact .tmp (.cell (.tmp .nil)) | exact .cell (.tmp (.tmp .nil)) | exact .cell (.cell (.tmp .nil)) | exact .tmp (.tmp (.tmp .nil)) | exact .tmp (.tmp (.tmp (.tmp .nil))) | exact .cell (.cell (.cell .nil))) ?_
    exact ⟨_, List.Sublist.refl _, .inr (.inl ⟨rfl, x, _, rfl, rfl⟩)⟩
  | some b off c l hn hk =>
    refine Con.subG (Con.startR rfl Tryz.func116 rfl rfl Tryz.ntmps116 rfl rfl (SS.init g) ?_)
    (refine WK.seq ?_; refine WK.region ?_; refine St.assign ?_; refine WO.nil ?_; refine WK.seq ?_; refine WK.seq ?_; refine WK.region ?_; refine St.move ?_; refine St.bin ?_; refine WO.nil ?_; refine WK.condF ?_; refine WK.skip ?_; refine WK.seq ?_; refine WK.region ?_; refine St.mkS fun _ _ => ?_; refine St.move ?_)
    rename_i x hx
    refine St.appE0 (e := 114) (sz := 7) (new := enF imC l) (j0 := x) (ty0 := 114) (List.Mem.head _) (fun j hj => ?_) ⟨rfl, rfl, rfl, rfl, rfl, rfl, rfl, rfl, rfl, Nat.ble_eq_true_of_le hl, by rw [enF_len imC_len]; simp, enF_ok fun _ _ => rfl⟩ (fun h2 hh => EH.loadN imC_len (by decide) (hk.vw hh) hn) hn hl
    (refine St.assign ?_; refine WO.nil ?_)
    refine St.ret (by first | exact .tmp .nil | exact .cell .nil | exact .cell (.tmp .nil) | exact .tmp (.tmp .nil) | exact .cell (.cell .nil) | exact .tmp (.cell .nil) | exact .nil | exact .tmp (.cell (.tmp .nil)) | exact .cell (.tmp (.tmp .nil)) | exact .cell (.cell (.tmp .nil)) | exact .tmp (.tmp (.tmp .nil)) | exact .tmp (.tmp (.tmp (.tmp .nil))) | exact .cell (.cell (.cell .nil))) ?_
    exact ⟨[(j, .row (enF imC l) 114 7)], by simp, .inr (.inr ⟨hn, j, rfl, rfl⟩)⟩
set_option maxRecDepth 100000 in
theorem compact0_con (h : Heap) (g : Gd h) : Con Tryz.prog Bs 120 [.slice0] h [] .slice0 [] := by
  refine Con.start rfl Tryz.func120 rfl rfl Tryz.ntmps120 rfl rfl g ?_
  (refine WK.seq ?_; refine WK.region ?_; refine St.assign ?_; refine WO.nil ?_; refine WK.seq ?_; refine WK.seq ?_; refine WK.region ?_; refine St.move ?_; refine St.len0 ?_; refine St.bin ?_; refine WO.nil ?_; refine WK.condT ?_; refine WK.seq ?_; refine WK.region ?_; refine St.move ?_; refine St.assign ?_; refine WO.nil ?_)
  refine St.ret (by first | exact .tmp .nil | exact .cell .nil | exact .cell (.tmp .nil) | exact .tmp (.tmp .nil) | exact .cell (.cell .nil) | exact .tmp (.cell .nil) | exact .nil | exact .tmp (.cell (.tmp .nil)) | exact .cell (.tmp (.tmp .nil)) | exact .cell (.cell (.tmp .nil)) | exact .tmp (.tmp (.tmp .nil)) | exact .tmp (.tmp (.tmp (.tmp .nil))) | exact .cell (.cell (.cell .nil))) ?_
  rfl
set_option maxRecDepth 100000 in
theorem compactE_con (h : Heap) (g : Gd h) (j : Nat) : Con Tryz.prog Bs 120 [.slice j 0 0 (.k 0)] h [] (.slice j 0 0 (.k 0)) [] := by
  refine Con.start rfl Tryz.func120 rfl rfl Tryz.ntmps120 rfl rfl g ?_
  (refine WK.seq ?_; refine WK.region ?_; refine St.assign ?_; refine WO.nil ?_; refine WK.seq ?_; refine WK.seq ?_; refine WK.region ?_; refine St.move ?_; refine St.len ?_; refine St.bin ?_; refine WO.nil ?_; refine WK.condT ?_; refine WK.seq ?_; refine WK.region ?_; refine St.move ?_; refine St.assign ?_; refine WO.nil ?_)
  refine St.ret (by first | exact .tmp .nil | exact .cell .nil | exact .cell (.tmp .nil) | exact .tmp (.tmp .nil) | exact .cell (.cell .nil) | exact .tmp (.cell .nil) | exact .nil | exact .tmp (.cell (.tmp .nil)) | exact .cell (.tmp (.tmp .nil)) | exact .cell (.cell (.tmp .nil)) | exact .tmp (.tmp (.tmp .nil)) | exact .tmp (.tmp (.tmp (.tmp .nil))) | exact .cell (.cell (.cell .nil))) ?_
  rfl
/-- the items of a list in the order in which they came in, each once -/
def cleanJ (l : List Im) : List Im := compP (srtJ l)
theorem cleanJ_nil : cleanJ [] = [] := by simp [cleanJ, compP, srtJ, cmpTo]
/-- such a list in memory -/
def ClnR (l : List Im) (u : AV) (L : Ob) : Prop := (l = [] ∧ u = .slice0 ∧ L = []) ∨ (l = [] ∧ ∃ j t, u = .slice j 0 0 (.k 0) ∧ L = [(j, .cells [] t)]) ∨ (0 < l.length ∧ ∃ j rest, u = .slice j 0 (cleanJ l).length (.m 0) ∧ L = [(j, .row (enF imC (cleanJ l ++ rest)) 114 7)])
theorem ClnR.lenG {l : List Im} {u : AV} {L : Ob} (k : ClnR l u L) : ∀ h2, lenA Tryz.prog 22 h2 u = some (.int .i64 ((cleanJ l).length : Int)) := by
  intro h2
  rcases k with ⟨rfl, rfl, rfl⟩ | ⟨rfl, j, t, rfl, rfl⟩ | ⟨_, q, rest, rfl, rfl⟩
  · rw [cleanJ_nil]
    unfold lenA
    rw [Tryz.underlying22]
    rfl
  · rw [cleanJ_nil]
    unfold lenA
    rw [Tryz.underlying22]
    rfl
  · unfold lenA
    rw [Tryz.underlying22]
    rfl
set_option maxRecDepth 100000 in
set_option maxHeartbeats 4000000 in
theorem sorted_con (h : Heap) (g : Gd h) (v : AV) (l : List Im) (hv : ImZ h v l) (hl : l.length ≤ 400000) (h1 : OneJ l) :
    ∃ u L, Con Tryz.prog Bs 68 [v] h [] u L ∧ ClnR l u L := by
  refine Con.startR rfl Tryz.func68 rfl rfl Tryz.ntmps68 rfl rfl (SS.init g) ?_
  (refine WK.seq ?_; refine WK.region ?_; refine St.assign ?_; refine WO.nil ?_; refine WK.seq ?_; refine WK.region ?_; refine St.move ?_)
  refine St.callR (fun _ => rfl) (fun h2 hh => clone_con h2 hh.gd v l (hv.vw hh) (by omega)) ?_
  rintro u L1 (⟨rfl, rfl, rfl⟩ | ⟨rfl, j, t, rfl, rfl⟩ | ⟨hn, j, rfl, rfl⟩)
  · (refine St.assign ?_; refine WO.nil ?_; refine WK.seq ?_; refine WK.region ?_; refine St.move ?_)
    refine St.call (v := .tup []) (fun _ => rfl) (fun h2 hh => sortE_con hh.gd rfl) ?_
    (refine WO.nil ?_; refine WK.seq ?_; refine WK.region ?_; refine St.move ?_)
    refine St.call (fun _ => rfl) (fun h2 hh => compact0_con h2 hh.gd) ?_
    (refine St.assign ?_; refine WO.nil ?_)
    refine St.ret (by first | exact .tmp .nil | exact .cell .nil | exact .cell (.tmp .nil) | exact .tmp (.tmp .nil) | exact .cell (.cell .nil) | exact .tmp (.cell .nil) | exact .nil | exact .tmp (.cell (.tmp .nil)) | exact .cell (.tmp (.tmp .nil)) | exact .cell (.cell (.tmp .nil)) | exact .tmp (.tmp (.tmp .nil)) | exact .tmp (.tmp (.tmp (.tmp .nil))) | exact .cell (.cell (.cell .nil))) ?_
    exact .inl ⟨rfl, rfl, rfl⟩
  · (refine St.assign ?_; refine WO.nil ?_; refine WK.seq ?_; refine WK.region ?_; refine St.move ?_)
    refine St.call (v := .tup []) (fun _ => rfl) (fun h2 hh => sortE_con hh.gd rfl) ?_
    (refine WO.nil ?_; refine WK.seq ?_; refine WK.region ?_; refine St.move ?_)
    refine St.call (fun _ => rfl) (fun h2 hh => compactE_con h2 hh.gd j) ?_
    (refine St.assign ?_; refine WO.nil ?_)
    refine St.ret (by first | exact .tmp .nil | exact .cell .nil | exact .cell (.tmp .nil) | exact .tmp (.tmp .nil) | exact .cell (.cell .nil) | exact .tmp (.cell .nil) | exact .nil | exact .tmp (.cell (.tmp .nil)) | exact .cell (.tmp (.tmp .nil)) | exact .cell (.cell (.tmp .nil)) | exact .tmp (.tmp (.tmp .nil)) | exact .tmp (.tmp (.tmp (.tmp .nil))) | exact .cell (.cell (.cell .nil))) ?_
    exact .inr (.inl ⟨rfl, j, t, rfl, rfl⟩)
  · (refine St.assign ?_; refine WO.nil ?_; refine WK.seq ?_; refine WK.region ?_; refine St.move ?_)
    refine St.callW (Lw := [(j, .row (enF imC l) 114 7)]) (Lk := []) (L' := [(j, .row (enF imC (srtJ l)) 114 7)]) (W' := [j]) (fun _ => rfl) (fun h hh => sortJ_con (hh.sub (L' := [(j, .row (enF imC l) 114 7)]) (by (repeat (first | exact List.Sublist.refl _ | exact List.nil_sublist _ | apply List.Sublist.cons_cons | apply List.Sublist.cons)))).lend h1 hn (by omega)) (by (repeat (first | exact List.Perm.refl _ | refine perm_at 0 rfl ?_ | refine perm_at 1 rfl ?_ | refine perm_at 2 rfl ?_ | refine perm_at 3 rfl ?_ | refine perm_at 4 rfl ?_ | refine perm_at 5 rfl ?_ | refine perm_at 6 rfl ?_ | refine perm_at 7 rfl ?_ | refine perm_at 8 rfl ?_ | refine perm_at 9 rfl ?_))) rfl ?_
    have hsl := srtJ_len l
    (refine WO.nil ?_; refine WK.seq ?_; refine WK.region ?_; refine St.move ?_)
    refine St.callWR (R := fun v L => ∃ rest, v = .slice j 0 (cleanJ l).length (.m 0) ∧ L = [(j, .row (enF imC (cleanJ l ++ rest)) 114 7)]) (Lw := [(j, .row (enF imC (srtJ l)) 114 7)]) (Lk := []) (W' := [j]) (fun _ => rfl) (fun h hh => by
      obtain ⟨rest, hc⟩ := compact_con h j (srtJ l) (by omega) (by omega) (hh.sub (L' := [(j, .row (enF imC (srtJ l)) 114 7)]) (by (repeat (first | exact List.Sublist.refl _ | exact List.nil_sublist _ | apply List.Sublist.cons_cons | apply List.Sublist.cons)))).lend
      rw [hsl] at hc
      exact ⟨_, _, hc, rest, rfl, rfl⟩) (by (repeat (first | exact List.Perm.refl _ | refine perm_at 0 rfl ?_ | refine perm_at 1 rfl ?_ | refine perm_at 2 rfl ?_ | refine perm_at 3 rfl ?_ | refine perm_at 4 rfl ?_ | refine perm_at 5 rfl ?_ | refine perm_at 6 rfl ?_ | refine perm_at 7 rfl ?_ | refine perm_at 8 rfl ?_ | refine perm_at 9 rfl ?_))) rfl ?_
    rintro _ _ ⟨rest, rfl, rfl⟩
    (refine St.assign ?_; refine WO.nil ?_)
    refine St.ret (by first | exact .tmp .nil | exact .cell .nil | exact .cell (.tmp .nil) | exact .tmp (.tmp .nil) | exact .cell (.cell .nil) | exact .tmp (.cell .nil) | exact .nil | exact .tmp (.cell (.tmp .nil)) | exact .cell (.tmp (.tmp .nil)) | exact .cell (.cell (.tmp .nil)) | exact .tmp (.tmp (.tmp .nil)) | exact .tmp (.tmp (.tmp (.tmp .nil))) | exact .cell (.cell (.cell .nil))) ?_
    exact .inr (.inr ⟨hn, j, rest, rfl, rfl⟩)
end Go.Proofs.YtkebbdpfjhhdhaaGreat
