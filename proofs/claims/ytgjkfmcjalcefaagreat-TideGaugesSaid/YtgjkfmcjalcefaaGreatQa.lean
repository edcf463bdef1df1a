/- Gauges in memory; the program's small functions of gauges, and checkGauges. -/
import Derived.Test.YtgjkfmcjalcefaaGreatUd
import Derived.Test.YtgjkfmcjalcefaaGreatQp
namespace Go.Proofs.YtgjkfmcjalcefaaGreat
open Go.Proofs.YtgjkfmcjalcefaaGreat.Ev

def gaC (g : Ga) : List AV := [.int .i64 g.id, .int .i64 g.tk, .int .i64 g.lo, .int .i64 g.hi]
/-- gauges in memory -/
def GaH (h : Heap) (b off : Nat) (l : List Ga) : Prop := ∀ i, i < l.length → Rds h b (off + i * 4) (gaC (nthG l i))
theorem GaH.vw {h0 h : Heap} {V : Ob} {b off l} (k : GaH h0 b off l) (hh : Vw h0 [] V h) : GaH h b off l := fun i hi => hh.rds (by simp) (k i hi)
theorem GaH.at_ {h : Heap} {b off l} (k : GaH h b off l) {z : Int} {n : Nat} (e : z.toNat = n) (hi : n < l.length) : Rds h b (off + z.toNat * 4) [.int .i64 (nthG l n).id, .int .i64 (nthG l n).tk, .int .i64 (nthG l n).lo, .int .i64 (nthG l n).hi] := by
  subst e; exact k _ hi
def GaV (h : Heap) (v : AV) (l : List Ga) : Prop := ((v = .slice0 ∨ v = .sliceZ) ∧ l = []) ∨ ∃ b off c, v = .slice b off l.length c ∧ GaH h b off l
theorem GaV.vw {h0 h : Heap} {V : Ob} {v l} (k : GaV h0 v l) (hh : Vw h0 [] V h) : GaV h v l := by
  rcases k with k | ⟨b, off, c, rfl, k⟩
  · exact .inl k
  · exact .inr ⟨b, off, c, rfl, k.vw hh⟩
theorem GaV.ne {h : Heap} {v : AV} {l : List Ga} (k : GaV h v l) (hn : 0 < l.length) : ∃ b off c, v = .slice b off l.length c ∧ GaH h b off l := by
  rcases k with ⟨_, rfl⟩ | k
  · simp at hn
  · exact k
theorem GaV.len {h : Heap} {v : AV} {l : List Ga} (k : GaV h v l) : ∀ h2, lenA Tryz.prog 26 h2 v = some (.int .i64 (l.length : Int)) := by
  intro h2
  unfold lenA
  rw [Tryz.underlying26]
  rcases k with ⟨rfl | rfl, rfl⟩ | ⟨b, off, c, rfl, _⟩ <;> rfl
set_option maxRecDepth 100000 in
theorem gid_con (h : Heap) (g : Gd h) (a b c d : Int) : Con Tryz.prog Bs 74 [.agg [.int .i64 a, .int .i64 b, .int .i64 c, .int .i64 d]] h [] (.int .i64 a) [] := by
  refine Con.start rfl Tryz.func74 rfl rfl Tryz.ntmps74 rfl rfl g ?_
  (refine WK.seq ?_; refine WK.region ?_; refine St.box fun _ _ => ?_; refine St.assign ?_; refine WO.nil ?_; refine WK.seq ?_; refine WK.region ?_; refine St.fieldAddr ?_; refine St.load ?_; refine St.assign ?_; refine WO.nil ?_)
  refine St.ret (by first | exact .tmp .nil | exact .cell .nil | exact .cell (.tmp .nil) | exact .tmp (.tmp .nil) | exact .cell (.cell .nil) | exact .tmp (.cell .nil) | exact .nil | exact .tmp (.cell (.tmp .nil)) | exact .cell (.tmp (.tmp .nil)) | exact .cell (.cell (.tmp .nil)) | exact .tmp (.tmp (.tmp .nil)) | exact .cell (.cell (.cell .nil))) ?_
  rfl
set_option maxRecDepth 100000 in
theorem isSpan_con (h : Heap) (g : Gd h) (a b : Int) : Con Tryz.prog Bs 36 [.agg [.int .i64 a, .int .i64 b]] h [] (.bool (decide (a ≤ b))) [] := by
  refine Con.start rfl Tryz.func36 rfl rfl Tryz.ntmps36 rfl rfl g ?_
  (refine WK.seq ?_; refine WK.region ?_; refine St.box fun _ _ => ?_; refine St.assign ?_; refine WO.nil ?_; refine WK.seq ?_; refine WK.region ?_; refine St.fieldAddr ?_; refine St.load ?_; refine St.fieldAddr ?_; refine St.load ?_; refine St.bin ?_; refine St.assign ?_; refine WO.nil ?_)
  refine St.ret (by first | exact .tmp .nil | exact .cell .nil | exact .cell (.tmp .nil) | exact .tmp (.tmp .nil) | exact .cell (.cell .nil) | exact .tmp (.cell .nil) | exact .nil | exact .tmp (.cell (.tmp .nil)) | exact .cell (.tmp (.tmp .nil)) | exact .cell (.cell (.tmp .nil)) | exact .tmp (.tmp (.tmp .nil)) | exact .cell (.cell (.cell .nil))) ?_
  rfl
set_option maxRecDepth 100000 in
theorem allLevels_con (h : Heap) (g : Gd h) : Con Tryz.prog Bs 75 [] h [] (.agg [.int .i64 (-4000), .int .i64 4000]) [] := by
  refine Con.start rfl Tryz.func75 rfl rfl Tryz.ntmps75 rfl rfl g ?_
  (refine WK.seq ?_; refine WK.region ?_; refine St.alloc fun _ _ => ?_; refine WO.nil ?_; refine WK.seq ?_; refine WK.region ?_; refine St.build ?_; refine St.store0 ?_; refine WO.nil ?_)
  refine St.ret (by first | exact .tmp .nil | exact .cell .nil | exact .cell (.tmp .nil) | exact .tmp (.tmp .nil) | exact .cell (.cell .nil) | exact .tmp (.cell .nil) | exact .nil | exact .tmp (.cell (.tmp .nil)) | exact .cell (.tmp (.tmp .nil)) | exact .cell (.cell (.tmp .nil)) | exact .tmp (.tmp (.tmp .nil)) | exact .cell (.cell (.cell .nil))) ?_
  rfl
set_option maxRecDepth 100000 in
theorem meet_con (h : Heap) (g : Gd h) (a b c d : Int) : Con Tryz.prog Bs 43 [.agg [.int .i64 a, .int .i64 b], .agg [.int .i64 c, .int .i64 d]] h [] (.agg [.int .i64 (max a c), .int .i64 (min b d)]) [] := by
  refine Con.start rfl Tryz.func43 rfl rfl Tryz.ntmps43 rfl rfl g ?_
  (refine WK.seq ?_; refine WK.region ?_; refine St.box fun _ _ => ?_; refine St.box fun _ _ => ?_; refine St.alloc fun _ _ => ?_; refine WO.nil ?_; refine WK.seq ?_; refine WK.region ?_; refine St.fieldAddr ?_; refine St.load ?_; refine St.fieldAddr ?_; refine St.load ?_; refine St.maxI ?_; refine St.fieldAddr ?_; refine St.load ?_; refine St.fieldAddr ?_; refine St.load ?_; refine St.minI ?_; refine St.build ?_; refine St.store0 ?_; refine WO.nil ?_)
  refine St.ret (by first | exact .tmp .nil | exact .cell .nil | exact .cell (.tmp .nil) | exact .tmp (.tmp .nil) | exact .cell (.cell .nil) | exact .tmp (.cell .nil) | exact .nil | exact .tmp (.cell (.tmp .nil)) | exact .cell (.tmp (.tmp .nil)) | exact .cell (.cell (.tmp .nil)) | exact .tmp (.tmp (.tmp .nil)) | exact .cell (.cell (.cell .nil))) ?_
  rfl
set_option maxRecDepth 100000 in
set_option maxHeartbeats 4000000 in
theorem isGauge_con (h : Heap) (g : Gd h) (id tk lo hi : Int) : Con Tryz.prog Bs 73 [.agg [.int .i64 id, .int .i64 tk, .int .i64 lo, .int .i64 hi]] h [] (.bool (gaOk ⟨id, tk, lo, hi⟩)) [] := by
  refine Con.start rfl Tryz.func73 rfl rfl Tryz.ntmps73 rfl rfl g ?_
  (refine WK.seq ?_; refine WK.region ?_; refine St.box fun _ _ => ?_; refine St.assign ?_; refine WO.nil ?_; refine WK.seq ?_; refine WK.region ?_; refine St.fieldAddr ?_; refine St.load ?_)
  refine St.call (fun _ => rfl) (fun h2 hh => isID_con h2 hh.gd id) ?_
  generalize hA : (decide (1 ≤ id) && decide (id ≤ 1099511627776)) = A
  cases A
  · (refine St.move ?_; refine St.skip ?_; refine St.skip ?_; refine St.skip ?_; refine St.pickF ?_; refine St.move ?_; refine St.skip ?_; refine St.skip ?_; refine St.skip ?_; refine St.pickF ?_; refine St.move ?_; refine St.skip ?_; refine St.skip ?_; refine St.skip ?_; refine St.skip ?_; refine St.pickF ?_; refine St.move ?_; refine St.skip ?_; refine St.skip ?_; refine St.skip ?_; refine St.skip ?_; refine St.pickF ?_; refine St.assign ?_; refine WO.nil ?_)
    refine St.ret (by first | exact .tmp .nil | exact .cell .nil | exact .cell (.tmp .nil) | exact .tmp (.tmp .nil) | exact .cell (.cell .nil) | exact .tmp (.cell .nil) | exact .nil | exact .tmp (.cell (.tmp .nil)) | exact .cell (.tmp (.tmp .nil)) | exact .cell (.cell (.tmp .nil)) | exact .tmp (.tmp (.tmp .nil)) | exact .cell (.cell (.cell .nil))) ?_
    simp [oneOf, gaOk, hA]
  (refine St.move ?_; refine St.fieldAddr ?_; refine St.load ?_)
  refine St.call (fun _ => rfl) (fun h2 hh => isMinute_con h2 hh.gd tk) ?_
  generalize hB : (decide (0 ≤ tk) && decide (tk ≤ 1048576)) = B
  cases B
  · (refine St.pickT ?_; refine St.move ?_; refine St.skip ?_; refine St.skip ?_; refine St.skip ?_; refine St.pickF ?_; refine St.move ?_; refine St.skip ?_; refine St.skip ?_; refine St.skip ?_; refine St.skip ?_; refine St.pickF ?_; refine St.move ?_; refine St.skip ?_; refine St.skip ?_; refine St.skip ?_; refine St.skip ?_; refine St.pickF ?_; refine St.assign ?_; refine WO.nil ?_)
    refine St.ret (by first | exact .tmp .nil | exact .cell .nil | exact .cell (.tmp .nil) | exact .tmp (.tmp .nil) | exact .cell (.cell .nil) | exact .tmp (.cell .nil) | exact .nil | exact .tmp (.cell (.tmp .nil)) | exact .cell (.tmp (.tmp .nil)) | exact .cell (.cell (.tmp .nil)) | exact .tmp (.tmp (.tmp .nil)) | exact .cell (.cell (.cell .nil))) ?_
    simp [oneOf, gaOk, hA, hB]
  (refine St.pickT ?_; refine St.move ?_; refine St.fieldAddr ?_; refine St.load ?_)
  refine St.call (fun _ => rfl) (fun h2 hh => isSpan_con h2 hh.gd lo hi) ?_
  generalize hC : decide (lo ≤ hi) = C
  cases C
  · (refine St.pickT ?_; refine St.move ?_; refine St.skip ?_; refine St.skip ?_; refine St.skip ?_; refine St.skip ?_; refine St.pickF ?_; refine St.move ?_; refine St.skip ?_; refine St.skip ?_; refine St.skip ?_; refine St.skip ?_; refine St.pickF ?_; refine St.assign ?_; refine WO.nil ?_)
    refine St.ret (by first | exact .tmp .nil | exact .cell .nil | exact .cell (.tmp .nil) | exact .tmp (.tmp .nil) | exact .cell (.cell .nil) | exact .tmp (.cell .nil) | exact .nil | exact .tmp (.cell (.tmp .nil)) | exact .cell (.tmp (.tmp .nil)) | exact .cell (.cell (.tmp .nil)) | exact .tmp (.tmp (.tmp .nil)) | exact .cell (.cell (.cell .nil))) ?_
    simp [oneOf, gaOk, hA, hB, hC]
  (refine St.pickT ?_; refine St.move ?_; refine St.fieldAddr ?_; refine St.fieldAddr ?_; refine St.load ?_; refine St.bin ?_; refine St.pickT ?_; refine St.move ?_)
  refine St.split (fun hb => ?_) (fun hb => ?_)
  · (refine St.fieldAddr ?_; refine St.fieldAddr ?_; refine St.load ?_; refine St.bin ?_; refine St.pickT ?_; refine St.assign ?_; refine WO.nil ?_)
    refine St.ret (by first | exact .tmp .nil | exact .cell .nil | exact .cell (.tmp .nil) | exact .tmp (.tmp .nil) | exact .cell (.cell .nil) | exact .tmp (.cell .nil) | exact .nil | exact .tmp (.cell (.tmp .nil)) | exact .cell (.tmp (.tmp .nil)) | exact .cell (.cell (.tmp .nil)) | exact .tmp (.tmp (.tmp .nil)) | exact .cell (.cell (.cell .nil))) ?_
    simp [oneOf, gaOk, hA, hB, hC, hb]
  · (refine St.skip ?_; refine St.skip ?_; refine St.skip ?_; refine St.skip ?_; refine St.pickF ?_; refine St.assign ?_; refine WO.nil ?_)
    refine St.ret (by first | exact .tmp .nil | exact .cell .nil | exact .cell (.tmp .nil) | exact .tmp (.tmp .nil) | exact .cell (.cell .nil) | exact .tmp (.cell .nil) | exact .nil | exact .tmp (.cell (.tmp .nil)) | exact .cell (.tmp (.tmp .nil)) | exact .cell (.cell (.tmp .nil)) | exact .tmp (.tmp (.tmp .nil)) | exact .cell (.cell (.cell .nil))) ?_
    simp [oneOf, gaOk, hA, hB, hC, hb]
set_option maxRecDepth 100000 in
set_option maxHeartbeats 8000000 in
theorem checkEachG_con (h : Heap) (g : Gd h) (v : AV) (l : List Ga) (hv : GaV h v l) (hl : l.length ≤ 1000000) :
    Con Tryz.prog Bs 72 [v, .fn (.func 73) [] [], .fn (.func 74) [] []] h [] (.int .i64 (chkG [] l)) [] := by
  refine Con.start rfl Tryz.func72 rfl rfl Tryz.ntmps72 rfl rfl g ?_
  (refine WK.seq ?_; refine WK.region ?_; refine St.assign ?_; refine WO.nil ?_; refine WK.seq ?_; refine WK.region ?_)
  refine St.makeMap (fun r hr => ?_) 
  (refine St.assign ?_; refine WO.nil ?_; refine WK.seq ?_; refine WK.seq ?_; refine WK.region ?_; refine St.move ?_)
  refine St.lenV rfl hv.len ?_
  (refine St.move ?_; refine WO.nil ?_; refine WK.block ?_)
  by_cases hn : l.length = 0
  · have e1 : l = [] := List.length_eq_zero_iff.1 hn
    subst e1
    refine WK.unroll ?_
    (refine WK.seq ?_; refine WK.region ?_; refine St.bin ?_; refine WO.nil ?_; refine WK.seq ?_; refine WK.condF ?_; refine WK.exit ?_; refine WK.seq ?_; refine WK.region ?_; refine St.assign ?_; refine WO.nil ?_)
    refine St.ret (by first | exact .tmp .nil | exact .cell .nil | exact .cell (.tmp .nil) | exact .tmp (.tmp .nil) | exact .cell (.cell .nil) | exact .tmp (.cell .nil) | exact .nil | exact .tmp (.cell (.tmp .nil)) | exact .cell (.tmp (.tmp .nil)) | exact .cell (.cell (.tmp .nil)) | exact .tmp (.tmp (.tmp .nil)) | exact .cell (.cell (.cell .nil))) ?_
    rfl
  obtain ⟨b, off, c, rfl, hk⟩ := hv.ne (by omega)
  refine WK.inv (ι := Nat) (fun z => [(1, .fn (.func 73) [] []), (2, .fn (.func 74) [] []), (6, .int .i64 0), (7, .map r), (11, .slice b off l.length c), (12, .int .i64 l.length), (13, .int .i64 z)]) (fun z => [(r, .map (mapE (gids (l.take z)) 0) z)]) (fun z => z ≤ l.length ∧ chkG [] l = chkG (gids (l.take z)) (l.drop z)) (fun z => l.length - z) 0 ⟨by omega, rfl⟩ ⟨rfl, rfl, rfl, rfl, rfl, rfl, rfl, trivial⟩ (by (repeat (first | exact List.Sublist.refl _ | exact List.nil_sublist _ | apply List.Sublist.cons_cons | apply List.Sublist.cons))) ?_
  rintro k ⟨hkl, hchk⟩ ih
  (refine WK.seq ?_; refine WK.region ?_; refine St.bin ?_; refine WO.nil ?_; refine WK.seq ?_)
  refine St.splitC (fun hc => ?_) (fun hc => ?_)
  · have hlt : k < l.length := by simp at hc; omega
    have hd := chkG_drop (seen := gids (l.take k)) (l := l) (k := k) hlt
    have hids := gids_succ (l := l) (k := k) hlt
    (refine WK.skip ?_; refine WK.seq ?_; refine WK.block ?_; refine WK.seq ?_; refine WK.region ?_)
    refine St.at ?_
    refine St.loadX (fun h hh => ((hk.vw hh).at_ (z := (k : Int)) (n := k) (by omega) hlt).agg (by simp) rfl rfl rfl) ?_
    generalize hW : nthG l k = w at *
    obtain ⟨id, tk, lo, hi⟩ := w
    simp only at hd hids ⊢
    (refine St.alloc fun _ _ => ?_; refine St.store0 ?_; refine WO.nil ?_; refine WK.seq ?_; refine WK.seq ?_; refine WK.region ?_; refine St.move ?_; refine St.load ?_)
    rename_i x hx
    refine St.call (fun _ => rfl) (fun h2 hh => isGauge_con h2 hh.gd id tk lo hi) ?_
    (refine St.un ?_; refine WO.nil ?_)
    refine St.splitC (fun hc2 => ?_) (fun hc2 => ?_)
    · rw [if_pos (by simpa using hc2)] at hd
      (refine WK.seq ?_; refine WK.region ?_; refine St.assign ?_; refine WO.nil ?_)
      refine St.ret (by first | exact .tmp .nil | exact .cell .nil | exact .cell (.tmp .nil) | exact .tmp (.tmp .nil) | exact .cell (.cell .nil) | exact .tmp (.cell .nil) | exact .nil | exact .tmp (.cell (.tmp .nil)) | exact .cell (.tmp (.tmp .nil)) | exact .cell (.cell (.tmp .nil)) | exact .tmp (.tmp (.tmp .nil)) | exact .cell (.cell (.cell .nil))) ?_
      rw [hchk, hd]; rfl
    rw [if_neg (by simpa using hc2)] at hd
    (refine WK.skip ?_; refine WK.seq ?_; refine WK.seq ?_; refine WK.region ?_; refine St.move ?_; refine St.move ?_; refine St.load ?_)
    refine St.call (fun _ => rfl) (fun h2 hh => gid_con h2 hh.gd id tk lo hi) ?_
    skip
    have hgm : ∀ (h2 : Heap) {V : Ob}, Vw h [] V h2 → (r, .map (mapE (gids (l.take k)) 0) k) ∈ V → h2.get r = some (.map (mapE (gids (l.take k)) 0) k) := fun h2 V hh hm => (hh.own _ hm).1
    refine St.lookupV (v := .bool (decide (id ∈ gids (l.take k)))) (fun h2 hh => ?_) ?_
    · show plainV (evLookup Tryz.prog h2 149 (.map r) (.int .i64 id) false) h2 = _
      rw [look_int (hgm h2 hh (by simp))]
      rfl
    (refine WO.nil ?_)
    refine St.splitC (fun hc3 => ?_) (fun hc3 => ?_)
    · rw [if_pos (by simpa using hc3)] at hd
      (refine WK.seq ?_; refine WK.region ?_; refine St.assign ?_; refine WO.nil ?_)
      refine St.ret (by first | exact .tmp .nil | exact .cell .nil | exact .cell (.tmp .nil) | exact .tmp (.tmp .nil) | exact .cell (.cell .nil) | exact .tmp (.cell .nil) | exact .nil | exact .tmp (.cell (.tmp .nil)) | exact .cell (.tmp (.tmp .nil)) | exact .cell (.cell (.tmp .nil)) | exact .tmp (.tmp (.tmp .nil)) | exact .cell (.cell (.cell .nil))) ?_
      rw [hchk, hd]; rfl
    have hnm : id ∉ gids (l.take k) := by simpa using hc3
    rw [if_neg hnm] at hd
    have hil : (gids (l.take k)).length = k := by
      unfold gids
      rw [List.length_map, List.length_take]
      omega
    (refine WK.skip ?_; refine WK.region ?_; refine St.move ?_; refine St.move ?_; refine St.load ?_)
    refine St.call (fun _ => rfl) (fun h2 hh => gid_con h2 hh.gd id tk lo hi) ?_
    skip
    refine St.mapUpd (A := [(x, .cells [.int .i64 id, .int .i64 tk, .int .i64 lo, .int .i64 hi] 75)]) (C := []) (r := r) (es := mapE (gids (l.take k)) 0) (c := k) (es' := mapE (gids (l.take (k + 1))) 0) (c' := k + 1) rfl (fun h2 g2 e1 e2 => ?_) ?_
    · show (evUpdate Tryz.prog h2 149 (.map r) (.int .i64 id) (.bool true)).map (fun h => (ANext.skip, h)) = _
      rw [hids] at e2
      have e3 : h2.get r = some (.map (mapE (gids (l.take k)) 0) (gids (l.take k)).length) := by rw [hil]; exact e1
      rw [upd_int hnm e3 (by rw [hil]; exact e2)]
      rfl
    (refine WO.nil ?_; refine WK.blk ?_; refine WK.region ?_; refine St.binI ?_; refine St.move ?_; refine WO.nil ?_)
    refine WK.le ?_ (by (repeat (first | exact List.Sublist.refl _ | exact List.nil_sublist _ | apply List.Sublist.cons_cons | apply List.Sublist.cons))) (ih (k + 1) ⟨hlt, ?_⟩ (by omega))
    · exact ⟨rfl, rfl, rfl, rfl, rfl, rfl, rfl, trivial⟩
    · rw [hchk, hd, hids]
  · have : k = l.length := by simp at hc; omega
    subst this
    (refine WK.exit ?_; refine WK.seq ?_; refine WK.region ?_; refine St.assign ?_; refine WO.nil ?_)
    refine St.ret (by first | exact .tmp .nil | exact .cell .nil | exact .cell (.tmp .nil) | exact .tmp (.tmp .nil) | exact .cell (.cell .nil) | exact .tmp (.cell .nil) | exact .nil | exact .tmp (.cell (.tmp .nil)) | exact .cell (.tmp (.tmp .nil)) | exact .cell (.cell (.tmp .nil)) | exact .tmp (.tmp (.tmp .nil)) | exact .cell (.cell (.cell .nil))) ?_
    rw [hchk, List.drop_eq_nil_of_le (by omega)]
    rfl
set_option maxRecDepth 100000 in
set_option maxHeartbeats 8000000 in
theorem checkGauges_con (h : Heap) (g : Gd h) (lv : Int) (cv sv v : AV) (cl : List Cw) (ss : List Sh) (l : List Ga) (hc : CyV h cv cl) (hs : ShV h sv ss) (hv : GaV h v l) (hl : l.length ≤ 1000000) :
    Con Tryz.prog Bs 33 [.agg [.int .i64 lv, cv, sv], v] h [] (.int .i64 (chkGs lv (cys cl) ss l)) [] := by
  refine Con.start rfl Tryz.func33 rfl rfl Tryz.ntmps33 rfl rfl g ?_
  (refine WK.seq ?_; refine WK.region ?_; refine St.box fun _ _ => ?_; refine St.assign ?_; refine WO.nil ?_; refine WK.seq ?_; refine WK.seq ?_; refine WK.region ?_; refine St.load ?_)
  refine St.call (fun _ => rfl) (fun h2 hh => check_con h2 hh.gd lv cv sv cl ss (hc.vw hh) (hs.vw hh)) ?_
  (refine St.assign ?_; refine WO.nil ?_; refine WK.seq ?_; refine WK.region ?_; refine St.move ?_; refine St.bin ?_; refine WO.nil ?_)
  refine St.splitC (fun q => ?_) (fun q => ?_)
  · (refine WK.seq ?_; refine WK.region ?_; refine St.move ?_; refine St.assign ?_; refine WO.nil ?_)
    refine St.ret (by first | exact .tmp .nil | exact .cell .nil | exact .cell (.tmp .nil) | exact .tmp (.tmp .nil) | exact .cell (.cell .nil) | exact .tmp (.cell .nil) | exact .nil | exact .tmp (.cell (.tmp .nil)) | exact .cell (.tmp (.tmp .nil)) | exact .cell (.cell (.tmp .nil)) | exact .tmp (.tmp (.tmp .nil)) | exact .cell (.cell (.cell .nil))) ?_
    have q' : chkW lv (cys cl) ss ≠ 0 := by simpa using q
    simp [oneOf, chkGs, q']
  have q' : chkW lv (cys cl) ss = 0 := by simpa using q
  (refine WK.skip ?_; refine WK.seq ?_; refine WK.seq ?_; refine WK.region ?_; refine St.move ?_)
  refine St.lenV rfl hv.len ?_
  (refine St.bin ?_; refine WO.nil ?_)
  refine St.splitC (fun q2 => ?_) (fun q2 => ?_)
  · (refine WK.seq ?_; refine WK.region ?_; refine St.assign ?_; refine WO.nil ?_)
    refine St.ret (by first | exact .tmp .nil | exact .cell .nil | exact .cell (.tmp .nil) | exact .tmp (.tmp .nil) | exact .cell (.cell .nil) | exact .tmp (.cell .nil) | exact .nil | exact .tmp (.cell (.tmp .nil)) | exact .cell (.tmp (.tmp .nil)) | exact .cell (.cell (.tmp .nil)) | exact .tmp (.tmp (.tmp .nil)) | exact .cell (.cell (.cell .nil))) ?_
    have : 40 < l.length := by simp at q2; omega
    simp [oneOf, chkGs, q', this]
  (refine WK.skip ?_; refine WK.seq ?_; refine WK.region ?_; refine St.move ?_)
  refine St.call (fun _ => rfl) (fun h2 hh => checkEachG_con h2 hh.gd v l (hv.vw hh) hl) ?_
  (refine St.assign ?_; refine WO.nil ?_)
  refine St.ret (by first | exact .tmp .nil | exact .cell .nil | exact .cell (.tmp .nil) | exact .tmp (.tmp .nil) | exact .cell (.cell .nil) | exact .tmp (.cell .nil) | exact .nil | exact .tmp (.cell (.tmp .nil)) | exact .cell (.tmp (.tmp .nil)) | exact .cell (.cell (.tmp .nil)) | exact .tmp (.tmp (.tmp .nil)) | exact .cell (.cell (.cell .nil))) ?_
  have : ¬ 40 < l.length := by simp at q2; omega
  simp [oneOf, chkGs, q', this]
end Go.Proofs.YtgjkfmcjalcefaaGreat
