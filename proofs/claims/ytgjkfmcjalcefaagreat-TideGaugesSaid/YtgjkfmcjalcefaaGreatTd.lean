/- The period of a cycle, its value at a minute; lists that are compared. -/
import Derived.Test.YtgjkfmcjalcefaaGreatTc
namespace Go.Proofs.YtgjkfmcjalcefaaGreat
open Go.Proofs.YtgjkfmcjalcefaaGreat.Ev

theorem evQuo {P : Program} {t : TypeId} {a b q : Int} (hb : b ≠ 0) (e : a.tdiv b = q) (h1 : -1152921504606846976 ≤ q) (h2 : q ≤ 1152921504606846976) : evBin P .quo t (.int .i64 a) (.int .i64 b) = some (.int .i64 q) := by
  subst e
  unfold evBin evInt
  simp [hb, wrap_ok (n := a.tdiv b) (by omega)]
def lcmI (a b : Int) : Int := a / (Int.gcd a b : Int) * b
def togN (a b : Cy) : Int := lcmI (a.ev * a.hs.length) (b.ev * b.hs.length) / togG a b
def togR (a b : Cy) : Cy × Int := if cyOk a = true ∧ cyOk b = true then (if togN a b > 60 then (noC, 2) else if (sumT a b (togN a b).toNat).all (fun x => inB x 4000) = true then (⟨a.id, a.bg, togG a b, sumT a b (togN a b).toNat⟩, 0) else (noC, 3)) else (noC, 1)
set_option maxRecDepth 100000 in
theorem length_con (h : Heap) (g : Gd h) (id bg ev : Int) (v : AV) (hs : List Int) (hv : ItV h v hs) (k : CyOk ⟨id, bg, ev, hs⟩) :
    Con Tryz.prog Bs 70 [.agg [.int .i64 id, .int .i64 bg, .int .i64 ev, v]] h [] (.int .i64 (ev * hs.length)) [] := by
  have k1 := k.ev1
  have k2 := k.ev2
  have k3 := k.n2
  simp only at k1 k2 k3
  obtain ⟨m1, m2⟩ := mul_bd (a := ev) (b := hs.length) (A := 120) (B := 60) (by omega) k2 (by omega) (by omega)
  refine Con.start rfl Tryz.func70 rfl rfl Tryz.ntmps70 rfl rfl g ?_
  (refine WK.seq ?_; refine WK.region ?_; refine St.box fun _ _ => ?_; refine St.assign ?_; refine WO.nil ?_; refine WK.seq ?_; refine WK.region ?_; refine St.fieldAddr ?_; refine St.load ?_; refine St.fieldAddr ?_; refine St.load ?_)
  refine St.lenV rfl hv.len ?_
  (refine St.binI ?_; refine St.assign ?_; refine WO.nil ?_)
  refine St.ret (by first | exact .tmp .nil | exact .cell .nil | exact .cell (.tmp .nil) | exact .tmp (.tmp .nil) | exact .cell (.cell .nil) | exact .tmp (.cell .nil) | exact .nil | exact .tmp (.cell (.tmp .nil)) | exact .cell (.tmp (.tmp .nil)) | exact .cell (.cell (.tmp .nil)) | exact .tmp (.tmp (.tmp .nil)) | exact .cell (.cell (.cell .nil))) ?_
  rfl
theorem len_pos {id bg ev : Int} {hs : List Int} (k : CyOk ⟨id, bg, ev, hs⟩) : 0 < ev * (hs.length : Int) ∧ ev * (hs.length : Int) ≤ 7200 := by
  have k1 := k.ev1
  have k2 := k.ev2
  have k3 := k.n1
  have k4 := k.n2
  simp only at k1 k2 k3 k4
  exact ⟨Int.mul_pos (by omega) (by omega), by have := Int.mul_le_mul k2 (show (hs.length : Int) ≤ 60 by omega) (by omega) (by omega); omega⟩
set_option maxRecDepth 100000 in
set_option maxHeartbeats 4000000 in
theorem phase_con (h : Heap) (g : Gd h) (id bg ev t : Int) (v : AV) (hs : List Int) (hv : ItV h v hs) (k : CyOk ⟨id, bg, ev, hs⟩) (t1 : -1099511627776 ≤ t) (t2 : t ≤ 1099511627776) :
    Con Tryz.prog Bs 87 [.agg [.int .i64 id, .int .i64 bg, .int .i64 ev, v], .int .i64 t] h [] (.int .i64 ((t - bg) % (ev * (hs.length : Int)))) [] := by
  obtain ⟨l1, l2⟩ := len_pos k
  have b1 := k.bg1
  have b2 := k.bg2
  simp only at b1 b2
  have hm := mod_t (a := t - bg) l1
  have ht : (t - bg).tmod (ev * hs.length) < ev * hs.length := Int.tmod_lt_of_pos _ l1
  have ht2 : -(ev * (hs.length : Int)) < (t - bg).tmod (ev * hs.length) := by
    have := Int.tmod_lt_of_pos (-(t - bg)) l1
    rw [Int.neg_tmod] at this
    omega
  refine Con.start rfl Tryz.func87 rfl rfl Tryz.ntmps87 rfl rfl g ?_
  (refine WK.seq ?_; refine WK.region ?_; refine St.box fun _ _ => ?_; refine St.assign ?_; refine WO.nil ?_; refine WK.seq ?_; refine WK.region ?_; refine St.load ?_)
  refine St.call (fun _ => rfl) (fun h2 hh => length_con h2 hh.gd id bg ev v hs (hv.vw hh) k) ?_
  generalize ev * (hs.length : Int) = len at *
  (refine St.assign ?_; refine WO.nil ?_; refine WK.seq ?_; refine WK.region ?_; refine St.move ?_; refine St.fieldAddr ?_; refine St.load ?_; refine St.binI ?_; refine St.move ?_)
  refine St.binX (r := .int .i64 ((t - bg).tmod len)) ?_ rfl rfl ?_
  · unfold evBin evInt; simp [show ¬ len = 0 by omega]
  (refine St.assign ?_; refine WO.nil ?_; refine WK.seq ?_; refine WK.seq ?_; refine WK.region ?_; refine St.move ?_; refine St.bin ?_; refine WO.nil ?_)
  refine St.splitC (fun hc => ?_) (fun hc => ?_)
  · rw [if_pos (by simpa using hc)] at hm
    (refine WK.region ?_; refine St.move ?_; refine St.move ?_; refine St.binI ?_; refine St.assign ?_; refine WO.nil ?_; refine WK.seq ?_; refine WK.region ?_; refine St.move ?_; refine St.assign ?_; refine WO.nil ?_)
    refine St.ret (by first | exact .tmp .nil | exact .cell .nil | exact .cell (.tmp .nil) | exact .tmp (.tmp .nil) | exact .cell (.cell .nil) | exact .tmp (.cell .nil) | exact .nil | exact .tmp (.cell (.tmp .nil)) | exact .cell (.tmp (.tmp .nil)) | exact .cell (.cell (.tmp .nil)) | exact .tmp (.tmp (.tmp .nil)) | exact .cell (.cell (.cell .nil))) ?_
    rw [hm]; rfl
  · rw [if_neg (by simpa using hc)] at hm
    (refine WK.skip ?_; refine WK.seq ?_; refine WK.region ?_; refine St.move ?_; refine St.assign ?_; refine WO.nil ?_)
    refine St.ret (by first | exact .tmp .nil | exact .cell .nil | exact .cell (.tmp .nil) | exact .tmp (.tmp .nil) | exact .cell (.cell .nil) | exact .tmp (.cell .nil) | exact .nil | exact .tmp (.cell (.tmp .nil)) | exact .cell (.tmp (.tmp .nil)) | exact .cell (.cell (.tmp .nil)) | exact .tmp (.tmp (.tmp .nil)) | exact .cell (.cell (.cell .nil))) ?_
    rw [hm]; rfl
set_option maxRecDepth 100000 in
set_option maxHeartbeats 4000000 in
theorem value_con (h : Heap) (g : Gd h) (id bg ev t : Int) (v : AV) (hs : List Int) (hv : ItV h v hs) (k : CyOk ⟨id, bg, ev, hs⟩) (t1 : -1099511627776 ≤ t) (t2 : t ≤ 1099511627776) :
    Con Tryz.prog Bs 55 [.agg [.int .i64 id, .int .i64 bg, .int .i64 ev, v], .int .i64 t] h [] (.int .i64 (valC ⟨id, bg, ev, hs⟩ t)) [] := by
  obtain ⟨l1, l2⟩ := len_pos k
  have b1 := k.ev1
  have b2 := k.n1
  simp only at b1 b2
  have hp := phase_eq (x := t - bg) (e := ev) (n := hs.length) (by omega) (by omega)
  have p1 := Int.emod_nonneg (t - bg) (show ev * (hs.length : Int) ≠ 0 by omega)
  have hi := idxC_lt k t
  have hi2 : ((t - bg) % (ev * (hs.length : Int))) / ev = idxC ⟨id, bg, ev, hs⟩ t := by
    rw [hp]
    unfold idxC
    have := Int.emod_nonneg ((t - bg) / ev) (show (hs.length : Int) ≠ 0 by omega)
    simp only
    omega
  simp only at hi
  obtain ⟨b, off, c, rfl, hk⟩ := hv.ne (by omega)
  refine Con.start rfl Tryz.func55 rfl rfl Tryz.ntmps55 rfl rfl g ?_
  (refine WK.seq ?_; refine WK.region ?_; refine St.box fun _ _ => ?_; refine St.assign ?_; refine WO.nil ?_; refine WK.seq ?_; refine WK.regionD ?_; refine St.fieldAddr ?_; refine St.load ?_; refine St.load ?_; refine St.move ?_)
  refine St.call (fun _ => rfl) (fun h2 hh => phase_con h2 hh.gd id bg ev t _ hs (hv.vw hh) k t1 t2) ?_
  (refine St.fieldAddr ?_; refine St.load ?_)
  refine St.binX (r := .int .i64 (idxC ⟨id, bg, ev, hs⟩ t)) (evQuo (by omega) (by rw [Int.tdiv_eq_ediv_of_nonneg p1, hi2]) (by omega) (by have := k.n2; simp only at this; omega)) rfl rfl ?_
  skip
  refine St.at ?_
  refine St.loadX (fun h hh => ((hk.vw hh).at_ (z := (idxC ⟨id, bg, ev, hs⟩ t : Int)) (n := idxC ⟨id, bg, ev, hs⟩ t) (by omega) hi).one rfl) ?_
  (refine St.assign ?_; refine WO.nil ?_)
  refine St.ret (by first | exact .tmp .nil | exact .cell .nil | exact .cell (.tmp .nil) | exact .tmp (.tmp .nil) | exact .cell (.cell .nil) | exact .tmp (.cell .nil) | exact .nil | exact .tmp (.cell (.tmp .nil)) | exact .cell (.tmp (.tmp .nil)) | exact .cell (.cell (.tmp .nil)) | exact .tmp (.tmp (.tmp .nil)) | exact .cell (.cell (.cell .nil))) ?_
  rfl
set_option maxRecDepth 100000 in
theorem floor_con (h : Heap) (g : Gd h) (a b : Int) (ha : -1099511627776 ≤ a) (ha2 : a ≤ 1099511627776) (hb : 0 < b) (hb2 : b ≤ 100000) :
    Con Tryz.prog Bs 135 [.int .i64 a, .int .i64 b] h [] (.int .i64 (a / b)) [] := by
  have hf := floor_t (a := a) hb
  have h1 := Int.natAbs_tdiv_le_natAbs a b
  refine Con.start rfl Tryz.func135 rfl rfl Tryz.ntmps135 rfl rfl g ?_
  (refine WK.seq ?_; refine WK.region ?_; refine St.assign ?_; refine WO.nil ?_; refine WK.seq ?_; refine WK.region ?_; refine St.move ?_; refine St.move ?_)
  refine St.binX (r := .int .i64 (a.tdiv b)) (evQuo (by omega) rfl (by omega) (by omega)) rfl rfl ?_
  (refine St.assign ?_; refine WO.nil ?_; refine WK.seq ?_; refine WK.seq ?_; refine WK.region ?_; refine St.move ?_; refine St.move ?_)
  refine St.binX (r := .int .i64 (a.tmod b)) ?_ rfl rfl ?_
  · unfold evBin evInt; simp [show ¬ b = 0 by omega]
  (refine St.bin ?_; refine WO.nil ?_)
  refine St.splitC (fun hc => ?_) (fun hc => ?_)
  · rw [if_pos (by simpa using hc)] at hf
    (refine WK.region ?_; refine St.move ?_; refine St.binI ?_; refine St.assign ?_; refine WO.nil ?_; refine WK.seq ?_; refine WK.region ?_; refine St.move ?_; refine St.assign ?_; refine WO.nil ?_)
    refine St.ret (by first | exact .tmp .nil | exact .cell .nil | exact .cell (.tmp .nil) | exact .tmp (.tmp .nil) | exact .cell (.cell .nil) | exact .tmp (.cell .nil) | exact .nil | exact .tmp (.cell (.tmp .nil)) | exact .cell (.tmp (.tmp .nil)) | exact .cell (.cell (.tmp .nil)) | exact .tmp (.tmp (.tmp .nil)) | exact .cell (.cell (.cell .nil))) ?_
    rw [← hf]; rfl
  · rw [if_neg (by simpa using hc)] at hf
    (refine WK.skip ?_; refine WK.seq ?_; refine WK.region ?_; refine St.move ?_; refine St.assign ?_; refine WO.nil ?_)
    refine St.ret (by first | exact .tmp .nil | exact .cell .nil | exact .cell (.tmp .nil) | exact .tmp (.tmp .nil) | exact .cell (.cell .nil) | exact .tmp (.cell .nil) | exact .nil | exact .tmp (.cell (.tmp .nil)) | exact .cell (.tmp (.tmp .nil)) | exact .cell (.cell (.tmp .nil)) | exact .tmp (.tmp (.tmp .nil)) | exact .cell (.cell (.cell .nil))) ?_
    rw [← hf]; rfl
set_option maxRecDepth 100000 in
set_option maxHeartbeats 4000000 in
theorem of_con (h : Heap) (g : Gd h) (id bg ev t : Int) (v : AV) (hs : List Int) (hv : ItV h v hs) (k : CyOk ⟨id, bg, ev, hs⟩) (t1 : -1073741824 ≤ t) (t2 : t ≤ 1073741824) :
    Con Tryz.prog Bs 114 [.agg [.int .i64 id, .int .i64 bg, .int .i64 ev, v], .int .i64 t] h [] (.int .i64 (valC ⟨id, bg, ev, hs⟩ t)) [] := by
  have b1 := k.ev1
  have b2 := k.n1
  have b3 := k.n2
  have b4 := k.ev2
  have b5 := k.bg1
  have b6 := k.bg2
  simp only at b1 b2 b3 b4 b5 b6
  have hi := idxC_lt k t
  have q1 : -1099511627776 ≤ (t - bg) / ev ∧ (t - bg) / ev ≤ 1099511627776 := by
    have := Int.natAbs_ediv_le_natAbs (t - bg) ev
    omega
  have m1 := Int.mul_ediv_add_emod ((t - bg) / ev) hs.length
  have m2 := Int.emod_nonneg ((t - bg) / ev) (show (hs.length : Int) ≠ 0 by omega)
  have m3 := Int.emod_lt_of_pos ((t - bg) / ev) (show (0 : Int) < hs.length by omega)
  rw [Int.mul_comm] at m1
  have hi2 : (idxC ⟨id, bg, ev, hs⟩ t : Int) = ((t - bg) / ev) % hs.length := by
    unfold idxC
    simp only
    omega
  simp only at hi
  obtain ⟨b, off, c, rfl, hk⟩ := hv.ne (by omega)
  refine Con.start rfl Tryz.func114 rfl rfl Tryz.ntmps114 rfl rfl g ?_
  (refine WK.seq ?_; refine WK.region ?_; refine St.box fun _ _ => ?_; refine St.assign ?_; refine WO.nil ?_; refine WK.seq ?_; refine WK.region ?_; refine St.fieldAddr ?_; refine St.load ?_; refine St.len ?_; refine St.assign ?_; refine WO.nil ?_; refine WK.seq ?_; refine WK.region ?_; refine St.move ?_; refine St.fieldAddr ?_; refine St.load ?_; refine St.binI ?_; refine St.fieldAddr ?_; refine St.load ?_)
  refine St.call (fun _ => rfl) (fun h2 hh => floor_con h2 hh.gd (t - bg) ev (by omega) (by omega) (by omega) (by omega)) ?_
  (refine St.assign ?_; refine WO.nil ?_; refine WK.seq ?_; refine WK.regionD ?_; refine St.fieldAddr ?_; refine St.load ?_; refine St.move ?_; refine St.move ?_; refine St.move ?_)
  refine St.call (fun _ => rfl) (fun h2 hh => floor_con h2 hh.gd ((t - bg) / ev) hs.length (by omega) (by omega) (by omega) (by omega)) ?_
  generalize (t - bg) / ev = q at *
  generalize q / (hs.length : Int) = r at *
  generalize q % (hs.length : Int) = w at *
  (refine St.move ?_; refine St.binI ?_; refine St.binI ?_)
  refine St.at ?_
  refine St.loadX (fun h hh => ((hk.vw hh).at_ (z := q - r * (hs.length : Int)) (n := idxC ⟨id, bg, ev, hs⟩ t) (by omega) hi).one rfl) ?_
  (refine St.assign ?_; refine WO.nil ?_)
  refine St.ret (by first | exact .tmp .nil | exact .cell .nil | exact .cell (.tmp .nil) | exact .tmp (.tmp .nil) | exact .cell (.cell .nil) | exact .tmp (.cell .nil) | exact .nil | exact .tmp (.cell (.tmp .nil)) | exact .cell (.tmp (.tmp .nil)) | exact .cell (.cell (.tmp .nil)) | exact .tmp (.tmp (.tmp .nil)) | exact .cell (.cell (.cell .nil))) ?_
  rfl
set_option maxRecDepth 100000 in
set_option maxHeartbeats 4000000 in
theorem sameInts_con (h : Heap) (g : Gd h) (va vb : AV) (xs ys : List Int) (hva : ItV h va xs) (hvb : ItV h vb ys) (hl : xs.length ≤ 1000000) :
    Con Tryz.prog Bs 16 [va, vb] h [] (.bool (decide (xs = ys))) [] := by
  refine Con.start rfl Tryz.func16 rfl rfl Tryz.ntmps16 rfl rfl g ?_
  (refine WK.seq ?_; refine WK.region ?_; refine St.assign ?_; refine WO.nil ?_; refine WK.seq ?_; refine WK.seq ?_; refine WK.region ?_; refine St.move ?_)
  refine St.lenV rfl hva.len ?_
  (refine St.move ?_)
  refine St.lenV rfl hvb.len ?_
  (refine St.bin ?_; refine WO.nil ?_)
  refine St.splitC (fun hc => ?_) (fun hc => ?_)
  · (refine WK.seq ?_; refine WK.region ?_; refine St.assign ?_; refine WO.nil ?_)
    refine St.ret (by first | exact .tmp .nil | exact .cell .nil | exact .cell (.tmp .nil) | exact .tmp (.tmp .nil) | exact .cell (.cell .nil) | exact .tmp (.cell .nil) | exact .nil | exact .tmp (.cell (.tmp .nil)) | exact .cell (.tmp (.tmp .nil)) | exact .cell (.cell (.tmp .nil)) | exact .tmp (.tmp (.tmp .nil)) | exact .cell (.cell (.cell .nil))) ?_
    have : ¬ xs = ys := fun e => by subst e; simp at hc
    rw [decide_eq_false this]; rfl
  have hlen : xs.length = ys.length := by simp at hc; omega
  clear hc
  by_cases hn : xs.length = 0
  · have e1 : xs = [] := List.length_eq_zero_iff.1 hn
    have e2 : ys = [] := List.length_eq_zero_iff.1 (by omega)
    subst e1 e2
    (refine WK.skip ?_; refine WK.seq ?_; refine WK.seq ?_; refine WK.region ?_; refine St.assign ?_; refine WO.nil ?_; refine WK.block ?_)
    refine WK.unroll ?_
    (refine WK.seq ?_; refine WK.seq ?_; refine WK.region ?_; refine St.move ?_; refine St.move ?_)
    refine St.lenV rfl hva.len ?_
    (refine St.bin ?_; refine WO.nil ?_; refine WK.condF ?_; refine WK.exit ?_; refine WK.seq ?_; refine WK.region ?_; refine St.assign ?_; refine WO.nil ?_)
    refine St.ret (by first | exact .tmp .nil | exact .cell .nil | exact .cell (.tmp .nil) | exact .tmp (.tmp .nil) | exact .cell (.cell .nil) | exact .tmp (.cell .nil) | exact .nil | exact .tmp (.cell (.tmp .nil)) | exact .cell (.tmp (.tmp .nil)) | exact .cell (.cell (.tmp .nil)) | exact .tmp (.tmp (.tmp .nil)) | exact .cell (.cell (.cell .nil))) ?_
    rfl
  obtain ⟨b, off, c, rfl, hk⟩ := hva.ne (by omega)
  obtain ⟨b2, off2, c2, rfl, hk2⟩ := hvb.ne (by omega)
  (refine WK.skip ?_; refine WK.seq ?_; refine WK.seq ?_; refine WK.region ?_; refine St.assign ?_; refine WO.nil ?_; refine WK.block ?_)
  refine WK.inv (ι := Nat) (fun z => [(0, .slice b off xs.length c), (1, .slice b2 off2 ys.length c2), (4, .bool false), (5, .int .i64 z)]) (fun _ => []) (fun z => z ≤ xs.length ∧ ∀ i, i < z → nth xs i = nth ys i) (fun z => xs.length - z) 0 ⟨by omega, fun i hi => absurd hi (by omega)⟩ ⟨rfl, rfl, rfl, rfl, trivial⟩ (by (repeat (first | exact List.Sublist.refl _ | exact List.nil_sublist _ | apply List.Sublist.cons_cons | apply List.Sublist.cons))) ?_
  rintro k ⟨hkl, hall⟩ ih
  (refine WK.seq ?_; refine WK.seq ?_; refine WK.region ?_; refine St.move ?_; refine St.move ?_; refine St.len ?_; refine St.bin ?_; refine WO.nil ?_)
  refine St.splitC (fun hc => ?_) (fun hc => ?_)
  · have hlt : k < xs.length := by simp at hc; omega
    (refine WK.skip ?_; refine WK.seq ?_; refine WK.block ?_; refine WK.seq ?_; refine WK.regionD ?_; refine St.move ?_; refine St.move ?_)
    refine St.at ?_
    refine St.loadX (fun h hh => ((hk.vw hh).at_ (z := (k : Int)) (n := k) (by omega) hlt).one rfl) ?_
    (refine St.move ?_; refine St.move ?_)
    refine St.at ?_
    refine St.loadX (fun h hh => ((hk2.vw hh).at_ (z := (k : Int)) (n := k) (by omega) (by omega)).one rfl) ?_
    (refine St.bin ?_; refine WO.nil ?_)
    refine St.splitC (fun hc2 => ?_) (fun hc2 => ?_)
    · (refine WK.seq ?_; refine WK.region ?_; refine St.assign ?_; refine WO.nil ?_)
      refine St.ret (by first | exact .tmp .nil | exact .cell .nil | exact .cell (.tmp .nil) | exact .tmp (.tmp .nil) | exact .cell (.cell .nil) | exact .tmp (.cell .nil) | exact .nil | exact .tmp (.cell (.tmp .nil)) | exact .cell (.tmp (.tmp .nil)) | exact .cell (.cell (.tmp .nil)) | exact .tmp (.tmp (.tmp .nil)) | exact .cell (.cell (.cell .nil))) ?_
      have : ¬ xs = ys := fun e => by subst e; simp at hc2
      rw [decide_eq_false this]; rfl
    · have he : nth xs k = nth ys k := by simpa using hc2
      (refine WK.skip ?_; refine WK.blk ?_; refine WK.region ?_; refine St.move ?_; refine St.binI ?_; refine St.assign ?_; refine WO.nil ?_)
      refine WK.le ?_ (by (repeat (first | exact List.Sublist.refl _ | exact List.nil_sublist _ | apply List.Sublist.cons_cons | apply List.Sublist.cons))) (ih (k + 1) ⟨hlt, fun i hi => ?_⟩ (by omega))
      · exact ⟨rfl, rfl, rfl, rfl, trivial⟩
      · rcases Nat.lt_succ_iff_lt_or_eq.1 hi with h1 | rfl
        · exact hall i h1
        · exact he
  · have : k = xs.length := by simp at hc; omega
    subst this
    (refine WK.exit ?_; refine WK.seq ?_; refine WK.region ?_; refine St.assign ?_; refine WO.nil ?_)
    refine St.ret (by first | exact .tmp .nil | exact .cell .nil | exact .cell (.tmp .nil) | exact .tmp (.tmp .nil) | exact .cell (.cell .nil) | exact .tmp (.cell .nil) | exact .nil | exact .tmp (.cell (.tmp .nil)) | exact .cell (.tmp (.tmp .nil)) | exact .cell (.cell (.tmp .nil)) | exact .tmp (.tmp (.tmp .nil)) | exact .cell (.cell (.cell .nil))) ?_
    have : xs = ys := List.ext_getElem hlen fun i h1 h2 => by
      have := hall i h1
      rwa [nth_eq h1, nth_eq h2] at this
    rw [decide_eq_true this]; rfl
end Go.Proofs.YtgjkfmcjalcefaaGreat
