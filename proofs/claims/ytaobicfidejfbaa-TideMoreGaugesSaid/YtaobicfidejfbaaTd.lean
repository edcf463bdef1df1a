/- The period of a cycle, its value at a minute; lists that are compared. -/
import Derived.Test.YtaobicfidejfbaaTc
namespace Go.Proofs.Ytaobicfidejfbaa
open Go.Proofs.Ytaobicfidejfbaa.Ev

theorem evQuo {P : Program} {t : TypeId} {a b q : Int} (hb : b ≠ 0) (e : a.tdiv b = q) (h1 : -1152921504606846976 ≤ q) (h2 : q ≤ 1152921504606846976) : evBin P .quo t (.int .i64 a) (.int .i64 b) = some (.int .i64 q) := by
  subst e
  unfold evBin evInt
  simp [hb, wrap_ok (n := a.tdiv b) (by omega)]
def lcmI (a b : Int) : Int := a / (Int.gcd a b : Int) * b
def togN (a b : Cy) : Int := lcmI (a.ev * a.hs.length) (b.ev * b.hs.length) / togG a b
def togR (a b : Cy) : Cy × Int := if cyOk a = true ∧ cyOk b = true then (if togN a b > 60 then (noC, 2) else if (sumT a b (togN a b).toNat).all (fun x => inB x 4000) = true then (⟨a.id, a.bg, togG a b, sumT a b (togN a b).toNat⟩, 0) else (noC, 3)) else (noC, 1)
set_option maxRecDepth 100000 in
theorem length_con (h : Heap) (g : Gd h) (id bg ev : Int) (v : AV) (hs : List Int) (hv : ItV h v hs) (k : CyOk ⟨id, bg, ev, hs⟩) :
    Con Try.prog Bs 42 [.agg [.int .i64 id, .int .i64 bg, .int .i64 ev, v]] h [] (.int .i64 (ev * hs.length)) [] := by
  have k1 := k.ev1
  have k2 := k.ev2
  have k3 := k.n2
  simp only at k1 k2 k3
  obtain ⟨m1, m2⟩ := mul_bd (a := ev) (b := hs.length) (A := 120) (B := 60) (by omega) k2 (by omega) (by omega)
  refine Con.start rfl Try.func42 rfl rfl Try.ntmps42 rfl rfl g ?_
  (refine WK.seq ?_; refine WK.region ?_; refine St.box fun _ _ => ?_; refine St.assign ?_; refine WO.nil ?_; refine WK.seq ?_; refine WK.region ?_; refine St.fieldAddr ?_; refine St.load ?_; refine St.fieldAddr ?_; refine St.load ?_)
  refine St.lenV rfl hv.len ?_
  (refine St.binI ?_; refine St.assign ?_; refine WO.nil ?_)
  refine St.ret (by first | exact .tmp .nil | exact .cell .nil | exact .cell (.tmp .nil) | exact .tmp (.tmp .nil) | exact .cell (.cell .nil) | exact .tmp (.cell .nil) | exact .nil | exact .tmp (.cell (.tmp .nil)) | exact .cell (.tmp (.tmp .nil)) | exact .cell (.cell (.tmp .nil)) | exact .tmp (.tmp (.tmp .nil)) | exact .cell (.cell (.cell .nil))) ?_
  rfl
theorem len_pos {id bg ev : Int} {hs : List Int} (k : CyOk ⟨id, bg, ev, hs⟩) : 0 < ev * (hs.length : Int) ∧ ev * (hs.length : Int) ≤ 7200 := by
  have k1 := k.ev1
  have k2 := k.ev2
  have k3 := k.n1
  have k4 := k.n2
  simp only at k1 k2 k3 k4
  exact ⟨Int.mul_pos (by omega) (by omega), by have := Int.mul_le_mul k2 (show (hs.length : Int) ≤ 60 by omega) (by omega) (by omega); omega⟩
set_option maxRecDepth 100000 in
set_option maxHeartbeats 4000000 in
theorem phase_con (h : Heap) (g : Gd h) (id bg ev t : Int) (v : AV) (hs : List Int) (hv : ItV h v hs) (k : CyOk ⟨id, bg, ev, hs⟩) (t1 : -1099511627776 ≤ t) (t2 : t ≤ 1099511627776) :
    Con Try.prog Bs 53 [.agg [.int .i64 id, .int .i64 bg, .int .i64 ev, v], .int .i64 t] h [] (.int .i64 ((t - bg) % (ev * (hs.length : Int)))) [] := by
  obtain ⟨l1, l2⟩ := len_pos k
  have b1 := k.bg1
  have b2 := k.bg2
  simp only at b1 b2
  have hm := mod_t (a := t - bg) l1
  have ht : (t - bg).tmod (ev * hs.length) < ev * hs.length := Int.tmod_lt_of_pos _ l1
  have ht2 : -(ev * (hs.length : Int)) < (t - bg).tmod (ev * hs.length) := by
    have := Int.tmod_lt_of_pos (-(t - bg)) l1
    rw [Int.neg_tmod] at this
    omega
  refine Con.start rfl Try.func53 rfl rfl Try.ntmps53 rfl rfl g ?_
  (refine WK.seq ?_; refine WK.region ?_; refine St.box fun _ _ => ?_; refine St.assign ?_; refine WO.nil ?_; refine WK.seq ?_; refine WK.region ?_; refine St.load ?_)
  refine St.call (fun _ => rfl) (fun h2 hh => length_con h2 hh.gd id bg ev v hs (hv.vw hh) k) ?_
  generalize ev * (hs.length : Int) = len at *
  (refine St.assign ?_; refine WO.nil ?_; refine WK.seq ?_; refine WK.region ?_; refine St.move ?_; refine St.fieldAddr ?_; refine St.load ?_; refine St.binI ?_; refine St.move ?_)
  refine St.binX (r := .int .i64 ((t - bg).tmod len)) ?_ rfl rfl ?_
  · unfold evBin evInt; simp [show ¬ len = 0 by omega]
  (refine St.assign ?_; refine WO.nil ?_; refine WK.seq ?_; refine WK.seq ?_; refine WK.region ?_; refine St.move ?_; refine St.bin ?_; refine WO.nil ?_)
  refine St.splitC (fun hc => ?_) (fun hc => ?_)
  · rw [if_pos (by simpa using hc)] at hm
    (refine WK.region ?_; refine St.move ?_; refine St.move ?_; refine St.binI ?_; refine St.assign ?_; refine WO.nil ?_; refine WK.seq ?_; refine WK.region ?_; refine St.move ?_; refine St.assign ?_; refine WO.nil ?_)
    refine St.ret (by first | exact .tmp .nil | exact .cell .nil | exact .cell (.tmp .nil) | exact .tmp (.tmp .nil) | exact .cell (.cell .nil) | exact .tmp (.cell .nil) | exact .nil | exact .tmp (.cell (.tmp .nil)) | exact .cell (.tmp (.tmp .nil)) | exact .cell (.cell (.tmp .nil)) | exact .tmp (.tmp (.tmp .nil)) | exact .cell (.cell (.cell .nil))) ?_
    rw [hm]; rfl
  · rw [if_neg (by simpa using hc)] at hm
    (refine WK.skip ?_; refine WK.seq ?_; refine WK.region ?_; refine St.move ?_; refine St.assign ?_; refine WO.nil ?_)
    refine St.ret (by first | exact .tmp .nil | exact .cell .nil | exact .cell (.tmp .nil) | exact .tmp (.tmp .nil) | exact .cell (.cell .nil) | exact .tmp (.cell .nil) | exact .nil | exact .tmp (.cell (.tmp .nil)) | exact .cell (.tmp (.tmp .nil)) | exact .cell (.cell (.tmp .nil)) | exact .tmp (.tmp (.tmp .nil)) | exact .cell (.cell (.cell .nil))) ?_
    rw [hm]; rfl
set_option maxRecDepth 100000 in
set_option maxHeartbeats 4000000 in
theorem value_con (h : Heap) (g : Gd h) (id bg ev t : Int) (v : AV) (hs : List Int) (hv : ItV h v hs) (k : CyOk ⟨id, bg, ev, hs⟩) (t1 : -1099511627776 ≤ t) (t2 : t ≤ 1099511627776) :
    Con Try.prog Bs 27 [.agg [.int .i64 id, .int .i64 bg, .int .i64 ev, v], .int .i64 t] h [] (.int .i64 (valC ⟨id, bg, ev, hs⟩ t)) [] := by
  obtain ⟨l1, l2⟩ := len_pos k
  have b1 := k.ev1
  have b2 := k.n1
  simp only at b1 b2
  have hp := phase_eq (x := t - bg) (e := ev) (n := hs.length) (by omega) (by omega)
  have p1 := Int.emod_nonneg (t - bg) (show ev * (hs.length : Int) ≠ 0 by omega)
  have hi := idxC_lt k t
  have hi2 : ((t - bg) % (ev * (hs.length : Int))) / ev = idxC ⟨id, bg, ev, hs⟩ t := by
    rw [hp]
    unfold idxC
    have := Int.emod_nonneg ((t - bg) / ev) (show (hs.length : Int) ≠ 0 by omega)
    simp only
    omega
  simp only at hi
  obtain ⟨b, off, c, rfl, hk⟩ := hv.ne (by omega)
  refine Con.start rfl Try.func27 rfl rfl Try.ntmps27 rfl rfl g ?_
  (refine WK.seq ?_; refine WK.region ?_; refine St.box fun _ _ => ?_; refine St.assign ?_; refine WO.nil ?_; refine WK.seq ?_; refine WK.regionD ?_; refine St.fieldAddr ?_; refine St.load ?_; refine St.load ?_; refine St.move ?_)
  refine St.call (fun _ => rfl) (fun h2 hh => phase_con h2 hh.gd id bg ev t _ hs (hv.vw hh) k t1 t2) ?_
  (refine St.fieldAddr ?_; refine St.load ?_)
  refine St.binX (r := .int .i64 (idxC ⟨id, bg, ev, hs⟩ t)) (evQuo (by omega) (by rw [Int.tdiv_eq_ediv_of_nonneg p1, hi2]) (by omega) (by have := k.n2; simp only at this; omega)) rfl rfl ?_
  skip
  refine St.at ?_
  refine St.loadX (fun h hh => ((hk.vw hh).at_ (z := (idxC ⟨id, bg, ev, hs⟩ t : Int)) (n := idxC ⟨id, bg, ev, hs⟩ t) (by omega) hi).one rfl) ?_
  (refine St.assign ?_; refine WO.nil ?_)
  refine St.ret (by first | exact .tmp .nil | exact .cell .nil | exact .cell (.tmp .nil) | exact .tmp (.tmp .nil) | exact .cell (.cell .nil) | exact .tmp (.cell .nil) | exact .nil | exact .tmp (.cell (.tmp .nil)) | exact .cell (.tmp (.tmp .nil)) | exact .cell (.cell (.tmp .nil)) | exact .tmp (.tmp (.tmp .nil)) | exact .cell (.cell (.cell .nil))) ?_
  rfl
end Go.Proofs.Ytaobicfidejfbaa
