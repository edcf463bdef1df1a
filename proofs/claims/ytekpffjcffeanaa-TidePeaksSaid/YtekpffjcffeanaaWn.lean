/- The highest and the lowest water: Highest, Lowest, the reference's Extreme; the law TidePeaks. -/
import Derived.Test.YtekpffjcffeanaaWm
import Derived.Test.YtekpffjcffeanaaWs
namespace Go.Proofs.Ytekpffjcffeanaa
open Go.Proofs.Ytekpffjcffeanaa.Ev

def cmpI (x y : Int) : Int := if x < y then -1 else if y < x then 1 else 0
set_option maxRecDepth 100000 in
theorem isNaN_con (h : Heap) (g : Gd h) (x : Int) : Con Try.prog Bs 127 [.int .i64 x] h [] (.bool false) [] := by
  refine Con.start rfl Try.func127 rfl rfl Try.ntmps127 rfl rfl g ?_
  (refine WK.seq ?_; refine WK.region ?_; refine St.assign ?_; refine WO.nil ?_; refine WK.seq ?_; refine WK.region ?_; refine St.move ?_; refine St.move ?_; refine St.bin ?_; refine St.assign ?_; refine WO.nil ?_)
  refine St.ret (by first | exact .tmp .nil | exact .cell .nil | exact .cell (.tmp .nil) | exact .tmp (.tmp .nil) | exact .cell (.cell .nil) | exact .tmp (.cell .nil) | exact .nil | exact .tmp (.cell (.tmp .nil)) | exact .cell (.tmp (.tmp .nil)) | exact .cell (.cell (.tmp .nil)) | exact .tmp (.tmp (.tmp .nil)) | exact .cell (.cell (.cell .nil))) ?_
  simp [oneOf]
set_option maxRecDepth 100000 in
theorem compare_con (h : Heap) (g : Gd h) (x y : Int) : Con Try.prog Bs 99 [.int .i64 x, .int .i64 y] h [] (.int .i64 (cmpI x y)) [] := by
  refine Con.start rfl Try.func99 rfl rfl Try.ntmps99 rfl rfl g ?_
  (refine WK.seq ?_; refine WK.region ?_; refine St.assign ?_; refine WO.nil ?_; refine WK.seq ?_; refine WK.region ?_; refine St.move ?_)
  refine St.call (fun _ => rfl) (fun h2 hh => isNaN_con h2 hh.gd x) ?_
  (refine St.assign ?_; refine WO.nil ?_; refine WK.seq ?_; refine WK.region ?_; refine St.move ?_)
  refine St.call (fun _ => rfl) (fun h2 hh => isNaN_con h2 hh.gd y) ?_
  (refine St.assign ?_; refine WO.nil ?_; refine WK.seq ?_; refine WK.seq ?_; refine WK.region ?_; refine St.move ?_; refine WO.nil ?_; refine WK.condF ?_; refine WK.skip ?_; refine WK.seq ?_; refine WK.seq ?_; refine WK.region ?_; refine St.move ?_; refine WO.nil ?_; refine WK.condF ?_; refine WK.skip ?_; refine WK.seq ?_; refine WK.seq ?_; refine WK.region ?_; refine St.move ?_; refine St.move ?_; refine St.bin ?_; refine WO.nil ?_)
  refine St.splitC (fun h1 => ?_) (fun h1 => ?_)
  · (refine WK.seq ?_; refine WK.region ?_; refine St.assign ?_; refine WO.nil ?_)
    refine St.ret (by first | exact .tmp .nil | exact .cell .nil | exact .cell (.tmp .nil) | exact .tmp (.tmp .nil) | exact .cell (.cell .nil) | exact .tmp (.cell .nil) | exact .nil | exact .tmp (.cell (.tmp .nil)) | exact .cell (.tmp (.tmp .nil)) | exact .cell (.cell (.tmp .nil)) | exact .tmp (.tmp (.tmp .nil)) | exact .cell (.cell (.cell .nil))) ?_
    unfold cmpI
    rw [if_pos (by simpa using h1)]
    rfl
  (refine WK.skip ?_; refine WK.seq ?_; refine WK.seq ?_; refine WK.region ?_; refine St.move ?_; refine St.move ?_; refine St.bin ?_; refine WO.nil ?_)
  refine St.splitC (fun h2 => ?_) (fun h2 => ?_)
  · (refine WK.seq ?_; refine WK.region ?_; refine St.assign ?_; refine WO.nil ?_)
    refine St.ret (by first | exact .tmp .nil | exact .cell .nil | exact .cell (.tmp .nil) | exact .tmp (.tmp .nil) | exact .cell (.cell .nil) | exact .tmp (.cell .nil) | exact .nil | exact .tmp (.cell (.tmp .nil)) | exact .cell (.tmp (.tmp .nil)) | exact .cell (.cell (.tmp .nil)) | exact .tmp (.tmp (.tmp .nil)) | exact .cell (.cell (.cell .nil))) ?_
    unfold cmpI
    rw [if_neg (by simpa using h1), if_pos (by simpa using h2)]
    rfl
  · (refine WK.skip ?_; refine WK.seq ?_; refine WK.region ?_; refine St.assign ?_; refine WO.nil ?_)
    refine St.ret (by first | exact .tmp .nil | exact .cell .nil | exact .cell (.tmp .nil) | exact .tmp (.tmp .nil) | exact .cell (.cell .nil) | exact .tmp (.cell .nil) | exact .nil | exact .tmp (.cell (.tmp .nil)) | exact .cell (.tmp (.tmp .nil)) | exact .cell (.cell (.tmp .nil)) | exact .tmp (.tmp (.tmp .nil)) | exact .cell (.cell (.cell .nil))) ?_
    unfold cmpI
    rw [if_neg (by simpa using h1), if_neg (by simpa using h2)]
    rfl
theorem cmp_bey (b : Bool) (x y : Int) : decide (cmpI (if b = true then y else x) (if b = true then x else y) < 0) = bey b x y := by
  unfold cmpI bey
  rw [Bool.eq_iff_iff]
  cases b
  · simp
    split
    · simp_all
    · split <;> simp_all
  · simp
    split
    · simp_all
    · split <;> simp_all
set_option maxRecDepth 100000 in
theorem highest1_con (h : Heap) (g : Gd h) (x y : Sd) : Con Try.prog Bs 98 [.agg (sdC x), .agg (sdC y)] h [] (.int .i64 (cmpI (if true = true then y.ht else x.ht) (if true = true then x.ht else y.ht))) [] := by
  refine Con.start rfl Try.func98 rfl rfl Try.ntmps98 rfl rfl g ?_
  (refine WK.seq ?_; refine WK.region ?_; refine St.box fun _ _ => ?_; refine St.box fun _ _ => ?_; refine St.assign ?_; refine WO.nil ?_; refine WK.seq ?_; refine WK.region ?_; refine St.fieldAddr ?_; refine St.load ?_; refine St.fieldAddr ?_; refine St.load ?_)
  refine St.call (fun _ => rfl) (fun h2 hh => compare_con h2 hh.gd y.ht x.ht) ?_
  (refine St.assign ?_; refine WO.nil ?_)
  refine St.ret (by first | exact .tmp .nil | exact .cell .nil | exact .cell (.tmp .nil) | exact .tmp (.tmp .nil) | exact .cell (.cell .nil) | exact .tmp (.cell .nil) | exact .nil | exact .tmp (.cell (.tmp .nil)) | exact .cell (.tmp (.tmp .nil)) | exact .cell (.cell (.tmp .nil)) | exact .tmp (.tmp (.tmp .nil)) | exact .cell (.cell (.cell .nil))) ?_
  rfl
set_option maxRecDepth 100000 in
theorem lowest1_con (h : Heap) (g : Gd h) (x y : Sd) : Con Try.prog Bs 101 [.agg (sdC x), .agg (sdC y)] h [] (.int .i64 (cmpI (if false = true then y.ht else x.ht) (if false = true then x.ht else y.ht))) [] := by
  refine Con.start rfl Try.func101 rfl rfl Try.ntmps101 rfl rfl g ?_
  (refine WK.seq ?_; refine WK.region ?_; refine St.box fun _ _ => ?_; refine St.box fun _ _ => ?_; refine St.assign ?_; refine WO.nil ?_; refine WK.seq ?_; refine WK.region ?_; refine St.fieldAddr ?_; refine St.load ?_; refine St.fieldAddr ?_; refine St.load ?_)
  refine St.call (fun _ => rfl) (fun h2 hh => compare_con h2 hh.gd x.ht y.ht) ?_
  (refine St.assign ?_; refine WO.nil ?_)
  refine St.ret (by first | exact .tmp .nil | exact .cell .nil | exact .cell (.tmp .nil) | exact .tmp (.tmp .nil) | exact .cell (.cell .nil) | exact .tmp (.cell .nil) | exact .nil | exact .tmp (.cell (.tmp .nil)) | exact .cell (.tmp (.tmp .nil)) | exact .cell (.cell (.tmp .nil)) | exact .tmp (.tmp (.tmp .nil)) | exact .cell (.cell (.cell .nil))) ?_
  rfl
set_option maxRecDepth 100000 in
set_option maxHeartbeats 8000000 in
theorem minFunc_con (F : Nat) (b : Bool) (hF : ∀ (h : Heap) (_ : Gd h) (x y : Sd), Con Try.prog Bs F [.agg (sdC x), .agg (sdC y)] h [] (.int .i64 (cmpI (if b = true then y.ht else x.ht) (if b = true then x.ht else y.ht))) []) (h : Heap) (g : Gd h) (v : AV) (l : List Sd) (hv : StV h v l) (hp : 0 < l.length) (hl : l.length ≤ 1000000) :
    Con Try.prog Bs 126 [v, .fn (.func F) [] []] h [] (.agg (sdC (bestL b l))) [] := by
  obtain ⟨bb, off, c, rfl, hk⟩ := hv.ne hp
  refine Con.start rfl Try.func126 rfl rfl Try.ntmps126 rfl rfl g ?_
  (refine WK.seq ?_; refine WK.region ?_; refine St.alloc fun _ _ => ?_; refine WO.nil ?_; refine WK.seq ?_; refine WK.seq ?_; refine WK.region ?_; refine St.move ?_; refine St.len ?_; refine St.bin ?_; refine WO.nil ?_)
  rename_i p4 hp4
  refine St.splitC (fun h1 => ?_) (fun _ => ?_)
  · simp at h1
    omega
  (refine WK.skip ?_; refine WK.seq ?_; refine WK.region ?_; refine St.move ?_)
  refine St.at ?_
  refine St.loadX (fun h hh => ((hk.vw hh).at_ (z := 0) (n := 0) (by omega) hp).agg (by simp) rfl rfl rfl) ?_
  (refine St.alloc fun _ _ => ?_; refine St.store0 ?_; refine WO.nil ?_; refine WK.seq ?_; refine WK.seq ?_; refine WK.region ?_; refine St.assign ?_; refine WO.nil ?_; refine WK.block ?_)
  rename_i p5 hp5
  refine WK.inv (ι := Nat) (fun k => [(0, .slice bb off l.length c), (1, .fn (.func F) [] []), (4, .ptr p4 0), (5, .ptr p5 0), (6, .int .i64 ((k + 1 : Nat) : Int))]) (fun k => [(p5, .cells (sdC (bestL b (l.take (k + 1)))) 51), (p4, .cells [.int .i64 0, .int .i64 0, .int .i64 0] 51)]) (fun k => k + 1 ≤ l.length) (fun k => l.length - k) 0 (by omega) ⟨rfl, rfl, rfl, rfl, rfl, trivial⟩ (by rw [bestL_one hp]; exact List.Sublist.refl _) ?_
  intro k hkl ih
  (refine WK.seq ?_; refine WK.seq ?_; refine WK.region ?_; refine St.move ?_; refine St.move ?_; refine St.len ?_; refine St.bin ?_; refine WO.nil ?_)
  refine St.splitC (fun hc => ?_) (fun hc => ?_)
  · have hlt : k + 1 < l.length := by simp at hc; omega
    have hbt := bestL_take (b := b) hlt
    generalize hM : bestL b (l.take (k + 1)) = M at *
    (refine WK.skip ?_; refine WK.seq ?_; refine WK.block ?_; refine WK.seq ?_; refine WK.regionD ?_; refine St.move ?_; refine St.move ?_; refine St.move ?_)
    refine St.at ?_
    refine St.loadX (fun h hh => ((hk.vw hh).at_ (z := ((k + 1 : Nat) : Int)) (n := k + 1) (by omega) hlt).agg (by simp) rfl rfl rfl) ?_
    (refine St.load ?_)
    refine St.call (fun _ => rfl) (fun h2 hh => hF h2 hh.gd (nthD l (k + 1)) M) ?_
    (refine St.bin ?_; refine WO.nil ?_)
    rw [cmp_bey]
    refine St.splitC (fun h2 => ?_) (fun h2 => ?_)
    · rw [if_pos h2] at hbt
      (refine WK.region ?_; refine St.move ?_; refine St.move ?_)
      refine St.at ?_
      refine St.loadX (fun h hh => ((hk.vw hh).at_ (z := ((k + 1 : Nat) : Int)) (n := k + 1) (by omega) hlt).agg (by simp) rfl rfl rfl) ?_
      (refine St.store0 ?_; refine WO.nil ?_; refine WK.blk ?_; refine WK.region ?_; refine St.move ?_; refine St.binI ?_; refine St.assign ?_; refine WO.nil ?_)
      have ih2 := ih (k + 1) hlt (by omega)
      rw [hbt] at ih2
      refine WK.le ?_ (by (repeat (first | exact List.Sublist.refl _ | exact List.nil_sublist _ | apply List.Sublist.cons_cons | apply List.Sublist.cons))) ih2
      exact ⟨rfl, rfl, rfl, rfl, congrArg (fun z => some (AV.int .i64 z)) (by omega), trivial⟩
    · rw [if_neg (by rw [h2]; simp)] at hbt
      (refine WK.skip ?_; refine WK.blk ?_; refine WK.region ?_; refine St.move ?_; refine St.binI ?_; refine St.assign ?_; refine WO.nil ?_)
      have ih2 := ih (k + 1) hlt (by omega)
      rw [hbt] at ih2
      refine WK.le ?_ (by (repeat (first | exact List.Sublist.refl _ | exact List.nil_sublist _ | apply List.Sublist.cons_cons | apply List.Sublist.cons))) ih2
      exact ⟨rfl, rfl, rfl, rfl, congrArg (fun z => some (AV.int .i64 z)) (by omega), trivial⟩
  · have : k + 1 = l.length := by simp at hc; omega
    rw [this, List.take_length]
    (refine WK.exit ?_; refine WK.seq ?_; refine WK.region ?_; refine St.load ?_; refine St.store1 ?_; refine WO.nil ?_)
    refine St.ret (by first | exact .tmp .nil | exact .cell .nil | exact .cell (.tmp .nil) | exact .tmp (.tmp .nil) | exact .cell (.cell .nil) | exact .tmp (.cell .nil) | exact .nil | exact .tmp (.cell (.tmp .nil)) | exact .cell (.tmp (.tmp .nil)) | exact .cell (.cell (.tmp .nil)) | exact .tmp (.tmp (.tmp .nil)) | exact .cell (.cell (.cell .nil))) ?_
    rfl
/-- a greatest or least height, and the first minute that has it -/
def pkR (lv : Int) (cs : List Cy) (ss : List Sh) (lo hi : Int) (b : Bool) : Int × Int × Int :=
  if minR lv cs ss lo hi ≠ 0 then (0, 0, minR lv cs ss lo hi) else (hgt lv cs ss lo (exK b (hgt lv cs ss lo) (hi - lo).toNat), lo + (exK b (hgt lv cs ss lo) (hi - lo).toNat : Int), 0)
set_option maxRecDepth 100000 in
set_option maxHeartbeats 16000000 in
theorem foremost_con (F : Nat) (b : Bool) (hF : ∀ (h : Heap) (_ : Gd h) (x y : Sd), Con Try.prog Bs F [.agg (sdC x), .agg (sdC y)] h [] (.int .i64 (cmpI (if b = true then y.ht else x.ht) (if b = true then x.ht else y.ht))) []) (h : Heap) (g : Gd h) (lv lo hi : Int) (cv sv : AV) (cl : List Cw) (ss : List Sh) (hc : CyV h cv cl) (hs : ShV h sv ss) :
    Con Try.prog Bs 97 [.agg [.int .i64 lv, cv, sv], .agg [.int .i64 lo, .int .i64 hi], .fn (.func F) [] []] h [] (.tup [.int .i64 (pkR lv (cys cl) ss lo hi b).1, .int .i64 (pkR lv (cys cl) ss lo hi b).2.1, .int .i64 (pkR lv (cys cl) ss lo hi b).2.2]) [] := by
  have hlen := stdR_len (lv := lv) (cs := cys cl) (ss := ss) (lo := lo) (hi := hi)
  refine Con.start rfl Try.func97 rfl rfl Try.ntmps97 rfl rfl g ?_
  (refine WK.seq ?_; refine WK.region ?_; refine St.box fun _ _ => ?_; refine St.box fun _ _ => ?_; refine St.assign ?_; refine St.assign ?_; refine St.assign ?_; refine WO.nil ?_; refine WK.seq ?_; refine WK.region ?_; refine St.load ?_; refine St.load ?_)
  rename_i p3 hp3 p4 hp4
  refine St.callR (fun _ => rfl) (fun h2 hh => standsL_con h2 hh.gd lv lo hi cv sv cl ss (hc.vw hh) (hs.vw hh)) ?_
  rintro v L' ⟨u, rfl, hu⟩
  (refine St.move ?_; refine St.extract ?_; refine St.extract ?_; refine St.assign ?_; refine St.assign ?_; refine WO.nil ?_; refine WK.seq ?_; refine WK.seq ?_; refine WK.region ?_; refine St.move ?_; refine St.bin ?_; refine WO.nil ?_)
  refine St.splitC (fun h1 => ?_) (fun h1 => ?_)
  · (refine WK.seq ?_; refine WK.region ?_; refine St.move ?_; refine St.assign ?_; refine St.assign ?_; refine St.assign ?_; refine WO.nil ?_)
    refine St.ret (by first | exact .tmp .nil | exact .cell .nil | exact .cell (.tmp .nil) | exact .tmp (.tmp .nil) | exact .cell (.cell .nil) | exact .tmp (.cell .nil) | exact .nil | exact .tmp (.cell (.tmp .nil)) | exact .cell (.tmp (.tmp .nil)) | exact .cell (.cell (.tmp .nil)) | exact .tmp (.tmp (.tmp .nil)) | exact .cell (.cell (.cell .nil))) ?_
    unfold pkR
    rw [if_pos (by simpa using h1)]
    rfl
  have e1 : minR lv (cys cl) ss lo hi = 0 := by simpa using h1
  have m := minR_ok e1
  have m2 := m.le
  have hpos : 0 < (stdR lv (cys cl) ss lo hi).length := by rw [stdR_ok e1]; exact all_pos (by omega)
  obtain ⟨q1, q2⟩ := best_all (f := hgt lv (cys cl) ss lo) (lo := lo) b (hi - lo).toNat
  rw [show (hi - lo).toNat + 1 = (hi - lo + 1).toNat by omega, ← stdR_ok e1] at q1 q2
  have ep : pkR lv (cys cl) ss lo hi b = ((bestL b (stdR lv (cys cl) ss lo hi)).ht, (bestL b (stdR lv (cys cl) ss lo hi)).lo, 0) := by
    unfold pkR
    rw [if_neg (by simp [e1]), q1, q2]
  rw [ep]
  clear ep q1 q2
  generalize stdR lv (cys cl) ss lo hi = l at *
  (refine WK.skip ?_; refine WK.seq ?_; refine WK.region ?_; refine St.move ?_; refine St.move ?_)
  refine St.call (fun _ => rfl) (fun h2 hh => minFunc_con F b hF h2 hh.gd u l (isl_stv hu hh (fun x hx => by simp [hx])) hpos (by omega)) ?_
  (refine St.alloc fun _ _ => ?_; refine St.store0 ?_; refine WO.nil ?_; refine WK.seq ?_; refine WK.regionD ?_; refine St.fieldAddr ?_; refine St.load ?_; refine St.fieldAddr ?_; refine St.fieldAddr ?_; refine St.load ?_; refine St.assign ?_; refine St.assign ?_; refine St.assign ?_; refine WO.nil ?_)
  refine St.ret (by first | exact .tmp .nil | exact .cell .nil | exact .cell (.tmp .nil) | exact .tmp (.tmp .nil) | exact .cell (.cell .nil) | exact .tmp (.cell .nil) | exact .nil | exact .tmp (.cell (.tmp .nil)) | exact .cell (.tmp (.tmp .nil)) | exact .cell (.cell (.tmp .nil)) | exact .tmp (.tmp (.tmp .nil)) | exact .cell (.cell (.cell .nil))) ?_
  rfl
end Go.Proofs.Ytekpffjcffeanaa
