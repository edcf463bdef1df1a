/- Apart, the program's and the reference's, over the calculator's memory. -/
import Derived.Test.YtekpffjcffeanaaTg
namespace Go.Proofs.Ytekpffjcffeanaa
open Go.Proofs.Ytekpffjcffeanaa.Ev

set_option maxRecDepth 100000 in
set_option maxHeartbeats 4000000 in
theorem least_con (h : Heap) (g : Gd h) (x : Int) (v : AV) (xs : List Int) (hv : ItV h v xs) (hl : xs.length ≤ 1000) :
    Con Try.prog Bs 78 [.int .i64 x, v] h [] (.int .i64 (xs.foldl min x)) [] := by
  refine Con.start rfl Try.func78 rfl rfl Try.ntmps78 rfl rfl g ?_
  (refine WK.seq ?_; refine WK.region ?_; refine St.assign ?_; refine WO.nil ?_; refine WK.seq ?_; refine WK.seq ?_; refine WK.region ?_; refine St.move ?_)
  refine St.lenV rfl hv.len ?_
  (refine St.move ?_; refine WO.nil ?_; refine WK.block ?_)
  by_cases hn : xs.length = 0
  · have e1 : xs = [] := List.length_eq_zero_iff.1 hn
    subst e1
    refine WK.unroll ?_
    (refine WK.seq ?_; refine WK.region ?_; refine St.bin ?_; refine WO.nil ?_; refine WK.seq ?_; refine WK.condF ?_; refine WK.exit ?_; refine WK.seq ?_; refine WK.region ?_; refine St.move ?_; refine St.assign ?_; refine WO.nil ?_)
    refine St.ret (by first | exact .tmp .nil | exact .cell .nil | exact .cell (.tmp .nil) | exact .tmp (.tmp .nil) | exact .cell (.cell .nil) | exact .tmp (.cell .nil) | exact .nil | exact .tmp (.cell (.tmp .nil)) | exact .cell (.tmp (.tmp .nil)) | exact .cell (.cell (.tmp .nil)) | exact .tmp (.tmp (.tmp .nil)) | exact .cell (.cell (.cell .nil))) ?_
    rfl
  obtain ⟨b, off, c, rfl, hk⟩ := hv.ne (by omega)
  refine WK.inv (ι := Nat) (fun z => [(0, .int .i64 ((xs.take z).foldl min x)), (7, .slice b off xs.length c), (8, .int .i64 xs.length), (9, .int .i64 z)]) (fun _ => []) (fun z => z ≤ xs.length) (fun z => xs.length - z) 0 (by omega) ⟨rfl, rfl, rfl, rfl, trivial⟩ (by (repeat (first | exact List.Sublist.refl _ | exact List.nil_sublist _ | apply List.Sublist.cons_cons | apply List.Sublist.cons))) ?_
  rintro k hkl ih
  (refine WK.seq ?_; refine WK.region ?_; refine St.bin ?_; refine WO.nil ?_; refine WK.seq ?_)
  refine St.splitC (fun hc => ?_) (fun hc => ?_)
  · have hlt : k < xs.length := by simp at hc; omega
    have hs := foldl_take min x hlt
    (refine WK.skip ?_; refine WK.seq ?_; refine WK.block ?_; refine WK.seq ?_; refine WK.region ?_)
    refine St.at ?_
    refine St.loadX (fun h hh => ((hk.vw hh).at_ (z := (k : Int)) (n := k) (by omega) hlt).one rfl) ?_
    (refine St.assign ?_; refine WO.nil ?_; refine WK.seq ?_; refine WK.region ?_; refine St.move ?_; refine St.move ?_; refine St.bin ?_; refine WO.nil ?_)
    refine St.splitC (fun hc2 => ?_) (fun hc2 => ?_)
    · have : min ((xs.take k).foldl min x) (nth xs k) = nth xs k := by simp at hc2; omega
      rw [this] at hs
      (refine WK.region ?_; refine St.move ?_; refine St.assign ?_; refine WO.nil ?_; refine WK.blk ?_; refine WK.region ?_; refine St.binI ?_; refine St.move ?_; refine WO.nil ?_)
      refine WK.le ?_ (by (repeat (first | exact List.Sublist.refl _ | exact List.nil_sublist _ | apply List.Sublist.cons_cons | apply List.Sublist.cons))) (ih (k + 1) hlt (by omega))
      exact ⟨congrArg (fun z => some (AV.int .i64 z)) hs.symm, rfl, rfl, rfl, trivial⟩
    · have : min ((xs.take k).foldl min x) (nth xs k) = (xs.take k).foldl min x := by simp at hc2; omega
      rw [this] at hs
      (refine WK.skip ?_; refine WK.blk ?_; refine WK.region ?_; refine St.binI ?_; refine St.move ?_; refine WO.nil ?_)
      refine WK.le ?_ (by (repeat (first | exact List.Sublist.refl _ | exact List.nil_sublist _ | apply List.Sublist.cons_cons | apply List.Sublist.cons))) (ih (k + 1) hlt (by omega))
      exact ⟨congrArg (fun z => some (AV.int .i64 z)) hs.symm, rfl, rfl, rfl, trivial⟩
  · have : k = xs.length := by simp at hc; omega
    subst this
    rw [List.take_length]
    (refine WK.exit ?_; refine WK.seq ?_; refine WK.region ?_; refine St.move ?_; refine St.assign ?_; refine WO.nil ?_)
    refine St.ret (by first | exact .tmp .nil | exact .cell .nil | exact .cell (.tmp .nil) | exact .tmp (.tmp .nil) | exact .cell (.cell .nil) | exact .tmp (.cell .nil) | exact .nil | exact .tmp (.cell (.tmp .nil)) | exact .cell (.tmp (.tmp .nil)) | exact .cell (.cell (.tmp .nil)) | exact .tmp (.tmp (.tmp .nil)) | exact .cell (.cell (.cell .nil))) ?_
    rfl
set_option maxRecDepth 100000 in
set_option maxHeartbeats 4000000 in
theorem maxOf_con (h : Heap) (g : Gd h) (v : AV) (xs : List Int) (hv : ItV h v xs) (h1 : 0 < xs.length) (hl : xs.length ≤ 1000) :
    Con Try.prog Bs 79 [v] h [] (.int .i64 (xs.foldl max (nth xs 0))) [] := by
  obtain ⟨b, off, c, rfl, hk⟩ := hv.ne h1
  refine Con.start rfl Try.func79 rfl rfl Try.ntmps79 rfl rfl g ?_
  (refine WK.seq ?_; refine WK.region ?_; refine St.assign ?_; refine WO.nil ?_; refine WK.seq ?_; refine WK.seq ?_; refine WK.region ?_; refine St.move ?_; refine St.len ?_; refine St.bin ?_; refine WO.nil ?_)
  refine St.splitC (fun hc => ?_) (fun hc => ?_)
  · simp at hc; omega
  (refine WK.skip ?_; refine WK.seq ?_; refine WK.region ?_; refine St.move ?_)
  refine St.at ?_
  refine St.loadX (fun h hh => ((hk.vw hh).at_ (z := 0) (n := 0) (by omega) h1).one rfl) ?_
  (refine St.assign ?_; refine WO.nil ?_; refine WK.seq ?_; refine WK.seq ?_; refine WK.region ?_; refine St.assign ?_; refine WO.nil ?_; refine WK.block ?_)
  have h0 : nth xs 0 = (xs.take 1).foldl max (nth xs 0) := by
    have := foldl_take max (nth xs 0) (k := 0) h1
    rw [this]
    simp
  refine WK.inv (ι := Nat) (fun z => [(0, .slice b off xs.length c), (3, .int .i64 ((xs.take z).foldl max (nth xs 0))), (4, .int .i64 z)]) (fun _ => []) (fun z => 1 ≤ z ∧ z ≤ xs.length) (fun z => xs.length - z) 1 ⟨by omega, by omega⟩ ⟨rfl, congrArg (fun z => some (AV.int .i64 z)) h0, rfl, trivial⟩ (by (repeat (first | exact List.Sublist.refl _ | exact List.nil_sublist _ | apply List.Sublist.cons_cons | apply List.Sublist.cons))) ?_
  rintro k ⟨hk1, hkl⟩ ih
  (refine WK.seq ?_; refine WK.seq ?_; refine WK.region ?_; refine St.move ?_; refine St.move ?_; refine St.len ?_; refine St.bin ?_; refine WO.nil ?_)
  refine St.splitC (fun hc => ?_) (fun hc => ?_)
  · have hlt : k < xs.length := by simp at hc; omega
    have hs := foldl_take max (nth xs 0) hlt
    (refine WK.skip ?_; refine WK.seq ?_; refine WK.block ?_; refine WK.region ?_; refine St.move ?_; refine St.move ?_; refine St.move ?_)
    refine St.at ?_
    refine St.loadX (fun h hh => ((hk.vw hh).at_ (z := (k : Int)) (n := k) (by omega) hlt).one rfl) ?_
    (refine St.maxI ?_; refine St.assign ?_; refine WO.nil ?_; refine WK.blk ?_; refine WK.region ?_; refine St.move ?_; refine St.binI ?_; refine St.assign ?_; refine WO.nil ?_)
    refine WK.le ?_ (by (repeat (first | exact List.Sublist.refl _ | exact List.nil_sublist _ | apply List.Sublist.cons_cons | apply List.Sublist.cons))) (ih (k + 1) ⟨by omega, hlt⟩ (by omega))
    exact ⟨rfl, congrArg (fun z => some (AV.int .i64 z)) hs.symm, rfl, trivial⟩
  · have : k = xs.length := by simp at hc; omega
    subst this
    rw [List.take_length]
    (refine WK.exit ?_; refine WK.seq ?_; refine WK.region ?_; refine St.move ?_; refine St.assign ?_; refine WO.nil ?_)
    refine St.ret (by first | exact .tmp .nil | exact .cell .nil | exact .cell (.tmp .nil) | exact .tmp (.tmp .nil) | exact .cell (.cell .nil) | exact .tmp (.cell .nil) | exact .nil | exact .tmp (.cell (.tmp .nil)) | exact .cell (.tmp (.tmp .nil)) | exact .cell (.cell (.tmp .nil)) | exact .tmp (.tmp (.tmp .nil)) | exact .cell (.cell (.cell .nil))) ?_
    rfl
/-- what Apart returns -/
def ApOut (r : Int × Cy × Int) (v : AV) (L : Ob) : Prop := ∃ hv, IsIs r.2.1.hs hv L ∧ v = .tup [.int .i64 r.1, .agg [.int .i64 r.2.1.id, .int .i64 r.2.1.bg, .int .i64 r.2.1.ev, hv], .int .i64 r.2.2]
set_option maxRecDepth 100000 in
set_option maxHeartbeats 8000000 in
theorem apart_con (h : Heap) (g : Gd h) (id bg ev : Int) (v : AV) (hs : List Int) (hv : ItA h v hs) (hl : hs.length ≤ 1000) :
    ∃ w L, Con Try.prog Bs 33 [.agg [.int .i64 id, .int .i64 bg, .int .i64 ev, v]] h [] w L ∧ ApOut (apartR ⟨id, bg, ev, hs⟩) w L := by
  by_cases hok : cyOk ⟨id, bg, ev, hs⟩ = true
  rotate_left
  · have e : apartR ⟨id, bg, ev, hs⟩ = (0, noC, 1) := if_neg hok
    have hno : cyOk ⟨id, bg, ev, hs⟩ = false := by simpa using hok
    rw [e]
    refine Con.subR (Con.startR rfl Try.func33 rfl rfl Try.ntmps33 rfl rfl (SS.init g) ?_)
    (refine WK.seq ?_; refine WK.region ?_; refine St.box fun _ _ => ?_; refine St.assign ?_; refine St.alloc fun _ _ => ?_; refine St.assign ?_; refine WO.nil ?_; refine WK.seq ?_; refine WK.seq ?_; refine WK.region ?_; refine St.load ?_)
    refine St.call (v := .bool false) (fun _ => rfl) (fun h2 hh => by
      have := isCycle_con h2 hh.gd id bg ev v hs (hv.vw hh).itV
      rw [hno] at this
      exact this) ?_
    (refine St.un ?_; refine WO.nil ?_; refine WK.condT ?_; refine WK.seq ?_; refine WK.region ?_; refine St.build ?_; refine St.assign ?_; refine St.store0 ?_; refine St.assign ?_; refine WO.nil ?_)
    refine St.ret (by first | exact .tmp .nil | exact .cell .nil | exact .cell (.tmp .nil) | exact .tmp (.tmp .nil) | exact .cell (.cell .nil) | exact .tmp (.cell .nil) | exact .nil | exact .tmp (.cell (.tmp .nil)) | exact .cell (.tmp (.tmp .nil)) | exact .cell (.cell (.tmp .nil)) | exact .tmp (.tmp (.tmp .nil)) | exact .cell (.cell (.cell .nil))) ?_
    exact ⟨[], List.nil_sublist _, .slice0, .inl ⟨rfl, rfl, rfl⟩, rfl⟩
  have k := cyOk_iff.1 hok
  have k1 := k.n1
  have k2 := k.n2
  have km := k.min
  have kb := fun i => k.at_ i
  simp only at k1 k2 km kb
  have e : apartR ⟨id, bg, ev, hs⟩ = if apartB hs = true then (0, noC, 3) else (minH hs, ⟨id, bg, ev, hs.map (· - minH hs)⟩, 0) := if_pos hok
  rw [e]
  obtain ⟨b, off, c, rfl, hm, hk⟩ := hv.ne k1
  refine Con.subR (Con.startR rfl Try.func33 rfl rfl Try.ntmps33 rfl rfl (SS.init g) ?_)
  (refine WK.seq ?_; refine WK.region ?_; refine St.box fun _ _ => ?_; refine St.assign ?_; refine St.alloc fun _ _ => ?_; refine St.assign ?_; refine WO.nil ?_; refine WK.seq ?_; refine WK.seq ?_; refine WK.region ?_; refine St.load ?_)
  rename_i p hp r hr
  refine St.call (v := .bool true) (fun _ => rfl) (fun h2 hh => by
    have := isCycle_con h2 hh.gd id bg ev _ hs (hv.vw hh).itV
    rw [hok] at this
    exact this) ?_
  (refine St.un ?_; refine WO.nil ?_; refine WK.condF ?_; refine WK.skip ?_; refine WK.seq ?_; refine WK.regionD ?_; refine St.fieldAddr ?_; refine St.load ?_)
  refine St.at ?_
  refine St.loadX (fun h hh => ((hk.vw hh).at_ (z := 0) (n := 0) (by omega) k1).one rfl) ?_
  (refine St.fieldAddr ?_; refine St.load ?_)
  refine St.sliceV (v := fromV b off c hs.length 1) (fun h3 hh => ?_) ?_
  · show plainV (evSlice Try.prog h3 26 (.slice b off hs.length c) (some (.int .i64 ((1 : Nat) : Int))) none none) h3 = _
    rw [slI_from (hm.vw hh) k1]
    rfl
  skip
  refine St.call (v := .int .i64 (minH hs)) (fun _ => rfl) (fun h2 hh => by
    have := least_con h2 hh.gd (nth hs 0) _ (hs.drop 1) (slI_itF (hk.vw hh) (hm.vw hh) k1) (by rw [List.length_drop]; omega)
    rw [minH_drop k1] at this
    exact this) ?_
  (refine St.assign ?_; refine WO.nil ?_; refine WK.seq ?_; refine WK.region ?_; refine St.fieldAddr ?_; refine St.load ?_)
  refine St.call1 (v := fun j => .slice j 0 hs.length (.m 0)) (ob := fun _ => .row (hs.map (AV.int .i64)) 3 1) (fun _ => rfl) (fun h2 hh => clone_con h2 hh.gd b off c hs (hk.vw hh) (by omega) (by omega)) (fun j hj => ?_)
  (refine St.fieldAddr ?_; refine St.store2 ?_; refine WO.nil ?_; refine WK.seq ?_; refine WK.seq ?_; refine WK.region ?_; refine St.fieldAddr ?_; refine St.load ?_; refine St.len ?_; refine St.move ?_; refine WO.nil ?_; refine WK.block ?_)
  have hl0 : ((lessH hs (minH hs) 0).map (AV.int .i64)) = hs.map (AV.int .i64) := by rw [lessH_zero]
  refine WK.inv (ι := Nat) (fun z => [(1, .ptr p 0), (2, .int .i64 0), (3, .ptr r 0), (4, .int .i64 0), (5, .int .i64 (minH hs)), (25, .int .i64 hs.length), (26, .int .i64 z)]) (fun z => [(j, .row ((lessH hs (minH hs) z).map (AV.int .i64)) 3 1), (r, .cells [.int .i64 0, .int .i64 0, .int .i64 0, .slice0] 28), (p, .cells [.int .i64 id, .int .i64 bg, .int .i64 ev, .slice j 0 hs.length (.m 0)] 28)]) (fun z => z ≤ hs.length) (fun z => hs.length - z) 0 (by omega) ⟨rfl, rfl, rfl, rfl, rfl, rfl, rfl, trivial⟩ (by rw [hl0]; (repeat (first | exact List.Sublist.refl _ | exact List.nil_sublist _ | apply List.Sublist.cons_cons | apply List.Sublist.cons))) ?_
  intro z hz ih
  (refine WK.seq ?_; refine WK.region ?_; refine St.bin ?_; refine WO.nil ?_; refine WK.seq ?_)
  refine St.splitC (fun hc => ?_) (fun hc => ?_)
  · have hlt : z < hs.length := by simp at hc; omega
    have hb := kb z
    have hlen := lessH_len hs (minH hs) hz
    have hst : ∀ off, off = z → (AObj.row ((lessH hs (minH hs) z).map (AV.int .i64)) 3 1).store Try.prog 3 off (.int .i64 (nth hs z - minH hs)) = some (.row ((lessH hs (minH hs) (z + 1)).map (AV.int .i64)) 3 1) := by
      rintro _ rfl
      rw [store_row (by rfl) rfl rfl (by simp [hlen]; omega), ← lessH_set hlt, List.map_set]
    (refine WK.skip ?_; refine WK.seq ?_; refine WK.block ?_; refine WK.seq ?_; refine WK.region ?_; refine St.move ?_; refine St.assign ?_; refine WO.nil ?_; refine WK.region ?_; refine St.fieldAddr ?_; refine St.load ?_; refine St.move ?_)
    refine St.at ?_
    refine St.loadX (fun h hh => by
      have := (hh.ins (xs := lessH hs (minH hs) z) (j := j) (o := .row ((lessH hs (minH hs) z).map (AV.int .i64)) 3 1) (by simp) (AObj.has_row _ _ _)).at_ (z := (z : Int)) (n := z) (by omega) (by omega)
      rw [lessH_at hlt] at this
      exact this.one rfl) ?_
    (refine St.move ?_; refine St.binI ?_)
    refine St.at ?_
    skip
    refine St.store0 (hv := hst _ (by show 0 + z * 1 = z; omega)) ?_
    (refine WO.nil ?_; refine WK.blk ?_; refine WK.region ?_; refine St.binI ?_; refine St.move ?_; refine WO.nil ?_)
    refine WK.le ?_ (by (repeat (first | exact List.Sublist.refl _ | exact List.nil_sublist _ | apply List.Sublist.cons_cons | apply List.Sublist.cons))) (ih (z + 1) hlt (by omega))
    exact ⟨rfl, rfl, rfl, rfl, rfl, rfl, rfl, trivial⟩
  · have : z = hs.length := by simp at hc; omega
    subst this
    have hma := max_any (hs := hs) (by omega)
    clear ih
    (refine WK.exit ?_; refine WK.seq ?_; refine WK.seq ?_; refine WK.region ?_; refine St.fieldAddr ?_; refine St.load ?_)
    refine St.call (fun _ => rfl) (fun h2 hh => maxOf_con h2 hh.gd _ (hs.map (· - minH hs)) (.inr ⟨j, 0, .m 0, by rw [List.length_map], by
      have := hh.ins (xs := lessH hs (minH hs) hs.length) (j := j) (o := .row ((lessH hs (minH hs) hs.length).map (AV.int .i64)) 3 1) (by simp) (AObj.has_row _ _ _)
      rw [lessH_all] at this
      exact this⟩) (by simp; omega) (by simp; omega)) ?_
    (refine St.bin ?_; refine WO.nil ?_)
    refine St.splitC (fun hc2 => ?_) (fun hc2 => ?_)
    · have hA : apartB hs = true := hma.1 (by simpa using hc2)
      (refine WK.seq ?_; refine WK.region ?_; refine St.build ?_; refine St.assign ?_; refine St.store1 ?_; refine St.assign ?_; refine WO.nil ?_)
      refine St.ret (by first | exact .tmp .nil | exact .cell .nil | exact .cell (.tmp .nil) | exact .tmp (.tmp .nil) | exact .cell (.cell .nil) | exact .tmp (.cell .nil) | exact .nil | exact .tmp (.cell (.tmp .nil)) | exact .cell (.tmp (.tmp .nil)) | exact .cell (.cell (.tmp .nil)) | exact .tmp (.tmp (.tmp .nil)) | exact .cell (.cell (.cell .nil))) ?_
      rw [if_pos hA]
      exact ⟨[], List.nil_sublist _, .slice0, .inl ⟨rfl, rfl, rfl⟩, rfl⟩
    · have hA : ¬ apartB hs = true := fun q => by
        have := hma.2 q
        simp at hc2
        omega
      (refine WK.skip ?_; refine WK.seq ?_; refine WK.regionD ?_; refine St.move ?_; refine St.load ?_; refine St.assign ?_; refine StD.store1 ?_; refine St.assign ?_; refine WO.nil ?_)
      refine St.ret (by first | exact .tmp .nil | exact .cell .nil | exact .cell (.tmp .nil) | exact .tmp (.tmp .nil) | exact .cell (.cell .nil) | exact .tmp (.cell .nil) | exact .nil | exact .tmp (.cell (.tmp .nil)) | exact .cell (.tmp (.tmp .nil)) | exact .cell (.cell (.tmp .nil)) | exact .tmp (.tmp (.tmp .nil)) | exact .cell (.cell (.cell .nil))) ?_
      rw [if_neg hA]
      refine ⟨[(j, .row ((lessH hs (minH hs) hs.length).map (AV.int .i64)) 3 1)], by (repeat (first | exact List.Sublist.refl _ | exact List.nil_sublist _ | apply List.Sublist.cons_cons | apply List.Sublist.cons)), .slice j 0 hs.length (.m 0), .inr ⟨j, .m 0, _, by simp, rfl, ?_⟩, rfl⟩
      rw [lessH_all]
      exact AObj.has_row _ _ _
end Go.Proofs.Ytekpffjcffeanaa
