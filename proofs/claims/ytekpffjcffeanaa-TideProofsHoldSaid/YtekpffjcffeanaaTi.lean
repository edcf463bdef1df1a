/- The reference's Apart over the calculator's memory. -/
import Derived.Test.YtekpffjcffeanaaTm
namespace Go.Proofs.Ytekpffjcffeanaa
open Go.Proofs.Ytekpffjcffeanaa.Ev

theorem apart_yes {hs : List Int} {k : Nat} (hk : k < hs.length) (h : 4000 < nth hs k - minH hs) : apartB hs = true := by
  unfold apartB
  rw [List.any_eq_true]
  exact ⟨hs[k], List.getElem_mem hk, by rw [← nth_eq hk]; simpa using h⟩
theorem apart_no {hs : List Int} (h : ∀ i, i < hs.length → nth hs i - minH hs ≤ 4000) : ¬ apartB hs = true := by
  unfold apartB
  rw [List.any_eq_true]
  rintro ⟨x, hx, q⟩
  have := all_mem (p := fun x => x - minH hs ≤ 4000) h x hx
  simp at q
  omega
def apTo (hs : List Int) (k : Nat) : List Int := (hs.take k).map (· - minH hs)
theorem apTo_len {hs : List Int} {k : Nat} (h : k ≤ hs.length) : (apTo hs k).length = k := by simp [apTo]; omega
theorem apTo_succ {hs : List Int} {k : Nat} (h : k < hs.length) : apTo hs (k + 1) = apTo hs k ++ [nth hs k - minH hs] := by
  unfold apTo
  rw [List.take_succ_eq_append_getElem h, List.map_append, nth_eq h]
  rfl
set_option maxRecDepth 100000 in
set_option maxHeartbeats 8000000 in
theorem rapart_con (h : Heap) (g : Gd h) (id bg ev : Int) (v : AV) (hs : List Int) (hv : ItV h v hs) (hl : hs.length ≤ 1000) :
    ∃ w L, Con Try.prog Bs 57 [.agg [.int .i64 id, .int .i64 bg, .int .i64 ev, v]] h [] w L ∧ ApOut (apartR ⟨id, bg, ev, hs⟩) w L := by
  by_cases hok : cyOk ⟨id, bg, ev, hs⟩ = true
  rotate_left
  · have e : apartR ⟨id, bg, ev, hs⟩ = (0, noC, 1) := if_neg hok
    have hno : cyOk ⟨id, bg, ev, hs⟩ = false := by simpa using hok
    rw [e]
    refine Con.subR (Con.startR rfl Try.func57 rfl rfl Try.ntmps57 rfl rfl (SS.init g) ?_)
    (refine WK.seq ?_; refine WK.region ?_; refine St.box fun _ _ => ?_; refine St.assign ?_; refine St.alloc fun _ _ => ?_; refine St.assign ?_; refine WO.nil ?_; refine WK.seq ?_; refine WK.region ?_; refine St.load ?_)
    refine St.call (v := .bool false) (fun _ => rfl) (fun h2 hh => by
      have := right_con h2 hh.gd id bg ev v hs (hv.vw hh)
      rw [hno] at this
      exact this) ?_
    (refine St.assign ?_; refine WO.nil ?_; refine WK.seq ?_; refine WK.seq ?_; refine WK.region ?_; refine St.move ?_; refine St.un ?_; refine WO.nil ?_; refine WK.condT ?_; refine WK.seq ?_; refine WK.region ?_; refine St.build ?_; refine St.assign ?_; refine St.store0 ?_; refine St.assign ?_; refine WO.nil ?_)
    refine St.ret (by first | exact .tmp .nil | exact .cell .nil | exact .cell (.tmp .nil) | exact .tmp (.tmp .nil) | exact .cell (.cell .nil) | exact .tmp (.cell .nil) | exact .nil | exact .tmp (.cell (.tmp .nil)) | exact .cell (.tmp (.tmp .nil)) | exact .cell (.cell (.tmp .nil)) | exact .tmp (.tmp (.tmp .nil)) | exact .cell (.cell (.cell .nil))) ?_
    exact ⟨[], List.nil_sublist _, .slice0, .inl ⟨rfl, rfl, rfl⟩, rfl⟩
  have k := cyOk_iff.1 hok
  have k1 := k.n1
  have k2 := k.n2
  have km := k.min
  have kb := fun i => k.at_ i
  simp only at k1 k2 km kb
  have e : apartR ⟨id, bg, ev, hs⟩ = if apartB hs = true then (0, noC, 3) else (minH hs, ⟨id, bg, ev, hs.map (· - minH hs)⟩, 0) := if_pos hok
  rw [e]
  obtain ⟨b, off, m, rfl, hk⟩ := hv.ne k1
  refine Con.subR (Con.startR rfl Try.func57 rfl rfl Try.ntmps57 rfl rfl (SS.init g) ?_)
  (refine WK.seq ?_; refine WK.region ?_; refine St.box fun _ _ => ?_; refine St.assign ?_; refine St.alloc fun _ _ => ?_; refine St.assign ?_; refine WO.nil ?_; refine WK.seq ?_; refine WK.region ?_; refine St.load ?_)
  rename_i p hp r hr
  refine St.call (v := .bool true) (fun _ => rfl) (fun h2 hh => by
    have := right_con h2 hh.gd id bg ev _ hs (hv.vw hh)
    rw [hok] at this
    exact this) ?_
  (refine St.assign ?_; refine WO.nil ?_; refine WK.seq ?_; refine WK.seq ?_; refine WK.region ?_; refine St.move ?_; refine St.un ?_; refine WO.nil ?_; refine WK.condF ?_; refine WK.skip ?_; refine WK.seq ?_; refine WK.region ?_; refine St.fieldAddr ?_; refine St.load ?_)
  refine St.at ?_
  refine St.loadX (fun h hh => ((hk.vw hh).at_ (z := 0) (n := 0) (by omega) k1).one rfl) ?_
  (refine St.assign ?_; refine WO.nil ?_; refine WK.seq ?_; refine WK.seq ?_; refine WK.region ?_; refine St.assign ?_; refine WO.nil ?_; refine WK.block ?_)
  refine WK.inv (ι := Nat) (fun z => [(1, .ptr p 0), (2, .int .i64 0), (3, .ptr r 0), (4, .int .i64 0), (6, .int .i64 ((hs.take z).foldl min (nth hs 0))), (7, .int .i64 z)]) (fun _ => [(r, .cells [.int .i64 0, .int .i64 0, .int .i64 0, .slice0] 28), (p, .cells [.int .i64 id, .int .i64 bg, .int .i64 ev, .slice b off hs.length m] 28)]) (fun z => z ≤ hs.length) (fun z => hs.length - z) 0 (by omega) ⟨rfl, rfl, rfl, rfl, rfl, rfl, trivial⟩ (by (repeat (first | exact List.Sublist.refl _ | exact List.nil_sublist _ | apply List.Sublist.cons_cons | apply List.Sublist.cons))) ?_
  intro z hz ih
  (refine WK.seq ?_; refine WK.seq ?_; refine WK.region ?_; refine St.move ?_; refine St.fieldAddr ?_; refine St.load ?_; refine St.len ?_; refine St.bin ?_; refine WO.nil ?_)
  refine St.splitC (fun hc => ?_) (fun hc => ?_)
  · have hlt : z < hs.length := by simp at hc; omega
    have hstep := foldl_take min (nth hs 0) hlt
    (refine WK.skip ?_; refine WK.seq ?_; refine WK.block ?_; refine WK.region ?_; refine St.move ?_; refine St.fieldAddr ?_; refine St.load ?_; refine St.move ?_)
    refine St.at ?_
    refine St.loadX (fun h hh => ((hk.vw hh).at_ (z := (z : Int)) (n := z) (by omega) hlt).one rfl) ?_
    (refine St.minI ?_; refine St.assign ?_; refine WO.nil ?_; refine WK.blk ?_; refine WK.region ?_; refine St.move ?_; refine St.binI ?_; refine St.assign ?_; refine WO.nil ?_)
    refine WK.le ?_ (by (repeat (first | exact List.Sublist.refl _ | exact List.nil_sublist _ | apply List.Sublist.cons_cons | apply List.Sublist.cons))) (ih (z + 1) hlt (by omega))
    exact ⟨rfl, rfl, rfl, rfl, congrArg (fun z => some (AV.int .i64 z)) hstep.symm, rfl, trivial⟩
  · have : z = hs.length := by simp at hc; omega
    subst this
    rw [List.take_length]
    have hmin : hs.foldl min (nth hs 0) = minH hs := rfl
    rw [hmin]
    clear ih
    (refine WK.exit ?_; refine WK.seq ?_; refine WK.region ?_; refine St.fieldAddr ?_; refine St.load ?_; refine St.fieldAddr ?_; refine St.load ?_; refine St.fieldAddr ?_; refine St.load ?_; refine St.build ?_; refine St.alloc fun _ _ => ?_; refine St.store0 ?_; refine WO.nil ?_; refine WK.seq ?_; refine WK.seq ?_; refine WK.region ?_; refine St.assign ?_; refine WO.nil ?_; refine WK.block ?_)
    rename_i c hc
    refine WK.inv (ι := Nat × AV × Ob) (fun z => [(1, .ptr p 0), (2, .int .i64 0), (3, .ptr r 0), (4, .int .i64 0), (6, .int .i64 (minH hs)), (8, .ptr c 0), (9, .int .i64 z.1)]) (fun z => [(c, .cells [.int .i64 id, .int .i64 bg, .int .i64 ev, z.2.1] 28), (r, .cells [.int .i64 0, .int .i64 0, .int .i64 0, .slice0] 28), (p, .cells [.int .i64 id, .int .i64 bg, .int .i64 ev, .slice b off hs.length m] 28)] ++ z.2.2) (fun z => z.1 ≤ hs.length ∧ (∀ i, i < z.1 → nth hs i - minH hs ≤ 4000) ∧ IsR 3 1 z.1 ((apTo hs z.1).map (AV.int .i64)) z.2.1 z.2.2) (fun z => hs.length - z.1) (0, .slice0, []) ⟨by omega, fun i hi => absurd hi (by simp), .nil rfl rfl⟩ ⟨rfl, rfl, rfl, rfl, rfl, rfl, rfl, trivial⟩ (by (repeat (first | exact List.Sublist.refl _ | exact List.nil_sublist _ | apply List.Sublist.cons_cons | apply List.Sublist.cons))) ?_
    rintro ⟨z, w, Lw⟩ ⟨hzl, hin, hw⟩ ih
    simp only at hzl hin hw ih ⊢
    (refine WK.seq ?_; refine WK.seq ?_; refine WK.region ?_; refine St.move ?_; refine St.fieldAddr ?_; refine St.load ?_; refine St.len ?_; refine St.bin ?_; refine WO.nil ?_)
    refine St.splitC (fun hc2 => ?_) (fun hc2 => ?_)
    · have hlt : z < hs.length := by simp at hc2; omega
      have hb := kb z
      (refine WK.skip ?_; refine WK.seq ?_; refine WK.block ?_; refine WK.seq ?_; refine WK.seq ?_; refine WK.region ?_; refine St.fieldAddr ?_; refine St.load ?_; refine St.move ?_)
      refine St.at ?_
      refine St.loadX (fun h hh => ((hk.vw hh).at_ (z := (z : Int)) (n := z) (by omega) hlt).one rfl) ?_
      (refine St.move ?_; refine St.binI ?_; refine St.bin ?_; refine WO.nil ?_)
      refine St.splitC (fun hc3 => ?_) (fun hc3 => ?_)
      · have hA : apartB hs = true := apart_yes hlt (by simpa using hc3)
        (refine WK.seq ?_; refine WK.region ?_; refine St.build ?_; refine St.assign ?_; refine St.store1 ?_; refine St.assign ?_; refine WO.nil ?_)
        refine St.ret (by first | exact .tmp .nil | exact .cell .nil | exact .cell (.tmp .nil) | exact .tmp (.tmp .nil) | exact .cell (.cell .nil) | exact .tmp (.cell .nil) | exact .nil | exact .tmp (.cell (.tmp .nil)) | exact .cell (.tmp (.tmp .nil)) | exact .cell (.cell (.tmp .nil)) | exact .tmp (.tmp (.tmp .nil)) | exact .cell (.cell (.cell .nil))) ?_
        rw [if_pos hA]
        exact ⟨[], List.nil_sublist _, .slice0, .inl ⟨rfl, rfl, rfl⟩, rfl⟩
      · have hle : nth hs z - minH hs ≤ 4000 := by simpa using hc3
        (refine WK.skip ?_; refine WK.regionD ?_; refine St.fieldAddr ?_; refine St.load ?_; refine St.fieldAddr ?_; refine St.load ?_; refine St.move ?_)
        refine St.at ?_
        refine St.loadX (fun h hh => ((hk.vw hh).at_ (z := (z : Int)) (n := z) (by omega) hlt).one rfl) ?_
        (refine St.move ?_; refine St.binI ?_; refine StD.mkS fun _ _ => ?_)
        refine StD.appL (new := [.int .i64 (nth hs z - minH hs)]) (Lk := [(c, .cells [.int .i64 id, .int .i64 bg, .int .i64 ev, w] 28), (r, .cells [.int .i64 0, .int .i64 0, .int .i64 0, .slice0] 28), (p, .cells [.int .i64 id, .int .i64 bg, .int .i64 ev, .slice b off hs.length m] 28)]) hw List.perm_append_comm (fun j' hj' => ?_) ⟨rfl, rfl, rfl, rfl, rfl, rfl, rfl, rfl, rfl, rfl, rfl, rfl⟩ (List.Mem.head _) rfl (by omega) (by omega)
        (refine St.fieldAddr ?_; refine StD.store0 ?_; refine WO.nil2 ?_; refine WK.blk ?_; refine WK.region ?_; refine St.move ?_; refine St.binI ?_; refine St.assign ?_; refine WO.nil ?_)
        rename_i x hx
        have e3 : (apTo hs (z + 1)).map (AV.int .i64) = (apTo hs z).map (AV.int .i64) ++ [.int .i64 (nth hs z - minH hs)] := by rw [apTo_succ hlt, List.map_append]; rfl
        refine WK.perm (L' := [(x, .cells [.int .i64 (nth hs z - minH hs)] 3), (c, .cells [.int .i64 id, .int .i64 bg, .int .i64 ev, .slice j' 0 (z + 1) (.m 0)] 28), (r, .cells [.int .i64 0, .int .i64 0, .int .i64 0, .slice0] 28), (p, .cells [.int .i64 id, .int .i64 bg, .int .i64 ev, .slice b off hs.length m] 28), (j', .row ((apTo hs z).map (AV.int .i64) ++ [.int .i64 (nth hs z - minH hs)]) 3 1)]) (by (repeat (first | exact List.Perm.refl _ | refine perm_at 0 rfl ?_ | refine perm_at 1 rfl ?_ | refine perm_at 2 rfl ?_ | refine perm_at 3 rfl ?_ | refine perm_at 4 rfl ?_ | refine perm_at 5 rfl ?_ | refine perm_at 6 rfl ?_ | refine perm_at 7 rfl ?_ | refine perm_at 8 rfl ?_ | refine perm_at 9 rfl ?_))) ?_
        refine WK.le ?_ (by (repeat (first | exact List.Sublist.refl _ | exact List.nil_sublist _ | apply List.Sublist.cons_cons | apply List.Sublist.cons))) (ih (z + 1, .slice j' 0 (z + 1) (.m 0), [(j', .row ((apTo hs z).map (AV.int .i64) ++ [.int .i64 (nth hs z - minH hs)]) 3 1)]) ⟨hlt, fun i hi => ?_, ?_⟩ (by simp only; omega))
        · exact ⟨rfl, rfl, rfl, rfl, rfl, rfl, rfl, trivial⟩
        · rcases Nat.lt_succ_iff_lt_or_eq.1 hi with h1 | rfl
          · exact hin i h1
          · exact hle
        · simp only
          rw [e3]
          exact .row j' (by rw [← e3, List.length_map, apTo_len hlt, Nat.mul_one])
    · have : z = hs.length := by simp at hc2; omega
      subst this
      have hA := apart_no hin
      have hst := isl_ok hw.isL
      (refine WK.exit ?_; refine WK.seq ?_; refine WK.regionD ?_; refine St.move ?_; refine St.load ?_; refine St.assign ?_)
      refine StD.store1 (hv := store_cy rfl hst.1 rfl) ?_
      (refine St.assign ?_; refine WO.nil ?_)
      refine St.ret (by first | exact .tmp .nil | exact .cell .nil | exact .cell (.tmp .nil) | exact .tmp (.tmp .nil) | exact .cell (.cell .nil) | exact .tmp (.cell .nil) | exact .nil | exact .tmp (.cell (.tmp .nil)) | exact .cell (.tmp (.tmp .nil)) | exact .cell (.cell (.tmp .nil)) | exact .tmp (.tmp (.tmp .nil)) | exact .cell (.cell (.cell .nil))) ?_
      rw [if_neg hA]
      refine ⟨Lw, ?_, w, isl_is (xs := hs.map (· - minH hs)) (n := hs.length) ?_ (by simp), rfl⟩
      · exact List.sublist_append_right [(c, .cells [.int .i64 id, .int .i64 bg, .int .i64 ev, w] 28), (r, .cells [.int .i64 id, .int .i64 bg, .int .i64 ev, w] 28), (p, .cells [.int .i64 id, .int .i64 bg, .int .i64 ev, .slice b off hs.length m] 28)] Lw
      · have e9 : apTo hs hs.length = hs.map (· - minH hs) := by simp [apTo]
        rw [← e9]
        exact hw.isL
end Go.Proofs.Ytekpffjcffeanaa
