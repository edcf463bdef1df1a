/- Shortest, the program's and the reference's, over the calculator's memory. -/
import Derived.Test.YtekpffjcffeanaaTd
namespace Go.Proofs.Ytekpffjcffeanaa
open Go.Proofs.Ytekpffjcffeanaa.Ev

/-- a list of ints, nil or the call's own -/
def IsIs (xs : List Int) (v : AV) (L : Ob) : Prop := (v = .slice0 ∧ L = [] ∧ xs = []) ∨ ∃ i c o, v = .slice i 0 xs.length c ∧ L = [(i, o)] ∧ o.has (xs.map (AV.int .i64))
theorem IsIs.itV {h0 h : Heap} {W : List Nat} {V L : Ob} {xs : List Int} {v : AV} (k : IsIs xs v L) (hh : Vw h0 W V h) (hs : L.Sublist V) : ItV h v xs := by
  rcases k with ⟨rfl, rfl, rfl⟩ | ⟨i, c, o, rfl, rfl, ho⟩
  · exact .inl ⟨.inl rfl, rfl⟩
  · have hm : (i, o) ∈ V := hs.subset (List.mem_singleton.2 rfl)
    exact .inr ⟨i, 0, c, rfl, hh.ins hm ho⟩
theorem IsIs.ok {xs : List Int} {v : AV} {L : Ob} (k : IsIs xs v L) : okCell v = true := by
  rcases k with ⟨rfl, _⟩ | ⟨i, c, o, rfl, _⟩ <;> rfl
def CyOut (r : Cy × Int) (v : AV) (L : Ob) : Prop := ∃ hv, IsIs r.1.hs hv L ∧ v = .tup [.agg [.int .i64 r.1.id, .int .i64 r.1.bg, .int .i64 r.1.ev, hv], .int .i64 r.2]
def CyRef (r : Cy × Int) (v : AV) (L : Ob) : Prop := ∃ hv, IsIs r.1.hs hv L ∧ v = .agg [.int .i64 r.1.id, .int .i64 r.1.bg, .int .i64 r.1.ev, hv, .int .i64 r.2]
set_option maxRecDepth 100000 in
theorem clone_con (h : Heap) (g : Gd h) (b off : Nat) (c : ACap) (xs : List Int) (hk : InH h b off xs) (hp : 0 < xs.length) (hl : xs.length ≤ 1000000) : ∃ j, Con Try.prog Bs 77 [.slice b off xs.length c] h [] (.slice j 0 xs.length (.m 0)) [(j, .row (xs.map (AV.int .i64)) 3 1)] := by
  have key : ∃ v L, Con Try.prog Bs 77 [.slice b off xs.length c] h [] v L ∧ ∃ j, v = .slice j 0 xs.length (.m 0) ∧ L = [(j, .row (xs.map (AV.int .i64)) 3 1)] := by
    refine Con.startR rfl Try.func77 rfl rfl Try.ntmps77 rfl rfl (SS.init g) ?_
    (refine WK.seq ?_; refine WK.region ?_; refine St.assign ?_; refine WO.nil ?_; refine WK.seq ?_; refine WK.seq ?_; refine WK.region ?_; refine St.move ?_; refine St.bin ?_; refine WO.nil ?_; refine WK.condF ?_; refine WK.skip ?_; refine WK.seq ?_; refine WK.region ?_; refine St.mkS fun _ _ => ?_; refine St.move ?_)
    rename_i i hi
    refine St.appC (sz := 1) (n := xs.length) (new := xs.map (AV.int .i64)) (fun j hj => ?_) ⟨rfl, rfl, rfl, rfl, rfl, rfl, rfl, rfl, rfl, Nat.ble_eq_true_of_le hl, by simp, ints_ok _⟩ (List.Mem.head _) (fun h2 hh => (hk.vw hh).loadN hp) hp hl
    (refine St.assign ?_; refine WO.nil ?_)
    refine WK.le (s' := [(2, .slice j 0 xs.length (.m 0))]) (L' := [(j, .row (xs.map (AV.int .i64)) 3 1)]) ⟨rfl, trivial⟩ (by (repeat (first | exact List.Sublist.refl _ | exact List.nil_sublist _ | apply List.Sublist.cons_cons | apply List.Sublist.cons))) ?_
    refine St.ret (by first | exact .tmp .nil | exact .cell .nil | exact .cell (.tmp .nil) | exact .tmp (.tmp .nil) | exact .cell (.cell .nil) | exact .tmp (.cell .nil) | exact .nil | exact .tmp (.cell (.tmp .nil)) | exact .cell (.tmp (.tmp .nil)) | exact .cell (.cell (.tmp .nil)) | exact .tmp (.tmp (.tmp .nil)) | exact .cell (.cell (.cell .nil))) ?_
    exact ⟨j, rfl, rfl⟩
  obtain ⟨v, L, hc, j, rfl, rfl⟩ := key
  exact ⟨j, hc⟩
set_option maxRecDepth 100000 in
set_option maxHeartbeats 4000000 in
theorem repeats_con (h : Heap) (g : Gd h) (b off : Nat) (c : ACap) (xs : List Int) (k : Nat) (hk : InH h b off xs) (hm : CapQ h b off c xs.length) (h1 : 1 ≤ k) (h2 : k ≤ xs.length) (h3 : xs.length ≤ 1000) :
    Con Try.prog Bs 76 [.slice b off xs.length c, .int .i64 k] h [] (.bool (repB xs k)) [] := by
  have hmod : ((xs.length : Int).tmod (k : Int)) = ((xs.length % k : Nat) : Int) := by rw [Int.tmod_eq_emod_of_nonneg (by omega)]; rfl
  refine Con.start rfl Try.func76 rfl rfl Try.ntmps76 rfl rfl g ?_
  (refine WK.seq ?_; refine WK.region ?_; refine St.assign ?_; refine WO.nil ?_; refine WK.seq ?_; refine WK.regionD ?_; refine St.move ?_; refine St.len ?_; refine St.move ?_)
  refine St.binX (r := .int .i64 ((xs.length % k : Nat) : Int)) ?_ rfl rfl ?_
  · unfold evBin evInt; simp [hmod]; omega
  (refine St.bin ?_; refine St.move ?_)
  refine St.split (fun hc => ?_) (fun hc => ?_)
  · have hz : xs.length % k = 0 := by simp at hc; omega
    (refine St.move ?_; refine St.move ?_)
    refine St.sliceV (v := fromV b off c xs.length k) (fun h3 hh => ?_) ?_
    · show plainV (evSlice Try.prog h3 26 (.slice b off xs.length c) (some (.int .i64 k)) none none) h3 = _
      rw [slI_from (hm.vw hh) h2]
      rfl
    (refine St.move ?_; refine St.move ?_; refine St.len ?_; refine St.move ?_; refine St.binI ?_)
    refine St.sliceV (v := .slice b off (xs.length - k) c) (fun h3 hh => ?_) ?_
    · show plainV (evSlice Try.prog h3 26 (.slice b off xs.length c) none (some (.int .i64 ((xs.length : Int) - k))) none) h3 = _
      rw [show ((xs.length : Int) - k) = ((xs.length - k : Nat) : Int) by omega, slI_to (hm.vw hh) (by omega)]
      rfl
    skip
    refine St.call (fun _ => rfl) (fun h3 hh => equal_con h3 hh.gd _ _ (xs.drop k) (xs.take (xs.length - k)) (slI_itF (hk.vw hh) (hm.vw hh) h2) (slI_itT (hk.vw hh) (by omega)) (by rw [List.length_drop]; omega)) ?_
    (refine St.pickT ?_; refine St.assign ?_; refine WO.nil ?_)
    refine St.ret (by first | exact .tmp .nil | exact .cell .nil | exact .cell (.tmp .nil) | exact .tmp (.tmp .nil) | exact .cell (.cell .nil) | exact .tmp (.cell .nil) | exact .nil | exact .tmp (.cell (.tmp .nil)) | exact .cell (.tmp (.tmp .nil)) | exact .cell (.cell (.tmp .nil)) | exact .tmp (.tmp (.tmp .nil)) | exact .cell (.cell (.cell .nil))) ?_
    simp [oneOf, repB, hz]
  · have hz : ¬ xs.length % k = 0 := by simp at hc; omega
    (refine St.skip ?_; refine St.skip ?_; refine St.skip ?_; refine St.skip ?_; refine St.skip ?_; refine St.skip ?_; refine St.skip ?_; refine St.skip ?_; refine St.skip ?_; refine St.skip ?_; refine St.pickF ?_; refine St.assign ?_; refine WO.nil ?_)
    refine St.ret (by first | exact .tmp .nil | exact .cell .nil | exact .cell (.tmp .nil) | exact .tmp (.tmp .nil) | exact .cell (.cell .nil) | exact .tmp (.cell .nil) | exact .nil | exact .tmp (.cell (.tmp .nil)) | exact .cell (.tmp (.tmp .nil)) | exact .cell (.cell (.tmp .nil)) | exact .tmp (.tmp (.tmp .nil)) | exact .cell (.cell (.cell .nil))) ?_
    simp [oneOf, repB, hz]
set_option maxRecDepth 100000 in
set_option maxHeartbeats 4000000 in
theorem shortest_ok (h : Heap) (g : Gd h) (id bg ev : Int) (v : AV) (hs : List Int) (hv : ItA h v hs) (hl : hs.length ≤ 1000) (hok : cyOk ⟨id, bg, ev, hs⟩ = true) :
    ∃ w L, Con Try.prog Bs 31 [.agg [.int .i64 id, .int .i64 bg, .int .i64 ev, v]] h [] w L ∧ ∃ j, w = .tup [.agg [.int .i64 id, .int .i64 bg, .int .i64 ev, .slice j 0 (perK hs) (.m 0)], .int .i64 0] ∧ L = [(j, .row ((hs.take (perK hs)).map (AV.int .i64)) 3 1)] ∧ h.next ≤ j := by
  have k := cyOk_iff.1 hok
  have k1 := k.n1
  simp only at k1
  obtain ⟨b, off, c, rfl, hm, hk⟩ := hv.ne k1
  refine Con.subR (Con.startR rfl Try.func31 rfl rfl Try.ntmps31 rfl rfl (SS.init g) ?_)
  (refine WK.seq ?_; refine WK.region ?_; refine St.box fun _ _ => ?_; refine St.alloc fun _ _ => ?_; refine St.assign ?_; refine WO.nil ?_; refine WK.seq ?_; refine WK.seq ?_; refine WK.region ?_; refine St.load ?_)
  rename_i p hp r hr
  refine St.call (v := .bool true) (fun _ => rfl) (fun h2 hh => by
    have := isCycle_con h2 hh.gd id bg ev _ hs (hv.vw hh).itV
    rw [hok] at this
    exact this) ?_
  (refine St.un ?_; refine WO.nil ?_; refine WK.condF ?_; refine WK.skip ?_; refine WK.seq ?_; refine WK.region ?_; refine St.assign ?_; refine WO.nil ?_; refine WK.seq ?_; refine WK.block ?_)
  refine WK.inv (ι := Nat) (fun z => [(1, .ptr p 0), (2, .ptr r 0), (3, .int .i64 0), (4, .int .i64 z)]) (fun _ => [(r, .cells [.int .i64 0, .int .i64 0, .int .i64 0, .slice0] 28), (p, .cells [.int .i64 id, .int .i64 bg, .int .i64 ev, .slice b off hs.length c] 28)]) (fun z => 1 ≤ z ∧ z ≤ hs.length ∧ ∀ j, 1 ≤ j → j < z → repB hs j = false) (fun z => hs.length - z) 1 ⟨by omega, k1, fun j h1 h2 => absurd h1 (by omega)⟩ ⟨rfl, rfl, rfl, rfl, trivial⟩ (by (repeat (first | exact List.Sublist.refl _ | exact List.nil_sublist _ | apply List.Sublist.cons_cons | apply List.Sublist.cons))) ?_
  rintro z ⟨hz1, hz2, hno⟩ ih
  (refine WK.seq ?_; refine WK.seq ?_; refine WK.region ?_; refine St.fieldAddr ?_; refine St.load ?_; refine St.move ?_)
  refine St.call (fun _ => rfl) (fun h2 hh => repeats_con h2 hh.gd b off c hs z (hk.vw hh) (hm.vw hh) hz1 hz2 hl) ?_
  (refine St.un ?_; refine WO.nil ?_)
  refine St.splitC (fun hc => ?_) (fun hc => ?_)
  · have hf : repB hs z = false := by simpa using hc
    have hz3 : z ≠ hs.length := fun e => by rw [e, repB_all k1] at hf; cases hf
    (refine WK.skip ?_; refine WK.block ?_; refine WK.region ?_; refine St.move ?_; refine St.binI ?_; refine St.assign ?_; refine WO.nil ?_; refine WK.blk ?_)
    refine WK.le ?_ (by (repeat (first | exact List.Sublist.refl _ | exact List.nil_sublist _ | apply List.Sublist.cons_cons | apply List.Sublist.cons))) (ih (z + 1) ⟨by omega, by omega, fun j h1 h2 => ?_⟩ (by omega))
    · exact ⟨rfl, rfl, rfl, rfl, trivial⟩
    · rcases Nat.lt_succ_iff_lt_or_eq.1 h2 with h3 | rfl
      · exact hno j h1 h3
      · exact hf
  · have ht : repB hs z = true := by simpa using hc
    have hper := perK_eq hz1 hz2 ht hno
    have htl : (hs.take z).length = z := by rw [List.length_take]; omega
    clear ih
    (refine WK.exit ?_; refine WK.seq ?_; refine WK.region ?_; refine St.fieldAddr ?_; refine St.load ?_; refine St.move ?_)
    refine St.sliceV (v := .slice b off z c) (fun h3 hh => ?_) ?_
    · show plainV (evSlice Try.prog h3 26 (.slice b off hs.length c) none (some (.int .i64 z)) none) h3 = _
      rw [slI_to (hm.vw hh) hz2]
      rfl
    skip
    refine St.call1 (v := fun j => .slice j 0 z (.m 0)) (ob := fun _ => .row ((hs.take z).map (AV.int .i64)) 3 1) (fun _ => rfl) (fun h2 hh => by
      have := clone_con h2 hh.gd b off c (hs.take z) ((hk.vw hh).tak) (by omega) (by omega)
      rw [htl] at this
      exact this) (fun j hj => ?_)
    (refine St.fieldAddr ?_; refine St.store2 ?_; refine WO.nil ?_; refine WK.seq ?_; refine WK.region ?_; refine St.load ?_; refine St.store1 ?_; refine St.assign ?_; refine WO.nil ?_)
    refine St.ret (by first | exact .tmp .nil | exact .cell .nil | exact .cell (.tmp .nil) | exact .tmp (.tmp .nil) | exact .cell (.cell .nil) | exact .tmp (.cell .nil) | exact .nil | exact .tmp (.cell (.tmp .nil)) | exact .cell (.tmp (.tmp .nil)) | exact .cell (.cell (.tmp .nil)) | exact .tmp (.tmp (.tmp .nil)) | exact .cell (.cell (.cell .nil))) ?_
    rw [hper]
    exact ⟨[(j, .row ((hs.take z).map (AV.int .i64)) 3 1)], by (repeat (first | exact List.Sublist.refl _ | exact List.nil_sublist _ | apply List.Sublist.cons_cons | apply List.Sublist.cons)), j, rfl, rfl, hj⟩
set_option maxRecDepth 100000 in
set_option maxHeartbeats 4000000 in
theorem shortest_con (h : Heap) (g : Gd h) (id bg ev : Int) (v : AV) (hs : List Int) (hv : ItA h v hs) (hl : hs.length ≤ 1000) :
    ∃ w L, Con Try.prog Bs 31 [.agg [.int .i64 id, .int .i64 bg, .int .i64 ev, v]] h [] w L ∧ CyOut (shortR ⟨id, bg, ev, hs⟩) w L := by
  by_cases hok : cyOk ⟨id, bg, ev, hs⟩ = true
  rotate_left
  · have e : shortR ⟨id, bg, ev, hs⟩ = (noC, 1) := if_neg hok
    have hno : cyOk ⟨id, bg, ev, hs⟩ = false := by simpa using hok
    rw [e]
    refine Con.subR (Con.startR rfl Try.func31 rfl rfl Try.ntmps31 rfl rfl (SS.init g) ?_)
    (refine WK.seq ?_; refine WK.region ?_; refine St.box fun _ _ => ?_; refine St.alloc fun _ _ => ?_; refine St.assign ?_; refine WO.nil ?_; refine WK.seq ?_; refine WK.seq ?_; refine WK.region ?_; refine St.load ?_)
    refine St.call (v := .bool false) (fun _ => rfl) (fun h2 hh => by
      have := isCycle_con h2 hh.gd id bg ev v hs (hv.vw hh).itV
      rw [hno] at this
      exact this) ?_
    (refine St.un ?_; refine WO.nil ?_; refine WK.condT ?_; refine WK.seq ?_; refine WK.region ?_; refine St.build ?_; refine St.store0 ?_; refine St.assign ?_; refine WO.nil ?_)
    refine St.ret (by first | exact .tmp .nil | exact .cell .nil | exact .cell (.tmp .nil) | exact .tmp (.tmp .nil) | exact .cell (.cell .nil) | exact .tmp (.cell .nil) | exact .nil | exact .tmp (.cell (.tmp .nil)) | exact .cell (.tmp (.tmp .nil)) | exact .cell (.cell (.tmp .nil)) | exact .tmp (.tmp (.tmp .nil)) | exact .cell (.cell (.cell .nil))) ?_
    exact ⟨[], List.nil_sublist _, .slice0, .inl ⟨rfl, rfl, rfl⟩, rfl⟩
  have k1 := (cyOk_iff.1 hok).n1
  simp only at k1
  have e : shortR ⟨id, bg, ev, hs⟩ = (⟨id, bg, ev, hs.take (perK hs)⟩, 0) := if_pos hok
  rw [e]
  obtain ⟨w, L, hc, j, rfl, rfl, _⟩ := shortest_ok h g id bg ev v hs hv hl hok
  refine ⟨_, _, hc, .slice j 0 (perK hs) (.m 0), .inr ⟨j, .m 0, _, ?_, rfl, AObj.has_row _ _ _⟩, rfl⟩
  simp only [List.length_take]
  congr 1
  have := (perK_spec k1).2.1
  omega
set_option maxRecDepth 100000 in
set_option maxHeartbeats 8000000 in
theorem rshortest_con (h : Heap) (g : Gd h) (id bg ev : Int) (v : AV) (hs : List Int) (hv : ItA h v hs) (hl : hs.length ≤ 1000) :
    ∃ w L, Con Try.prog Bs 55 [.agg [.int .i64 id, .int .i64 bg, .int .i64 ev, v]] h [] w L ∧ CyRef (shortR ⟨id, bg, ev, hs⟩) w L := by
  by_cases hok : cyOk ⟨id, bg, ev, hs⟩ = true
  rotate_left
  · have e : shortR ⟨id, bg, ev, hs⟩ = (noC, 1) := if_neg hok
    have hno : cyOk ⟨id, bg, ev, hs⟩ = false := by simpa using hok
    rw [e]
    refine Con.subR (Con.startR rfl Try.func55 rfl rfl Try.ntmps55 rfl rfl (SS.init g) ?_)
    (refine WK.seq ?_; refine WK.region ?_; refine St.box fun _ _ => ?_; refine St.alloc fun _ _ => ?_; refine WO.nil ?_; refine WK.seq ?_; refine WK.region ?_; refine St.load ?_)
    refine St.call (v := .bool false) (fun _ => rfl) (fun h2 hh => by
      have := right_con h2 hh.gd id bg ev v hs (hv.vw hh).itV
      rw [hno] at this
      exact this) ?_
    (refine St.assign ?_; refine WO.nil ?_; refine WK.seq ?_; refine WK.seq ?_; refine WK.region ?_; refine St.move ?_; refine St.un ?_; refine WO.nil ?_; refine WK.condT ?_; refine WK.seq ?_; refine WK.region ?_; refine St.build ?_; refine St.store0 ?_; refine WO.nil ?_)
    refine St.ret (by first | exact .tmp .nil | exact .cell .nil | exact .cell (.tmp .nil) | exact .tmp (.tmp .nil) | exact .cell (.cell .nil) | exact .tmp (.cell .nil) | exact .nil | exact .tmp (.cell (.tmp .nil)) | exact .cell (.tmp (.tmp .nil)) | exact .cell (.cell (.tmp .nil)) | exact .tmp (.tmp (.tmp .nil)) | exact .cell (.cell (.cell .nil))) ?_
    exact ⟨[], List.nil_sublist _, .slice0, .inl ⟨rfl, rfl, rfl⟩, rfl⟩
  have k := cyOk_iff.1 hok
  have k1 := k.n1
  have k2 := k.n2
  simp only at k1 k2
  have e : shortR ⟨id, bg, ev, hs⟩ = (⟨id, bg, ev, hs.take (perK hs)⟩, 0) := if_pos hok
  rw [e]
  obtain ⟨b, off, c, rfl, hm, hk⟩ := hv.ne k1
  refine Con.subR (Con.startR rfl Try.func55 rfl rfl Try.ntmps55 rfl rfl (SS.init g) ?_)
  (refine WK.seq ?_; refine WK.region ?_; refine St.box fun _ _ => ?_; refine St.alloc fun _ _ => ?_; refine WO.nil ?_; refine WK.seq ?_; refine WK.region ?_; refine St.load ?_)
  rename_i p hp r hr
  refine St.call (v := .bool true) (fun _ => rfl) (fun h2 hh => by
    have := right_con h2 hh.gd id bg ev _ hs (hv.vw hh).itV
    rw [hok] at this
    exact this) ?_
  (refine St.assign ?_; refine WO.nil ?_; refine WK.seq ?_; refine WK.seq ?_; refine WK.region ?_; refine St.move ?_; refine St.un ?_; refine WO.nil ?_; refine WK.condF ?_; refine WK.skip ?_; refine WK.seq ?_; refine WK.region ?_; refine St.fieldAddr ?_; refine St.load ?_; refine St.len ?_; refine St.assign ?_; refine WO.nil ?_; refine WK.seq ?_; refine WK.seq ?_; refine WK.region ?_; refine St.assign ?_; refine WO.nil ?_; refine WK.block ?_)
  refine WK.inv (ι := Nat) (fun z => [(1, .ptr p 0), (2, .ptr r 0), (4, .int .i64 hs.length), (5, .int .i64 z)]) (fun _ => [(r, .cells [.int .i64 0, .int .i64 0, .int .i64 0, .slice0, .int .i64 0] 95), (p, .cells [.int .i64 id, .int .i64 bg, .int .i64 ev, .slice b off hs.length c] 28)]) (fun z => 1 ≤ z ∧ z ≤ hs.length ∧ ∀ j, 1 ≤ j → j < z → repB hs j = false) (fun z => hs.length - z) 1 ⟨by omega, k1, fun j h1 h2 => absurd h1 (by omega)⟩ ⟨rfl, rfl, rfl, rfl, trivial⟩ (by (repeat (first | exact List.Sublist.refl _ | exact List.nil_sublist _ | apply List.Sublist.cons_cons | apply List.Sublist.cons))) ?_
  rintro z ⟨hz1, hz2, hno⟩ ih
  have hmod : ((hs.length : Int).tmod (z : Int)) = ((hs.length % z : Nat) : Int) := by rw [Int.tmod_eq_emod_of_nonneg (by omega)]; rfl
  (refine WK.seq ?_; refine WK.seq ?_; refine WK.region ?_; refine St.move ?_; refine St.move ?_; refine St.bin ?_; refine WO.nil ?_)
  refine St.splitC (fun hc => ?_) (fun hc => ?_)
  · have hlt : z < hs.length := by simp at hc; omega
    (refine WK.skip ?_; refine WK.seq ?_; refine WK.block ?_; refine WK.seq ?_; refine WK.region ?_; refine St.move ?_; refine St.move ?_)
    refine St.binX (r := .int .i64 ((hs.length % z : Nat) : Int)) ?_ rfl rfl ?_
    · unfold evBin evInt; simp [hmod]; omega
    (refine St.bin ?_; refine St.assign ?_; refine WO.nil ?_; refine WK.seq ?_; refine WK.seq ?_; refine WK.region ?_; refine St.assign ?_; refine WO.nil ?_; refine WK.block ?_)
    refine WK.inv (ι := Nat) (fun i => [(1, .ptr p 0), (2, .ptr r 0), (4, .int .i64 hs.length), (5, .int .i64 z), (6, .bool (sameTo hs z i)), (7, .int .i64 i)]) (fun _ => [(r, .cells [.int .i64 0, .int .i64 0, .int .i64 0, .slice0, .int .i64 0] 95), (p, .cells [.int .i64 id, .int .i64 bg, .int .i64 ev, .slice b off hs.length c] 28)]) (fun i => i + z ≤ hs.length) (fun i => hs.length - i) 0 (by omega) ⟨rfl, rfl, rfl, rfl, ?_, rfl, trivial⟩ (by (repeat (first | exact List.Sublist.refl _ | exact List.nil_sublist _ | apply List.Sublist.cons_cons | apply List.Sublist.cons))) ?_
    · show some (AV.bool (((hs.length % z : Nat) : Int) == 0)) = some (AV.bool (sameTo hs z 0))
      unfold sameTo
      simp
      rw [Bool.eq_iff_iff]
      simp
      omega
    rintro i hi ih2
    (refine WK.seq ?_; refine WK.seq ?_; refine WK.region ?_; refine St.move ?_; refine St.move ?_; refine St.binI ?_; refine St.move ?_; refine St.bin ?_; refine WO.nil ?_)
    refine St.splitC (fun hc2 => ?_) (fun hc2 => ?_)
    · have hi2 : i + z < hs.length := by simp at hc2; omega
      (refine WK.skip ?_; refine WK.seq ?_; refine WK.block ?_; refine WK.regionD ?_; refine St.move ?_; refine St.move ?_)
      refine St.split (fun hb => ?_) (fun hb => ?_)
      · (refine St.fieldAddr ?_; refine St.load ?_; refine St.move ?_)
        refine St.at ?_
        refine St.loadX (fun h hh => ((hk.vw hh).at_ (z := (i : Int)) (n := i) (by omega) (by omega)).one rfl) ?_
        (refine St.fieldAddr ?_; refine St.load ?_; refine St.move ?_; refine St.move ?_; refine St.binI ?_)
        refine St.at ?_
        refine St.loadX (fun h hh => ((hk.vw hh).at_ (z := (i : Int) + z) (n := i + z) (by omega) (by omega)).one rfl) ?_
        (refine St.bin ?_; refine St.pickT ?_; refine St.assign ?_; refine WO.nil ?_; refine WK.blk ?_; refine WK.region ?_; refine St.move ?_; refine St.binI ?_; refine St.assign ?_; refine WO.nil ?_)
        refine WK.le ?_ (by (repeat (first | exact List.Sublist.refl _ | exact List.nil_sublist _ | apply List.Sublist.cons_cons | apply List.Sublist.cons))) (ih2 (i + 1) (by omega) (by omega))
        refine ⟨rfl, rfl, rfl, rfl, ?_, rfl, trivial⟩
        rw [sameTo_succ, hb]
        rfl
      · (refine St.skip ?_; refine St.skip ?_; refine St.skip ?_; refine St.skip ?_; refine St.skip ?_; refine St.skip ?_; refine St.skip ?_; refine St.skip ?_; refine St.skip ?_; refine St.skip ?_; refine St.skip ?_; refine St.skip ?_; refine St.skip ?_; refine St.pickF ?_; refine St.assign ?_; refine WO.nil ?_; refine WK.blk ?_; refine WK.region ?_; refine St.move ?_; refine St.binI ?_; refine St.assign ?_; refine WO.nil ?_)
        refine WK.le ?_ (by (repeat (first | exact List.Sublist.refl _ | exact List.nil_sublist _ | apply List.Sublist.cons_cons | apply List.Sublist.cons))) (ih2 (i + 1) (by omega) (by omega))
        refine ⟨rfl, rfl, rfl, rfl, ?_, rfl, trivial⟩
        rw [sameTo_succ, hb]
        rfl
    · have hi2 : i + z = hs.length := by simp at hc2; omega
      rw [sameTo_rep hi2]
      clear ih2
      (refine WK.exit ?_; refine WK.seq ?_; refine WK.region ?_; refine St.move ?_; refine WO.nil ?_)
      refine St.splitC (fun hb => ?_) (fun hb => ?_)
      · have hper := perK_eq hz1 hz2 (by simpa using hb) hno
        have htl : (hs.take z).length = z := by rw [List.length_take]; omega
        (refine WK.seq ?_; refine WK.region ?_; refine St.mkS fun _ _ => ?_; refine St.fieldAddr ?_; refine St.load ?_; refine St.move ?_)
        refine St.sliceV (v := .slice b off z c) (fun h3 hh => ?_) ?_
        · show plainV (evSlice Try.prog h3 26 (.slice b off hs.length c) none (some (.int .i64 z)) none) h3 = _
          rw [slI_to (hm.vw hh) hz2]
          rfl
        skip
        refine St.appC (sz := 1) (n := z) (new := (hs.take z).map (AV.int .i64)) (fun j hj => ?_) ⟨rfl, rfl, rfl, rfl, rfl, rfl, rfl, rfl, rfl, Nat.ble_eq_true_of_le (by omega), by rw [List.length_map, htl]; simp, ints_ok _⟩ (List.Mem.head _) (fun h2 hh => by
          have := ((hk.vw hh).tak (k := z)).loadN (by omega)
          rw [htl] at this
          exact this) (by omega) (by omega)
        (refine St.fieldAddr ?_; refine St.store3 ?_; refine WO.nil ?_; refine WK.seq ?_; refine WK.region ?_; refine St.load ?_; refine St.build ?_; refine St.store2 ?_; refine WO.nil ?_)
        refine St.ret (by first | exact .tmp .nil | exact .cell .nil | exact .cell (.tmp .nil) | exact .tmp (.tmp .nil) | exact .cell (.cell .nil) | exact .tmp (.cell .nil) | exact .nil | exact .tmp (.cell (.tmp .nil)) | exact .cell (.tmp (.tmp .nil)) | exact .cell (.cell (.tmp .nil)) | exact .tmp (.tmp (.tmp .nil)) | exact .cell (.cell (.cell .nil))) ?_
        rw [hper]
        refine ⟨[(j, .row ((hs.take z).map (AV.int .i64)) 3 1)], by (repeat (first | exact List.Sublist.refl _ | exact List.nil_sublist _ | apply List.Sublist.cons_cons | apply List.Sublist.cons)), .slice j 0 z (.m 0), .inr ⟨j, .m 0, _, ?_, rfl, AObj.has_row _ _ _⟩, rfl⟩
        simp only [htl]
      · have hf : repB hs z = false := by simpa using hb
        (refine WK.skip ?_; refine WK.blk ?_; refine WK.region ?_; refine St.move ?_; refine St.binI ?_; refine St.assign ?_; refine WO.nil ?_)
        refine WK.le ?_ (by (repeat (first | exact List.Sublist.refl _ | exact List.nil_sublist _ | apply List.Sublist.cons_cons | apply List.Sublist.cons))) (ih (z + 1) ⟨by omega, by omega, fun j h1 h2 => ?_⟩ (by omega))
        · exact ⟨rfl, rfl, rfl, rfl, trivial⟩
        · rcases Nat.lt_succ_iff_lt_or_eq.1 h2 with h3 | rfl
          · exact hno j h1 h3
          · exact hf
  · have hz3 : z = hs.length := by simp at hc; omega
    have hper := perK_eq hz1 hz2 (by rw [hz3]; exact repB_all k1) hno
    clear ih
    (refine WK.exit ?_; refine WK.seq ?_; refine WK.region ?_; refine St.mkS fun _ _ => ?_; refine St.fieldAddr ?_; refine St.load ?_)
    refine St.appC (sz := 1) (n := hs.length) (new := hs.map (AV.int .i64)) (fun j hj => ?_) ⟨rfl, rfl, rfl, rfl, rfl, rfl, rfl, rfl, rfl, Nat.ble_eq_true_of_le (by omega), by simp, ints_ok _⟩ (List.Mem.head _) (fun h2 hh => (hk.vw hh).loadN (by omega)) (by omega) (by omega)
    (refine St.fieldAddr ?_; refine St.store3 ?_; refine WO.nil ?_; refine WK.seq ?_; refine WK.region ?_; refine St.load ?_; refine St.build ?_; refine St.store2 ?_; refine WO.nil ?_)
    refine St.ret (by first | exact .tmp .nil | exact .cell .nil | exact .cell (.tmp .nil) | exact .tmp (.tmp .nil) | exact .cell (.cell .nil) | exact .tmp (.cell .nil) | exact .nil | exact .tmp (.cell (.tmp .nil)) | exact .cell (.tmp (.tmp .nil)) | exact .cell (.cell (.tmp .nil)) | exact .tmp (.tmp (.tmp .nil)) | exact .cell (.cell (.cell .nil))) ?_
    rw [hper, hz3, List.take_length]
    exact ⟨[(j, .row (hs.map (AV.int .i64)) 3 1)], by (repeat (first | exact List.Sublist.refl _ | exact List.nil_sublist _ | apply List.Sublist.cons_cons | apply List.Sublist.cons)), .slice j 0 hs.length (.m 0), .inr ⟨j, .m 0, _, rfl, rfl, AObj.has_row _ _ _⟩, rfl⟩
end Go.Proofs.Ytekpffjcffeanaa
