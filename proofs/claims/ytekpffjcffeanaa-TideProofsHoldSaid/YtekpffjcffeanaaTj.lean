/- The law TideCycles over the calculator's memory. -/
import Derived.Test.YtekpffjcffeanaaTi
namespace Go.Proofs.Ytekpffjcffeanaa
open Go.Proofs.Ytekpffjcffeanaa.Ev

section
variable (L1 L2 L3 L4 L5 L6 : Ob)
theorem subP6 : L6.Sublist (L1 ++ L2 ++ L3 ++ L4 ++ L5 ++ L6) := List.sublist_append_right _ _
theorem subP5 : L5.Sublist (L1 ++ L2 ++ L3 ++ L4 ++ L5 ++ L6) := (List.sublist_append_right (L1 ++ L2 ++ L3 ++ L4) L5).trans (List.sublist_append_left _ _)
theorem subP4 : L4.Sublist (L1 ++ L2 ++ L3 ++ L4 ++ L5 ++ L6) := (List.sublist_append_right (L1 ++ L2 ++ L3) L4).trans ((List.sublist_append_left _ L5).trans (List.sublist_append_left _ _))
theorem subP3 : L3.Sublist (L1 ++ L2 ++ L3 ++ L4 ++ L5 ++ L6) := (List.sublist_append_right (L1 ++ L2) L3).trans ((List.sublist_append_left _ L4).trans ((List.sublist_append_left _ L5).trans (List.sublist_append_left _ _)))
theorem subP2 : L2.Sublist (L1 ++ L2 ++ L3 ++ L4 ++ L5 ++ L6) := (List.sublist_append_right L1 L2).trans ((List.sublist_append_left _ L3).trans ((List.sublist_append_left _ L4).trans ((List.sublist_append_left _ L5).trans (List.sublist_append_left _ _))))
theorem subP1 : L1.Sublist (L1 ++ L2 ++ L3 ++ L4 ++ L5 ++ L6) := (List.sublist_append_left L1 L2).trans ((List.sublist_append_left _ L3).trans ((List.sublist_append_left _ L4).trans ((List.sublist_append_left _ L5).trans (List.sublist_append_left _ _))))
end
theorem sanity_con (h : Heap) (g : Gd h) : Con Try.prog Bs 18 [] h [] (.bool true) [] := Con.base rfl g
set_option maxRecDepth 100000 in
set_option maxHeartbeats 4000000 in
/-- two cycles that are the same -/
theorem sameCycle_con (h : Heap) (g : Gd h) (id bg ev : Int) (v v2 : AV) (hs : List Int) (hv : ItV h v hs) (hv2 : ItV h v2 hs) (hl : hs.length ≤ 1000000) :
    Con Try.prog Bs 32 [.agg [.int .i64 id, .int .i64 bg, .int .i64 ev, v], .agg [.int .i64 id, .int .i64 bg, .int .i64 ev, v2]] h [] (.bool true) [] := by
  refine Con.start rfl Try.func32 rfl rfl Try.ntmps32 rfl rfl g ?_
  (refine WK.seq ?_; refine WK.region ?_; refine St.box fun _ _ => ?_; refine St.box fun _ _ => ?_; refine St.assign ?_; refine WO.nil ?_; refine WK.seq ?_; refine WK.region ?_; refine St.fieldAddr ?_; refine St.load ?_; refine St.fieldAddr ?_; refine St.load ?_)
  refine St.call (v := .bool true) (fun _ => rfl) (fun h2 hh => by
    have := sameInts_con h2 hh.gd v v2 hs hs (hv.vw hh) (hv2.vw hh) hl
    rw [decide_eq_true rfl] at this
    exact this) ?_
  (refine St.assign ?_; refine WO.nil ?_; refine WK.seq ?_; refine WK.region ?_; refine St.move ?_; refine St.move ?_; refine St.fieldAddr ?_; refine St.load ?_; refine St.fieldAddr ?_; refine St.load ?_; refine St.bin ?_; refine St.pickT ?_; refine St.move ?_)
  refine St.split (fun hc => ?_) (fun hc => ?_)
  rotate_left
  · simp at hc
  (refine St.fieldAddr ?_; refine St.load ?_; refine St.fieldAddr ?_; refine St.load ?_; refine St.bin ?_; refine St.pickT ?_; refine St.move ?_)
  refine St.split (fun hc => ?_) (fun hc => ?_)
  rotate_left
  · simp at hc
  (refine St.fieldAddr ?_; refine St.load ?_; refine St.fieldAddr ?_; refine St.load ?_; refine St.bin ?_; refine St.pickT ?_; refine St.assign ?_; refine WO.nil ?_)
  refine St.ret (by first | exact .tmp .nil | exact .cell .nil | exact .cell (.tmp .nil) | exact .tmp (.tmp .nil) | exact .cell (.cell .nil) | exact .tmp (.cell .nil) | exact .nil | exact .tmp (.cell (.tmp .nil)) | exact .cell (.tmp (.tmp .nil)) | exact .cell (.cell (.tmp .nil)) | exact .tmp (.tmp (.tmp .nil)) | exact .cell (.cell (.cell .nil))) ?_
  simp [oneOf]
theorem Ev.Vw.two {h0 h : Heap} {W : List Nat} {V L1 L2 : Ob} {xs : List Int} {v1 v2 : AV} (hh : Vw h0 W V h) (k1 : IsIs xs v1 L1) (k2 : IsIs xs v2 L2) (s1 : L1.Sublist V) (s2 : L2.Sublist V) : ItV h v1 xs ∧ ItV h v2 xs := ⟨k1.itV hh s1, k2.itV hh s2⟩
theorem shortR_len {c : Cy} (h : c.hs.length ≤ 100) : (shortR c).1.hs.length ≤ 1000000 := by
  unfold shortR
  split
  · simp only [List.length_take]; omega
  · simp [noC]
theorem togR_len {a b : Cy} : (togR a b).1.hs.length ≤ 1000000 := by
  unfold togR
  split
  · split
    · simp [noC]
    · split
      · simp only [sumT_len]; omega
      · simp [noC]
  · simp [noC]
theorem apartR_len {c : Cy} (h : c.hs.length ≤ 100) : (apartR c).2.1.hs.length ≤ 1000000 := by
  unfold apartR
  split
  · split
    · simp [noC]
    · simp only [List.length_map]; omega
  · simp [noC]
set_option maxRecDepth 100000 in
set_option maxHeartbeats 16000000 in
theorem cycles_con (h : Heap) (g : Gd h) (id bg ev id2 bg2 ev2 : Int) (v v2 : AV) (hs hs2 : List Int) (hv : ItA h v hs) (hv2 : ItA h v2 hs2) :
    Con Try.prog Bs 15 [.agg [.int .i64 id, .int .i64 bg, .int .i64 ev, v], .agg [.int .i64 id2, .int .i64 bg2, .int .i64 ev2, v2]] h [] (.bool true) [] := by
  refine Con.start rfl Try.func15 rfl rfl Try.ntmps15 rfl rfl g ?_
  (refine WK.seq ?_; refine WK.region ?_; refine St.box fun _ _ => ?_; refine St.box fun _ _ => ?_; refine St.assign ?_; refine WO.nil ?_; refine WK.seq ?_; refine WK.seq ?_; refine WK.region ?_; refine St.fieldAddr ?_; refine St.load ?_)
  rename_i p hp q hq
  refine St.lenV rfl hv.itV.len ?_
  (refine St.bin ?_; refine St.move ?_)
  refine St.split (fun hc => ?_) (fun hc => ?_)
  · (refine St.skip ?_; refine St.skip ?_; refine St.skip ?_; refine St.skip ?_; refine St.pickT ?_; refine WO.nil ?_; refine WK.condT ?_; refine WK.seq ?_; refine WK.region ?_)
    refine St.call (fun _ => rfl) (fun h2 hh => sanity_con h2 hh.gd) ?_
    (refine St.assign ?_; refine WO.nil ?_)
    refine St.ret (by first | exact .tmp .nil | exact .cell .nil | exact .cell (.tmp .nil) | exact .tmp (.tmp .nil) | exact .cell (.cell .nil) | exact .tmp (.cell .nil) | exact .nil | exact .tmp (.cell (.tmp .nil)) | exact .cell (.tmp (.tmp .nil)) | exact .cell (.cell (.tmp .nil)) | exact .tmp (.tmp (.tmp .nil)) | exact .cell (.cell (.cell .nil))) ?_
    rfl
  have hl1 : hs.length ≤ 100 := by simp at hc; omega
  (refine St.fieldAddr ?_; refine St.load ?_)
  refine St.lenV rfl hv2.itV.len ?_
  (refine St.bin ?_; refine St.pickF ?_; refine WO.nil ?_)
  refine St.splitC (fun hc => ?_) (fun hc => ?_)
  · (refine WK.seq ?_; refine WK.region ?_)
    refine St.call (fun _ => rfl) (fun h2 hh => sanity_con h2 hh.gd) ?_
    (refine St.assign ?_; refine WO.nil ?_)
    refine St.ret (by first | exact .tmp .nil | exact .cell .nil | exact .cell (.tmp .nil) | exact .tmp (.tmp .nil) | exact .cell (.cell .nil) | exact .tmp (.cell .nil) | exact .nil | exact .tmp (.cell (.tmp .nil)) | exact .cell (.tmp (.tmp .nil)) | exact .cell (.cell (.tmp .nil)) | exact .tmp (.tmp (.tmp .nil)) | exact .cell (.cell (.cell .nil))) ?_
    rfl
  have hl2 : hs2.length ≤ 100 := by simp at hc; omega
  have hr1 := shortR_len (c := ⟨id, bg, ev, hs⟩) hl1
  have hr2 := togR_len (a := ⟨id, bg, ev, hs⟩) (b := ⟨id2, bg2, ev2, hs2⟩)
  have hr3 := apartR_len (c := ⟨id, bg, ev, hs⟩) hl1
  have hA : ∀ (h2 : Heap) {V : Ob}, Vw h [] V h2 → ∃ w L, Con Try.prog Bs 31 [.agg [.int .i64 id, .int .i64 bg, .int .i64 ev, v]] h2 [] w L ∧ CyOut (shortR ⟨id, bg, ev, hs⟩) w L := fun h2 V hh => shortest_con h2 hh.gd id bg ev v hs (hv.vw hh) (by omega)
  have hB : ∀ (h2 : Heap) {V : Ob}, Vw h [] V h2 → ∃ w L, Con Try.prog Bs 55 [.agg [.int .i64 id, .int .i64 bg, .int .i64 ev, v]] h2 [] w L ∧ CyRef (shortR ⟨id, bg, ev, hs⟩) w L := fun h2 V hh => rshortest_con h2 hh.gd id bg ev v hs (hv.vw hh) (by omega)
  have hC : ∀ (h2 : Heap) {V : Ob}, Vw h [] V h2 → ∃ w L, Con Try.prog Bs 34 [.agg [.int .i64 id, .int .i64 bg, .int .i64 ev, v], .agg [.int .i64 id2, .int .i64 bg2, .int .i64 ev2, v2]] h2 [] w L ∧ CyOut (togR ⟨id, bg, ev, hs⟩ ⟨id2, bg2, ev2, hs2⟩) w L := fun h2 V hh => together_con h2 hh.gd id bg ev id2 bg2 ev2 v v2 hs hs2 (hv.vw hh) (hv2.vw hh)
  have hD : ∀ (h2 : Heap) {V : Ob}, Vw h [] V h2 → ∃ w L, Con Try.prog Bs 56 [.agg [.int .i64 id, .int .i64 bg, .int .i64 ev, v], .agg [.int .i64 id2, .int .i64 bg2, .int .i64 ev2, v2]] h2 [] w L ∧ CyRef (togR ⟨id, bg, ev, hs⟩ ⟨id2, bg2, ev2, hs2⟩) w L := fun h2 V hh => rtogether_con h2 hh.gd id bg ev id2 bg2 ev2 v v2 hs hs2 (hv.vw hh) (hv2.vw hh)
  have hE : ∀ (h2 : Heap) {V : Ob}, Vw h [] V h2 → ∃ w L, Con Try.prog Bs 33 [.agg [.int .i64 id, .int .i64 bg, .int .i64 ev, v]] h2 [] w L ∧ ApOut (apartR ⟨id, bg, ev, hs⟩) w L := fun h2 V hh => apart_con h2 hh.gd id bg ev v hs (hv.vw hh) (by omega)
  have hF : ∀ (h2 : Heap) {V : Ob}, Vw h [] V h2 → ∃ w L, Con Try.prog Bs 57 [.agg [.int .i64 id, .int .i64 bg, .int .i64 ev, v]] h2 [] w L ∧ ApOut (apartR ⟨id, bg, ev, hs⟩) w L := fun h2 V hh => rapart_con h2 hh.gd id bg ev v hs (hv.vw hh).itV (by omega)
  generalize shortR ⟨id, bg, ev, hs⟩ = R1 at hr1 hA hB
  generalize togR ⟨id, bg, ev, hs⟩ ⟨id2, bg2, ev2, hs2⟩ = R2 at hr2 hC hD
  generalize apartR ⟨id, bg, ev, hs⟩ = R3 at hr3 hE hF
  obtain ⟨⟨i1, b1, e1, h1⟩, n1⟩ := R1
  obtain ⟨⟨i2, b2, e2, h2⟩, n2⟩ := R2
  obtain ⟨m3, ⟨i3, b3, e3, h3⟩, n3⟩ := R3
  simp only at hr1 hr2 hr3
  clear hc
  (refine WK.skip ?_; refine WK.seq ?_; refine WK.region ?_; refine St.load ?_)
  refine St.callR (fun _ => rfl) (fun h2 hh => hA h2 hh) ?_
  rintro v' L1 ⟨w1, c1, rfl⟩
  simp only at c1
  refine WO.permF (L' := [(q, .cells [.int .i64 id2, .int .i64 bg2, .int .i64 ev2, v2] 28), (p, .cells [.int .i64 id, .int .i64 bg, .int .i64 ev, v] 28)] ++ L1) List.perm_append_comm ?_
  (refine St.move ?_; refine St.extract ?_; refine St.extract ?_; refine St.alloc fun _ _ => ?_)
  refine St.store0 (hv := store_cy rfl c1.ok rfl) ?_
  (refine St.assign ?_; refine WO.nil ?_; refine WK.seq ?_; refine WK.region ?_; refine St.load ?_)
  rename_i a1 ha1
  skip
  refine St.callR (fun _ => rfl) (fun h2 hh => hB h2 hh) ?_
  rintro v' L2 ⟨w2, c2, rfl⟩
  simp only at c2
  refine WO.permF (L' := [(a1, .cells [.int .i64 i1, .int .i64 b1, .int .i64 e1, w1] 28), (q, .cells [.int .i64 id2, .int .i64 bg2, .int .i64 ev2, v2] 28), (p, .cells [.int .i64 id, .int .i64 bg, .int .i64 ev, v] 28)] ++ (L1 ++ L2)) (List.perm_append_comm (l₁ := [(a1, .cells [.int .i64 i1, .int .i64 b1, .int .i64 e1, w1] 28), (q, .cells [.int .i64 id2, .int .i64 bg2, .int .i64 ev2, v2] 28), (p, .cells [.int .i64 id, .int .i64 bg, .int .i64 ev, v] 28)] ++ L1)) ?_
  (refine St.alloc fun _ _ => ?_)
  refine St.store0 (hv := store5 rfl c2.ok rfl) ?_
  (refine WO.nil ?_; refine WK.seq ?_; refine WK.region ?_; refine St.load ?_; refine St.load ?_)
  rename_i a2 ha2
  skip
  refine St.callR (fun _ => rfl) (fun h2 hh => hC h2 hh) ?_
  rintro v' L3 ⟨w3, c3, rfl⟩
  simp only at c3
  refine WO.permF (L' := [(a2, .cells [.int .i64 i1, .int .i64 b1, .int .i64 e1, w2, .int .i64 n1] 95), (a1, .cells [.int .i64 i1, .int .i64 b1, .int .i64 e1, w1] 28), (q, .cells [.int .i64 id2, .int .i64 bg2, .int .i64 ev2, v2] 28), (p, .cells [.int .i64 id, .int .i64 bg, .int .i64 ev, v] 28)] ++ ((L1 ++ L2) ++ L3)) (List.perm_append_comm (l₁ := [(a2, .cells [.int .i64 i1, .int .i64 b1, .int .i64 e1, w2, .int .i64 n1] 95), (a1, .cells [.int .i64 i1, .int .i64 b1, .int .i64 e1, w1] 28), (q, .cells [.int .i64 id2, .int .i64 bg2, .int .i64 ev2, v2] 28), (p, .cells [.int .i64 id, .int .i64 bg, .int .i64 ev, v] 28)] ++ (L1 ++ L2))) ?_
  (refine St.move ?_; refine St.extract ?_; refine St.extract ?_; refine St.alloc fun _ _ => ?_)
  refine St.store0 (hv := store_cy rfl c3.ok rfl) ?_
  (refine St.assign ?_; refine WO.nil ?_; refine WK.seq ?_; refine WK.region ?_; refine St.load ?_; refine St.load ?_)
  rename_i a3 ha3
  skip
  refine St.callR (fun _ => rfl) (fun h2 hh => hD h2 hh) ?_
  rintro v' L4 ⟨w4, c4, rfl⟩
  simp only at c4
  refine WO.permF (L' := [(a3, .cells [.int .i64 i2, .int .i64 b2, .int .i64 e2, w3] 28), (a2, .cells [.int .i64 i1, .int .i64 b1, .int .i64 e1, w2, .int .i64 n1] 95), (a1, .cells [.int .i64 i1, .int .i64 b1, .int .i64 e1, w1] 28), (q, .cells [.int .i64 id2, .int .i64 bg2, .int .i64 ev2, v2] 28), (p, .cells [.int .i64 id, .int .i64 bg, .int .i64 ev, v] 28)] ++ (((L1 ++ L2) ++ L3) ++ L4)) (List.perm_append_comm (l₁ := [(a3, .cells [.int .i64 i2, .int .i64 b2, .int .i64 e2, w3] 28), (a2, .cells [.int .i64 i1, .int .i64 b1, .int .i64 e1, w2, .int .i64 n1] 95), (a1, .cells [.int .i64 i1, .int .i64 b1, .int .i64 e1, w1] 28), (q, .cells [.int .i64 id2, .int .i64 bg2, .int .i64 ev2, v2] 28), (p, .cells [.int .i64 id, .int .i64 bg, .int .i64 ev, v] 28)] ++ ((L1 ++ L2) ++ L3))) ?_
  (refine St.alloc fun _ _ => ?_)
  refine St.store0 (hv := store5 rfl c4.ok rfl) ?_
  (refine WO.nil ?_; refine WK.seq ?_; refine WK.region ?_; refine St.load ?_)
  rename_i a4 ha4
  skip
  refine St.callR (fun _ => rfl) (fun h2 hh => hE h2 hh) ?_
  rintro v' L5 ⟨w5, c5, rfl⟩
  simp only at c5
  refine WO.permF (L' := [(a4, .cells [.int .i64 i2, .int .i64 b2, .int .i64 e2, w4, .int .i64 n2] 95), (a3, .cells [.int .i64 i2, .int .i64 b2, .int .i64 e2, w3] 28), (a2, .cells [.int .i64 i1, .int .i64 b1, .int .i64 e1, w2, .int .i64 n1] 95), (a1, .cells [.int .i64 i1, .int .i64 b1, .int .i64 e1, w1] 28), (q, .cells [.int .i64 id2, .int .i64 bg2, .int .i64 ev2, v2] 28), (p, .cells [.int .i64 id, .int .i64 bg, .int .i64 ev, v] 28)] ++ ((((L1 ++ L2) ++ L3) ++ L4) ++ L5)) (List.perm_append_comm (l₁ := [(a4, .cells [.int .i64 i2, .int .i64 b2, .int .i64 e2, w4, .int .i64 n2] 95), (a3, .cells [.int .i64 i2, .int .i64 b2, .int .i64 e2, w3] 28), (a2, .cells [.int .i64 i1, .int .i64 b1, .int .i64 e1, w2, .int .i64 n1] 95), (a1, .cells [.int .i64 i1, .int .i64 b1, .int .i64 e1, w1] 28), (q, .cells [.int .i64 id2, .int .i64 bg2, .int .i64 ev2, v2] 28), (p, .cells [.int .i64 id, .int .i64 bg, .int .i64 ev, v] 28)] ++ (((L1 ++ L2) ++ L3) ++ L4))) ?_
  (refine St.move ?_; refine St.extract ?_; refine St.extract ?_; refine St.extract ?_; refine St.alloc fun _ _ => ?_; refine St.assign ?_)
  refine St.store0 (hv := store_cy rfl c5.ok rfl) ?_
  (refine St.assign ?_; refine WO.nil ?_; refine WK.seq ?_; refine WK.region ?_; refine St.load ?_)
  rename_i a5 ha5
  skip
  refine St.callR (fun _ => rfl) (fun h2 hh => hF h2 hh) ?_
  rintro v' L6 ⟨w6, c6, rfl⟩
  simp only at c6
  refine WO.permF (L' := [(a5, .cells [.int .i64 i3, .int .i64 b3, .int .i64 e3, w5] 28), (a4, .cells [.int .i64 i2, .int .i64 b2, .int .i64 e2, w4, .int .i64 n2] 95), (a3, .cells [.int .i64 i2, .int .i64 b2, .int .i64 e2, w3] 28), (a2, .cells [.int .i64 i1, .int .i64 b1, .int .i64 e1, w2, .int .i64 n1] 95), (a1, .cells [.int .i64 i1, .int .i64 b1, .int .i64 e1, w1] 28), (q, .cells [.int .i64 id2, .int .i64 bg2, .int .i64 ev2, v2] 28), (p, .cells [.int .i64 id, .int .i64 bg, .int .i64 ev, v] 28)] ++ (((((L1 ++ L2) ++ L3) ++ L4) ++ L5) ++ L6)) (List.perm_append_comm (l₁ := [(a5, .cells [.int .i64 i3, .int .i64 b3, .int .i64 e3, w5] 28), (a4, .cells [.int .i64 i2, .int .i64 b2, .int .i64 e2, w4, .int .i64 n2] 95), (a3, .cells [.int .i64 i2, .int .i64 b2, .int .i64 e2, w3] 28), (a2, .cells [.int .i64 i1, .int .i64 b1, .int .i64 e1, w2, .int .i64 n1] 95), (a1, .cells [.int .i64 i1, .int .i64 b1, .int .i64 e1, w1] 28), (q, .cells [.int .i64 id2, .int .i64 bg2, .int .i64 ev2, v2] 28), (p, .cells [.int .i64 id, .int .i64 bg, .int .i64 ev, v] 28)] ++ ((((L1 ++ L2) ++ L3) ++ L4) ++ L5))) ?_
  (refine St.move ?_; refine St.extract ?_; refine St.extract ?_; refine St.extract ?_; refine St.alloc fun _ _ => ?_; refine St.assign ?_)
  refine St.store0 (hv := store_cy rfl c6.ok rfl) ?_
  (refine St.assign ?_; refine WO.nil ?_; refine WK.seq ?_; refine WK.region ?_)
  rename_i a6 ha6
  refine St.call (fun _ => rfl) (fun h2 hh => sanity_con h2 hh.gd) ?_
  (refine St.move ?_; refine St.load ?_; refine St.fieldAddr ?_; refine St.load ?_)
  refine St.call (fun _ => rfl) (fun hp2 hh => by
    obtain ⟨t1, t2⟩ := hh.two c1 c2 (by (repeat apply List.Sublist.cons); exact subP1 L1 L2 L3 L4 L5 L6) (by (repeat apply List.Sublist.cons); exact subP2 L1 L2 L3 L4 L5 L6)
    exact sameCycle_con hp2 hh.gd i1 b1 e1 w1 w2 h1 t1 t2 hr1) ?_
  (refine St.pickT ?_; refine St.move ?_; refine St.move ?_; refine St.fieldAddr ?_; refine St.load ?_; refine St.bin ?_; refine St.pickT ?_; refine St.move ?_)
  refine St.split (fun _ => ?_) (fun hb => ?_)
  rotate_left
  · simp at hb
  (refine St.load ?_; refine St.fieldAddr ?_; refine St.load ?_)
  refine St.call (fun _ => rfl) (fun hp2 hh => by
    obtain ⟨t1, t2⟩ := hh.two c3 c4 (by (repeat apply List.Sublist.cons); exact subP3 L1 L2 L3 L4 L5 L6) (by (repeat apply List.Sublist.cons); exact subP4 L1 L2 L3 L4 L5 L6)
    exact sameCycle_con hp2 hh.gd i2 b2 e2 w3 w4 h2 t1 t2 hr2) ?_
  (refine St.pickT ?_; refine St.move ?_; refine St.move ?_; refine St.fieldAddr ?_; refine St.load ?_; refine St.bin ?_; refine St.pickT ?_; refine St.move ?_)
  refine St.split (fun _ => ?_) (fun hb => ?_)
  rotate_left
  · simp at hb
  (refine St.move ?_; refine St.move ?_; refine St.bin ?_; refine St.pickT ?_; refine St.move ?_)
  refine St.split (fun _ => ?_) (fun hb => ?_)
  rotate_left
  · simp at hb
  (refine St.load ?_; refine St.load ?_)
  refine St.call (fun _ => rfl) (fun hp2 hh => by
    obtain ⟨t1, t2⟩ := hh.two c5 c6 (by (repeat apply List.Sublist.cons); exact subP5 L1 L2 L3 L4 L5 L6) (by (repeat apply List.Sublist.cons); exact subP6 L1 L2 L3 L4 L5 L6)
    exact sameCycle_con hp2 hh.gd i3 b3 e3 w5 w6 h3 t1 t2 hr3) ?_
  (refine St.pickT ?_; refine St.move ?_; refine St.move ?_; refine St.move ?_; refine St.bin ?_; refine St.pickT ?_; refine St.assign ?_; refine WO.nil ?_)
  refine St.ret (by first | exact .tmp .nil | exact .cell .nil | exact .cell (.tmp .nil) | exact .tmp (.tmp .nil) | exact .cell (.cell .nil) | exact .tmp (.cell .nil) | exact .nil | exact .tmp (.cell (.tmp .nil)) | exact .cell (.tmp (.tmp .nil)) | exact .cell (.cell (.tmp .nil)) | exact .tmp (.tmp (.tmp .nil)) | exact .cell (.cell (.cell .nil))) ?_
  simp [oneOf]
end Go.Proofs.Ytekpffjcffeanaa
