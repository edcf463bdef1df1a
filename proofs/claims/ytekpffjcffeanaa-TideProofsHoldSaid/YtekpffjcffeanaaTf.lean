/- Together, the program's and the reference's, over the calculator's memory. -/
import Derived.Test.YtekpffjcffeanaaTe
namespace Go.Proofs.Ytekpffjcffeanaa
open Go.Proofs.Ytekpffjcffeanaa.Ev

theorem isl_is {xs : List Int} {n : Nat} {v : AV} {L : Ob} (k : IsL 3 1 n (xs.map (AV.int .i64)) v L) (hn : xs.length = n) : IsIs xs v L := by
  subst hn
  cases k with
  | nil h1 h2 => exact .inl ⟨rfl, rfl, List.length_eq_zero_iff.1 h1⟩
  | cells i c rest t h1 h2 h3 => exact .inr ⟨i, .k c, _, rfl, rfl, .inl ⟨rest, t, rfl⟩⟩
  | row i h1 => exact .inr ⟨i, .m 0, _, rfl, rfl, AObj.has_row _ _ _⟩
theorem isl_ok {n : Nat} {l : List AV} {v : AV} {L : Ob} {e : TypeId} {sz : Nat} (k : IsL e sz n l v L) : okCell v = true ∧ v.cells = [v] := by cases k <;> exact ⟨rfl, rfl⟩
theorem store_at3 {P : Program} {t ty : TypeId} {a b c w v : AV} (hs : sizeT P t = some 1) (hv : v.cells = [v]) (ho : okCell v = true) {off : Nat} (hoff : off = 3) : (AObj.cells [a, b, c, w] ty).store P t off v = some (.cells [a, b, c, v] ty) := by
  subst hoff
  rw [store_cells hs hv ho (by simp)]
  rfl
theorem store4 {P : Program} {t ty : TypeId} {x y z u a b c w : AV} (hs : sizeT P t = some 4) (ha : okCell a = true) (hb : okCell b = true) (hc : okCell c = true) (hw : okCell w = true) : (AObj.cells [x, y, z, u] ty).store P t 0 (.agg [a, b, c, w]) = some (.cells [a, b, c, w] ty) := by
  simp [AObj.store, hs, AV.cells, ha, hb, hc, hw, AObj.put, overN]
theorem store_cy {P : Program} {t ty : TypeId} {x y z u w : AV} {a b c : Int} (hs : sizeT P t = some 4) (hw : okCell w = true) {off : Nat} (hoff : off = 0) : (AObj.cells [x, y, z, u] ty).store P t off (.agg [.int .i64 a, .int .i64 b, .int .i64 c, w]) = some (.cells [.int .i64 a, .int .i64 b, .int .i64 c, w] ty) := by
  subst hoff
  exact store4 hs rfl rfl rfl hw
/-- the step of a sum of two cycles -/
theorem tog_bd {a b : Cy} (ka : CyOk a) (kb : CyOk b) : 1 ≤ togG a b ∧ togG a b ≤ 120 ∧ 0 ≤ togN a b ∧ togN a b ≤ 51840000 ∧ (Int.gcd a.ev b.ev : Int) ≤ 120 ∧ 0 < (Int.gcd a.ev b.ev : Int) := by
  have a1 := ka.ev1
  have a2 := ka.ev2
  obtain ⟨h1, h2⟩ := gcd_pos (a := a.ev) (b := b.ev) (by omega)
  obtain ⟨h3, h4⟩ := gcd_pos (a := (Int.gcd a.ev b.ev : Int)) (b := a.bg - b.bg) h1
  obtain ⟨l1, l2⟩ := len_pos (id := a.id) (bg := a.bg) ka
  obtain ⟨l3, l4⟩ := len_pos (id := b.id) (bg := b.bg) kb
  obtain ⟨q1, q2, _, _⟩ := lcm_bd (A := 7200) l1 l2 l3 l4
  have g1 : 1 ≤ togG a b := by unfold togG; omega
  have g2 : togG a b ≤ 120 := by unfold togG; omega
  refine ⟨g1, g2, Int.ediv_nonneg (by omega) (by omega), ?_, by omega, h1⟩
  have := Int.ediv_le_self (a := lcmI (a.ev * a.hs.length) (b.ev * b.hs.length)) (togG a b) (by omega)
  unfold togN
  omega
theorem all_sum {a b : Cy} {n : Nat} (h : ∀ i, i < n → inB (sumA a b i) 4000 = true) : (sumT a b n).all (fun x => inB x 4000) = true := by
  rw [List.all_eq_true]
  intro x hx
  obtain ⟨i, hi, rfl⟩ := List.mem_map.1 hx
  exact h i (List.mem_range.1 hi)
theorem not_sum {a b : Cy} {n k : Nat} (hk : k < n) (h : inB (sumA a b k) 4000 = false) : ¬ (sumT a b n).all (fun x => inB x 4000) = true := by
  rw [List.all_eq_true]
  intro q
  have := q _ (List.mem_map.2 ⟨k, List.mem_range.2 hk, rfl⟩)
  rw [h] at this
  cases this
set_option maxRecDepth 100000 in
set_option maxHeartbeats 16000000 in
theorem together_con (h : Heap) (g : Gd h) (id bg ev id2 bg2 ev2 : Int) (v v2 : AV) (hs hs2 : List Int) (hv : ItA h v hs) (hv2 : ItA h v2 hs2) :
    ∃ w L, Con Try.prog Bs 34 [.agg [.int .i64 id, .int .i64 bg, .int .i64 ev, v], .agg [.int .i64 id2, .int .i64 bg2, .int .i64 ev2, v2]] h [] w L ∧ CyOut (togR ⟨id, bg, ev, hs⟩ ⟨id2, bg2, ev2, hs2⟩) w L := by
  by_cases hok : cyOk ⟨id, bg, ev, hs⟩ = true
  rotate_left
  · have e : togR ⟨id, bg, ev, hs⟩ ⟨id2, bg2, ev2, hs2⟩ = (noC, 1) := if_neg fun k => hok k.1
    have hno : cyOk ⟨id, bg, ev, hs⟩ = false := by simpa using hok
    rw [e]
    refine Con.subR (Con.startR rfl Try.func34 rfl rfl Try.ntmps34 rfl rfl (SS.init g) ?_)
    (refine WK.seq ?_; refine WK.region ?_; refine St.box fun _ _ => ?_; refine St.box fun _ _ => ?_; refine St.alloc fun _ _ => ?_; refine St.assign ?_; refine WO.nil ?_; refine WK.seq ?_; refine WK.seq ?_; refine WK.region ?_; refine St.load ?_)
    refine St.call (v := .bool false) (fun _ => rfl) (fun h2 hh => by
      have := isCycle_con h2 hh.gd id bg ev v hs (hv.vw hh).itV
      rw [hno] at this
      exact this) ?_
    (refine St.un ?_; refine St.move ?_; refine St.skip ?_; refine St.skip ?_; refine St.skip ?_; refine St.pickT ?_; refine WO.nil ?_; refine WK.condT ?_; refine WK.seq ?_; refine WK.region ?_; refine St.build ?_; refine St.store0 ?_; refine St.assign ?_; refine WO.nil ?_)
    refine St.ret (by first | exact .tmp .nil | exact .cell .nil | exact .cell (.tmp .nil) | exact .tmp (.tmp .nil) | exact .cell (.cell .nil) | exact .tmp (.cell .nil) | exact .nil | exact .tmp (.cell (.tmp .nil)) | exact .cell (.tmp (.tmp .nil)) | exact .cell (.cell (.tmp .nil)) | exact .tmp (.tmp (.tmp .nil)) | exact .cell (.cell (.cell .nil))) ?_
    exact ⟨[], List.nil_sublist _, .slice0, .inl ⟨rfl, rfl, rfl⟩, rfl⟩
  by_cases hok2 : cyOk ⟨id2, bg2, ev2, hs2⟩ = true
  rotate_left
  · have e : togR ⟨id, bg, ev, hs⟩ ⟨id2, bg2, ev2, hs2⟩ = (noC, 1) := if_neg fun k => hok2 k.2
    have hno : cyOk ⟨id2, bg2, ev2, hs2⟩ = false := by simpa using hok2
    rw [e]
    refine Con.subR (Con.startR rfl Try.func34 rfl rfl Try.ntmps34 rfl rfl (SS.init g) ?_)
    (refine WK.seq ?_; refine WK.region ?_; refine St.box fun _ _ => ?_; refine St.box fun _ _ => ?_; refine St.alloc fun _ _ => ?_; refine St.assign ?_; refine WO.nil ?_; refine WK.seq ?_; refine WK.seq ?_; refine WK.region ?_; refine St.load ?_)
    refine St.call (v := .bool true) (fun _ => rfl) (fun h2 hh => by
      have := isCycle_con h2 hh.gd id bg ev v hs (hv.vw hh).itV
      rw [hok] at this
      exact this) ?_
    (refine St.un ?_; refine St.move ?_; refine St.load ?_)
    refine St.call (v := .bool false) (fun _ => rfl) (fun h2 hh => by
      have := isCycle_con h2 hh.gd id2 bg2 ev2 v2 hs2 (hv2.vw hh).itV
      rw [hno] at this
      exact this) ?_
    (refine St.un ?_; refine St.pickF ?_; refine WO.nil ?_; refine WK.condT ?_; refine WK.seq ?_; refine WK.region ?_; refine St.build ?_; refine St.store0 ?_; refine St.assign ?_; refine WO.nil ?_)
    refine St.ret (by first | exact .tmp .nil | exact .cell .nil | exact .cell (.tmp .nil) | exact .tmp (.tmp .nil) | exact .cell (.cell .nil) | exact .tmp (.cell .nil) | exact .nil | exact .tmp (.cell (.tmp .nil)) | exact .cell (.tmp (.tmp .nil)) | exact .cell (.cell (.tmp .nil)) | exact .tmp (.tmp (.tmp .nil)) | exact .cell (.cell (.cell .nil))) ?_
    exact ⟨[], List.nil_sublist _, .slice0, .inl ⟨rfl, rfl, rfl⟩, rfl⟩
  have ka := cyOk_iff.1 hok
  have kb := cyOk_iff.1 hok2
  obtain ⟨g1, g2, n1, n2, d1, d2⟩ := tog_bd ka kb
  obtain ⟨l1, l2⟩ := len_pos ka
  obtain ⟨l3, l4⟩ := len_pos kb
  obtain ⟨q1, q2, _, _⟩ := lcm_bd (A := 7200) l1 l2 l3 l4
  have a1 := ka.bg1
  have a2 := ka.bg2
  have a3 := ka.ev1
  have a4 := ka.ev2
  have b1 := kb.bg1
  have b2 := kb.bg2
  have b3 := kb.ev1
  have b4 := kb.ev2
  simp only at a1 a2 a3 a4 b1 b2 b3 b4 d1 d2
  have e : togR ⟨id, bg, ev, hs⟩ ⟨id2, bg2, ev2, hs2⟩ = _ := if_pos ⟨hok, hok2⟩
  rw [e]
  have eG : (Int.gcd (Int.gcd ev ev2) (bg - bg2) : Int) = togG ⟨id, bg, ev, hs⟩ ⟨id2, bg2, ev2, hs2⟩ := rfl
  have eN : lcmI (ev * hs.length) (ev2 * hs2.length) / togG ⟨id, bg, ev, hs⟩ ⟨id2, bg2, ev2, hs2⟩ = togN ⟨id, bg, ev, hs⟩ ⟨id2, bg2, ev2, hs2⟩ := rfl
  have hA : ∀ (h2 : Heap) {V : Ob} (t : Int), -1099511627776 ≤ t → t ≤ 1099511627776 → Vw h [] V h2 → Con Try.prog Bs 63 [.agg [.int .i64 id, .int .i64 bg, .int .i64 ev, v], .int .i64 t] h2 [] (.int .i64 (valC ⟨id, bg, ev, hs⟩ t)) [] := fun h2 V t t1 t2 hh => value_con h2 hh.gd id bg ev t v hs (hv.vw hh).itV ka t1 t2
  have hB : ∀ (h2 : Heap) {V : Ob} (t : Int), -1099511627776 ≤ t → t ≤ 1099511627776 → Vw h [] V h2 → Con Try.prog Bs 63 [.agg [.int .i64 id2, .int .i64 bg2, .int .i64 ev2, v2], .int .i64 t] h2 [] (.int .i64 (valC ⟨id2, bg2, ev2, hs2⟩ t)) [] := fun h2 V t t1 t2 hh => value_con h2 hh.gd id2 bg2 ev2 t v2 hs2 (hv2.vw hh).itV kb t1 t2
  have hvA := fun t => valC_bd ka t
  have hvB := fun t => valC_bd kb t
  refine Con.subR (Con.startR rfl Try.func34 rfl rfl Try.ntmps34 rfl rfl (SS.init g) ?_)
  (refine WK.seq ?_; refine WK.region ?_; refine St.box fun _ _ => ?_; refine St.box fun _ _ => ?_; refine St.alloc fun _ _ => ?_; refine St.assign ?_; refine WO.nil ?_; refine WK.seq ?_; refine WK.seq ?_; refine WK.region ?_; refine St.load ?_)
  rename_i p hp q hq r hr
  refine St.call (v := .bool true) (fun _ => rfl) (fun h2 hh => by
    have := isCycle_con h2 hh.gd id bg ev v hs (hv.vw hh).itV
    rw [hok] at this
    exact this) ?_
  (refine St.un ?_; refine St.move ?_; refine St.load ?_)
  refine St.call (v := .bool true) (fun _ => rfl) (fun h2 hh => by
    have := isCycle_con h2 hh.gd id2 bg2 ev2 v2 hs2 (hv2.vw hh).itV
    rw [hok2] at this
    exact this) ?_
  (refine St.un ?_; refine St.pickF ?_; refine WO.nil ?_; refine WK.condF ?_; refine WK.skip ?_; refine WK.seq ?_; refine WK.regionD ?_; refine St.fieldAddr ?_; refine St.load ?_; refine St.fieldAddr ?_; refine St.load ?_)
  refine St.call (fun _ => rfl) (fun h2 hh => divisor_con h2 hh.gd ev ev2 (by omega) (by omega) (by omega) (by omega)) ?_
  (refine St.fieldAddr ?_; refine St.load ?_; refine St.fieldAddr ?_; refine St.load ?_; refine St.binI ?_)
  refine St.call (fun _ => rfl) (fun h2 hh => divisor_con h2 hh.gd (Int.gcd ev ev2) (bg - bg2) (by omega) (by omega) (by omega) (by omega)) ?_
  rw [eG]
  (refine St.assign ?_; refine WO.nil ?_; refine WK.seq ?_; refine WK.regionD ?_; refine St.load ?_)
  refine St.call (fun _ => rfl) (fun h2 hh => length_con h2 hh.gd id bg ev v hs (hv.vw hh).itV ka) ?_
  (refine St.load ?_)
  refine St.call (fun _ => rfl) (fun h2 hh => length_con h2 hh.gd id2 bg2 ev2 v2 hs2 (hv2.vw hh).itV kb) ?_
  skip
  refine St.call (fun _ => rfl) (fun h2 hh => multiple_con h2 hh.gd (ev * hs.length) (ev2 * hs2.length) l1 (by omega) l3 (by omega)) ?_
  (refine St.move ?_)
  refine St.binX (r := .int .i64 (togN ⟨id, bg, ev, hs⟩ ⟨id2, bg2, ev2, hs2⟩)) (evQuo (by omega) (by rw [Int.tdiv_eq_ediv_of_nonneg (by omega), eN]) (by omega) (by omega)) rfl rfl ?_
  (refine St.assign ?_; refine WO.nil ?_; refine WK.seq ?_; refine WK.seq ?_; refine WK.region ?_; refine St.move ?_; refine St.bin ?_; refine WO.nil ?_)
  refine St.splitC (fun hc => ?_) (fun hc => ?_)
  · (refine WK.seq ?_; refine WK.region ?_; refine St.build ?_; refine St.store0 ?_; refine St.assign ?_; refine WO.nil ?_)
    refine St.ret (by first | exact .tmp .nil | exact .cell .nil | exact .cell (.tmp .nil) | exact .tmp (.tmp .nil) | exact .cell (.cell .nil) | exact .tmp (.cell .nil) | exact .nil | exact .tmp (.cell (.tmp .nil)) | exact .cell (.tmp (.tmp .nil)) | exact .cell (.cell (.tmp .nil)) | exact .tmp (.tmp (.tmp .nil)) | exact .cell (.cell (.cell .nil))) ?_
    rw [if_pos (by simpa using hc)]
    exact ⟨[], List.nil_sublist _, .slice0, .inl ⟨rfl, rfl, rfl⟩, rfl⟩
  have hN : ¬ togN ⟨id, bg, ev, hs⟩ ⟨id2, bg2, ev2, hs2⟩ > 60 := by simpa using hc
  rw [if_neg hN]
  obtain ⟨n, hn⟩ : ∃ n : Nat, togN ⟨id, bg, ev, hs⟩ ⟨id2, bg2, ev2, hs2⟩ = n := ⟨(togN ⟨id, bg, ev, hs⟩ ⟨id2, bg2, ev2, hs2⟩).toNat, by omega⟩
  rw [hn] at hN ⊢
  rw [Int.toNat_natCast]
  have hn60 : n ≤ 60 := by omega
  have hS : ∀ i : Nat, sumA ⟨id, bg, ev, hs⟩ ⟨id2, bg2, ev2, hs2⟩ i = valC ⟨id, bg, ev, hs⟩ (bg + i * togG ⟨id, bg, ev, hs⟩ ⟨id2, bg2, ev2, hs2⟩) + valC ⟨id2, bg2, ev2, hs2⟩ (bg + i * togG ⟨id, bg, ev, hs⟩ ⟨id2, bg2, ev2, hs2⟩) := fun i => rfl
  have hT0 := sumT_len ⟨id, bg, ev, hs⟩ ⟨id2, bg2, ev2, hs2⟩
  have hTs := sumT_succ ⟨id, bg, ev, hs⟩ ⟨id2, bg2, ev2, hs2⟩
  have hall := fun {n} => all_sum (a := ⟨id, bg, ev, hs⟩) (b := ⟨id2, bg2, ev2, hs2⟩) (n := n)
  have hnot := fun {n k} => not_sum (a := ⟨id, bg, ev, hs⟩) (b := ⟨id2, bg2, ev2, hs2⟩) (n := n) (k := k)
  clear e eG eN hok hok2 n1 n2 q1 q2 hn hc hN l1 l2 l3 l4 d1 d2
  generalize sumT ⟨id, bg, ev, hs⟩ ⟨id2, bg2, ev2, hs2⟩ = T at *
  generalize sumA ⟨id, bg, ev, hs⟩ ⟨id2, bg2, ev2, hs2⟩ = S at *
  generalize togG ⟨id, bg, ev, hs⟩ ⟨id2, bg2, ev2, hs2⟩ = G at *
  generalize valC ⟨id, bg, ev, hs⟩ = vA at *
  generalize valC ⟨id2, bg2, ev2, hs2⟩ = vB at *
  clear ka kb
  (refine WK.skip ?_; refine WK.seq ?_; refine WK.region ?_; refine St.fieldAddr ?_; refine St.load ?_; refine St.fieldAddr ?_; refine St.load ?_; refine St.move ?_; refine St.build ?_; refine St.alloc fun _ _ => ?_; refine St.store0 ?_; refine WO.nil ?_; refine WK.seq ?_; refine WK.seq ?_; refine WK.region ?_; refine St.move ?_; refine St.move ?_; refine WO.nil ?_; refine WK.block ?_)
  rename_i c hc
  refine WK.inv (ι := Nat × AV × Ob) (fun z => [(2, .ptr p 0), (3, .ptr q 0), (4, .ptr r 0), (5, .int .i64 0), (6, .int .i64 G), (8, .ptr c 0), (48, .int .i64 n), (49, .int .i64 z.1)]) (fun z => [(c, .cells [.int .i64 id, .int .i64 bg, .int .i64 G, z.2.1] 28), (r, .cells [.int .i64 0, .int .i64 0, .int .i64 0, .slice0] 28), (q, .cells [.int .i64 id2, .int .i64 bg2, .int .i64 ev2, v2] 28), (p, .cells [.int .i64 id, .int .i64 bg, .int .i64 ev, v] 28)] ++ z.2.2) (fun z => z.1 ≤ n ∧ (∀ i, i < z.1 → inB (S i) 4000 = true) ∧ IsL 3 1 z.1 ((T z.1).map (AV.int .i64)) z.2.1 z.2.2) (fun z => n - z.1) (0, .slice0, []) ⟨by omega, fun i hi => absurd hi (by simp), .nil rfl (by rw [List.length_eq_zero_iff.1 (hT0 0)]; rfl)⟩ ⟨rfl, rfl, rfl, rfl, rfl, rfl, rfl, rfl, trivial⟩ (by (repeat (first | exact List.Sublist.refl _ | exact List.nil_sublist _ | apply List.Sublist.cons_cons | apply List.Sublist.cons))) ?_
  rintro ⟨k, w, Lw⟩ ⟨hkn, hin, hw⟩ ih
  simp only at hkn hin hw ih ⊢
  (refine WK.seq ?_; refine WK.region ?_; refine St.bin ?_; refine WO.nil ?_; refine WK.seq ?_)
  refine St.splitC (fun hc2 => ?_) (fun hc2 => ?_)
  · have hlt : k < n := by simp at hc2; omega
    obtain ⟨m1, m2⟩ := mul_bd (a := (k : Int)) (b := G) (A := 60) (B := 120) (by omega) (by omega) (by omega) (by omega)
    have v1 := hvA (bg + k * G)
    have v2' := hvB (bg + k * G)
    (refine WK.skip ?_; refine WK.seq ?_; refine WK.block ?_; refine WK.seq ?_; refine WK.region ?_; refine St.move ?_; refine St.assign ?_; refine WO.nil ?_; refine WK.seq ?_; refine WK.region ?_; refine St.fieldAddr ?_; refine St.load ?_; refine St.move ?_; refine St.move ?_; refine St.binI ?_; refine St.binI ?_; refine St.assign ?_; refine WO.nil ?_; refine WK.seq ?_; refine WK.regionD ?_; refine St.load ?_; refine St.move ?_)
    refine St.call (fun _ => rfl) (fun h2 hh => hA h2 (bg + k * G) (by omega) (by omega) hh) ?_
    (refine St.load ?_; refine St.move ?_)
    refine St.call (fun _ => rfl) (fun h2 hh => hB h2 (bg + k * G) (by omega) (by omega) hh) ?_
    (refine St.binI ?_; refine St.assign ?_; refine WO.nil ?_; refine WK.seq ?_; refine WK.seq ?_; refine WK.region ?_; refine St.move ?_)
    refine St.call (fun _ => rfl) (fun h2 hh => within_con h2 hh.gd (vA (bg + k * G) + vB (bg + k * G))) ?_
    rw [← hS k]
    (refine St.un ?_; refine WO.nil ?_)
    refine St.splitC (fun hc3 => ?_) (fun hc3 => ?_)
    · (refine WK.seq ?_; refine WK.region ?_; refine St.build ?_; refine St.store1 ?_; refine St.assign ?_; refine WO.nil ?_)
      refine St.ret (by first | exact .tmp .nil | exact .cell .nil | exact .cell (.tmp .nil) | exact .tmp (.tmp .nil) | exact .cell (.cell .nil) | exact .tmp (.cell .nil) | exact .nil | exact .tmp (.cell (.tmp .nil)) | exact .cell (.tmp (.tmp .nil)) | exact .cell (.cell (.tmp .nil)) | exact .tmp (.tmp (.tmp .nil)) | exact .cell (.cell (.cell .nil))) ?_
      rw [if_neg (hnot hlt (by simpa using hc3))]
      exact ⟨[], List.nil_sublist _, .slice0, .inl ⟨rfl, rfl, rfl⟩, rfl⟩
    · have hb : inB (S k) 4000 = true := by simpa using hc3
      (refine WK.skip ?_; refine WK.region ?_; refine St.fieldAddr ?_; refine St.load ?_; refine St.move ?_; refine St.mkS fun _ _ => ?_)
      rename_i i2 hi2
      refine St.appL (new := [.int .i64 (S k)]) (Lk := [(i2, .cells [.int .i64 (S k)] 3), (c, .cells [.int .i64 id, .int .i64 bg, .int .i64 G, w] 28), (r, .cells [.int .i64 0, .int .i64 0, .int .i64 0, .slice0] 28), (q, .cells [.int .i64 id2, .int .i64 bg2, .int .i64 ev2, v2] 28), (p, .cells [.int .i64 id, .int .i64 bg, .int .i64 ev, v] 28)]) hw List.perm_append_comm (fun w3 Lw3 hw3 => ?_) ⟨rfl, rfl, rfl, rfl, rfl, rfl, rfl, rfl, rfl, rfl, rfl, rfl⟩ (List.Mem.head _) rfl (by omega) (by omega)
      refine WO.permF (L' := [(i2, .cells [.int .i64 (S k)] 3), (c, .cells [.int .i64 id, .int .i64 bg, .int .i64 G, w] 28), (r, .cells [.int .i64 0, .int .i64 0, .int .i64 0, .slice0] 28), (q, .cells [.int .i64 id2, .int .i64 bg2, .int .i64 ev2, v2] 28), (p, .cells [.int .i64 id, .int .i64 bg, .int .i64 ev, v] 28)] ++ Lw3) List.perm_append_comm ?_
      have hw4 : IsL 3 1 (k + 1) ((T (k + 1)).map (AV.int .i64)) w3 Lw3 := by
        rw [hTs k, List.map_append]
        exact hw3
      have hst := isl_ok hw3
      (refine St.fieldAddr ?_)
      refine St.store1 (hv := store_at3 rfl hst.2 hst.1 rfl) ?_
      (refine WO.nil ?_; refine WK.blk ?_; refine WK.region ?_; refine St.binI ?_; refine St.move ?_; refine WO.nil ?_)
      refine WK.le ?_ (List.sublist_cons_self _ _) (ih (k + 1, w3, Lw3) ⟨hlt, fun i hi => ?_, hw4⟩ (by simp only; omega))
      · exact ⟨rfl, rfl, rfl, rfl, rfl, rfl, rfl, rfl, trivial⟩
      · rcases Nat.lt_succ_iff_lt_or_eq.1 hi with h1 | rfl
        · exact hin i h1
        · exact hb
  · have : k = n := by simp at hc2; omega
    subst this
    have hst := isl_ok hw
    (refine WK.exit ?_; refine WK.seq ?_; refine WK.region ?_; refine St.load ?_)
    refine St.store1 (hv := store_cy rfl hst.1 rfl) ?_
    (refine St.assign ?_; refine WO.nil ?_)
    refine St.ret (by first | exact .tmp .nil | exact .cell .nil | exact .cell (.tmp .nil) | exact .tmp (.tmp .nil) | exact .cell (.cell .nil) | exact .tmp (.cell .nil) | exact .nil | exact .tmp (.cell (.tmp .nil)) | exact .cell (.tmp (.tmp .nil)) | exact .cell (.cell (.tmp .nil)) | exact .tmp (.tmp (.tmp .nil)) | exact .cell (.cell (.cell .nil))) ?_
    rw [if_pos (hall hin)]
    refine ⟨Lw, ?_, w, isl_is hw (hT0 k), rfl⟩
    exact List.sublist_append_right [(c, .cells [.int .i64 id, .int .i64 bg, .int .i64 G, w] 28), (r, .cells [.int .i64 id, .int .i64 bg, .int .i64 G, w] 28), (q, .cells [.int .i64 id2, .int .i64 bg2, .int .i64 ev2, v2] 28), (p, .cells [.int .i64 id, .int .i64 bg, .int .i64 ev, v] 28)] Lw
end Go.Proofs.Ytekpffjcffeanaa
