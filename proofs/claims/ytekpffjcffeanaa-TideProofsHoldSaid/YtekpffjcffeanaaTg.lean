/- The reference's Together over the calculator's memory. -/
import Derived.Test.YtekpffjcffeanaaTf
namespace Go.Proofs.Ytekpffjcffeanaa
open Go.Proofs.Ytekpffjcffeanaa.Ev

theorem gcd_max (d x y : Int) : Int.gcd d (max (x - y) (y - x)) = Int.gcd d (x - y) := by
  rcases Int.le_total (x - y) (y - x) with h | h
  · rw [Int.max_eq_right h, show y - x = -(x - y) by omega, Int.gcd_neg]
  · rw [Int.max_eq_left h]
theorem store5 {P : Program} {t ty : TypeId} {x y z u o w : AV} {a b c e : Int} (hs : sizeT P t = some 5) (hw : okCell w = true) {off : Nat} (hoff : off = 0) : (AObj.cells [x, y, z, u, o] ty).store P t off (.agg [.int .i64 a, .int .i64 b, .int .i64 c, w, .int .i64 e]) = some (.cells [.int .i64 a, .int .i64 b, .int .i64 c, w, .int .i64 e] ty) := by
  subst hoff
  have h1 : okCell (.int .i64 a) = true := rfl
  have h2 : okCell (.int .i64 b) = true := rfl
  have h3 : okCell (.int .i64 c) = true := rfl
  have h4 : okCell (.int .i64 e) = true := rfl
  simp [AObj.store, hs, AV.cells, h1, h2, h3, h4, hw, AObj.put, overN]
set_option maxRecDepth 100000 in
set_option maxHeartbeats 16000000 in
theorem rtogether_con (h : Heap) (g : Gd h) (id bg ev id2 bg2 ev2 : Int) (v v2 : AV) (hs hs2 : List Int) (hv : ItA h v hs) (hv2 : ItA h v2 hs2) :
    ∃ w L, Con Try.prog Bs 56 [.agg [.int .i64 id, .int .i64 bg, .int .i64 ev, v], .agg [.int .i64 id2, .int .i64 bg2, .int .i64 ev2, v2]] h [] w L ∧ CyRef (togR ⟨id, bg, ev, hs⟩ ⟨id2, bg2, ev2, hs2⟩) w L := by
  have hR1 : ∀ (h2 : Heap) {V : Ob}, Vw h [] V h2 → Con Try.prog Bs 89 [.agg [.int .i64 id, .int .i64 bg, .int .i64 ev, v]] h2 [] (.bool (cyOk ⟨id, bg, ev, hs⟩)) [] := fun h2 V hh => right_con h2 hh.gd id bg ev v hs (hv.vw hh).itV
  have hR2 : ∀ (h2 : Heap) {V : Ob}, Vw h [] V h2 → Con Try.prog Bs 89 [.agg [.int .i64 id2, .int .i64 bg2, .int .i64 ev2, v2]] h2 [] (.bool (cyOk ⟨id2, bg2, ev2, hs2⟩)) [] := fun h2 V hh => right_con h2 hh.gd id2 bg2 ev2 v2 hs2 (hv2.vw hh).itV
  by_cases hok : cyOk ⟨id, bg, ev, hs⟩ = true
  rotate_left
  · have e : togR ⟨id, bg, ev, hs⟩ ⟨id2, bg2, ev2, hs2⟩ = (noC, 1) := if_neg fun k => hok k.1
    have hno : cyOk ⟨id, bg, ev, hs⟩ = false := by simpa using hok
    rw [e]
    rw [hno] at hR1
    refine Con.subR (Con.startR rfl Try.func56 rfl rfl Try.ntmps56 rfl rfl (SS.init g) ?_)
    (refine WK.seq ?_; refine WK.region ?_; refine St.box fun _ _ => ?_; refine St.box fun _ _ => ?_; refine St.alloc fun _ _ => ?_; refine WO.nil ?_; refine WK.seq ?_; refine WK.region ?_; refine St.load ?_)
    refine St.call (fun _ => rfl) (fun h2 hh => hR1 h2 hh) ?_
    (refine St.assign ?_; refine WO.nil ?_; refine WK.seq ?_; refine WK.region ?_; refine St.load ?_)
    refine St.call (fun _ => rfl) (fun h2 hh => hR2 h2 hh) ?_
    (refine St.assign ?_; refine WO.nil ?_; refine WK.seq ?_; refine WK.seq ?_; refine WK.region ?_; refine St.move ?_; refine St.un ?_; refine St.move ?_; refine St.skip ?_; refine St.skip ?_; refine St.pickT ?_; refine WO.nil ?_; refine WK.condT ?_; refine WK.seq ?_; refine WK.region ?_; refine St.build ?_; refine St.store0 ?_; refine WO.nil ?_)
    refine St.ret (by first | exact .tmp .nil | exact .cell .nil | exact .cell (.tmp .nil) | exact .tmp (.tmp .nil) | exact .cell (.cell .nil) | exact .tmp (.cell .nil) | exact .nil | exact .tmp (.cell (.tmp .nil)) | exact .cell (.tmp (.tmp .nil)) | exact .cell (.cell (.tmp .nil)) | exact .tmp (.tmp (.tmp .nil)) | exact .cell (.cell (.cell .nil))) ?_
    exact ⟨[], List.nil_sublist _, .slice0, .inl ⟨rfl, rfl, rfl⟩, rfl⟩
  rw [hok] at hR1
  by_cases hok2 : cyOk ⟨id2, bg2, ev2, hs2⟩ = true
  rotate_left
  · have e : togR ⟨id, bg, ev, hs⟩ ⟨id2, bg2, ev2, hs2⟩ = (noC, 1) := if_neg fun k => hok2 k.2
    have hno : cyOk ⟨id2, bg2, ev2, hs2⟩ = false := by simpa using hok2
    rw [e]
    rw [hno] at hR2
    refine Con.subR (Con.startR rfl Try.func56 rfl rfl Try.ntmps56 rfl rfl (SS.init g) ?_)
    (refine WK.seq ?_; refine WK.region ?_; refine St.box fun _ _ => ?_; refine St.box fun _ _ => ?_; refine St.alloc fun _ _ => ?_; refine WO.nil ?_; refine WK.seq ?_; refine WK.region ?_; refine St.load ?_)
    refine St.call (fun _ => rfl) (fun h2 hh => hR1 h2 hh) ?_
    (refine St.assign ?_; refine WO.nil ?_; refine WK.seq ?_; refine WK.region ?_; refine St.load ?_)
    refine St.call (fun _ => rfl) (fun h2 hh => hR2 h2 hh) ?_
    (refine St.assign ?_; refine WO.nil ?_; refine WK.seq ?_; refine WK.seq ?_; refine WK.region ?_; refine St.move ?_; refine St.un ?_; refine St.move ?_; refine St.move ?_; refine St.un ?_; refine St.pickF ?_; refine WO.nil ?_; refine WK.condT ?_; refine WK.seq ?_; refine WK.region ?_; refine St.build ?_; refine St.store0 ?_; refine WO.nil ?_)
    refine St.ret (by first | exact .tmp .nil | exact .cell .nil | exact .cell (.tmp .nil) | exact .tmp (.tmp .nil) | exact .cell (.cell .nil) | exact .tmp (.cell .nil) | exact .nil | exact .tmp (.cell (.tmp .nil)) | exact .cell (.tmp (.tmp .nil)) | exact .cell (.cell (.tmp .nil)) | exact .tmp (.tmp (.tmp .nil)) | exact .cell (.cell (.cell .nil))) ?_
    exact ⟨[], List.nil_sublist _, .slice0, .inl ⟨rfl, rfl, rfl⟩, rfl⟩
  rw [hok2] at hR2
  have ka := cyOk_iff.1 hok
  have kb := cyOk_iff.1 hok2
  obtain ⟨g1, g2, n1, n2, d1, d2⟩ := tog_bd ka kb
  obtain ⟨l1, l2⟩ := len_pos ka
  obtain ⟨l3, l4⟩ := len_pos kb
  obtain ⟨q1, q2, q3, q4⟩ := lcm_bd (A := 7200) l1 l2 l3 l4
  have a1 := ka.bg1
  have a2 := ka.bg2
  have a3 := ka.ev1
  have a4 := ka.ev2
  have a5 := ka.n2
  have b1 := kb.bg1
  have b2 := kb.bg2
  have b3 := kb.ev1
  have b4 := kb.ev2
  have b5 := kb.n2
  simp only at a1 a2 a3 a4 a5 b1 b2 b3 b4 b5 d1 d2
  have e : togR ⟨id, bg, ev, hs⟩ ⟨id2, bg2, ev2, hs2⟩ = _ := if_pos ⟨hok, hok2⟩
  rw [e]
  have eG : (Int.gcd (Int.gcd ev ev2) (bg - bg2) : Int) = togG ⟨id, bg, ev, hs⟩ ⟨id2, bg2, ev2, hs2⟩ := rfl
  have eL : ev * hs.length / (Int.gcd (ev * hs.length) (ev2 * hs2.length) : Int) * (ev2 * hs2.length) = lcmI (ev * hs.length) (ev2 * hs2.length) := rfl
  have eN : lcmI (ev * hs.length) (ev2 * hs2.length) / togG ⟨id, bg, ev, hs⟩ ⟨id2, bg2, ev2, hs2⟩ = togN ⟨id, bg, ev, hs⟩ ⟨id2, bg2, ev2, hs2⟩ := rfl
  obtain ⟨e1, e2⟩ := gcd_pos (b := ev2 * (hs2.length : Int)) l1
  have hA : ∀ (h2 : Heap) {V : Ob} (t : Int), -1073741824 ≤ t → t ≤ 1073741824 → Vw h [] V h2 → Con Try.prog Bs 91 [.agg [.int .i64 id, .int .i64 bg, .int .i64 ev, v], .int .i64 t] h2 [] (.int .i64 (valC ⟨id, bg, ev, hs⟩ t)) [] := fun h2 V t t1 t2 hh => of_con h2 hh.gd id bg ev t v hs (hv.vw hh).itV ka t1 t2
  have hB : ∀ (h2 : Heap) {V : Ob} (t : Int), -1073741824 ≤ t → t ≤ 1073741824 → Vw h [] V h2 → Con Try.prog Bs 91 [.agg [.int .i64 id2, .int .i64 bg2, .int .i64 ev2, v2], .int .i64 t] h2 [] (.int .i64 (valC ⟨id2, bg2, ev2, hs2⟩ t)) [] := fun h2 V t t1 t2 hh => of_con h2 hh.gd id2 bg2 ev2 t v2 hs2 (hv2.vw hh).itV kb t1 t2
  have hvA := fun t => valC_bd ka t
  have hvB := fun t => valC_bd kb t
  obtain ⟨m1, m2⟩ := mul_bd (a := ev) (b := hs.length) (A := 120) (B := 60) (by omega) a4 (by omega) (by omega)
  obtain ⟨m3, m4⟩ := mul_bd (a := ev2) (b := hs2.length) (A := 120) (B := 60) (by omega) b4 (by omega) (by omega)
  refine Con.subR (Con.startR rfl Try.func56 rfl rfl Try.ntmps56 rfl rfl (SS.init g) ?_)
  (refine WK.seq ?_; refine WK.region ?_; refine St.box fun _ _ => ?_; refine St.box fun _ _ => ?_; refine St.alloc fun _ _ => ?_; refine WO.nil ?_; refine WK.seq ?_; refine WK.region ?_; refine St.load ?_)
  rename_i p hp q hq r hr
  refine St.call (fun _ => rfl) (fun h2 hh => hR1 h2 hh) ?_
  (refine St.assign ?_; refine WO.nil ?_; refine WK.seq ?_; refine WK.region ?_; refine St.load ?_)
  refine St.call (fun _ => rfl) (fun h2 hh => hR2 h2 hh) ?_
  (refine St.assign ?_; refine WO.nil ?_; refine WK.seq ?_; refine WK.seq ?_; refine WK.region ?_; refine St.move ?_; refine St.un ?_; refine St.move ?_; refine St.move ?_; refine St.un ?_; refine St.pickF ?_; refine WO.nil ?_; refine WK.condF ?_; refine WK.skip ?_; refine WK.seq ?_; refine WK.regionD ?_; refine St.fieldAddr ?_; refine St.load ?_; refine St.fieldAddr ?_; refine St.load ?_)
  refine St.call (fun _ => rfl) (fun h2 hh => common_con h2 hh.gd ev ev2 (by omega) (by omega) (by omega) (by omega)) ?_
  (refine St.fieldAddr ?_; refine St.load ?_; refine St.fieldAddr ?_; refine St.load ?_; refine St.binI ?_; refine St.fieldAddr ?_; refine St.load ?_; refine St.fieldAddr ?_; refine St.load ?_; refine St.binI ?_; refine St.maxI ?_)
  refine St.call (fun _ => rfl) (fun h2 hh => common_con h2 hh.gd (Int.gcd ev ev2) (max (bg - bg2) (bg2 - bg)) (by omega) (by omega) (by omega) (by omega)) ?_
  rw [gcd_max, eG]
  (refine St.assign ?_; refine WO.nil ?_; refine WK.seq ?_; refine WK.region ?_; refine St.fieldAddr ?_; refine St.load ?_; refine St.fieldAddr ?_; refine St.load ?_)
  refine St.lenV rfl hv.itV.len ?_
  (refine St.binI ?_; refine St.assign ?_; refine WO.nil ?_; refine WK.seq ?_; refine WK.region ?_; refine St.fieldAddr ?_; refine St.load ?_; refine St.fieldAddr ?_; refine St.load ?_)
  refine St.lenV rfl hv2.itV.len ?_
  (refine St.binI ?_; refine St.assign ?_; refine WO.nil ?_; refine WK.seq ?_; refine WK.region ?_; refine St.move ?_; refine St.move ?_; refine St.move ?_)
  refine St.call (fun _ => rfl) (fun h2 hh => common_con h2 hh.gd (ev * hs.length) (ev2 * hs2.length) (by omega) (by omega) (by omega) (by omega)) ?_
  skip
  refine St.binX (r := .int .i64 (ev * hs.length / (Int.gcd (ev * hs.length) (ev2 * hs2.length) : Int))) (evQuo (by omega) (Int.tdiv_eq_ediv_of_nonneg (by omega)) (by omega) (by omega)) rfl rfl ?_
  have hlm : -9223372036854775808 ≤ ev * hs.length / (Int.gcd (ev * hs.length) (ev2 * hs2.length) : Int) * (ev2 * hs2.length) ∧ ev * hs.length / (Int.gcd (ev * hs.length) (ev2 * hs2.length) : Int) * (ev2 * hs2.length) ≤ 9223372036854775807 := by rw [eL]; omega
  obtain ⟨hlm1, hlm2⟩ := hlm
  (refine St.move ?_; refine St.binI ?_; refine St.assign ?_; refine WO.nil ?_; refine WK.seq ?_; refine WK.seq ?_; refine WK.region ?_; refine St.move ?_; refine St.move ?_)
  rw [eL]
  refine St.binX (r := .int .i64 (togN ⟨id, bg, ev, hs⟩ ⟨id2, bg2, ev2, hs2⟩)) (evQuo (by omega) (by rw [Int.tdiv_eq_ediv_of_nonneg (by omega), eN]) (by omega) (by omega)) rfl rfl ?_
  (refine St.bin ?_; refine WO.nil ?_)
  refine St.splitC (fun hc => ?_) (fun hc => ?_)
  · (refine WK.seq ?_; refine WK.region ?_; refine St.build ?_; refine St.store0 ?_; refine WO.nil ?_)
    refine St.ret (by first | exact .tmp .nil | exact .cell .nil | exact .cell (.tmp .nil) | exact .tmp (.tmp .nil) | exact .cell (.cell .nil) | exact .tmp (.cell .nil) | exact .nil | exact .tmp (.cell (.tmp .nil)) | exact .cell (.tmp (.tmp .nil)) | exact .cell (.cell (.tmp .nil)) | exact .tmp (.tmp (.tmp .nil)) | exact .cell (.cell (.cell .nil))) ?_
    rw [if_pos (by simpa using hc)]
    exact ⟨[], List.nil_sublist _, .slice0, .inl ⟨rfl, rfl, rfl⟩, rfl⟩
  have hN : ¬ togN ⟨id, bg, ev, hs⟩ ⟨id2, bg2, ev2, hs2⟩ > 60 := by simpa using hc
  rw [if_neg hN]
  obtain ⟨n, hn⟩ : ∃ n : Nat, togN ⟨id, bg, ev, hs⟩ ⟨id2, bg2, ev2, hs2⟩ = n := ⟨(togN ⟨id, bg, ev, hs⟩ ⟨id2, bg2, ev2, hs2⟩).toNat, by omega⟩
  rw [hn] at hN eN ⊢
  rw [Int.toNat_natCast]
  have hn60 : n ≤ 60 := by omega
  have hS : ∀ i : Nat, sumA ⟨id, bg, ev, hs⟩ ⟨id2, bg2, ev2, hs2⟩ i = valC ⟨id, bg, ev, hs⟩ (bg + i * togG ⟨id, bg, ev, hs⟩ ⟨id2, bg2, ev2, hs2⟩) + valC ⟨id2, bg2, ev2, hs2⟩ (bg + i * togG ⟨id, bg, ev, hs⟩ ⟨id2, bg2, ev2, hs2⟩) := fun i => rfl
  have hT0 := sumT_len ⟨id, bg, ev, hs⟩ ⟨id2, bg2, ev2, hs2⟩
  have hTs := sumT_succ ⟨id, bg, ev, hs⟩ ⟨id2, bg2, ev2, hs2⟩
  have hall := fun {n} => all_sum (a := ⟨id, bg, ev, hs⟩) (b := ⟨id2, bg2, ev2, hs2⟩) (n := n)
  have hnot := fun {n k} => not_sum (a := ⟨id, bg, ev, hs⟩) (b := ⟨id2, bg2, ev2, hs2⟩) (n := n) (k := k)
  have hq : (lcmI (ev * hs.length) (ev2 * hs2.length)).tdiv (togG ⟨id, bg, ev, hs⟩ ⟨id2, bg2, ev2, hs2⟩) = n := by rw [Int.tdiv_eq_ediv_of_nonneg (by omega), eN]
  clear e eG eN eL hlm1 hlm2 hok hok2 n1 n2 q1 q2 q3 q4 hn hc hN l1 l2 l3 l4 d1 d2 hR1 hR2 e1 e2 m1 m2 m3 m4
  generalize sumT ⟨id, bg, ev, hs⟩ ⟨id2, bg2, ev2, hs2⟩ = T at *
  generalize sumA ⟨id, bg, ev, hs⟩ ⟨id2, bg2, ev2, hs2⟩ = S at *
  generalize togG ⟨id, bg, ev, hs⟩ ⟨id2, bg2, ev2, hs2⟩ = G at *
  generalize valC ⟨id, bg, ev, hs⟩ = vA at *
  generalize valC ⟨id2, bg2, ev2, hs2⟩ = vB at *
  generalize lcmI (ev * hs.length) (ev2 * hs2.length) = M at *
  clear ka kb
  (refine WK.skip ?_; refine WK.seq ?_; refine WK.region ?_; refine St.fieldAddr ?_; refine St.load ?_; refine St.fieldAddr ?_; refine St.load ?_; refine St.move ?_; refine St.build ?_; refine St.alloc fun _ _ => ?_; refine St.store0 ?_; refine WO.nil ?_; refine WK.seq ?_; refine WK.seq ?_; refine WK.region ?_; refine St.assign ?_; refine WO.nil ?_; refine WK.block ?_)
  rename_i c hc
  refine WK.inv (ι := Nat × AV × Ob) (fun z => [(2, .ptr p 0), (3, .ptr q 0), (4, .ptr r 0), (7, .int .i64 G), (10, .int .i64 M), (11, .ptr c 0), (12, .int .i64 z.1)]) (fun z => [(c, .cells [.int .i64 id, .int .i64 bg, .int .i64 G, z.2.1] 28), (r, .cells [.int .i64 0, .int .i64 0, .int .i64 0, .slice0, .int .i64 0] 95), (q, .cells [.int .i64 id2, .int .i64 bg2, .int .i64 ev2, v2] 28), (p, .cells [.int .i64 id, .int .i64 bg, .int .i64 ev, v] 28)] ++ z.2.2) (fun z => z.1 ≤ n ∧ (∀ i, i < z.1 → inB (S i) 4000 = true) ∧ IsL 3 1 z.1 ((T z.1).map (AV.int .i64)) z.2.1 z.2.2) (fun z => n - z.1) (0, .slice0, []) ⟨by omega, fun i hi => absurd hi (by simp), .nil rfl (by rw [List.length_eq_zero_iff.1 (hT0 0)]; rfl)⟩ ⟨rfl, rfl, rfl, rfl, rfl, rfl, rfl, trivial⟩ (by (repeat (first | exact List.Sublist.refl _ | exact List.nil_sublist _ | apply List.Sublist.cons_cons | apply List.Sublist.cons))) ?_
  rintro ⟨k, w, Lw⟩ ⟨hkn, hin, hw⟩ ih
  simp only at hkn hin hw ih ⊢
  (refine WK.seq ?_; refine WK.seq ?_; refine WK.region ?_; refine St.move ?_; refine St.move ?_; refine St.move ?_)
  refine St.binX (r := .int .i64 n) (evQuo (by omega) hq (by omega) (by omega)) rfl rfl ?_
  (refine St.bin ?_; refine WO.nil ?_)
  refine St.splitC (fun hc2 => ?_) (fun hc2 => ?_)
  · have hlt : k < n := by simp at hc2; omega
    obtain ⟨m1, m2⟩ := mul_bd (a := (k : Int)) (b := G) (A := 60) (B := 120) (by omega) (by omega) (by omega) (by omega)
    have v1 := hvA (bg + k * G)
    have v2' := hvB (bg + k * G)
    (refine WK.skip ?_; refine WK.seq ?_; refine WK.block ?_; refine WK.seq ?_; refine WK.regionD ?_; refine St.load ?_; refine St.fieldAddr ?_; refine St.load ?_; refine St.move ?_; refine St.move ?_; refine St.binI ?_; refine St.binI ?_)
    refine St.call (fun _ => rfl) (fun h2 hh => hA h2 (bg + k * G) (by omega) (by omega) hh) ?_
    (refine St.load ?_; refine St.fieldAddr ?_; refine St.load ?_; refine St.move ?_; refine St.move ?_; refine St.binI ?_; refine St.binI ?_)
    refine St.call (fun _ => rfl) (fun h2 hh => hB h2 (bg + k * G) (by omega) (by omega) hh) ?_
    (refine St.binI ?_; refine St.assign ?_; refine WO.nil ?_; refine WK.seq ?_; refine WK.region ?_; refine St.move ?_)
    refine St.call (v := .bool (inB (S k) 4000)) (fun _ => rfl) (fun h2 hh => by
      have := rwithin_con h2 hh.gd (vA (bg + k * G) + vB (bg + k * G)) (-4000) 4000
      rw [hS k]
      exact this) ?_
    rw [← hS k]
    (refine St.assign ?_; refine WO.nil ?_; refine WK.seq ?_; refine WK.seq ?_; refine WK.region ?_; refine St.move ?_; refine St.un ?_; refine WO.nil ?_)
    refine St.splitC (fun hc3 => ?_) (fun hc3 => ?_)
    · (refine WK.seq ?_; refine WK.region ?_; refine St.build ?_; refine St.store1 ?_; refine WO.nil ?_)
      refine St.ret (by first | exact .tmp .nil | exact .cell .nil | exact .cell (.tmp .nil) | exact .tmp (.tmp .nil) | exact .cell (.cell .nil) | exact .tmp (.cell .nil) | exact .nil | exact .tmp (.cell (.tmp .nil)) | exact .cell (.tmp (.tmp .nil)) | exact .cell (.cell (.tmp .nil)) | exact .tmp (.tmp (.tmp .nil)) | exact .cell (.cell (.cell .nil))) ?_
      rw [if_neg (hnot hlt (by simpa using hc3))]
      exact ⟨[], List.nil_sublist _, .slice0, .inl ⟨rfl, rfl, rfl⟩, rfl⟩
    · have hb : inB (S k) 4000 = true := by simpa using hc3
      (refine WK.skip ?_; refine WK.region ?_; refine St.fieldAddr ?_; refine St.load ?_; refine St.move ?_; refine St.mkS fun _ _ => ?_)
      rename_i i2 hi2
      refine St.appL (new := [.int .i64 (S k)]) (Lk := [(i2, .cells [.int .i64 (S k)] 3), (c, .cells [.int .i64 id, .int .i64 bg, .int .i64 G, w] 28), (r, .cells [.int .i64 0, .int .i64 0, .int .i64 0, .slice0, .int .i64 0] 95), (q, .cells [.int .i64 id2, .int .i64 bg2, .int .i64 ev2, v2] 28), (p, .cells [.int .i64 id, .int .i64 bg, .int .i64 ev, v] 28)]) hw List.perm_append_comm (fun w3 Lw3 hw3 => ?_) ⟨rfl, rfl, rfl, rfl, rfl, rfl, rfl, rfl, rfl, rfl, rfl, rfl⟩ (List.Mem.head _) rfl (by omega) (by omega)
      refine WO.permF (L' := [(i2, .cells [.int .i64 (S k)] 3), (c, .cells [.int .i64 id, .int .i64 bg, .int .i64 G, w] 28), (r, .cells [.int .i64 0, .int .i64 0, .int .i64 0, .slice0, .int .i64 0] 95), (q, .cells [.int .i64 id2, .int .i64 bg2, .int .i64 ev2, v2] 28), (p, .cells [.int .i64 id, .int .i64 bg, .int .i64 ev, v] 28)] ++ Lw3) List.perm_append_comm ?_
      have hw4 : IsL 3 1 (k + 1) ((T (k + 1)).map (AV.int .i64)) w3 Lw3 := by
        rw [hTs k, List.map_append]
        exact hw3
      have hst := isl_ok hw3
      (refine St.fieldAddr ?_)
      refine St.store1 (hv := store_at3 rfl hst.2 hst.1 rfl) ?_
      (refine WO.nil ?_; refine WK.blk ?_; refine WK.region ?_; refine St.move ?_; refine St.binI ?_; refine St.assign ?_; refine WO.nil ?_)
      refine WK.le ?_ (List.sublist_cons_self _ _) (ih (k + 1, w3, Lw3) ⟨hlt, fun i hi => ?_, hw4⟩ (by simp only; omega))
      · exact ⟨rfl, rfl, rfl, rfl, rfl, rfl, rfl, trivial⟩
      · rcases Nat.lt_succ_iff_lt_or_eq.1 hi with h1 | rfl
        · exact hin i h1
        · exact hb
  · have : k = n := by simp at hc2; omega
    subst this
    have hst := isl_ok hw
    (refine WK.exit ?_; refine WK.seq ?_; refine WK.region ?_; refine St.load ?_; refine St.build ?_)
    refine St.store1 (hv := store5 rfl hst.1 rfl) ?_
    (refine WO.nil ?_)
    refine St.ret (by first | exact .tmp .nil | exact .cell .nil | exact .cell (.tmp .nil) | exact .tmp (.tmp .nil) | exact .cell (.cell .nil) | exact .tmp (.cell .nil) | exact .nil | exact .tmp (.cell (.tmp .nil)) | exact .cell (.tmp (.tmp .nil)) | exact .cell (.cell (.tmp .nil)) | exact .tmp (.tmp (.tmp .nil)) | exact .cell (.cell (.cell .nil))) ?_
    rw [if_pos (hall hin)]
    refine ⟨Lw, ?_, w, isl_is hw (hT0 k), rfl⟩
    exact List.sublist_append_right [(c, .cells [.int .i64 id, .int .i64 bg, .int .i64 G, w] 28), (r, .cells [.int .i64 id, .int .i64 bg, .int .i64 G, w, .int .i64 0] 95), (q, .cells [.int .i64 id2, .int .i64 bg2, .int .i64 ev2, v2] 28), (p, .cells [.int .i64 id, .int .i64 bg, .int .i64 ev, v] 28)] Lw
end Go.Proofs.Ytekpffjcffeanaa
