/- The law TideCyclesHold over the calculator's memory. -/
import Derived.Test.YtekpffjcffeanaaTq
import Derived.Test.YtekpffjcffeanaaTj
namespace Go.Proofs.Ytekpffjcffeanaa
open Go.Proofs.Ytekpffjcffeanaa.Ev

def isMin (t : Int) : Bool := decide (0 ≤ t) && decide (t ≤ 1048576)
def cvalR (c : Cy) (t : Int) : Int × Int := if cyOk c = true ∧ isMin t = true then (valC c t, 0) else (0, 1)
set_option maxRecDepth 100000 in
set_option maxHeartbeats 4000000 in
theorem valueP_con (h : Heap) (g : Gd h) (id bg ev t : Int) (v : AV) (hs : List Int) (hv : ItV h v hs) :
    Con Try.prog Bs 19 [.agg [.int .i64 id, .int .i64 bg, .int .i64 ev, v], .int .i64 t] h [] (.tup [.int .i64 (cvalR ⟨id, bg, ev, hs⟩ t).1, .int .i64 (cvalR ⟨id, bg, ev, hs⟩ t).2]) [] := by
  by_cases hok : cyOk ⟨id, bg, ev, hs⟩ = true
  rotate_left
  · have e : cvalR ⟨id, bg, ev, hs⟩ t = (0, 1) := if_neg fun k => hok k.1
    have hno : cyOk ⟨id, bg, ev, hs⟩ = false := by simpa using hok
    rw [e]
    refine Con.start rfl Try.func19 rfl rfl Try.ntmps19 rfl rfl g ?_
    (refine WK.seq ?_; refine WK.region ?_; refine St.box fun _ _ => ?_; refine St.assign ?_; refine St.assign ?_; refine WO.nil ?_; refine WK.seq ?_; refine WK.seq ?_; refine WK.region ?_; refine St.load ?_)
    refine St.call (v := .bool false) (fun _ => rfl) (fun h2 hh => by
      have := isCycle_con h2 hh.gd id bg ev v hs (hv.vw hh)
      rw [hno] at this
      exact this) ?_
    (refine St.un ?_; refine St.move ?_; refine St.skip ?_; refine St.skip ?_; refine St.skip ?_; refine St.pickT ?_; refine WO.nil ?_; refine WK.condT ?_; refine WK.seq ?_; refine WK.region ?_; refine St.assign ?_; refine St.assign ?_; refine WO.nil ?_)
    refine St.ret (by first | exact .tmp .nil | exact .cell .nil | exact .cell (.tmp .nil) | exact .tmp (.tmp .nil) | exact .cell (.cell .nil) | exact .tmp (.cell .nil) | exact .nil | exact .tmp (.cell (.tmp .nil)) | exact .cell (.tmp (.tmp .nil)) | exact .cell (.cell (.tmp .nil)) | exact .tmp (.tmp (.tmp .nil)) | exact .cell (.cell (.cell .nil))) ?_
    rfl
  by_cases hm : isMin t = true
  rotate_left
  · have e : cvalR ⟨id, bg, ev, hs⟩ t = (0, 1) := if_neg fun k => hm k.2
    have hno : isMin t = false := by simpa using hm
    rw [e]
    refine Con.start rfl Try.func19 rfl rfl Try.ntmps19 rfl rfl g ?_
    (refine WK.seq ?_; refine WK.region ?_; refine St.box fun _ _ => ?_; refine St.assign ?_; refine St.assign ?_; refine WO.nil ?_; refine WK.seq ?_; refine WK.seq ?_; refine WK.region ?_; refine St.load ?_)
    refine St.call (v := .bool true) (fun _ => rfl) (fun h2 hh => by
      have := isCycle_con h2 hh.gd id bg ev v hs (hv.vw hh)
      rw [hok] at this
      exact this) ?_
    (refine St.un ?_; refine St.move ?_; refine St.move ?_)
    refine St.call (v := .bool false) (fun _ => rfl) (fun h2 hh => by
      have := isMinute_con h2 hh.gd t
      change Con Try.prog Bs _ _ _ _ (.bool (isMin t)) _ at this
      rw [hno] at this
      exact this) ?_
    (refine St.un ?_; refine St.pickF ?_; refine WO.nil ?_; refine WK.condT ?_; refine WK.seq ?_; refine WK.region ?_; refine St.assign ?_; refine St.assign ?_; refine WO.nil ?_)
    refine St.ret (by first | exact .tmp .nil | exact .cell .nil | exact .cell (.tmp .nil) | exact .tmp (.tmp .nil) | exact .cell (.cell .nil) | exact .tmp (.cell .nil) | exact .nil | exact .tmp (.cell (.tmp .nil)) | exact .cell (.tmp (.tmp .nil)) | exact .cell (.cell (.tmp .nil)) | exact .tmp (.tmp (.tmp .nil)) | exact .cell (.cell (.cell .nil))) ?_
    rfl
  have e : cvalR ⟨id, bg, ev, hs⟩ t = (valC ⟨id, bg, ev, hs⟩ t, 0) := if_pos ⟨hok, hm⟩
  have hb : 0 ≤ t ∧ t ≤ 1048576 := by simpa [isMin] using hm
  rw [e]
  refine Con.start rfl Try.func19 rfl rfl Try.ntmps19 rfl rfl g ?_
  (refine WK.seq ?_; refine WK.region ?_; refine St.box fun _ _ => ?_; refine St.assign ?_; refine St.assign ?_; refine WO.nil ?_; refine WK.seq ?_; refine WK.seq ?_; refine WK.region ?_; refine St.load ?_)
  refine St.call (v := .bool true) (fun _ => rfl) (fun h2 hh => by
    have := isCycle_con h2 hh.gd id bg ev v hs (hv.vw hh)
    rw [hok] at this
    exact this) ?_
  (refine St.un ?_; refine St.move ?_; refine St.move ?_)
  refine St.call (v := .bool true) (fun _ => rfl) (fun h2 hh => by
    have := isMinute_con h2 hh.gd t
    change Con Try.prog Bs _ _ _ _ (.bool (isMin t)) _ at this
    rw [hm] at this
    exact this) ?_
  (refine St.un ?_; refine St.pickF ?_; refine WO.nil ?_; refine WK.condF ?_; refine WK.skip ?_; refine WK.seq ?_; refine WK.region ?_; refine St.load ?_; refine St.move ?_)
  refine St.call (fun _ => rfl) (fun h2 hh => value_con h2 hh.gd id bg ev t v hs (hv.vw hh) (cyOk_iff.1 hok) (by omega) (by omega)) ?_
  (refine St.assign ?_; refine St.assign ?_; refine WO.nil ?_)
  refine St.ret (by first | exact .tmp .nil | exact .cell .nil | exact .cell (.tmp .nil) | exact .tmp (.tmp .nil) | exact .cell (.cell .nil) | exact .tmp (.cell .nil) | exact .nil | exact .tmp (.cell (.tmp .nil)) | exact .cell (.tmp (.tmp .nil)) | exact .cell (.cell (.tmp .nil)) | exact .tmp (.tmp (.tmp .nil)) | exact .cell (.cell (.cell .nil))) ?_
  rfl
theorem evRem {P : Program} {t : TypeId} {a b q : Int} (hb : b ≠ 0) (e : a.tmod b = q) : evBin P .rem t (.int .i64 a) (.int .i64 b) = some (.int .i64 q) := by
  subst e
  unfold evBin evInt
  simp [hb]
/-- is there a difference among the first n? -/
def difTo (xs : List Int) (m n : Nat) : Bool := (List.range n).any fun i => nth xs (i % m) != nth xs (i % xs.length)
theorem difTo_succ (xs : List Int) (m n : Nat) : difTo xs m (n + 1) = Bool.or (difTo xs m n) (nth xs (n % m) != nth xs (n % xs.length)) := by
  unfold difTo
  rw [List.range_succ, List.any_append]
  simp
theorem dif_yes {xs : List Int} {m : Nat} (hp : perK xs = xs.length) (h1 : 1 ≤ m) (h2 : m ≤ xs.length) : Bool.or ((m : Int) == (xs.length : Int)) (difTo xs m (m * xs.length)) = true := by
  cases hd : difTo xs m (m * xs.length) with
  | true => simp
  | false =>
    have : m = xs.length := no_shorter hp h1 h2 fun n hn => by
      unfold difTo at hd
      rw [List.any_eq_false] at hd
      have := hd n (List.mem_range.2 hn)
      simpa using this
    rw [← this]
    simp
theorem apart_cases {c : Cy} {t : Int} (hok : cyOk c = true) (hm : isMin t = true) : (apartR c).2.2 ≠ 0 ∨ ((apartR c).2.2 = 0 ∧ cvalR (apartR c).2.1 t = (valC c t - (apartR c).1, 0) ∧ -4000 ≤ (apartR c).1 ∧ (apartR c).1 ≤ 4000) := by
  have k := cyOk_iff.1 hok
  unfold apartR
  rw [if_pos hok]
  by_cases h : apartB c.hs = true
  · rw [if_pos h]; exact .inl (by simp)
  · rw [if_neg h]
    refine .inr ⟨rfl, ?_, k.min⟩
    unfold cvalR
    have k2 := apart_ok (id := c.id) (bg := c.bg) (ev := c.ev) k h
    rw [if_pos ⟨cyOk_iff.2 k2, hm⟩, apart_val (id := c.id) (bg := c.bg) (ev := c.ev) k]
theorem tog_cases {a b : Cy} {t : Int} (hok : cyOk a = true) (hm : isMin t = true) : (togR a b).2 ≠ 0 ∨ ((togR a b).2 = 0 ∧ cvalR b t = (valC b t, 0) ∧ cvalR (togR a b).1 t = (valC a t + valC b t, 0)) := by
  have ka := cyOk_iff.1 hok
  unfold togR
  by_cases h : cyOk a = true ∧ cyOk b = true
  · rw [if_pos h]
    have kb := cyOk_iff.1 h.2
    obtain ⟨g1, g2, _⟩ := tog_bd ka kb
    by_cases h1 : togN a b > 60
    · rw [if_pos h1]; exact .inl (by simp)
    · rw [if_neg h1]
      by_cases h2 : (sumT a b (togN a b).toNat).all (fun x => inB x 4000) = true
      · rw [if_pos h2]
        have hn := togN_pos ka kb g1
        have k2 := tog_ok ka hn h1 h2 g1 g2
        refine .inr ⟨rfl, if_pos ⟨h.2, hm⟩, ?_⟩
        unfold cvalR
        rw [if_pos ⟨cyOk_iff.2 k2, hm⟩, tog_val ka kb hn g1]
      · rw [if_neg h2]; exact .inl (by simp)
  · rw [if_neg h]; exact .inl (by simp)
set_option maxRecDepth 100000 in
set_option maxHeartbeats 16000000 in
theorem cyclesHold_con (h : Heap) (g : Gd h) (id bg ev id2 bg2 ev2 t : Int) (kk : Nat) (hkk : kk ≤ 255) (v v2 : AV) (hs hs2 : List Int) (hv : ItA h v hs) (hv2 : ItA h v2 hs2) :
    Con Try.prog Bs 7 [.agg [.int .i64 id, .int .i64 bg, .int .i64 ev, v], .agg [.int .i64 id2, .int .i64 bg2, .int .i64 ev2, v2], .int .i64 t, .int .u8 kk] h [] (.bool true) [] := by
  refine Con.start rfl Try.func7 rfl rfl Try.ntmps7 rfl rfl g ?_
  (refine WK.seq ?_; refine WK.region ?_; refine St.box fun _ _ => ?_; refine St.box fun _ _ => ?_; refine St.assign ?_; refine WO.nil ?_; refine WK.seq ?_; refine WK.seq ?_; refine WK.region ?_; refine St.fieldAddr ?_; refine St.load ?_)
  rename_i p hp q hq
  refine St.lenV rfl hv.itV.len ?_
  (refine St.bin ?_; refine St.move ?_)
  refine St.split (fun hc => ?_) (fun hc => ?_)
  · (refine St.skip ?_; refine St.skip ?_; refine St.skip ?_; refine St.skip ?_; refine St.pickT ?_; refine WO.nil ?_; refine WK.condT ?_; refine WK.seq ?_; refine WK.region ?_)
    refine St.call (fun _ => rfl) (fun h2 hh => sanity_con h2 hh.gd) ?_
    (refine St.assign ?_; refine WO.nil ?_)
    refine St.ret (by first | exact .tmp .nil | exact .cell .nil | exact .cell (.tmp .nil) | exact .tmp (.tmp .nil) | exact .cell (.cell .nil) | exact .tmp (.cell .nil) | exact .nil | exact .tmp (.cell (.tmp .nil)) | exact .cell (.tmp (.tmp .nil)) | exact .cell (.cell (.tmp .nil)) | exact .tmp (.tmp (.tmp .nil)) | exact .cell (.cell (.cell .nil))) ?_
    rfl
  have hl1 : hs.length ≤ 100 := by simp at hc; omega
  clear hc
  (refine St.fieldAddr ?_; refine St.load ?_)
  refine St.lenV rfl hv2.itV.len ?_
  (refine St.bin ?_; refine St.pickF ?_; refine WO.nil ?_)
  refine St.splitC (fun hc => ?_) (fun hc => ?_)
  · (refine WK.seq ?_; refine WK.region ?_)
    refine St.call (fun _ => rfl) (fun h2 hh => sanity_con h2 hh.gd) ?_
    (refine St.assign ?_; refine WO.nil ?_)
    refine St.ret (by first | exact .tmp .nil | exact .cell .nil | exact .cell (.tmp .nil) | exact .tmp (.tmp .nil) | exact .cell (.cell .nil) | exact .tmp (.cell .nil) | exact .nil | exact .tmp (.cell (.tmp .nil)) | exact .cell (.tmp (.tmp .nil)) | exact .cell (.cell (.tmp .nil)) | exact .tmp (.tmp (.tmp .nil)) | exact .cell (.cell (.cell .nil))) ?_
    rfl
  have hl2 : hs2.length ≤ 100 := by simp at hc; omega
  clear hc
  by_cases hA : cyOk ⟨id, bg, ev, hs⟩ = true ∧ isMin t = true
  rotate_left
  · have eA : cvalR ⟨id, bg, ev, hs⟩ t = (0, 1) := if_neg hA
    (refine WK.skip ?_; refine WK.seq ?_; refine WK.region ?_; refine St.load ?_; refine St.move ?_)
    refine St.call (fun _ => rfl) (fun h2 hh => valueP_con h2 hh.gd id bg ev t v hs (hv.vw hh).itV) ?_
    rw [eA]
    (refine St.move ?_; refine St.extract ?_; refine St.extract ?_; refine St.assign ?_; refine St.assign ?_; refine WO.nil ?_; refine WK.seq ?_; refine WK.region ?_; refine St.load ?_; refine St.move ?_)
    refine St.call (fun _ => rfl) (fun h2 hh => valueP_con h2 hh.gd id2 bg2 ev2 t v2 hs2 (hv2.vw hh).itV) ?_
    (refine St.move ?_; refine St.extract ?_; refine St.extract ?_; refine St.assign ?_; refine St.assign ?_; refine WO.nil ?_; refine WK.seq ?_; refine WK.seq ?_; refine WK.region ?_; refine St.move ?_; refine St.bin ?_; refine WO.nil ?_; refine WK.condT ?_; refine WK.seq ?_; refine WK.region ?_)
    refine St.call (fun _ => rfl) (fun h2 hh => sanity_con h2 hh.gd) ?_
    (refine St.assign ?_; refine WO.nil ?_)
    refine St.ret (by first | exact .tmp .nil | exact .cell .nil | exact .cell (.tmp .nil) | exact .tmp (.tmp .nil) | exact .cell (.cell .nil) | exact .tmp (.cell .nil) | exact .nil | exact .tmp (.cell (.tmp .nil)) | exact .cell (.tmp (.tmp .nil)) | exact .cell (.cell (.tmp .nil)) | exact .tmp (.tmp (.tmp .nil)) | exact .cell (.cell (.cell .nil))) ?_
    rfl
  obtain ⟨hok, hmin⟩ := hA
  have ka := cyOk_iff.1 hok
  have k1 := ka.n1
  have k2 := ka.n2
  simp only at k1 k2
  have eA : cvalR ⟨id, bg, ev, hs⟩ t = (valC ⟨id, bg, ev, hs⟩ t, 0) := if_pos ⟨hok, hmin⟩
  obtain ⟨p1, p2, p3, p4⟩ := perK_spec k1
  have hps := per_short k1
  have hdvd := (rep_iff.1 p3).1
  have hsv := short_val (id := id) (bg := bg) (ev := ev) p1 p2 p3 t
  have kc := short_ok p1 p2 ka
  have hXl : (hs.take (perK hs)).length = perK hs := by rw [List.length_take]; omega
  have hXX : (hs.take (perK hs)).take (perK (hs.take (perK hs))) = hs.take (perK hs) := by rw [hps, List.take_take, Nat.min_self]
  have hS1 : ∀ (h2 : Heap) {V : Ob}, Vw h [] V h2 → ∃ j, Con Try.prog Bs 31 [.agg [.int .i64 id, .int .i64 bg, .int .i64 ev, v]] h2 [] (.tup [.agg [.int .i64 id, .int .i64 bg, .int .i64 ev, .slice j 0 (perK hs) (.m 0)], .int .i64 0]) [(j, .row ((hs.take (perK hs)).map (AV.int .i64)) 3 1)] := fun h2 V hh => by
    obtain ⟨w, L, hc, j, rfl, rfl, _⟩ := shortest_ok h2 hh.gd id bg ev v hs (hv.vw hh) (by omega) hok
    exact ⟨j, hc⟩
  have eC : cvalR ⟨id, bg, ev, hs.take (perK hs)⟩ t = (valC ⟨id, bg, ev, hs⟩ t, 0) := by
    unfold cvalR
    rw [if_pos ⟨cyOk_iff.2 kc, hmin⟩, hsv]
  have hcok := cyOk_iff.2 kc
  have hvA := valC_bd ka t
  have hAp : ∀ (h2 : Heap) {V : Ob}, Vw h [] V h2 → ∃ w L, Con Try.prog Bs 33 [.agg [.int .i64 id, .int .i64 bg, .int .i64 ev, v]] h2 [] w L ∧ ApOut (apartR ⟨id, bg, ev, hs⟩) w L := fun h2 V hh => apart_con h2 hh.gd id bg ev v hs (hv.vw hh) (by omega)
  have hTg : ∀ (h2 : Heap) {V : Ob}, Vw h [] V h2 → ∃ w L, Con Try.prog Bs 34 [.agg [.int .i64 id, .int .i64 bg, .int .i64 ev, v], .agg [.int .i64 id2, .int .i64 bg2, .int .i64 ev2, v2]] h2 [] w L ∧ CyOut (togR ⟨id, bg, ev, hs⟩ ⟨id2, bg2, ev2, hs2⟩) w L := fun h2 V hh => together_con h2 hh.gd id bg ev id2 bg2 ev2 v v2 hs hs2 (hv.vw hh) (hv2.vw hh)
  have hV2 : ∀ (h2 : Heap) {V : Ob}, Vw h [] V h2 → Con Try.prog Bs 19 [.agg [.int .i64 id2, .int .i64 bg2, .int .i64 ev2, v2], .int .i64 t] h2 [] (.tup [.int .i64 (cvalR ⟨id2, bg2, ev2, hs2⟩ t).1, .int .i64 (cvalR ⟨id2, bg2, ev2, hs2⟩ t).2]) [] := fun h2 V hh => valueP_con h2 hh.gd id2 bg2 ev2 t v2 hs2 (hv2.vw hh).itV
  have hmod : ((hs.length : Int).tmod (perK hs : Int)) = 0 := by
    rw [Int.tmod_eq_emod_of_nonneg (by omega)]
    exact_mod_cast congrArg Nat.cast hdvd
  generalize hX : hs.take (perK hs) = X at *
  generalize hP : perK hs = P at *
  (refine WK.skip ?_; refine WK.seq ?_; refine WK.region ?_; refine St.load ?_; refine St.move ?_)
  refine St.call (fun _ => rfl) (fun h2 hh => valueP_con h2 hh.gd id bg ev t v hs (hv.vw hh).itV) ?_
  rw [eA]
  (refine St.move ?_; refine St.extract ?_; refine St.extract ?_; refine St.assign ?_; refine St.assign ?_; refine WO.nil ?_; refine WK.seq ?_; refine WK.region ?_; refine St.load ?_; refine St.move ?_)
  refine St.call (fun _ => rfl) (fun h2 hh => hV2 h2 hh) ?_
  (refine St.move ?_; refine St.extract ?_; refine St.extract ?_; refine St.assign ?_; refine St.assign ?_; refine WO.nil ?_; refine WK.seq ?_; refine WK.seq ?_; refine WK.region ?_; refine St.move ?_; refine St.bin ?_; refine WO.nil ?_; refine WK.condF ?_; refine WK.skip ?_; refine WK.seq ?_; refine WK.region ?_; refine St.load ?_)
  refine St.call1 (v := fun j => .tup [.agg [.int .i64 id, .int .i64 bg, .int .i64 ev, .slice j 0 P (.m 0)], .int .i64 0]) (ob := fun _ => .row (X.map (AV.int .i64)) 3 1) (fun _ => rfl) (fun h2 hh => hS1 h2 hh) (fun j hj => ?_)
  (refine St.move ?_; refine St.extract ?_; refine St.extract ?_; refine St.alloc fun _ _ => ?_; refine St.store0 ?_; refine St.assign ?_; refine WO.nil ?_; refine WK.seq ?_; refine WK.region ?_; refine St.load ?_; refine St.move ?_)
  rename_i a13 ha13
  have hIt : ∀ (h2 : Heap) {V : Ob}, Vw h [] V h2 → (j, .row (X.map (AV.int .i64)) 3 1) ∈ V → ItA h2 (.slice j 0 P (.m 0)) X := fun h2 V hh hm => by
    have hg := hh.own _ hm
    refine .inr ⟨j, 0, .m 0, by rw [hXl], .inr ⟨rfl, rfl, hg.2, ?_⟩, hh.ins hm (AObj.has_row _ _ _)⟩
    unfold knownN
    rw [hg.1]
    simp
  refine St.call (v := .tup [.int .i64 (valC ⟨id, bg, ev, hs⟩ t), .int .i64 0]) (fun _ => rfl) (fun h2 hh => by
    have := valueP_con h2 hh.gd id bg ev t _ X (hIt h2 hh (by simp)).itV
    rw [eC] at this
    exact this) ?_
  (refine St.move ?_; refine St.extract ?_; refine St.extract ?_; refine St.assign ?_; refine St.assign ?_; refine WO.nil ?_; refine WK.seq ?_; refine WK.region ?_; refine St.load ?_)
  refine St.call1 (v := fun j => .tup [.agg [.int .i64 id, .int .i64 bg, .int .i64 ev, .slice j 0 P (.m 0)], .int .i64 0]) (ob := fun _ => .row (X.map (AV.int .i64)) 3 1) (fun _ => rfl) (fun h2 hh => by
    obtain ⟨w, L, hc, j2, rfl, rfl, _⟩ := shortest_ok h2 hh.gd id bg ev _ X (hIt h2 hh (by simp)) (by omega) hcok
    rw [hXX, hps] at hc
    exact ⟨j2, hc⟩) (fun j2 hj2 => ?_)
  (refine St.move ?_; refine St.extract ?_; refine St.extract ?_; refine St.alloc fun _ _ => ?_; refine St.store0 ?_; refine St.assign ?_; refine WO.nil ?_; refine WK.seq ?_; refine WK.seq ?_; refine WK.region ?_; refine St.move ?_; refine St.bin ?_; refine St.move ?_; refine St.move ?_; refine St.bin ?_; refine St.pickF ?_; refine St.move ?_; refine St.move ?_; refine St.move ?_; refine St.bin ?_; refine St.pickF ?_; refine St.move ?_)
  rename_i a17 ha17
  refine St.split (fun hc => ?_) (fun hc => ?_)
  · simp at hc
  (refine St.move ?_; refine St.bin ?_; refine St.pickF ?_; refine St.move ?_; refine St.load ?_; refine St.load ?_)
  refine St.call (fun _ => rfl) (fun h2 hh => by
    have hm2 := (hh.ins (xs := X) (j := j2) (o := .row (X.map (AV.int .i64)) 3 1) (by simp) (AObj.has_row _ _ _))
    exact sameCycle_con h2 hh.gd id bg ev _ _ X (.inr ⟨j2, 0, .m 0, by rw [hXl], hm2⟩) (hIt h2 hh (by simp)).itV (by omega)) ?_
  (refine St.un ?_; refine St.pickF ?_; refine St.move ?_; refine St.fieldAddr ?_; refine St.load ?_; refine St.len ?_; refine St.bin ?_; refine St.pickF ?_; refine St.move ?_)
  refine St.split (fun hc => ?_) (fun hc => ?_)
  · simp at hc; omega
  (refine St.fieldAddr ?_; refine St.load ?_)
  refine St.lenV rfl hv.itV.len ?_
  (refine St.fieldAddr ?_; refine St.load ?_; refine St.len ?_)
  refine St.binX (r := .int .i64 0) ?_ rfl rfl ?_
  · unfold evBin evInt; simp [hmod]; omega
  (refine St.bin ?_; refine St.pickF ?_; refine WO.nil ?_; refine WK.condF ?_; refine WK.skip ?_; refine WK.seq ?_; refine WK.region ?_; refine St.load ?_; refine St.alloc fun _ _ => ?_; refine St.store0 ?_; refine WO.nil ?_; refine WK.seq ?_; refine WK.regionD ?_; refine St.fieldAddr ?_; refine St.load ?_; refine St.move ?_; refine St.conv ?_; refine St.fieldAddr ?_; refine St.load ?_; refine St.len ?_)
  rename_i a19 ha19
  have hwr : IntKind.wrap .i64 (kk : Int) = kk := wrap_ok (by omega)
  have hkm : ((kk : Int).tmod (P : Int)) = ((kk % P : Nat) : Int) := by rw [Int.tmod_eq_emod_of_nonneg (by omega)]; rfl
  have hlt := Nat.mod_lt kk (show P > 0 by omega)
  rw [hwr]
  refine St.binX (r := .int .i64 ((kk % P : Nat) : Int)) ?_ rfl rfl ?_
  · unfold evBin evInt; simp [hkm]; omega
  (refine St.binI ?_; refine St.move ?_; refine St.conv ?_; refine St.fieldAddr ?_; refine St.load ?_; refine St.len ?_)
  rw [hwr]
  refine St.binX (r := .int .i64 ((kk % P : Nat) : Int)) ?_ rfl rfl ?_
  · unfold evBin evInt; simp [hkm]; omega
  clear hwr hkm
  obtain ⟨m, hm⟩ : ∃ m, m = 1 + kk % P := ⟨_, rfl⟩
  have hm1 : (1 : Int) + ((kk % P : Nat) : Int) = (m : Int) := by omega
  (refine St.binI ?_)
  rw [hm1]
  refine St.sliceV (v := .slice j 0 m (.k m)) (fun h3 hh => ?_) ?_
  · have hkn : knownN h3 j 1 = P := by
      unfold knownN
      rw [(hh.own (j, .row (X.map (AV.int .i64)) 3 1) (by simp)).1]
      simp [hXl]
    have e1 : sizeT Try.prog 3 = some 1 := by kernel_rfl
    show plainV (evSlice Try.prog h3 26 (.slice j 0 P (.m 0)) none (some (.int .i64 m)) (some (.int .i64 m))) h3 = _
    unfold evSlice
    rw [if_neg (by simp), Try.underlying26]
    simp only [e1, evSliceX, optB, boundIn, hkn]
    rw [if_pos (by omega)]
    simp
    rfl
  (refine St.fieldAddr ?_; refine StD.store0 ?_; refine WO.nil ?_; refine WK.seq ?_; refine WK.region ?_; refine St.fieldAddr ?_; refine St.load ?_; refine St.len ?_; refine St.fieldAddr ?_; refine St.load ?_; refine St.len ?_; refine St.bin ?_; refine St.assign ?_; refine WO.nil ?_; refine WK.seq ?_; refine WK.seq ?_; refine WK.region ?_; refine St.assign ?_; refine WO.nil ?_; refine WK.block ?_)
  subst hXl
  have hmP : m ≤ X.length := by omega
  have hm0 : 1 ≤ m := by omega
  have htm : ∀ n : Nat, (n : Int).tmod (m : Int) = ((n % m : Nat) : Int) := fun n => by rw [Int.tmod_eq_emod_of_nonneg (by omega)]; rfl
  have htP : ∀ n : Nat, (n : Int).tmod (X.length : Int) = ((n % X.length : Nat) : Int) := fun n => by rw [Int.tmod_eq_emod_of_nonneg (by omega)]; rfl
  obtain ⟨w1, w2⟩ := mul_bd (a := (m : Int)) (b := (X.length : Int)) (A := 60) (B := 60) (by omega) (by omega) (by omega) (by omega)
  have hmc : (m : Int) * (X.length : Int) = ((m * X.length : Nat) : Int) := by rw [Int.natCast_mul]
  have hdy := dif_yes (xs := X) (m := m) hps hm0 hmP
  have hd0 : ((m : Int) == (X.length : Int)) = Bool.or ((m : Int) == (X.length : Int)) (difTo X m 0) := by simp [difTo]
  refine WK.inv (ι := Nat) (fun z => [(2, .int .i64 t), (4, .ptr p 0), (5, .ptr q 0), (9, .int .i64 (valC ⟨id, bg, ev, hs⟩ t)), (11, .int .i64 (cvalR ⟨id2, bg2, ev2, hs2⟩ t).1), (12, .int .i64 (cvalR ⟨id2, bg2, ev2, hs2⟩ t).2), (13, .ptr a13 0), (19, .ptr a19 0), (20, .bool (Bool.or ((m : Int) == (X.length : Int)) (difTo X m z))), (21, .int .i64 z)]) (fun _ => [(a19, .cells [.int .i64 id, .int .i64 bg, .int .i64 ev, .slice j 0 m (.k m)] 28), (a13, .cells [.int .i64 id, .int .i64 bg, .int .i64 ev, .slice j 0 X.length (.m 0)] 28), (j, .row (X.map (AV.int .i64)) 3 1), (q, .cells [.int .i64 id2, .int .i64 bg2, .int .i64 ev2, v2] 28), (p, .cells [.int .i64 id, .int .i64 bg, .int .i64 ev, v] 28)]) (fun z => z ≤ m * X.length) (fun z => m * X.length - z) 0 (by omega) ⟨rfl, rfl, rfl, rfl, rfl, rfl, rfl, rfl, congrArg (fun b => some (AV.bool b)) hd0, rfl, trivial⟩ (by (repeat (first | exact List.Sublist.refl _ | exact List.nil_sublist _ | apply List.Sublist.cons_cons | apply List.Sublist.cons))) ?_
  intro z hz ih
  (refine WK.seq ?_; refine WK.seq ?_; refine WK.region ?_; refine St.move ?_; refine St.fieldAddr ?_; refine St.load ?_; refine St.len ?_; refine St.fieldAddr ?_; refine St.load ?_; refine St.len ?_; refine St.binI ?_; refine St.bin ?_; refine WO.nil ?_)
  rw [hmc]
  skip
  refine St.splitC (fun hc => ?_) (fun hc => ?_)
  · have hzl : z < m * X.length := by simp at hc; omega
    have hs' := difTo_succ X m z
    have i1 := Nat.mod_lt z (show m > 0 by omega)
    have i2 := Nat.mod_lt z (show X.length > 0 by omega)
    (refine WK.skip ?_; refine WK.seq ?_; refine WK.block ?_; refine WK.regionD ?_; refine St.move ?_; refine St.move ?_)
    refine St.split (fun hb => ?_) (fun hb => ?_)
    · (refine St.skip ?_; refine St.skip ?_; refine St.skip ?_; refine St.skip ?_; refine St.skip ?_; refine St.skip ?_; refine St.skip ?_; refine St.skip ?_; refine St.skip ?_; refine St.skip ?_; refine St.skip ?_; refine St.skip ?_; refine St.skip ?_; refine St.skip ?_; refine St.skip ?_; refine St.skip ?_; refine St.skip ?_; refine St.skip ?_; refine St.skip ?_; refine St.pickT ?_; refine St.assign ?_; refine WO.nil ?_; refine WK.blk ?_; refine WK.region ?_; refine St.move ?_; refine St.binI ?_; refine St.assign ?_; refine WO.nil ?_)
      refine WK.le ?_ (by (repeat (first | exact List.Sublist.refl _ | exact List.nil_sublist _ | apply List.Sublist.cons_cons | apply List.Sublist.cons))) (ih (z + 1) hzl (by omega))
      refine ⟨rfl, rfl, rfl, rfl, rfl, rfl, rfl, rfl, ?_, rfl, trivial⟩
      rw [hs', ← Bool.or_assoc, hb]
      rfl
    · (refine St.fieldAddr ?_; refine St.load ?_; refine St.move ?_; refine St.fieldAddr ?_; refine St.load ?_; refine St.len ?_)
      refine St.binX (r := .int .i64 ((z % m : Nat) : Int)) (evRem (by omega) (htm z)) rfl rfl ?_
      skip
      refine St.at ?_
      refine St.loadX (fun h hh => ((hh.ins (xs := X) (j := j) (o := .row (X.map (AV.int .i64)) 3 1) (by simp) (AObj.has_row _ _ _)).at_ (z := ((z % m : Nat) : Int)) (n := z % m) (by omega) (by omega)).one rfl) ?_
      (refine St.fieldAddr ?_; refine St.load ?_; refine St.move ?_; refine St.fieldAddr ?_; refine St.load ?_; refine St.len ?_)
      refine St.binX (r := .int .i64 ((z % X.length : Nat) : Int)) (evRem (by omega) (htP z)) rfl rfl ?_
      skip
      refine St.at ?_
      refine St.loadX (fun h hh => ((hh.ins (xs := X) (j := j) (o := .row (X.map (AV.int .i64)) 3 1) (by simp) (AObj.has_row _ _ _)).at_ (z := ((z % X.length : Nat) : Int)) (n := z % X.length) (by omega) (by omega)).one rfl) ?_
      (refine St.bin ?_; refine St.pickF ?_; refine St.assign ?_; refine WO.nil ?_; refine WK.blk ?_; refine WK.region ?_; refine St.move ?_; refine St.binI ?_; refine St.assign ?_; refine WO.nil ?_)
      refine WK.le ?_ (by (repeat (first | exact List.Sublist.refl _ | exact List.nil_sublist _ | apply List.Sublist.cons_cons | apply List.Sublist.cons))) (ih (z + 1) hzl (by omega))
      refine ⟨rfl, rfl, rfl, rfl, rfl, rfl, rfl, rfl, ?_, rfl, trivial⟩
      rw [hs', ← Bool.or_assoc, hb]
      rfl
  · have : z = m * X.length := by simp at hc; omega
    subst this
    rw [hdy]
    clear ih hdy hd0 htm htP
    have hcA := apart_cases (c := ⟨id, bg, ev, hs⟩) hok hmin
    have hcT := tog_cases (a := ⟨id, bg, ev, hs⟩) (b := ⟨id2, bg2, ev2, hs2⟩) hok hmin
    have hvB := fun (hb : cvalR ⟨id2, bg2, ev2, hs2⟩ t = (valC ⟨id2, bg2, ev2, hs2⟩ t, 0)) => (show -4000 ≤ valC ⟨id2, bg2, ev2, hs2⟩ t ∧ valC ⟨id2, bg2, ev2, hs2⟩ t ≤ 4000 by
      unfold cvalR at hb
      split at hb
      · rename_i hq
        exact valC_bd (cyOk_iff.1 hq.1) t
      · simp at hb)
    generalize apartR ⟨id, bg, ev, hs⟩ = R3 at hAp hcA
    generalize togR ⟨id, bg, ev, hs⟩ ⟨id2, bg2, ev2, hs2⟩ = R2 at hTg hcT
    obtain ⟨m3, ⟨i3, b3, e3, h3⟩, n3⟩ := R3
    obtain ⟨⟨i2, b2, e2, h2⟩, n2⟩ := R2
    simp only at hcA hcT
    clear hS1 hsv kc hcok eC eA hX hP hps hXX hdvd hmod p1 p2 p3 p4 hz
    (refine WK.exit ?_; refine WK.seq ?_; refine WK.region ?_; refine St.load ?_)
    refine St.callR (fun _ => rfl) (fun h2 hh => hAp h2 hh) ?_
    rintro w' L3 ⟨w3, c3, rfl⟩
    simp only at c3
    refine WO.permF (L' := [(a19, .cells [.int .i64 id, .int .i64 bg, .int .i64 ev, .slice j 0 m (.k m)] 28), (a13, .cells [.int .i64 id, .int .i64 bg, .int .i64 ev, .slice j 0 X.length (.m 0)] 28), (j, .row (X.map (AV.int .i64)) 3 1), (q, .cells [.int .i64 id2, .int .i64 bg2, .int .i64 ev2, v2] 28), (p, .cells [.int .i64 id, .int .i64 bg, .int .i64 ev, v] 28)] ++ L3) List.perm_append_comm ?_
    (refine St.move ?_; refine St.extract ?_; refine St.extract ?_; refine St.extract ?_; refine St.alloc fun _ _ => ?_; refine St.assign ?_)
    refine St.store0 (hv := store_cy rfl c3.ok rfl) ?_
    (refine St.assign ?_; refine WO.nil ?_; refine WK.seq ?_; refine WK.region ?_; refine St.load ?_; refine St.move ?_)
    rename_i a23 ha23
    refine St.call (fun _ => rfl) (fun hp2 hh => valueP_con hp2 hh.gd i3 b3 e3 t w3 h3 (c3.itV hh (by (repeat apply List.Sublist.cons); exact List.Sublist.refl _))) ?_
    rcases hcA with hn3 | ⟨rfl, eR, r1, r2⟩
    · (refine St.move ?_; refine St.extract ?_; refine St.extract ?_; refine St.assign ?_; refine St.assign ?_; refine WO.nil ?_; refine WK.seq ?_; refine WK.seq ?_; refine WK.region ?_; refine St.move ?_; refine St.un ?_; refine St.move ?_; refine St.move ?_; refine St.bin ?_; refine St.move ?_)
      refine St.split (fun hc => ?_) (fun hc => ?_)
      · simp at hc; exact absurd hc hn3
      (refine St.skip ?_; refine St.skip ?_; refine St.skip ?_; refine St.skip ?_; refine St.skip ?_; refine St.skip ?_; refine St.skip ?_; refine St.skip ?_; refine St.skip ?_; refine St.pickF ?_; refine St.pickF ?_; refine WO.nil ?_; refine WK.condF ?_; refine WK.skip ?_; refine WK.seq ?_; refine WK.region ?_; refine St.load ?_; refine St.load ?_)
      refine St.callR (fun _ => rfl) (fun h2 hh => hTg h2 hh) ?_
      rintro w' L4 ⟨w4, c4, rfl⟩
      simp only at c4
      refine WO.permF (L' := ((a23, .cells [.int .i64 i3, .int .i64 b3, .int .i64 e3, w3] 28) :: [(a19, .cells [.int .i64 id, .int .i64 bg, .int .i64 ev, .slice j 0 m (.k m)] 28), (a13, .cells [.int .i64 id, .int .i64 bg, .int .i64 ev, .slice j 0 X.length (.m 0)] 28), (j, .row (X.map (AV.int .i64)) 3 1), (q, .cells [.int .i64 id2, .int .i64 bg2, .int .i64 ev2, v2] 28), (p, .cells [.int .i64 id, .int .i64 bg, .int .i64 ev, v] 28)] ++ L3) ++ L4) List.perm_append_comm ?_
      (refine St.move ?_; refine St.extract ?_; refine St.extract ?_; refine St.alloc fun _ _ => ?_)
      refine St.store0 (hv := store_cy rfl c4.ok rfl) ?_
      (refine St.assign ?_; refine WO.nil ?_; refine WK.seq ?_; refine WK.region ?_; refine St.load ?_; refine St.move ?_)
      refine St.call (fun _ => rfl) (fun hp2 hh => valueP_con hp2 hh.gd i2 b2 e2 t w4 h2 (c4.itV hh (by (repeat apply List.Sublist.cons); exact List.sublist_append_right _ _))) ?_
      rcases hcT with hn2 | ⟨rfl, eB, eD⟩
      · (refine St.move ?_; refine St.extract ?_; refine St.extract ?_; refine St.assign ?_; refine St.assign ?_; refine WO.nil ?_; refine WK.seq ?_; refine WK.region ?_)
        refine St.call (fun _ => rfl) (fun h2 hh => sanity_con h2 hh.gd) ?_
        (refine St.move ?_; refine St.move ?_; refine St.bin ?_; refine St.move ?_)
        refine St.split (fun hc => ?_) (fun hc => ?_)
        · (refine St.skip ?_; refine St.skip ?_; refine St.pickT ?_; refine St.move ?_; refine St.skip ?_; refine St.skip ?_; refine St.skip ?_; refine St.skip ?_; refine St.skip ?_; refine St.skip ?_; refine St.skip ?_; refine St.skip ?_; refine St.skip ?_; refine St.pickT ?_; refine St.pickT ?_; refine St.assign ?_; refine WO.nil ?_)
          refine St.ret (by first | exact .tmp .nil | exact .cell .nil | exact .cell (.tmp .nil) | exact .tmp (.tmp .nil) | exact .cell (.cell .nil) | exact .tmp (.cell .nil) | exact .nil | exact .tmp (.cell (.tmp .nil)) | exact .cell (.tmp (.tmp .nil)) | exact .cell (.cell (.tmp .nil)) | exact .tmp (.tmp (.tmp .nil)) | exact .cell (.cell (.cell .nil))) ?_
          rfl
        (refine St.move ?_; refine St.bin ?_; refine St.pickF ?_; refine St.move ?_)
        refine St.split (fun hc => ?_) (fun hc => ?_)
        · (refine St.skip ?_; refine St.skip ?_; refine St.skip ?_; refine St.skip ?_; refine St.skip ?_; refine St.skip ?_; refine St.skip ?_; refine St.skip ?_; refine St.skip ?_; refine St.pickT ?_; refine St.pickT ?_; refine St.assign ?_; refine WO.nil ?_)
          refine St.ret (by first | exact .tmp .nil | exact .cell .nil | exact .cell (.tmp .nil) | exact .tmp (.tmp .nil) | exact .cell (.cell .nil) | exact .tmp (.cell .nil) | exact .nil | exact .tmp (.cell (.tmp .nil)) | exact .cell (.tmp (.tmp .nil)) | exact .cell (.cell (.tmp .nil)) | exact .tmp (.tmp (.tmp .nil)) | exact .cell (.cell (.cell .nil))) ?_
          rfl
        simp at hc
        exact absurd hc hn2
      · rw [eD, eB]
        obtain ⟨u1, u2⟩ := hvB eB
        (refine St.move ?_; refine St.extract ?_; refine St.extract ?_; refine St.assign ?_; refine St.assign ?_; refine WO.nil ?_; refine WK.seq ?_; refine WK.region ?_)
        refine St.call (fun _ => rfl) (fun h2 hh => sanity_con h2 hh.gd) ?_
        (refine St.move ?_; refine St.move ?_; refine St.bin ?_; refine St.move ?_; refine St.move ?_; refine St.bin ?_; refine St.pickF ?_; refine St.move ?_; refine St.move ?_; refine St.bin ?_; refine St.move ?_; refine St.move ?_; refine St.move ?_; refine St.move ?_; refine St.binI ?_; refine St.bin ?_; refine St.pickT ?_; refine St.pickF ?_; refine St.pickT ?_; refine St.assign ?_; refine WO.nil ?_)
        refine St.ret (by first | exact .tmp .nil | exact .cell .nil | exact .cell (.tmp .nil) | exact .tmp (.tmp .nil) | exact .cell (.cell .nil) | exact .tmp (.cell .nil) | exact .nil | exact .tmp (.cell (.tmp .nil)) | exact .cell (.tmp (.tmp .nil)) | exact .cell (.cell (.tmp .nil)) | exact .tmp (.tmp (.tmp .nil)) | exact .cell (.cell (.cell .nil))) ?_
        simp [oneOf]
    · rw [eR]
      (refine St.move ?_; refine St.extract ?_; refine St.extract ?_; refine St.assign ?_; refine St.assign ?_; refine WO.nil ?_; refine WK.seq ?_; refine WK.seq ?_; refine WK.region ?_; refine St.move ?_; refine St.un ?_; refine St.move ?_; refine St.move ?_; refine St.bin ?_; refine St.move ?_; refine St.move ?_; refine St.bin ?_; refine St.move ?_; refine St.move ?_; refine St.move ?_; refine St.binI ?_; refine St.move ?_; refine St.bin ?_; refine St.pickF ?_; refine St.pickT ?_; refine St.pickF ?_; refine WO.nil ?_)
      refine St.splitC (fun hc => ?_) (fun hc => ?_)
      · simp at hc
      (refine WK.skip ?_; refine WK.seq ?_; refine WK.region ?_; refine St.load ?_; refine St.load ?_)
      refine St.callR (fun _ => rfl) (fun h2 hh => hTg h2 hh) ?_
      rintro w' L4 ⟨w4, c4, rfl⟩
      simp only at c4
      refine WO.permF (L' := ((a23, .cells [.int .i64 i3, .int .i64 b3, .int .i64 e3, w3] 28) :: [(a19, .cells [.int .i64 id, .int .i64 bg, .int .i64 ev, .slice j 0 m (.k m)] 28), (a13, .cells [.int .i64 id, .int .i64 bg, .int .i64 ev, .slice j 0 X.length (.m 0)] 28), (j, .row (X.map (AV.int .i64)) 3 1), (q, .cells [.int .i64 id2, .int .i64 bg2, .int .i64 ev2, v2] 28), (p, .cells [.int .i64 id, .int .i64 bg, .int .i64 ev, v] 28)] ++ L3) ++ L4) List.perm_append_comm ?_
      (refine St.move ?_; refine St.extract ?_; refine St.extract ?_; refine St.alloc fun _ _ => ?_)
      refine St.store0 (hv := store_cy rfl c4.ok rfl) ?_
      (refine St.assign ?_; refine WO.nil ?_; refine WK.seq ?_; refine WK.region ?_; refine St.load ?_; refine St.move ?_)
      refine St.call (fun _ => rfl) (fun hp2 hh => valueP_con hp2 hh.gd i2 b2 e2 t w4 h2 (c4.itV hh (by (repeat apply List.Sublist.cons); exact List.sublist_append_right _ _))) ?_
      rcases hcT with hn2 | ⟨rfl, eB, eD⟩
      · (refine St.move ?_; refine St.extract ?_; refine St.extract ?_; refine St.assign ?_; refine St.assign ?_; refine WO.nil ?_; refine WK.seq ?_; refine WK.region ?_)
        refine St.call (fun _ => rfl) (fun h2 hh => sanity_con h2 hh.gd) ?_
        (refine St.move ?_; refine St.move ?_; refine St.bin ?_; refine St.move ?_)
        refine St.split (fun hc => ?_) (fun hc => ?_)
        · (refine St.skip ?_; refine St.skip ?_; refine St.pickT ?_; refine St.move ?_; refine St.skip ?_; refine St.skip ?_; refine St.skip ?_; refine St.skip ?_; refine St.skip ?_; refine St.skip ?_; refine St.skip ?_; refine St.skip ?_; refine St.skip ?_; refine St.pickT ?_; refine St.pickT ?_; refine St.assign ?_; refine WO.nil ?_)
          refine St.ret (by first | exact .tmp .nil | exact .cell .nil | exact .cell (.tmp .nil) | exact .tmp (.tmp .nil) | exact .cell (.cell .nil) | exact .tmp (.cell .nil) | exact .nil | exact .tmp (.cell (.tmp .nil)) | exact .cell (.tmp (.tmp .nil)) | exact .cell (.cell (.tmp .nil)) | exact .tmp (.tmp (.tmp .nil)) | exact .cell (.cell (.cell .nil))) ?_
          rfl
        (refine St.move ?_; refine St.bin ?_; refine St.pickF ?_; refine St.move ?_)
        refine St.split (fun hc => ?_) (fun hc => ?_)
        · (refine St.skip ?_; refine St.skip ?_; refine St.skip ?_; refine St.skip ?_; refine St.skip ?_; refine St.skip ?_; refine St.skip ?_; refine St.skip ?_; refine St.skip ?_; refine St.pickT ?_; refine St.pickT ?_; refine St.assign ?_; refine WO.nil ?_)
          refine St.ret (by first | exact .tmp .nil | exact .cell .nil | exact .cell (.tmp .nil) | exact .tmp (.tmp .nil) | exact .cell (.cell .nil) | exact .tmp (.cell .nil) | exact .nil | exact .tmp (.cell (.tmp .nil)) | exact .cell (.tmp (.tmp .nil)) | exact .cell (.cell (.tmp .nil)) | exact .tmp (.tmp (.tmp .nil)) | exact .cell (.cell (.cell .nil))) ?_
          rfl
        simp at hc
        exact absurd hc hn2
      · rw [eD, eB]
        obtain ⟨u1, u2⟩ := hvB eB
        (refine St.move ?_; refine St.extract ?_; refine St.extract ?_; refine St.assign ?_; refine St.assign ?_; refine WO.nil ?_; refine WK.seq ?_; refine WK.region ?_)
        refine St.call (fun _ => rfl) (fun h2 hh => sanity_con h2 hh.gd) ?_
        (refine St.move ?_; refine St.move ?_; refine St.bin ?_; refine St.move ?_; refine St.move ?_; refine St.bin ?_; refine St.pickF ?_; refine St.move ?_; refine St.move ?_; refine St.bin ?_; refine St.move ?_; refine St.move ?_; refine St.move ?_; refine St.move ?_; refine St.binI ?_; refine St.bin ?_; refine St.pickT ?_; refine St.pickF ?_; refine St.pickT ?_; refine St.assign ?_; refine WO.nil ?_)
        refine St.ret (by first | exact .tmp .nil | exact .cell .nil | exact .cell (.tmp .nil) | exact .tmp (.tmp .nil) | exact .cell (.cell .nil) | exact .tmp (.cell .nil) | exact .nil | exact .tmp (.cell (.tmp .nil)) | exact .cell (.tmp (.tmp .nil)) | exact .cell (.cell (.tmp .nil)) | exact .tmp (.tmp (.tmp .nil)) | exact .cell (.cell (.cell .nil))) ?_
        simp [oneOf]
end Go.Proofs.Ytekpffjcffeanaa
