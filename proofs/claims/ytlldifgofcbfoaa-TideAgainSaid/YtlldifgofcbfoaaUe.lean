/- The law TideAgain over the calculator's memory. -/
import Derived.Test.YtlldifgofcbfoaaUd
namespace Go.Proofs.Ytlldifgofcbfoaa
open Go.Proofs.Ytlldifgofcbfoaa.Ev

theorem CyV.ok {h : Heap} {v : AV} {l : List Cw} (k : CyV h v l) : okCell v = true := by
  rcases k with ⟨rfl | rfl, _⟩ | ⟨b, off, c, rfl, _⟩ <;> rfl
theorem ShV.ok {h : Heap} {v : AV} {l : List Sh} (k : ShV h v l) : okCell v = true := by
  rcases k with ⟨rfl | rfl, _⟩ | ⟨b, off, c, rfl, _⟩ <;> rfl
theorem store_w {P : Program} {t ty : TypeId} {x y z v w : AV} {a : Int} (hs : sizeT P t = some 3) (hv : okCell v = true) (hw : okCell w = true) {off : Nat} (hoff : off = 0) : (AObj.cells [x, y, z] ty).store P t off (.agg [.int .i64 a, v, w]) = some (.cells [.int .i64 a, v, w] ty) := by
  subst hoff
  have h1 : okCell (.int .i64 a) = true := rfl
  simp [AObj.store, hs, AV.cells, h1, hv, hw, AObj.put, overN]
/-- so many lengths later the value is the same -/
theorem valC_again {c : Cy} (k : CyOk c) (t n : Int) : valC c (t + n * c.ev * (c.hs.length : Int)) = valC c t := by
  have he : idxC c (t + n * c.ev * (c.hs.length : Int)) = idxC c t := by
    unfold idxC
    rw [show t + n * c.ev * (c.hs.length : Int) - c.bg = (t - c.bg) + (n * (c.hs.length : Int)) * c.ev from by grind, Int.add_mul_ediv_right _ _ (by have := k.ev1; omega), Int.add_mul_emod_self_right]
  unfold valC
  rw [he]
theorem again_cases {c : Cy} {t n : Int} (h0 : 0 ≤ n) (_ : n ≤ 255) (h : (cvalR c t).2 = 0) : ((cvalR c (t + n * c.ev * (c.hs.length : Int))).2 = 0 ∧ (cvalR c (t + n * c.ev * (c.hs.length : Int))).1 = (cvalR c t).1) ∨ ((cvalR c (t + n * c.ev * (c.hs.length : Int))).2 ≠ 0 ∧ 1048576 < t + n * c.ev * (c.hs.length : Int)) := by
  unfold cvalR at h ⊢
  split at h
  · rename_i hk
    have k := cyOk_iff.1 hk.1
    rw [if_pos hk]
    have hm : 0 ≤ t ∧ t ≤ 1048576 := by simpa [isMin] using hk.2
    have h2 : 0 ≤ n * c.ev * (c.hs.length : Int) := Int.mul_nonneg (Int.mul_nonneg h0 (by have := k.ev1; omega)) (by omega)
    by_cases hq : t + n * c.ev * (c.hs.length : Int) ≤ 1048576
    · rw [if_pos ⟨hk.1, by simp [isMin]; omega⟩]
      exact .inl ⟨rfl, valC_again k t n⟩
    · rw [if_neg (by rintro ⟨_, h5⟩; simp [isMin] at h5; omega)]
      exact .inr ⟨by simp, by omega⟩
  · simp at h
theorem height_more {lv m : Int} {cs : List Cy} {ss : List Sh} {t : Int} (h0 : 0 ≤ m) (h1 : m ≤ 255) : (heightR lv cs ss t).2 ≠ 0 ∨ ((heightR lv cs ss t).2 = 0 ∧ ((heightR (IntKind.wrap .i64 (lv + m)) cs ss t).2 ≠ 0 ∨ ((heightR (IntKind.wrap .i64 (lv + m)) cs ss t).2 = 0 ∧ (heightR (IntKind.wrap .i64 (lv + m)) cs ss t).1 = (heightR lv cs ss t).1 + m)) ∧ -40000 ≤ (heightR lv cs ss t).1 ∧ (heightR lv cs ss t).1 ≤ 40000) := by
  by_cases h : (heightR lv cs ss t).2 = 0
  rotate_left
  · exact .inl h
  refine .inr ⟨h, ?_⟩
  by_cases hw : chkW lv cs ss = 0
  rotate_left
  · unfold heightR at h
    rw [if_pos hw] at h
    exact absurd h hw
  have w := chkW_ok hw
  by_cases hm : (decide (0 ≤ t) && decide (t ≤ 1048576)) = false
  · unfold heightR at h
    rw [if_neg (by simp [hw]), if_pos hm] at h
    cases h
  have e1 : heightR lv cs ss t = (lv + bareV cs ss t, 0) := by unfold heightR; rw [if_neg (by simp [hw]), if_neg hm]
  have hl := w.n1
  have hcb := corD_bd (day := t / 1440) (chkS_all w.ss)
  have hsb := sumV_bd (t := t) (chkC_all w.cs) _ (Nat.le_refl _)
  have l1 := w.l1
  have l2 := w.l2
  have hbv : -28000 ≤ bareV cs ss t ∧ bareV cs ss t ≤ 28000 := by unfold bareV; omega
  have hwr : IntKind.wrap .i64 (lv + m) = lv + m := wrap_ok (by omega)
  rw [hwr, e1]
  refine ⟨?_, by simp only; omega, by simp only; omega⟩
  by_cases h2 : (heightR (lv + m) cs ss t).2 = 0
  · refine .inr ⟨h2, ?_⟩
    by_cases hw2 : chkW (lv + m) cs ss = 0
    · unfold heightR
      rw [if_neg (by simp [hw2]), if_neg hm]
      simp only
      omega
    · unfold heightR at h2
      rw [if_pos hw2] at h2
      exact absurd h2 hw2
  · exact .inl h2
set_option maxRecDepth 100000 in
set_option maxHeartbeats 16000000 in
theorem again_con (h : Heap) (g : Gd h) (lv id bg ev t : Int) (nn mm : Nat) (hn : nn ≤ 255) (hm : mm ≤ 255) (cv sv v : AV) (l : List Cw) (ss : List Sh) (hs : List Int) (hc : CyV h cv l) (hss : ShV h sv ss) (hv : ItV h v hs) (hl : l.length ≤ 9223372036854775807) :
    Con Try.prog Bs 3 [.agg [.int .i64 lv, cv, sv], .agg [.int .i64 id, .int .i64 bg, .int .i64 ev, v], .int .i64 t, .int .u8 nn, .int .u8 mm] h [] (.bool true) [] := by
  have hwn : IntKind.wrap .i64 (nn : Int) = nn := wrap_ok (by omega)
  have hwm : IntKind.wrap .i64 (mm : Int) = mm := wrap_ok (by omega)
  refine Con.start rfl Try.func3 rfl rfl Try.ntmps3 rfl rfl g ?_
  (refine WK.seq ?_; refine WK.region ?_; refine St.box fun _ _ => ?_; refine St.box fun _ _ => ?_; refine St.assign ?_; refine WO.nil ?_; refine WK.seq ?_; refine WK.seq ?_; refine WK.region ?_; refine St.load ?_)
  refine St.call (fun _ => rfl) (fun h2 hh => few_con h2 hh.gd lv cv sv l ss (hc.vw hh) (hss.vw hh) hl) ?_
  (refine St.un ?_; refine St.move ?_)
  refine St.split (fun h1 => ?_) (fun h1 => ?_)
  · (refine St.skip ?_; refine St.skip ?_; refine St.skip ?_; refine St.skip ?_; refine St.pickT ?_; refine WO.nil ?_; refine WK.condT ?_; refine WK.seq ?_; refine WK.region ?_)
    refine St.call (fun _ => rfl) (fun h2 hh => sanity_con h2 hh.gd) ?_
    (refine St.assign ?_; refine WO.nil ?_)
    refine St.ret (by first | exact .tmp .nil | exact .cell .nil | exact .cell (.tmp .nil) | exact .tmp (.tmp .nil) | exact .cell (.cell .nil) | exact .tmp (.cell .nil) | exact .nil | exact .tmp (.cell (.tmp .nil)) | exact .cell (.tmp (.tmp .nil)) | exact .cell (.cell (.tmp .nil)) | exact .tmp (.tmp (.tmp .nil)) | exact .cell (.cell (.cell .nil))) ?_
    rfl
  (refine St.fieldAddr ?_; refine St.load ?_)
  refine St.lenV rfl hv.len ?_
  (refine St.bin ?_; refine St.pickF ?_; refine WO.nil ?_)
  refine St.splitC (fun h2 => ?_) (fun h2 => ?_)
  · (refine WK.seq ?_; refine WK.region ?_)
    refine St.call (fun _ => rfl) (fun h2 hh => sanity_con h2 hh.gd) ?_
    (refine St.assign ?_; refine WO.nil ?_)
    refine St.ret (by first | exact .tmp .nil | exact .cell .nil | exact .cell (.tmp .nil) | exact .tmp (.tmp .nil) | exact .cell (.cell .nil) | exact .tmp (.cell .nil) | exact .nil | exact .tmp (.cell (.tmp .nil)) | exact .cell (.tmp (.tmp .nil)) | exact .cell (.cell (.tmp .nil)) | exact .tmp (.tmp (.tmp .nil)) | exact .cell (.cell (.cell .nil))) ?_
    rfl
  (refine WK.skip ?_; refine WK.seq ?_; refine WK.region ?_; refine St.load ?_; refine St.move ?_)
  refine St.call (fun _ => rfl) (fun h2 hh => valueP_con h2 hh.gd id bg ev t v hs (hv.vw hh)) ?_
  (refine St.move ?_; refine St.extract ?_; refine St.extract ?_; refine St.assign ?_; refine St.assign ?_; refine WO.nil ?_; refine WK.seq ?_; refine WK.seq ?_; refine WK.region ?_; refine St.move ?_; refine St.bin ?_; refine WO.nil ?_)
  refine St.splitC (fun h3 => ?_) (fun h3 => ?_)
  have h3' : (cvalR ⟨id, bg, ev, hs⟩ t).2 = 0 := by simpa using h3
  have hk : cyOk ⟨id, bg, ev, hs⟩ = true ∧ isMin t = true := by
    unfold cvalR at h3'
    split at h3'
    · assumption
    · simp at h3'
  have k := cyOk_iff.1 hk.1
  have hmt : 0 ≤ t ∧ t ≤ 1048576 := by simpa [isMin] using hk.2
  have ke1 : 1 ≤ ev := k.ev1
  have ke2 : ev ≤ 120 := k.ev2
  have kn2 : hs.length ≤ 60 := k.n2
  have b1 := mul_bd (a := (nn : Int)) (b := ev) (A := 255) (B := 120) (by omega) (by omega) (by omega) (by omega)
  have b2 := mul_bd (a := (nn : Int) * ev) (b := (hs.length : Int)) (A := 255 * 120) (B := 60) (by omega) (by omega) (by omega) (by omega)
  have hca := again_cases (c := ⟨id, bg, ev, hs⟩) (t := t) (n := nn) (by omega) (by omega) h3'
  dsimp only at hca
  (refine WK.seq ?_; refine WK.region ?_; refine St.load ?_; refine St.move ?_; refine St.move ?_; refine St.conv ?_; refine St.fieldAddr ?_; refine St.load ?_; refine St.bin ?_; refine St.fieldAddr ?_; refine St.load ?_)
  rw [hwn]
  skip
  refine St.lenV rfl hv.len ?_
  (refine St.bin ?_; refine St.bin ?_)
  have hw1 : IntKind.wrap .i64 ((nn : Int) * ev) = nn * ev := wrap_ok (by omega)
  have hw2 : IntKind.wrap .i64 ((nn : Int) * ev * (hs.length : Int)) = nn * ev * (hs.length : Int) := wrap_ok (by omega)
  have hw3 : IntKind.wrap .i64 (t + (nn : Int) * ev * (hs.length : Int)) = t + nn * ev * (hs.length : Int) := wrap_ok (by omega)
  rw [hw1, hw2, hw3]
  refine St.call (fun _ => rfl) (fun h2 hh => valueP_con h2 hh.gd id bg ev (t + nn * ev * (hs.length : Int)) v hs (hv.vw hh)) ?_
  rcases hca with ⟨q1, q2⟩ | ⟨q1, q2⟩
  rotate_left
  · (refine St.move ?_; refine St.extract ?_; refine St.extract ?_; refine St.assign ?_; refine St.assign ?_; refine WO.nil ?_; refine WK.seq ?_; refine WK.region ?_; refine St.move ?_; refine St.bin ?_; refine St.move ?_)
    refine St.split (fun hb => ?_) (fun hb => ?_)
    · exact absurd (by simpa using hb) q1
    (refine St.skip ?_; refine St.skip ?_; refine St.skip ?_; refine St.pickF ?_; refine St.move ?_; refine St.move ?_; refine St.bin ?_; refine St.move ?_)
    refine St.split (fun hb => ?_) (fun hb => ?_)
    rotate_left
    · exact absurd (by simpa using hb) q1
    (refine St.move ?_; refine St.move ?_; refine St.conv ?_; refine St.fieldAddr ?_; refine St.load ?_; refine St.bin ?_; refine St.fieldAddr ?_; refine St.load ?_)
    refine St.lenV rfl hv.len ?_
    (refine St.bin ?_; refine St.bin ?_; refine St.bin ?_; refine St.pickT ?_; refine St.pickF ?_; refine WO.nil ?_)
    rw [hwn, hw1, hw2, hw3]
    refine St.splitC (fun hb => ?_) (fun hb => ?_)
    · simp at hb; omega
    (refine WK.skip ?_; refine WK.seq ?_; refine WK.region ?_; refine St.load ?_; refine St.alloc fun _ _ => ?_)
    refine St.store0 (hv := store_w rfl hc.ok hss.ok rfl) ?_
    (refine WO.nil ?_; refine WK.seq ?_; refine WK.region ?_; refine St.fieldAddr ?_; refine St.load ?_; refine St.move ?_; refine St.conv ?_; refine St.bin ?_; refine St.fieldAddr ?_; refine St.store0 ?_; refine WO.nil ?_; refine WK.seq ?_; refine WK.region ?_; refine St.load ?_; refine St.move ?_)
    rw [hwm]
    refine St.call (fun _ => rfl) (fun h2 hh => height_con h2 hh.gd lv t cv sv l ss (hc.vw hh) (hss.vw hh)) ?_
    (refine St.move ?_; refine St.extract ?_; refine St.extract ?_; refine St.assign ?_; refine St.assign ?_; refine WO.nil ?_; refine WK.seq ?_; refine WK.region ?_; refine St.load ?_; refine St.move ?_)
    refine St.call (fun _ => rfl) (fun h2 hh => height_con h2 hh.gd (IntKind.wrap .i64 (lv + mm)) t cv sv l ss (hc.vw hh) (hss.vw hh)) ?_
    (refine St.move ?_; refine St.extract ?_; refine St.extract ?_; refine St.assign ?_; refine St.assign ?_; refine WO.nil ?_; refine WK.seq ?_; refine WK.region ?_)
    refine St.call (fun _ => rfl) (fun h2 hh => sanity_con h2 hh.gd) ?_
    (refine St.move ?_; refine St.move ?_; refine St.bin ?_; refine St.move ?_)
    refine St.split (fun hb => ?_) (fun hb => ?_)
    · (refine St.skip ?_; refine St.skip ?_; refine St.pickT ?_; refine St.move ?_; refine St.skip ?_; refine St.skip ?_; refine St.skip ?_; refine St.skip ?_; refine St.skip ?_; refine St.skip ?_; refine St.pickT ?_; refine St.pickT ?_; refine St.assign ?_; refine WO.nil ?_)
      refine St.ret (by first | exact .tmp .nil | exact .cell .nil | exact .cell (.tmp .nil) | exact .tmp (.tmp .nil) | exact .cell (.cell .nil) | exact .tmp (.cell .nil) | exact .nil | exact .tmp (.cell (.tmp .nil)) | exact .cell (.tmp (.tmp .nil)) | exact .cell (.cell (.tmp .nil)) | exact .tmp (.tmp (.tmp .nil)) | exact .cell (.cell (.cell .nil))) ?_
      rfl
    have e1 : (heightR lv (cys l) ss t).2 = 0 := by simpa using hb
    (refine St.move ?_; refine St.bin ?_; refine St.pickF ?_; refine St.move ?_)
    refine St.split (fun hb2 => ?_) (fun hb2 => ?_)
    · (refine St.skip ?_; refine St.skip ?_; refine St.skip ?_; refine St.skip ?_; refine St.skip ?_; refine St.skip ?_; refine St.pickT ?_; refine St.pickT ?_; refine St.assign ?_; refine WO.nil ?_)
      refine St.ret (by first | exact .tmp .nil | exact .cell .nil | exact .cell (.tmp .nil) | exact .tmp (.tmp .nil) | exact .cell (.cell .nil) | exact .tmp (.cell .nil) | exact .nil | exact .tmp (.cell (.tmp .nil)) | exact .cell (.tmp (.tmp .nil)) | exact .cell (.cell (.tmp .nil)) | exact .tmp (.tmp (.tmp .nil)) | exact .cell (.cell (.cell .nil))) ?_
      rfl
    have e2 : (heightR (IntKind.wrap .i64 (lv + mm)) (cys l) ss t).2 = 0 := by simpa using hb2
    rcases height_more (lv := lv) (m := (mm : Int)) (cs := cys l) (ss := ss) (t := t) (by omega) (by omega) with q | ⟨_, q | ⟨_, q⟩, k1, k2⟩
    · exact absurd e1 q
    · exact absurd e2 q
    have hw9 : IntKind.wrap .i64 ((heightR lv (cys l) ss t).1 + (mm : Int)) = (heightR lv (cys l) ss t).1 + mm := wrap_ok (by omega)
    (refine St.move ?_; refine St.move ?_; refine St.move ?_; refine St.conv ?_; refine St.binI ?_; refine St.bin ?_; refine St.pickF ?_; refine St.pickT ?_; refine St.assign ?_; refine WO.nil ?_)
    refine St.ret (by first | exact .tmp .nil | exact .cell .nil | exact .cell (.tmp .nil) | exact .tmp (.tmp .nil) | exact .cell (.cell .nil) | exact .tmp (.cell .nil) | exact .nil | exact .tmp (.cell (.tmp .nil)) | exact .cell (.tmp (.tmp .nil)) | exact .cell (.cell (.tmp .nil)) | exact .tmp (.tmp (.tmp .nil)) | exact .cell (.cell (.cell .nil))) ?_
    simp [oneOf, hwm, hw9, q]
  · (refine WK.skip ?_; refine WK.seq ?_; refine WK.region ?_; refine St.load ?_; refine St.alloc fun _ _ => ?_)
    refine St.store0 (hv := store_w rfl hc.ok hss.ok rfl) ?_
    (refine WO.nil ?_; refine WK.seq ?_; refine WK.region ?_; refine St.fieldAddr ?_; refine St.load ?_; refine St.move ?_; refine St.conv ?_; refine St.bin ?_; refine St.fieldAddr ?_; refine St.store0 ?_; refine WO.nil ?_; refine WK.seq ?_; refine WK.region ?_; refine St.load ?_; refine St.move ?_)
    rw [hwm]
    refine St.call (fun _ => rfl) (fun h2 hh => height_con h2 hh.gd lv t cv sv l ss (hc.vw hh) (hss.vw hh)) ?_
    (refine St.move ?_; refine St.extract ?_; refine St.extract ?_; refine St.assign ?_; refine St.assign ?_; refine WO.nil ?_; refine WK.seq ?_; refine WK.region ?_; refine St.load ?_; refine St.move ?_)
    refine St.call (fun _ => rfl) (fun h2 hh => height_con h2 hh.gd (IntKind.wrap .i64 (lv + mm)) t cv sv l ss (hc.vw hh) (hss.vw hh)) ?_
    (refine St.move ?_; refine St.extract ?_; refine St.extract ?_; refine St.assign ?_; refine St.assign ?_; refine WO.nil ?_; refine WK.seq ?_; refine WK.region ?_)
    refine St.call (fun _ => rfl) (fun h2 hh => sanity_con h2 hh.gd) ?_
    (refine St.move ?_; refine St.move ?_; refine St.bin ?_; refine St.move ?_)
    refine St.split (fun hb => ?_) (fun hb => ?_)
    · (refine St.skip ?_; refine St.skip ?_; refine St.pickT ?_; refine St.move ?_; refine St.skip ?_; refine St.skip ?_; refine St.skip ?_; refine St.skip ?_; refine St.skip ?_; refine St.skip ?_; refine St.pickT ?_; refine St.pickT ?_; refine St.assign ?_; refine WO.nil ?_)
      refine St.ret (by first | exact .tmp .nil | exact .cell .nil | exact .cell (.tmp .nil) | exact .tmp (.tmp .nil) | exact .cell (.cell .nil) | exact .tmp (.cell .nil) | exact .nil | exact .tmp (.cell (.tmp .nil)) | exact .cell (.tmp (.tmp .nil)) | exact .cell (.cell (.tmp .nil)) | exact .tmp (.tmp (.tmp .nil)) | exact .cell (.cell (.cell .nil))) ?_
      rfl
    have e1 : (heightR lv (cys l) ss t).2 = 0 := by simpa using hb
    (refine St.move ?_; refine St.bin ?_; refine St.pickF ?_; refine St.move ?_)
    refine St.split (fun hb2 => ?_) (fun hb2 => ?_)
    · (refine St.skip ?_; refine St.skip ?_; refine St.skip ?_; refine St.skip ?_; refine St.skip ?_; refine St.skip ?_; refine St.pickT ?_; refine St.pickT ?_; refine St.assign ?_; refine WO.nil ?_)
      refine St.ret (by first | exact .tmp .nil | exact .cell .nil | exact .cell (.tmp .nil) | exact .tmp (.tmp .nil) | exact .cell (.cell .nil) | exact .tmp (.cell .nil) | exact .nil | exact .tmp (.cell (.tmp .nil)) | exact .cell (.tmp (.tmp .nil)) | exact .cell (.cell (.tmp .nil)) | exact .tmp (.tmp (.tmp .nil)) | exact .cell (.cell (.cell .nil))) ?_
      rfl
    have e2 : (heightR (IntKind.wrap .i64 (lv + mm)) (cys l) ss t).2 = 0 := by simpa using hb2
    rcases height_more (lv := lv) (m := (mm : Int)) (cs := cys l) (ss := ss) (t := t) (by omega) (by omega) with q | ⟨_, q | ⟨_, q⟩, k1, k2⟩
    · exact absurd e1 q
    · exact absurd e2 q
    have hw9 : IntKind.wrap .i64 ((heightR lv (cys l) ss t).1 + (mm : Int)) = (heightR lv (cys l) ss t).1 + mm := wrap_ok (by omega)
    (refine St.move ?_; refine St.move ?_; refine St.move ?_; refine St.conv ?_; refine St.binI ?_; refine St.bin ?_; refine St.pickF ?_; refine St.pickT ?_; refine St.assign ?_; refine WO.nil ?_)
    refine St.ret (by first | exact .tmp .nil | exact .cell .nil | exact .cell (.tmp .nil) | exact .tmp (.tmp .nil) | exact .cell (.cell .nil) | exact .tmp (.cell .nil) | exact .nil | exact .tmp (.cell (.tmp .nil)) | exact .cell (.tmp (.tmp .nil)) | exact .cell (.cell (.tmp .nil)) | exact .tmp (.tmp (.tmp .nil)) | exact .cell (.cell (.cell .nil))) ?_
    simp [oneOf, hwm, hw9, q]
  · rw [q1, q2]
    (refine St.move ?_; refine St.extract ?_; refine St.extract ?_; refine St.assign ?_; refine St.assign ?_; refine WO.nil ?_; refine WK.seq ?_; refine WK.region ?_; refine St.move ?_; refine St.bin ?_; refine St.move ?_; refine St.move ?_; refine St.move ?_; refine St.bin ?_; refine St.pickT ?_; refine St.move ?_)
    refine St.split (fun hb => ?_) (fun hb => ?_)
    · simp at hb
    (refine St.move ?_; refine St.bin ?_; refine St.move ?_; refine St.skip ?_; refine St.skip ?_; refine St.skip ?_; refine St.skip ?_; refine St.skip ?_; refine St.skip ?_; refine St.skip ?_; refine St.skip ?_; refine St.skip ?_; refine St.skip ?_; refine St.skip ?_; refine St.skip ?_; refine St.pickF ?_; refine St.pickF ?_; refine WO.nil ?_; refine WK.condF ?_; refine WK.skip ?_; refine WK.seq ?_; refine WK.region ?_; refine St.load ?_; refine St.alloc fun _ _ => ?_)
    refine St.store0 (hv := store_w rfl hc.ok hss.ok rfl) ?_
    (refine WO.nil ?_; refine WK.seq ?_; refine WK.region ?_; refine St.fieldAddr ?_; refine St.load ?_; refine St.move ?_; refine St.conv ?_; refine St.bin ?_; refine St.fieldAddr ?_; refine St.store0 ?_; refine WO.nil ?_; refine WK.seq ?_; refine WK.region ?_; refine St.load ?_; refine St.move ?_)
    rw [hwm]
    refine St.call (fun _ => rfl) (fun h2 hh => height_con h2 hh.gd lv t cv sv l ss (hc.vw hh) (hss.vw hh)) ?_
    (refine St.move ?_; refine St.extract ?_; refine St.extract ?_; refine St.assign ?_; refine St.assign ?_; refine WO.nil ?_; refine WK.seq ?_; refine WK.region ?_; refine St.load ?_; refine St.move ?_)
    refine St.call (fun _ => rfl) (fun h2 hh => height_con h2 hh.gd (IntKind.wrap .i64 (lv + mm)) t cv sv l ss (hc.vw hh) (hss.vw hh)) ?_
    (refine St.move ?_; refine St.extract ?_; refine St.extract ?_; refine St.assign ?_; refine St.assign ?_; refine WO.nil ?_; refine WK.seq ?_; refine WK.region ?_)
    refine St.call (fun _ => rfl) (fun h2 hh => sanity_con h2 hh.gd) ?_
    (refine St.move ?_; refine St.move ?_; refine St.bin ?_; refine St.move ?_)
    refine St.split (fun hb => ?_) (fun hb => ?_)
    · (refine St.skip ?_; refine St.skip ?_; refine St.pickT ?_; refine St.move ?_; refine St.skip ?_; refine St.skip ?_; refine St.skip ?_; refine St.skip ?_; refine St.skip ?_; refine St.skip ?_; refine St.pickT ?_; refine St.pickT ?_; refine St.assign ?_; refine WO.nil ?_)
      refine St.ret (by first | exact .tmp .nil | exact .cell .nil | exact .cell (.tmp .nil) | exact .tmp (.tmp .nil) | exact .cell (.cell .nil) | exact .tmp (.cell .nil) | exact .nil | exact .tmp (.cell (.tmp .nil)) | exact .cell (.tmp (.tmp .nil)) | exact .cell (.cell (.tmp .nil)) | exact .tmp (.tmp (.tmp .nil)) | exact .cell (.cell (.cell .nil))) ?_
      rfl
    have e1 : (heightR lv (cys l) ss t).2 = 0 := by simpa using hb
    (refine St.move ?_; refine St.bin ?_; refine St.pickF ?_; refine St.move ?_)
    refine St.split (fun hb2 => ?_) (fun hb2 => ?_)
    · (refine St.skip ?_; refine St.skip ?_; refine St.skip ?_; refine St.skip ?_; refine St.skip ?_; refine St.skip ?_; refine St.pickT ?_; refine St.pickT ?_; refine St.assign ?_; refine WO.nil ?_)
      refine St.ret (by first | exact .tmp .nil | exact .cell .nil | exact .cell (.tmp .nil) | exact .tmp (.tmp .nil) | exact .cell (.cell .nil) | exact .tmp (.cell .nil) | exact .nil | exact .tmp (.cell (.tmp .nil)) | exact .cell (.tmp (.tmp .nil)) | exact .cell (.cell (.tmp .nil)) | exact .tmp (.tmp (.tmp .nil)) | exact .cell (.cell (.cell .nil))) ?_
      rfl
    have e2 : (heightR (IntKind.wrap .i64 (lv + mm)) (cys l) ss t).2 = 0 := by simpa using hb2
    rcases height_more (lv := lv) (m := (mm : Int)) (cs := cys l) (ss := ss) (t := t) (by omega) (by omega) with q | ⟨_, q | ⟨_, q⟩, k1, k2⟩
    · exact absurd e1 q
    · exact absurd e2 q
    have hw9 : IntKind.wrap .i64 ((heightR lv (cys l) ss t).1 + (mm : Int)) = (heightR lv (cys l) ss t).1 + mm := wrap_ok (by omega)
    (refine St.move ?_; refine St.move ?_; refine St.move ?_; refine St.conv ?_; refine St.binI ?_; refine St.bin ?_; refine St.pickF ?_; refine St.pickT ?_; refine St.assign ?_; refine WO.nil ?_)
    refine St.ret (by first | exact .tmp .nil | exact .cell .nil | exact .cell (.tmp .nil) | exact .tmp (.tmp .nil) | exact .cell (.cell .nil) | exact .tmp (.cell .nil) | exact .nil | exact .tmp (.cell (.tmp .nil)) | exact .cell (.tmp (.tmp .nil)) | exact .cell (.cell (.tmp .nil)) | exact .tmp (.tmp (.tmp .nil)) | exact .cell (.cell (.cell .nil))) ?_
    simp [oneOf, hwm, hw9, q]
end Go.Proofs.Ytlldifgofcbfoaa
