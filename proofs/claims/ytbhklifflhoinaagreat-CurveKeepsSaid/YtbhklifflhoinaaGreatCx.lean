/- Cross over the calculator's memory: the program's. -/
import Derived.Test.YtbhklifflhoinaaGreatSt
import Derived.Test.YtbhklifflhoinaaGreatSu
namespace Go.Proofs.YtbhklifflhoinaaGreat
open Go.Proofs.YtbhklifflhoinaaGreat.Ev

set_option maxRecDepth 100000 in
set_option maxHeartbeats 4000000 in
theorem gap_con (h : Heap) (g : Gd h) (a b c d e f' s t : Int) (s0 s1 x : Int) (hl : LineOk a b c d) (hm : LineOk e f' s t) (h0 : -4000 ≤ x) (h1 : x ≤ 4000) (b1 : -2400000000 ≤ b * d + c * (x - a)) (b2 : b * d + c * (x - a) ≤ 2400000000) (b3 : -2400000000 ≤ f' * t + s * (x - e)) (b4 : f' * t + s * (x - e) ≤ 2400000000) :
    Con Tryz.prog Bs 62 [.agg [.int .i64 s0, .int .i64 s1, .int .i64 a, .int .i64 b, .int .i64 c, .int .i64 d, .int .i64 e, .int .i64 f', .int .i64 s, .int .i64 t], .int .i64 x] h [] (.int .i64 ((b * d + c * (x - a)) * t - (f' * t + s * (x - e)) * d)) [] := by
  have d1 := hl.d1
  have d2 := hl.d2
  have d3 := hm.d1
  have d4 := hm.d2
  obtain ⟨m1, m2⟩ := mul_bd b1 b2 (show -4000 ≤ t by omega) d4
  obtain ⟨m3, m4⟩ := mul_bd b3 b4 (show -4000 ≤ d by omega) d2
  refine Con.start rfl Tryz.func62 rfl rfl Tryz.ntmps62 rfl rfl g ?_
  (refine WK.seq ?_; refine WK.region ?_; refine St.box fun _ _ => ?_; refine St.assign ?_; refine WO.nil ?_; refine WK.seq ?_; refine WK.regionD ?_; refine St.fieldAddr ?_; refine St.load ?_; refine St.move ?_)
  refine St.call (fun _ => rfl) (fun h hh => num_con h hh.gd a b c d x hl h0 h1) ?_
  (refine St.fieldAddr ?_; refine St.fieldAddr ?_; refine St.load ?_; refine St.binI ?_; refine St.fieldAddr ?_; refine St.load ?_; refine St.move ?_)
  refine St.call (fun _ => rfl) (fun h hh => num_con h hh.gd e f' s t x hm h0 h1) ?_
  (refine St.fieldAddr ?_; refine St.fieldAddr ?_; refine St.load ?_; refine St.binI ?_; refine St.binI ?_; refine St.assign ?_; refine WO.nil ?_)
  refine St.ret (by first | exact .tmp .nil | exact .cell .nil | exact .cell (.tmp .nil) | exact .tmp (.tmp .nil) | exact .cell (.cell .nil) | exact .tmp (.cell .nil) | exact .nil | exact .tmp (.cell (.tmp .nil)) | exact .cell (.tmp (.tmp .nil)) | exact .cell (.cell (.tmp .nil)) | exact .tmp (.tmp (.tmp .nil)) | exact .cell (.cell (.cell .nil))) ?_
  rfl
/-- the gap of stretch k at x -/
theorem gapK_con {ka kb : List (Int × Int)} {ea eb : Int} (va : Vd ka ea) (vb : Vd kb eb) {k : Nat} (hk : k < stN2 ka kb) {x : Int} (h1 : stFrom ka kb k ≤ x) (h2 : x ≤ stTo ka kb k) (h : Heap) (g : Gd h) : Con Tryz.prog Bs 62 [.agg (stCells ka kb k), .int .i64 x] h [] (.int .i64 (gapL (lnOf ka (stFrom ka kb k) (stTo ka kb k)) (lnOf kb (stFrom ka kb k) (stTo ka kb k)) x)) [] := by
  have st := st_is hk
  obtain ⟨d1, d2⟩ := va.dom st.da
  obtain ⟨b1, b2⟩ := va.numBd (lo := stFrom ka kb k) (hi := stTo ka kb k) (x := x) (by omega) (by omega)
  obtain ⟨b3, b4⟩ := vb.numBd (lo := stFrom ka kb k) (hi := stTo ka kb k) (x := x) (by omega) (by omega)
  exact gap_con h g _ _ _ _ _ _ _ _ _ _ x (va.lnOk _ _) (vb.lnOk _ _) (by omega) (by omega) b1 b2 b3 b4
theorem stDom {ka kb : List (Int × Int)} {ea eb : Int} (va : Vd ka ea) (vb : Vd kb eb) {k : Nat} (hk : k < stN2 ka kb) {x : Int} (h1 : stFrom ka kb k ≤ x) (h2 : x ≤ stTo ka kb k) : OnLn ka (lnOf ka (stFrom ka kb k) (stTo ka kb k)) x ∧ OnLn kb (lnOf kb (stFrom ka kb k) (stTo ka kb k)) x ∧ 0 < difD ka kb x ∧ 0 ≤ x ∧ x ≤ 2000 := by
  have st := st_is hk
  obtain ⟨d1, d2⟩ := va.dom st.da
  exact ⟨ln_on va st.da st.le st.na h1 h2, ln_on vb st.db st.le st.nb h1 h2, (dif_bd va vb (inDom_sub st.da h1 h2) (inDom_sub st.db h1 h2)).2.2.1, by omega, by omega⟩

theorem crD {sg : Int → Int} {lo : Int} {n : Nat} {sx bf : Int} (h : sg (lo + n) = sx) (hb : bef sg lo n = bf) (h0 : sx ≠ 0) (h1 : sx ≠ -bf) : crTo sg lo (n + 1) = crTo sg lo n := by
  simp only [crTo]
  rw [if_neg (by rw [h]; exact h0), if_neg]
  rintro ⟨g1, g2⟩
  unfold bef at hb
  rw [if_neg g1] at hb
  omega
theorem crC {sg : Int → Int} {lo : Int} {n : Nat} {sx bf : Int} (h : sg (lo + n) = sx) (hb : bef sg lo n = bf) (h0 : sx ≠ 0) (h1 : sx = -bf) : crTo sg lo (n + 1) = crTo sg lo n ++ [(lo + n - 1, lo + n)] := by
  simp only [crTo]
  unfold bef at hb
  have hn : n ≠ 0 := fun e => by rw [if_pos e] at hb; omega
  rw [if_neg hn] at hb
  rw [if_neg (by rw [h]; exact h0), if_pos ⟨hn, by omega⟩]
theorem crB {sg : Int → Int} {lo : Int} {n : Nat} {bf : Int} (h : sg (lo + n) = 0) (hb : bef sg lo n = bf) (h1 : bf = 0 → n = 0) : crTo sg lo (n + 1) = crTo sg lo n ++ [(lo + n, lo + n)] := by
  simp only [crTo]
  rw [if_pos h, if_neg]
  rintro ⟨g1, g2⟩
  unfold bef at hb
  rw [if_neg g1] at hb
  exact g1 (h1 (by omega))
theorem crA {sg : Int → Int} {lo : Int} {n : Nat} (h : sg (lo + n) = 0) (hb : bef sg lo n = 0) (h1 : n ≠ 0) : crTo sg lo (n + 1) = setHi (crTo sg lo n) (lo + n) := by
  simp only [crTo]
  unfold bef at hb
  rw [if_neg h1] at hb
  rw [if_pos h, if_pos ⟨h1, hb⟩]
theorem bef_succ (sg : Int → Int) (lo : Int) (n : Nat) : bef sg lo (n + 1) = sg (lo + n) := by
  simp only [bef, Nat.add_one_ne_zero, if_false]
  congr 1
  omega
theorem bef_vals (ka kb : List (Int × Int)) (lo : Int) (n : Nat) : bef (sgX ka kb) lo n = -1 ∨ bef (sgX ka kb) lo n = 0 ∨ bef (sgX ka kb) lo n = 1 := by
  unfold bef
  split
  · exact .inr (.inl rfl)
  · exact sgX_vals _ _ _
theorem flat_setHi (l : List (Int × Int)) (h : 0 < l.length) (x : Int) : (flatA l).set ((l.length - 1) * 2 + 1) (.int .i64 x) = flatA (setHi l x) := by
  rw [flatA_set l (l.length - 1) (by omega) x]
  unfold setHi
  rw [List.getElem?_eq_getElem (show l.length - 1 < l.length by omega)]
  rfl
/-- the list of crossings, and the sign before, as the program holds them behind n integers -/
def CrMem (ka kb : List (Int × Int)) (u8 u7 : Nat) (n : Nat) (Lk : Ob) : Prop := ∃ w Lv, IsL 27 2 (crTo (sgX ka kb) (shLo ka kb) n).length (flatA (crTo (sgX ka kb) (shLo ka kb) n)) w Lv ∧ Lk = (u8, .cells [.int .i64 (bef (sgX ka kb) (shLo ka kb) n)] 3) :: (u7, .cells [w] 48) :: Lv
end Go.Proofs.YtbhklifflhoinaaGreat
