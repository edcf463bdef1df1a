/- Orders of fractions, and foremost, over the calculator's memory: the program's and the reference's. -/
import Derived.Test.YtbhklifflhoinaaGreatIv
namespace Go.Proofs.YtbhklifflhoinaaGreat
open Go.Proofs.YtbhklifflhoinaaGreat.Ev

set_option maxRecDepth 100000 in
theorem nan_con (h : Heap) (g : Gd h) (n : Int) : Con Tryz.prog Bs 88 [.int .i64 n] h [] (.bool false) [] := by
  refine Con.start rfl Tryz.func88 rfl rfl Tryz.ntmps88 rfl rfl g ?_
  (refine WK.seq ?_; refine WK.region ?_; refine St.assign ?_; refine WO.nil ?_; refine WK.seq ?_; refine WK.region ?_; refine St.move ?_; refine St.move ?_; refine St.bin ?_; refine St.assign ?_; refine WO.nil ?_)
  refine St.ret (by first | exact .tmp .nil | exact .cell .nil | exact .cell (.tmp .nil) | exact .tmp (.tmp .nil) | exact .cell (.cell .nil) | exact .tmp (.cell .nil) | exact .nil | exact .tmp (.cell (.tmp .nil)) | exact .cell (.tmp (.tmp .nil)) | exact .cell (.cell (.tmp .nil)) | exact .tmp (.tmp (.tmp .nil)) | exact .cell (.cell (.cell .nil))) ?_
  simp [oneOf]
set_option maxRecDepth 100000 in
theorem cmp_con (h : Heap) (g : Gd h) (a b : Int) : Con Tryz.prog Bs 41 [.int .i64 a, .int .i64 b] h [] (.int .i64 (cmpI a b)) [] := by
  refine Con.start rfl Tryz.func41 rfl rfl Tryz.ntmps41 rfl rfl g ?_
  (refine WK.seq ?_; refine WK.region ?_; refine St.assign ?_; refine WO.nil ?_; refine WK.seq ?_; refine WK.region ?_; refine St.move ?_)
  refine St.call (fun _ => rfl) (fun h hh => nan_con h hh.gd a) ?_
  (refine St.assign ?_; refine WO.nil ?_; refine WK.seq ?_; refine WK.region ?_; refine St.move ?_)
  refine St.call (fun _ => rfl) (fun h hh => nan_con h hh.gd b) ?_
  (refine St.assign ?_; refine WO.nil ?_; refine WK.seq ?_; refine WK.seq ?_; refine WK.region ?_; refine St.move ?_; refine WO.nil ?_; refine WK.condF ?_; refine WK.skip ?_; refine WK.seq ?_; refine WK.seq ?_; refine WK.region ?_; refine St.move ?_; refine WO.nil ?_; refine WK.condF ?_; refine WK.skip ?_; refine WK.seq ?_; refine WK.seq ?_; refine WK.region ?_; refine St.move ?_; refine St.move ?_; refine St.bin ?_; refine WO.nil ?_)
  refine St.splitC (fun hc => ?_) (fun hc => ?_)
  · (refine WK.seq ?_; refine WK.region ?_; refine St.assign ?_; refine WO.nil ?_)
    refine St.ret (by first | exact .tmp .nil | exact .cell .nil | exact .cell (.tmp .nil) | exact .tmp (.tmp .nil) | exact .cell (.cell .nil) | exact .tmp (.cell .nil) | exact .nil | exact .tmp (.cell (.tmp .nil)) | exact .cell (.tmp (.tmp .nil)) | exact .cell (.cell (.tmp .nil)) | exact .tmp (.tmp (.tmp .nil)) | exact .cell (.cell (.cell .nil))) ?_
    simp at hc
    simp [oneOf, cmpI, hc]
  (refine WK.skip ?_; refine WK.seq ?_; refine WK.seq ?_; refine WK.region ?_; refine St.move ?_; refine St.move ?_; refine St.bin ?_; refine WO.nil ?_)
  refine St.splitC (fun hc2 => ?_) (fun hc2 => ?_)
  · (refine WK.seq ?_; refine WK.region ?_; refine St.assign ?_; refine WO.nil ?_)
    refine St.ret (by first | exact .tmp .nil | exact .cell .nil | exact .cell (.tmp .nil) | exact .tmp (.tmp .nil) | exact .cell (.cell .nil) | exact .tmp (.cell .nil) | exact .nil | exact .tmp (.cell (.tmp .nil)) | exact .cell (.tmp (.tmp .nil)) | exact .cell (.cell (.tmp .nil)) | exact .tmp (.tmp (.tmp .nil)) | exact .cell (.cell (.cell .nil))) ?_
    simp at hc hc2
    simp [oneOf, cmpI, show ¬ a < b by omega, hc2]
  · (refine WK.skip ?_; refine WK.seq ?_; refine WK.region ?_; refine St.assign ?_; refine WO.nil ?_)
    refine St.ret (by first | exact .tmp .nil | exact .cell .nil | exact .cell (.tmp .nil) | exact .tmp (.tmp .nil) | exact .cell (.cell .nil) | exact .tmp (.cell .nil) | exact .nil | exact .tmp (.cell (.tmp .nil)) | exact .cell (.tmp (.tmp .nil)) | exact .cell (.cell (.tmp .nil)) | exact .tmp (.tmp (.tmp .nil)) | exact .cell (.cell (.cell .nil))) ?_
    simp at hc hc2
    simp [oneOf, cmpI, show ¬ a < b by omega, show ¬ b < a by omega]
set_option maxRecDepth 100000 in
theorem order_con (h : Heap) (g : Gd h) (a b c d : Int) (h1 : Small a b) (h2 : Small c d) : Con Tryz.prog Bs 112 [.agg [.int .i64 a, .int .i64 b], .agg [.int .i64 c, .int .i64 d]] h [] (.int .i64 (ordF a b c d)) [] := by
  obtain ⟨m1, m2⟩ := h1.mul h2
  obtain ⟨m3, m4⟩ := h2.mul h1
  refine Con.start rfl Tryz.func112 rfl rfl Tryz.ntmps112 rfl rfl g ?_
  (refine WK.seq ?_; refine WK.region ?_; refine St.box fun _ _ => ?_; refine St.box fun _ _ => ?_; refine St.assign ?_; refine WO.nil ?_; refine WK.seq ?_; refine WK.region ?_; refine St.fieldAddr ?_; refine St.load ?_; refine St.fieldAddr ?_; refine St.load ?_; refine St.binI ?_; refine St.fieldAddr ?_; refine St.load ?_; refine St.fieldAddr ?_; refine St.load ?_; refine St.binI ?_)
  refine St.call (fun _ => rfl) (fun h hh => cmp_con h hh.gd (a * d) (c * b)) ?_
  (refine St.assign ?_; refine WO.nil ?_)
  refine St.ret (by first | exact .tmp .nil | exact .cell .nil | exact .cell (.tmp .nil) | exact .tmp (.tmp .nil) | exact .cell (.cell .nil) | exact .tmp (.cell .nil) | exact .nil | exact .tmp (.cell (.tmp .nil)) | exact .cell (.tmp (.tmp .nil)) | exact .cell (.cell (.tmp .nil)) | exact .tmp (.tmp (.tmp .nil)) | exact .cell (.cell (.cell .nil))) ?_
  rfl
set_option maxRecDepth 100000 in
theorem isMore_con (h : Heap) (g : Gd h) (a b c d : Int) (h1 : Small a b) (h2 : Small c d) : Con Tryz.prog Bs 83 [.agg [.int .i64 a, .int .i64 b], .agg [.int .i64 c, .int .i64 d]] h [] (.bool (moreF (a, b) (c, d))) [] := by
  refine Con.start rfl Tryz.func83 rfl rfl Tryz.ntmps83 rfl rfl g ?_
  (refine WK.seq ?_; refine WK.region ?_; refine St.box fun _ _ => ?_; refine St.box fun _ _ => ?_; refine St.assign ?_; refine WO.nil ?_; refine WK.seq ?_; refine WK.region ?_; refine St.load ?_; refine St.load ?_)
  refine St.call (fun _ => rfl) (fun h hh => order_con h hh.gd a b c d h1 h2) ?_
  (refine St.bin ?_; refine St.assign ?_; refine WO.nil ?_)
  refine St.ret (by first | exact .tmp .nil | exact .cell .nil | exact .cell (.tmp .nil) | exact .tmp (.tmp .nil) | exact .cell (.cell .nil) | exact .tmp (.cell .nil) | exact .nil | exact .tmp (.cell (.tmp .nil)) | exact .cell (.tmp (.tmp .nil)) | exact .cell (.cell (.tmp .nil)) | exact .tmp (.tmp (.tmp .nil)) | exact .cell (.cell (.cell .nil))) ?_
  rfl
set_option maxRecDepth 100000 in
theorem isLess_con (h : Heap) (g : Gd h) (a b c d : Int) (h1 : Small a b) (h2 : Small c d) : Con Tryz.prog Bs 85 [.agg [.int .i64 a, .int .i64 b], .agg [.int .i64 c, .int .i64 d]] h [] (.bool (lessF (a, b) (c, d))) [] := by
  refine Con.start rfl Tryz.func85 rfl rfl Tryz.ntmps85 rfl rfl g ?_
  (refine WK.seq ?_; refine WK.region ?_; refine St.box fun _ _ => ?_; refine St.box fun _ _ => ?_; refine St.assign ?_; refine WO.nil ?_; refine WK.seq ?_; refine WK.region ?_; refine St.load ?_; refine St.load ?_)
  refine St.call (fun _ => rfl) (fun h hh => order_con h hh.gd a b c d h1 h2) ?_
  (refine St.bin ?_; refine St.assign ?_; refine WO.nil ?_)
  refine St.ret (by first | exact .tmp .nil | exact .cell .nil | exact .cell (.tmp .nil) | exact .tmp (.tmp .nil) | exact .cell (.cell .nil) | exact .tmp (.cell .nil) | exact .nil | exact .tmp (.cell (.tmp .nil)) | exact .cell (.tmp (.tmp .nil)) | exact .cell (.cell (.tmp .nil)) | exact .tmp (.tmp (.tmp .nil)) | exact .cell (.cell (.cell .nil))) ?_
  rfl
set_option maxRecDepth 100000 in
theorem rorder_con (h : Heap) (g : Gd h) (a b c d : Int) (h1 : Small a b) (h2 : Small c d) : Con Tryz.prog Bs 65 [.agg [.int .i64 a, .int .i64 b], .agg [.int .i64 c, .int .i64 d]] h [] (.int .i64 (ordF a b c d)) [] := by
  obtain ⟨m1, m2⟩ := h1.mul h2
  obtain ⟨m3, m4⟩ := h2.mul h1
  refine Con.start rfl Tryz.func65 rfl rfl Tryz.ntmps65 rfl rfl g ?_
  (refine WK.seq ?_; refine WK.region ?_; refine St.box fun _ _ => ?_; refine St.box fun _ _ => ?_; refine St.assign ?_; refine WO.nil ?_; refine WK.seq ?_; refine WK.region ?_; refine St.fieldAddr ?_; refine St.load ?_; refine St.fieldAddr ?_; refine St.load ?_; refine St.binI ?_; refine St.assign ?_; refine WO.nil ?_; refine WK.seq ?_; refine WK.region ?_; refine St.fieldAddr ?_; refine St.load ?_; refine St.fieldAddr ?_; refine St.load ?_; refine St.binI ?_; refine St.assign ?_; refine WO.nil ?_; refine WK.seq ?_; refine WK.seq ?_; refine WK.region ?_; refine St.move ?_; refine St.move ?_; refine St.bin ?_; refine WO.nil ?_)
  refine St.splitC (fun hc => ?_) (fun hc => ?_)
  · (refine WK.seq ?_; refine WK.region ?_; refine St.assign ?_; refine WO.nil ?_)
    refine St.ret (by first | exact .tmp .nil | exact .cell .nil | exact .cell (.tmp .nil) | exact .tmp (.tmp .nil) | exact .cell (.cell .nil) | exact .tmp (.cell .nil) | exact .nil | exact .tmp (.cell (.tmp .nil)) | exact .cell (.tmp (.tmp .nil)) | exact .cell (.cell (.tmp .nil)) | exact .tmp (.tmp (.tmp .nil)) | exact .cell (.cell (.cell .nil))) ?_
    simp at hc
    simp [oneOf, ordF, cmpI, hc]
  (refine WK.skip ?_; refine WK.seq ?_; refine WK.seq ?_; refine WK.region ?_; refine St.move ?_; refine St.move ?_; refine St.bin ?_; refine WO.nil ?_)
  refine St.splitC (fun hc2 => ?_) (fun hc2 => ?_)
  · (refine WK.seq ?_; refine WK.region ?_; refine St.assign ?_; refine WO.nil ?_)
    refine St.ret (by first | exact .tmp .nil | exact .cell .nil | exact .cell (.tmp .nil) | exact .tmp (.tmp .nil) | exact .cell (.cell .nil) | exact .tmp (.cell .nil) | exact .nil | exact .tmp (.cell (.tmp .nil)) | exact .cell (.tmp (.tmp .nil)) | exact .cell (.cell (.tmp .nil)) | exact .tmp (.tmp (.tmp .nil)) | exact .cell (.cell (.cell .nil))) ?_
    simp at hc hc2
    simp [oneOf, ordF, cmpI, show ¬ a * d < c * b by omega, hc2]
  · (refine WK.skip ?_; refine WK.seq ?_; refine WK.region ?_; refine St.assign ?_; refine WO.nil ?_)
    refine St.ret (by first | exact .tmp .nil | exact .cell .nil | exact .cell (.tmp .nil) | exact .tmp (.tmp .nil) | exact .cell (.cell .nil) | exact .tmp (.cell .nil) | exact .nil | exact .tmp (.cell (.tmp .nil)) | exact .cell (.tmp (.tmp .nil)) | exact .cell (.cell (.tmp .nil)) | exact .tmp (.tmp (.tmp .nil)) | exact .cell (.cell (.cell .nil))) ?_
    simp at hc hc2
    simp [oneOf, ordF, cmpI, show ¬ a * d < c * b by omega, show ¬ c * b < a * d by omega]

/-- element i of a list of fractions -/
def frV (fs : List (Int × Int)) (i : Nat) : AV := .agg [.int .i64 (kx fs i), .int .i64 (ky fs i)]
theorem best_step {lt : Int × Int → Int × Int → Bool} {fs : List (Int × Int)} {k : Nat} : bestIx lt (0, 0) fs (k + 1) = if lt (kx fs k, ky fs k) (kx fs (bestIx lt (0, 0) fs k), ky fs (bestIx lt (0, 0) fs k)) = true then k else bestIx lt (0, 0) fs k := rfl
set_option maxRecDepth 100000 in
set_option maxHeartbeats 4000000 in
theorem foremost_con (h : Heap) (g : Gd h) (b off : Nat) (c : ACap) (fs : List (Int × Int)) (fw : Nat) (lt : Int × Int → Int × Int → Bool) (hl : fs.length ≤ 1000000000000) (hk : KnH h b off fs)
    (hw : ∀ i j, i < fs.length → j < fs.length → ∀ h', Gd h' → Con Tryz.prog Bs fw ([] ++ [frV fs i, frV fs j] ++ []) h' [] (.bool (lt (kx fs i, ky fs i) (kx fs j, ky fs j))) []) :
    Con Tryz.prog Bs 97 [.slice b off fs.length c, .fn (.func fw) [] []] h [] (.int .i64 (bestIx lt (0, 0) fs fs.length)) [] := by
  refine Con.start rfl Tryz.func97 rfl rfl Tryz.ntmps97 rfl rfl g ?_
  (refine WK.seq ?_; refine WK.region ?_; refine St.assign ?_; refine WO.nil ?_; refine WK.seq ?_; refine WK.region ?_; refine St.assign ?_; refine WO.nil ?_; refine WK.seq ?_; refine WK.seq ?_; refine WK.region ?_; refine St.move ?_; refine St.len ?_; refine St.move ?_; refine WO.nil ?_; refine WK.block ?_)
  refine WK.inv (ι := Nat) (fun k => [(0, .slice b off fs.length c), (1, .fn (.func fw) [] []), (5, .int .i64 (bestIx lt (0, 0) fs k)), (8, .int .i64 fs.length), (9, .int .i64 k)]) (fun _ => []) (fun k => k ≤ fs.length) (fun k => fs.length - k) 0 (by omega) ⟨rfl, rfl, rfl, rfl, rfl, trivial⟩ (by (repeat (first | exact List.Sublist.refl _ | exact List.nil_sublist _ | apply List.Sublist.cons_cons | apply List.Sublist.cons))) ?_
  intro k hkl ih
  (refine WK.seq ?_; refine WK.region ?_; refine St.bin ?_; refine WO.nil ?_; refine WK.seq ?_)
  refine St.splitC (fun hc => ?_) (fun hc => ?_)
  · have hlt : k < fs.length := by simp at hc; omega
    have hb := bestIx_lt lt (0, 0) fs hkl (by omega)
    (refine WK.skip ?_; refine WK.seq ?_; refine WK.block ?_; refine WK.seq ?_; refine WK.region ?_; refine St.move ?_; refine St.assign ?_; refine WO.nil ?_; refine WK.seq ?_; refine WK.regionD ?_; refine St.move ?_; refine St.move ?_; refine St.move ?_)
    refine St.at ?_
    skip
    refine St.loadX (fun h hh => ((hk.vw hh).at_ (z := (k : Int)) (n := k) (by omega) hlt).agg (by simp) rfl rfl rfl) ?_
    (refine St.move ?_; refine St.move ?_)
    refine St.at ?_
    skip
    refine St.loadX (fun h hh => ((hk.vw hh).at_ (z := (bestIx lt (0, 0) fs k : Int)) (n := bestIx lt (0, 0) fs k) (by omega) hb).agg (by simp) rfl rfl rfl) ?_
    skip
    refine St.call (fun _ => rfl) (fun h hh => hw k (bestIx lt (0, 0) fs k) hlt hb h hh.gd) ?_
    (refine WO.nil ?_)
    refine St.splitC (fun hc2 => ?_) (fun hc2 => ?_)
    · (refine WK.region ?_; refine St.move ?_; refine St.assign ?_; refine WO.nil ?_; refine WK.blk ?_; refine WK.region ?_; refine St.binI ?_; refine St.move ?_; refine WO.nil ?_)
      refine WK.le ?_ (by (repeat (first | exact List.Sublist.refl _ | exact List.nil_sublist _ | apply List.Sublist.cons_cons | apply List.Sublist.cons))) (ih (k + 1) hlt (by omega))
      exact ⟨rfl, rfl, congrArg (fun z : Nat => some (AV.int .i64 z)) (show k = bestIx lt (0, 0) fs (k + 1) by rw [best_step, if_pos hc2]), rfl, rfl, trivial⟩
    · (refine WK.skip ?_; refine WK.blk ?_; refine WK.region ?_; refine St.binI ?_; refine St.move ?_; refine WO.nil ?_)
      refine WK.le ?_ (by (repeat (first | exact List.Sublist.refl _ | exact List.nil_sublist _ | apply List.Sublist.cons_cons | apply List.Sublist.cons))) (ih (k + 1) hlt (by omega))
      exact ⟨rfl, rfl, congrArg (fun z : Nat => some (AV.int .i64 z)) (show bestIx lt (0, 0) fs k = bestIx lt (0, 0) fs (k + 1) by rw [best_step, if_neg (by simp [hc2])]), rfl, rfl, trivial⟩
  · have : k = fs.length := by simp at hc; omega
    subst this
    (refine WK.exit ?_; refine WK.seq ?_; refine WK.region ?_; refine St.move ?_; refine St.assign ?_; refine WO.nil ?_)
    refine St.ret (by first | exact .tmp .nil | exact .cell .nil | exact .cell (.tmp .nil) | exact .tmp (.tmp .nil) | exact .cell (.cell .nil) | exact .tmp (.cell .nil) | exact .nil | exact .tmp (.cell (.tmp .nil)) | exact .cell (.tmp (.tmp .nil)) | exact .cell (.cell (.tmp .nil)) | exact .tmp (.tmp (.tmp .nil)) | exact .cell (.cell (.cell .nil))) ?_
    rfl
end Go.Proofs.YtbhklifflhoinaaGreat
