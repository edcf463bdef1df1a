/- Layer 9: SameRulings of the same rulings. -/
import Derived.Test.YtilpinmbngikgaaRx
namespace Go.Proofs.Ytilpinmbngikgaa
open Go.Proofs.Ytilpinmbngikgaa.Ev

theorem rlC_len (x : Rl3) : (rlC x).length = 3 := rfl
theorem EV.rlen {h : Heap} {v : AV} {l : List Rl3} (k : EV rlC 3 h v l) : ∀ h2, lenA Try.prog 40 h2 v = some (.int .i64 (l.length : Int)) := EV.len k Try.underlying40
theorem isR_v {l : List Rl3} {w : AV} {L : Ob} {n : Nat} (hw : IsR 32 3 n (enF rlC l) w L) (hn : l.length = n) {h0 h : Heap} {W : List Nat} {V : Ob} (k : Vw h0 W V h) (hm : ∀ x ∈ L, x ∈ V) : EV rlC 3 h w l := en_v rlC_len hw.isL hn k hm
set_option maxRecDepth 100000 in
set_option maxHeartbeats 8000000 in
theorem sameR_con (h : Heap) (g : Gd h) (v1 v2 : AV) (l : List Rl3) (h1 : EV rlC 3 h v1 l) (h2 : EV rlC 3 h v2 l) (hl : l.length ≤ 1000000) : Con Try.prog Bs 18 [v1, v2] h [] (.bool true) [] := by
  refine Con.start rfl Try.func18 rfl rfl Try.ntmps18 rfl rfl g ?_
  (refine WK.seq ?_; refine WK.region ?_; refine St.assign ?_; refine WO.nil ?_; refine WK.seq ?_; refine WK.seq ?_; refine WK.region ?_; refine St.move ?_)
  refine St.lenG rfl (EV.rlen h1) ?_
  (refine St.move ?_)
  refine St.lenG rfl (EV.rlen h2) ?_
  (refine St.bin ?_; refine WO.nil ?_)
  refine St.splitC (fun q => ?_) (fun q => ?_)
  · simp at q
  (refine WK.skip ?_; refine WK.seq ?_; refine WK.seq ?_; refine WK.region ?_; refine St.assign ?_; refine WO.nil ?_; refine WK.block ?_)
  refine WK.inv (ι := Nat) (fun k => [(0, v1), (1, v2), (5, .int .i64 k)]) (fun _ => []) (fun k => k ≤ l.length) (fun k => l.length - k) 0 (Nat.zero_le _) ⟨rfl, rfl, rfl, trivial⟩ (by (repeat (first | exact List.Sublist.refl _ | exact List.nil_sublist _ | apply List.Sublist.cons_cons | apply List.Sublist.cons))) ?_
  intro k hk ih
  (refine WK.seq ?_; refine WK.seq ?_; refine WK.region ?_; refine St.move ?_; refine St.move ?_)
  refine St.lenG rfl (EV.rlen h1) ?_
  (refine St.bin ?_; refine WO.nil ?_)
  refine St.splitC (fun q => ?_) (fun q => ?_)
  · have hlt : k < l.length := by simp at q; omega
    obtain ⟨b1, o1, c1, rfl, k1⟩ := EV.ne h1 (by omega)
    obtain ⟨b2, o2, c2, rfl, k2⟩ := EV.ne h2 (by omega)
    (refine WK.skip ?_; refine WK.seq ?_; refine WK.block ?_; refine WK.seq ?_; refine WK.regionD ?_; refine St.move ?_; refine St.move ?_)
    refine St.at ?_
    refine St.loadX (fun h2 hh => ((k1.vw hh).at_ (z := (k : Int)) (n := k) (by omega) hlt).agg (by simp [rlC]) rfl rfl rfl) ?_
    (refine St.move ?_; refine St.move ?_)
    refine St.at ?_
    refine St.loadX (fun h2 hh => ((k2.vw hh).at_ (z := (k : Int)) (n := k) (by omega) hlt).agg (by simp [rlC]) rfl rfl rfl) ?_
    refine St.binX (r := .bool false) (by simp [rlC, evBin, evEq, guardOk, eqT, eqFs, partE, isAggT, nthN]) rfl rfl ?_
    (refine WO.nil ?_; refine WK.condF ?_; refine WK.skip ?_; refine WK.blk ?_; refine WK.region ?_; refine St.move ?_; refine St.binI ?_; refine St.assign ?_; refine WO.nil ?_)
    refine WK.le ?_ (by (repeat (first | exact List.Sublist.refl _ | exact List.nil_sublist _ | apply List.Sublist.cons_cons | apply List.Sublist.cons))) (ih (k + 1) hlt (by omega))
    exact ⟨rfl, rfl, rfl, trivial⟩
  · (refine WK.exit ?_; refine WK.seq ?_; refine WK.region ?_; refine St.assign ?_; refine WO.nil ?_)
    refine St.ret (by first | exact .tmp .nil | exact .cell .nil | exact .cell (.tmp .nil) | exact .tmp (.tmp .nil) | exact .cell (.cell .nil) | exact .tmp (.cell .nil) | exact .nil | exact .tmp (.cell (.tmp .nil)) | exact .cell (.tmp (.tmp .nil)) | exact .cell (.cell (.tmp .nil)) | exact .tmp (.tmp (.tmp .nil)) | exact .tmp (.tmp (.tmp (.tmp .nil))) | exact .cell (.cell (.cell .nil))) ?_
    rfl
end Go.Proofs.Ytilpinmbngikgaa
