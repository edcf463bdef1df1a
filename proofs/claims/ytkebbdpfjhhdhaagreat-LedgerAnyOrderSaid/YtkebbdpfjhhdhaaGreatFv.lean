/- Layer 8: items that were made, as what is asked of; a row's beginning. -/
import Derived.Test.YtkebbdpfjhhdhaaGreatDu
import Derived.Test.YtkebbdpfjhhdhaaGreatFm
/- Layer 8: the reference's comparisons of lists that are the same. -/
namespace Go.Proofs.YtkebbdpfjhhdhaaGreat
open Go.Proofs.YtkebbdpfjhhdhaaGreat.Ev

instance : DecidableEq Po := fun x y => by
  cases x; cases y
  simp only [Po.mk.injEq]
  infer_instance
theorem po_ext (x y : Po) : (x = y) ↔ (x.it = y.it ∧ x.dy = y.dy ∧ x.ac = y.ac ∧ x.am = y.am) := by
  cases x; cases y; simp
theorem po_neq (x y : Po) : evBin Tryz.prog .neq 72 (.agg (poC x)) (.agg (poC y)) = some (.bool (!decide (x = y))) := by
  simp only [po_ext]
  simp [poC, evBin, evEq, guardOk, eqT, eqFs, partE, isAggT, nthN]
  by_cases h0 : x.it = y.it
  rotate_left
  · simp [h0]
  by_cases h1 : x.dy = y.dy
  rotate_left
  · simp [h0, h1]
  by_cases h2 : x.ac = y.ac
  rotate_left
  · simp [h0, h1, h2]
  by_cases h3 : x.am = y.am
  rotate_left
  · simp [h0, h1, h2, h3]
  simp [h0, h1, h2, h3]
set_option maxRecDepth 100000 in
set_option maxHeartbeats 8000000 in
theorem sameP_con (h : Heap) (g : Gd h) (v w : AV) (l : List Po) (hv : PoV h v l) (hw : PoV h w l) (hl : l.length ≤ 1000000) : Con Tryz.prog Bs 30 [v, w] h [] (.bool true) [] := by
  refine Con.start rfl Tryz.func30 rfl rfl Tryz.ntmps30 rfl rfl g ?_
  (refine WK.seq ?_; refine WK.region ?_; refine St.assign ?_; refine WO.nil ?_; refine WK.seq ?_; refine WK.seq ?_; refine WK.region ?_; refine St.move ?_)
  refine St.lenG rfl hv.llen ?_
  (refine St.move ?_)
  refine St.lenG rfl hw.llen ?_
  (refine St.bin ?_; refine WO.nil ?_)
  refine St.splitC (fun q => ?_) (fun q => ?_)
  · exact absurd q (by simp)
  (refine WK.skip ?_; refine WK.seq ?_; refine WK.seq ?_; refine WK.region ?_; refine St.assign ?_; refine WO.nil ?_; refine WK.block ?_)
  refine WK.inv (ι := Nat) (fun z => [(0, v), (1, w), (5, .int .i64 z)]) (fun _ => []) (fun z => z ≤ l.length) (fun z => l.length - z) 0 (Nat.zero_le _) ⟨rfl, rfl, rfl, trivial⟩ (by (repeat (first | exact List.Sublist.refl _ | exact List.nil_sublist _ | apply List.Sublist.cons_cons | apply List.Sublist.cons))) ?_
  intro k hkl ih
  (refine WK.seq ?_; refine WK.seq ?_; refine WK.region ?_; refine St.move ?_; refine St.move ?_)
  refine St.lenG rfl hv.llen ?_
  (refine St.bin ?_; refine WO.nil ?_)
  refine St.splitC (fun hc => ?_) (fun hc => ?_)
  · have hlt : k < l.length := by simp at hc; omega
    have hv' := hv
    have hw' := hw
    obtain ⟨b, off, cc, rfl, hk⟩ := hv'.ne (by omega)
    obtain ⟨b2, off2, cc2, rfl, hk2⟩ := hw'.ne (by omega)
    (refine WK.skip ?_; refine WK.seq ?_; refine WK.block ?_; refine WK.seq ?_; refine WK.regionD ?_; refine St.move ?_; refine St.move ?_)
    refine St.at ?_
    skip
    refine St.loadX (fun h2 hh => ((hk.vw hh).at_ (z := (k : Int)) (n := k) (by omega) hlt).agg (by simp [poC]) rfl rfl rfl) ?_
    (refine St.move ?_; refine St.move ?_)
    refine St.at ?_
    skip
    refine St.loadX (fun h2 hh => ((hk2.vw hh).at_ (z := (k : Int)) (n := k) (by omega) hlt).agg (by simp [poC]) rfl rfl rfl) ?_
    skip
    refine St.binX (r := .bool (!decide (nthE l k = nthE l k))) (po_neq _ _) rfl rfl ?_
    (refine WO.nil ?_)
    refine St.splitC (fun q2 => ?_) (fun q2 => ?_)
    · exact absurd q2 (by simp)
    (refine WK.skip ?_; refine WK.blk ?_; refine WK.region ?_; refine St.move ?_; refine St.binI ?_; refine St.assign ?_; refine WO.nil ?_)
    refine WK.le ?_ (by (repeat (first | exact List.Sublist.refl _ | exact List.nil_sublist _ | apply List.Sublist.cons_cons | apply List.Sublist.cons))) (ih (k + 1) hlt (by omega))
    exact ⟨rfl, rfl, rfl, trivial⟩
  · (refine WK.exit ?_; refine WK.seq ?_; refine WK.region ?_; refine St.assign ?_; refine WO.nil ?_)
    refine St.ret (by first | exact .tmp .nil | exact .cell .nil | exact .cell (.tmp .nil) | exact .tmp (.tmp .nil) | exact .cell (.cell .nil) | exact .tmp (.cell .nil) | exact .nil | exact .tmp (.cell (.tmp .nil)) | exact .cell (.tmp (.tmp .nil)) | exact .cell (.cell (.tmp .nil)) | exact .tmp (.tmp (.tmp .nil)) | exact .tmp (.tmp (.tmp (.tmp .nil))) | exact .cell (.cell (.cell .nil))) ?_
    rfl
end Go.Proofs.YtkebbdpfjhhdhaaGreat

/- Layer 8: items that were made, as what is asked of; a row's beginning. -/
namespace Go.Proofs.YtkebbdpfjhhdhaaGreat
open Go.Proofs.YtkebbdpfjhhdhaaGreat.Ev

theorem IsR.g {h0 h : Heap} {W : List Nat} {V : Ob} {l : List Im} {w : AV} {Lw : Ob} {n : Nat} (k : IsR 114 7 n (enF imC l) w Lw) (hn : l.length = n) (hh : Vw h0 W V h) (hm : ∀ x ∈ Lw, x ∈ V) : ImG h w l := by
  subst hn
  rcases k.rowN with ⟨rfl, rfl, h1, h2⟩ | ⟨j, rfl, rfl, h1⟩
  · have : l = [] := List.length_eq_zero_iff.1 h1
    subst this
    exact ⟨.nil, fun q hq => by simp at hq⟩
  · have ho := hh.own _ (hm _ (List.mem_cons_self ..))
    refine ⟨?_, fun q hq => ⟨.slice j 0 q (.m 0), ?_, fun h2 V2 hh2 => ?_⟩⟩
    · rcases Nat.eq_zero_or_pos l.length with h0 | h0
      · have : l = [] := List.length_eq_zero_iff.1 h0
        subst this
        refine .emp j 0 (.m 0) ho.2 ?_
        unfold Heap.loadN
        rw [ho.1]
        rfl
      · exact .some j 0 (.m 0) l h0 (eh_row hh (hm _ (List.mem_cons_self ..)))
    · exact (eh_row hh (hm _ (List.mem_cons_self ..))).takV (by omega)
    · exact slice_toK (qs := l) ((hh2.old j ho.2 (by simp)).trans ho.1) (by omega)
end Go.Proofs.YtkebbdpfjhhdhaaGreat
