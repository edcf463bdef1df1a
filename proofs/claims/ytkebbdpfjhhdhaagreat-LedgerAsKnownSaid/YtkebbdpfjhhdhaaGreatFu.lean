/- Layer 8: the reference's comparisons of lists that are the same. -/
import Derived.Test.YtkebbdpfjhhdhaaGreatFo
import Derived.Test.YtkebbdpfjhhdhaaGreatFc
/- Layer 8: what accounts hold. -/
namespace Go.Proofs.YtkebbdpfjhhdhaaGreat
open Go.Proofs.YtkebbdpfjhhdhaaGreat.Ev

def inC (n : Int) : List AV := [.int .i64 n]
/-- what postings up to a day bring -/
def hldP (ps : List Po) (d : Int) : List (Int × Int) := (ps.filter fun p => decide (p.dy ≤ d)).map fun p => (p.ac, p.am)
set_option maxRecDepth 100000 in
theorem holding1_con (h : Heap) (g : Gd h) (x : Po) (p : Nat) (d : Int) (hp : Rd h p 0 (.int .i64 d)) : Con Tryz.prog Bs 136 [.agg (poC x), .ptr p 0] h [] (.bool (decide (x.dy ≤ d))) [] := by
  refine Con.start rfl Tryz.func136 rfl rfl Tryz.ntmps136 rfl rfl g ?_
  (refine WK.seq ?_; refine WK.region ?_; refine St.box fun _ _ => ?_; refine St.assign ?_; refine WO.nil ?_; refine WK.seq ?_; refine WK.region ?_; refine St.fieldAddr ?_; refine St.load ?_)
  refine St.loadX (fun h2 hh => (hh.rd (by simp) hp).one rfl) ?_
  (refine St.bin ?_; refine St.assign ?_; refine WO.nil ?_)
  refine St.ret (by first | exact .tmp .nil | exact .cell .nil | exact .cell (.tmp .nil) | exact .tmp (.tmp .nil) | exact .cell (.cell .nil) | exact .tmp (.cell .nil) | exact .nil | exact .tmp (.cell (.tmp .nil)) | exact .cell (.tmp (.tmp .nil)) | exact .cell (.cell (.tmp .nil)) | exact .tmp (.tmp (.tmp .nil)) | exact .tmp (.tmp (.tmp (.tmp .nil))) | exact .cell (.cell (.cell .nil))) ?_
  rfl
set_option maxRecDepth 100000 in
theorem holding2_con (h : Heap) (g : Gd h) (x : Po) : Con Tryz.prog Bs 138 [.agg (poC x)] h [] (.tup [.int .i64 x.ac, .int .i64 x.am]) [] := by
  refine Con.start rfl Tryz.func138 rfl rfl Tryz.ntmps138 rfl rfl g ?_
  (refine WK.seq ?_; refine WK.region ?_; refine St.box fun _ _ => ?_; refine St.assign ?_; refine St.assign ?_; refine WO.nil ?_; refine WK.seq ?_; refine WK.regionD ?_; refine St.fieldAddr ?_; refine St.load ?_; refine St.fieldAddr ?_; refine St.load ?_; refine St.assign ?_; refine St.assign ?_; refine WO.nil ?_)
  refine St.ret (by first | exact .tmp .nil | exact .cell .nil | exact .cell (.tmp .nil) | exact .tmp (.tmp .nil) | exact .cell (.cell .nil) | exact .tmp (.cell .nil) | exact .nil | exact .tmp (.cell (.tmp .nil)) | exact .cell (.tmp (.tmp .nil)) | exact .cell (.cell (.tmp .nil)) | exact .tmp (.tmp (.tmp .nil)) | exact .tmp (.tmp (.tmp (.tmp .nil))) | exact .cell (.cell (.cell .nil))) ?_
  rfl
set_option maxRecDepth 100000 in
set_option maxHeartbeats 4000000 in
theorem holding_con (h : Heap) (g : Gd h) (j : Nat) (d : Int) (vp : AV) (l : List Po) (hj : Rd h j 1 vp) (hv : PoV h vp l) (hl : l.length ≤ 1000) (hb : ∀ x ∈ l, PoOk x) : ∃ u L, Con Tryz.prog Bs 83 [.ptr j 0, .int .i64 d] h [] u L ∧ ∃ m, u = .map m ∧ L = [(m, .map (mapQ (sumQ (hldP l d)) 0) (sumQ (hldP l d)).length)] := by
  refine Con.subG (Con.startR rfl Tryz.func83 rfl rfl Tryz.ntmps83 rfl rfl (SS.init g) ?_)
  (refine WK.seq ?_; refine WK.region ?_; refine St.box fun _ _ => ?_; refine St.assign ?_; refine WO.nil ?_; refine WK.seq ?_; refine WK.region ?_; refine St.move ?_; refine St.nilP ?_; refine St.fieldAddr ?_)
  rename_i p3 hp3
  refine St.loadX (fun h2 hh => (hh.rd (by simp) hj).one rfl) ?_
  (refine St.fn ?_)
  refine St.callR (fun _ => rfl) (fun h2 hh => onlyP_con h2 hh.gd vp l 136 [.ptr p3 0] (fun x => decide (x.dy ≤ d)) (hv.vw ⟨hh.gd, hh.nx, hh.old, hh.own⟩) (by omega) (fun h3 V hh3 x _ => holding1_con h3 hh3.gd x p3 d (hh3.rd (by simp) (hh.rdG (List.Mem.head _) rfl)))) ?_
  intro u L hu
  (refine St.assign ?_; refine WO.nil ?_; refine WK.seq ?_; refine WK.region ?_; refine St.move ?_)
  refine St.callR (fun _ => rfl) (fun h2 hh => sumsP_con h2 hh.gd u (l.filter fun x => decide (x.dy ≤ d)) 138 [] (fun p => (p.ac, p.am)) (IsR.eVP hu rfl hh (fun x hx => List.mem_append_left _ hx)) (Nat.le_trans (List.length_filter_le _ _) (by omega)) (fun x hx => ?_) (fun h3 V hh3 x hx => holding2_con h3 hh3.gd x)) ?_
  · have := (hb x (List.mem_filter.1 hx).1).am
    simp only
    omega
  rintro _ _ ⟨m, rfl, rfl⟩
  (refine St.assign ?_; refine WO.nil ?_)
  refine St.ret (by first | exact .tmp .nil | exact .cell .nil | exact .cell (.tmp .nil) | exact .tmp (.tmp .nil) | exact .cell (.cell .nil) | exact .tmp (.cell .nil) | exact .nil | exact .tmp (.cell (.tmp .nil)) | exact .cell (.tmp (.tmp .nil)) | exact .cell (.cell (.tmp .nil)) | exact .tmp (.tmp (.tmp .nil)) | exact .tmp (.tmp (.tmp (.tmp .nil))) | exact .cell (.cell (.cell .nil))) ?_
  exact ⟨_, (List.nil_sublist _).cons_cons _, m, rfl, rfl⟩
theorem perm_mid {α : Type} (A : List α) (x : α) (C : List α) : (A ++ (x :: C)).Perm (x :: (A ++ C)) := List.perm_middle
/-- accounts with what they hold, by their numbers -/
def balL (q : List (Int × Int)) : List Ba := (srtI (q.map (·.1))).map fun a => ⟨a, getQ q a⟩
end Go.Proofs.YtkebbdpfjhhdhaaGreat

/- Layer 8: the reference's comparisons of lists that are the same. -/
namespace Go.Proofs.YtkebbdpfjhhdhaaGreat
open Go.Proofs.YtkebbdpfjhhdhaaGreat.Ev

instance : DecidableEq Po := fun x y => by
  cases x; cases y
  simp only [Po.mk.injEq]
  infer_instance
theorem po_ext (x y : Po) : (x = y) ↔ (x.it = y.it ∧ x.dy = y.dy ∧ x.ac = y.ac ∧ x.am = y.am) := by
  cases x; cases y; simp
theorem po_neq (x y : Po) : evBin Tryz.prog .neq 72 (.agg (poC x)) (.agg (poC y)) = some (.bool (!decide (x = y))) := by
  simp only [po_ext]
  simp [poC, evBin, evEq, guardOk, eqT, eqFs, partE, isAggT, nthN]
  by_cases h0 : x.it = y.it
  rotate_left
  · simp [h0]
  by_cases h1 : x.dy = y.dy
  rotate_left
  · simp [h0, h1]
  by_cases h2 : x.ac = y.ac
  rotate_left
  · simp [h0, h1, h2]
  by_cases h3 : x.am = y.am
  rotate_left
  · simp [h0, h1, h2, h3]
  simp [h0, h1, h2, h3]
set_option maxRecDepth 100000 in
set_option maxHeartbeats 8000000 in
theorem sameP_con (h : Heap) (g : Gd h) (v w : AV) (l : List Po) (hv : PoV h v l) (hw : PoV h w l) (hl : l.length ≤ 1000000) : Con Tryz.prog Bs 30 [v, w] h [] (.bool true) [] := by
  refine Con.start rfl Tryz.func30 rfl rfl Tryz.ntmps30 rfl rfl g ?_
  (refine WK.seq ?_; refine WK.region ?_; refine St.assign ?_; refine WO.nil ?_; refine WK.seq ?_; refine WK.seq ?_; refine WK.region ?_; refine St.move ?_)
  refine St.lenG rfl hv.llen ?_
  (refine St.move ?_)
  refine St.lenG rfl hw.llen ?_
  (refine St.bin ?_; refine WO.nil ?_)
  refine St.splitC (fun q => ?_) (fun q => ?_)
  · exact absurd q (by simp)
  (refine WK.skip ?_; refine WK.seq ?_; refine WK.seq ?_; refine WK.region ?_; refine St.assign ?_; refine WO.nil ?_; refine WK.block ?_)
  refine WK.inv (ι := Nat) (fun z => [(0, v), (1, w), (5, .int .i64 z)]) (fun _ => []) (fun z => z ≤ l.length) (fun z => l.length - z) 0 (Nat.zero_le _) ⟨rfl, rfl, rfl, trivial⟩ (by (repeat (first | exact List.Sublist.refl _ | exact List.nil_sublist _ | apply List.Sublist.cons_cons | apply List.Sublist.cons))) ?_
  intro k hkl ih
  (refine WK.seq ?_; refine WK.seq ?_; refine WK.region ?_; refine St.move ?_; refine St.move ?_)
  refine St.lenG rfl hv.llen ?_
  (refine St.bin ?_; refine WO.nil ?_)
  refine St.splitC (fun hc => ?_) (fun hc => ?_)
  · have hlt : k < l.length := by simp at hc; omega
    have hv' := hv
    have hw' := hw
    obtain ⟨b, off, cc, rfl, hk⟩ := hv'.ne (by omega)
    obtain ⟨b2, off2, cc2, rfl, hk2⟩ := hw'.ne (by omega)
    (refine WK.skip ?_; refine WK.seq ?_; refine WK.block ?_; refine WK.seq ?_; refine WK.regionD ?_; refine St.move ?_; refine St.move ?_)
    refine St.at ?_
    skip
    refine St.loadX (fun h2 hh => ((hk.vw hh).at_ (z := (k : Int)) (n := k) (by omega) hlt).agg (by simp [poC]) rfl rfl rfl) ?_
    (refine St.move ?_; refine St.move ?_)
    refine St.at ?_
    skip
    refine St.loadX (fun h2 hh => ((hk2.vw hh).at_ (z := (k : Int)) (n := k) (by omega) hlt).agg (by simp [poC]) rfl rfl rfl) ?_
    skip
    refine St.binX (r := .bool (!decide (nthE l k = nthE l k))) (po_neq _ _) rfl rfl ?_
    (refine WO.nil ?_)
    refine St.splitC (fun q2 => ?_) (fun q2 => ?_)
    · exact absurd q2 (by simp)
    (refine WK.skip ?_; refine WK.blk ?_; refine WK.region ?_; refine St.move ?_; refine St.binI ?_; refine St.assign ?_; refine WO.nil ?_)
    refine WK.le ?_ (by (repeat (first | exact List.Sublist.refl _ | exact List.nil_sublist _ | apply List.Sublist.cons_cons | apply List.Sublist.cons))) (ih (k + 1) hlt (by omega))
    exact ⟨rfl, rfl, rfl, trivial⟩
  · (refine WK.exit ?_; refine WK.seq ?_; refine WK.region ?_; refine St.assign ?_; refine WO.nil ?_)
    refine St.ret (by first | exact .tmp .nil | exact .cell .nil | exact .cell (.tmp .nil) | exact .tmp (.tmp .nil) | exact .cell (.cell .nil) | exact .tmp (.cell .nil) | exact .nil | exact .tmp (.cell (.tmp .nil)) | exact .cell (.tmp (.tmp .nil)) | exact .cell (.cell (.tmp .nil)) | exact .tmp (.tmp (.tmp .nil)) | exact .tmp (.tmp (.tmp (.tmp .nil))) | exact .cell (.cell (.cell .nil))) ?_
    rfl
end Go.Proofs.YtkebbdpfjhhdhaaGreat
