/- Layer 9: Rulings. -/
import Derived.Test.YtilpinmbngikgaaGreatTb
import Derived.Test.YtilpinmbngikgaaGreatBo
namespace Go.Proofs.YtilpinmbngikgaaGreat
open Go.Proofs.YtilpinmbngikgaaGreat.Ev

theorem frm_fr {c : Int} {l : List Le} (h : errL c l = 0) : ∀ x ∈ l, 0 ≤ x.fr ∧ x.fr < c ∧ x.fr < 7 ∧ 0 < x.rd := fun x hx => by
  obtain ⟨h1, _, h2⟩ := errL_ok h
  have h3 := h2 x hx
  have hc := crt_bd h1
  unfold frmB headB at h3
  simp only [Bool.and_eq_true] at h3
  have h4 := arB_yes h3.1.2.2.2.2.1
  have h5 := inB_yes h3.1.2.2.1
  omega
/-- the rulings of letters, in order -/
def rlsOf (c : Int) (l : List Le) : List Rl3 := srtT (ofT c (tlN l l.length))
def rlsR (c : Int) (l : List Le) (u : AV) (L : Ob) : Prop := (errL c l ≠ 0 ∧ u = .tup [.slice0, .int .i64 (errL c l)]) ∨ (errL c l = 0 ∧ ∃ w, u = .tup [w, .int .i64 0] ∧ IsR 52 3 (rlsOf c l).length (enF rlC (rlsOf c l)) w L)
set_option maxRecDepth 100000 in
set_option maxHeartbeats 16000000 in
theorem rulings_con (h : Heap) (g : Gd h) (c : Int) (v : AV) (l : List Le) (hv : LeV h v l) (hl : l.length ≤ 1000) :
    ∃ u L, Con Tryz.prog Bs 6 [.agg [.int .i64 c], v] h [] u L ∧ rlsR c l u L := by
  refine Con.subG (Con.startR rfl Tryz.func6 rfl rfl Tryz.ntmps6 rfl rfl (SS.init g) ?_)
  (refine WK.seq ?_; refine WK.region ?_; refine St.box fun _ _ => ?_; refine St.assign ?_; refine St.assign ?_; refine WO.nil ?_; refine WK.seq ?_; refine WK.seq ?_; refine WK.region ?_; refine St.load ?_; refine St.move ?_)
  rename_i p2 hp2
  refine St.call (fun _ => rfl) (fun h2 hh => checkLetters_con h2 hh.gd c v l (hv.vw hh)) ?_
  (refine St.assign ?_; refine WO.nil ?_; refine WK.seq ?_; refine WK.region ?_; refine St.move ?_; refine St.bin ?_; refine WO.nil ?_)
  refine St.splitC (fun q => ?_) (fun q => ?_)
  · have hne : errL c l ≠ 0 := by simpa using q
    (refine WK.seq ?_; refine WK.region ?_; refine St.move ?_; refine St.assign ?_; refine St.assign ?_; refine WO.nil ?_)
    refine St.ret (by first | exact .tmp .nil | exact .cell .nil | exact .cell (.tmp .nil) | exact .tmp (.tmp .nil) | exact .cell (.cell .nil) | exact .tmp (.cell .nil) | exact .nil | exact .tmp (.cell (.tmp .nil)) | exact .cell (.tmp (.tmp .nil)) | exact .cell (.cell (.tmp .nil)) | exact .tmp (.tmp (.tmp .nil)) | exact .tmp (.tmp (.tmp (.tmp .nil))) | exact .cell (.cell (.cell .nil))) ?_
    exact ⟨[], List.nil_sublist _, .inl ⟨hne, rfl⟩⟩
  · have he : errL c l = 0 := by simpa using q
    have hfr := frm_fr he
    (refine WK.skip ?_; refine WK.seq ?_; refine WK.regionD ?_; refine St.move ?_)
    refine StD.callR (R := fun u L => ∃ m, u = .map m ∧ L = [(m, .map (tlE (tlN l l.length) 0) (tlN l l.length).length)]) (fun _ => rfl) (fun h2 hh => tallyOf_con h2 hh.gd v l (hv.vw hh) (by omega) (fun x hx => by have := hfr x hx; omega)) (fun u L' hR => ?_)
    obtain ⟨m, rfl, rfl⟩ := hR
    (refine St.load ?_)
    have hTl := tlN_lt (l := l) (fun x hx => by have := hfr x hx; omega) l.length (Nat.le_refl _)
    have hTn := tlN_len (l := l) l.length
    refine StD.callRT (R := fun w L => IsR 52 3 (rlsOf c l).length (enF rlC (rlsOf c l)) w L) [(1, m, .map (tlE (tlN l l.length) 0) (tlN l l.length).length)] (fun _ => rfl) (fun x hx => by obtain rfl := List.mem_singleton.1 hx; exact ⟨List.Mem.head _, show maskAt _ _ 1 = true by decide +kernel⟩) (fun h2 hh => rul_con hh.gd c (hh.getO (List.mem_cons_self ..)) hTl (by omega)) (fun w L hw => ?_)
    (refine St.assign ?_; refine St.assign ?_)
    refine WO.nilG ?_
    skip
    refine St.ret (by first | exact .tmp .nil | exact .cell .nil | exact .cell (.tmp .nil) | exact .tmp (.tmp .nil) | exact .cell (.cell .nil) | exact .tmp (.cell .nil) | exact .nil | exact .tmp (.cell (.tmp .nil)) | exact .cell (.tmp (.tmp .nil)) | exact .cell (.cell (.tmp .nil)) | exact .tmp (.tmp (.tmp .nil)) | exact .tmp (.tmp (.tmp (.tmp .nil))) | exact .cell (.cell (.cell .nil))) ?_
    exact ⟨L, by simp [Function.comp_def], .inr ⟨he, w, rfl, hw⟩⟩
end Go.Proofs.YtilpinmbngikgaaGreat
