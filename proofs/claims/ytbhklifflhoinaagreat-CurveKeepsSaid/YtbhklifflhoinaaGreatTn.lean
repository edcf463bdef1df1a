/- Thin, both ways, over the calculator's memory. -/
import Derived.Test.YtbhklifflhoinaaGreatPt
import Derived.Test.YtbhklifflhoinaaGreatBe
namespace Go.Proofs.YtbhklifflhoinaaGreat
open Go.Proofs.YtbhklifflhoinaaGreat.Ev

/-- a list that a call has made, as a curve's knots -/
theorem IsKn.cv {l : List (Int × Int)} {v : AV} {L : Ob} (k : IsKn l v L) (hp : 0 < l.length) : IsCv l v L := by
  obtain ⟨i, c, o, rfl, rfl, ho, _⟩ := IsL.ne k hp
  exact .inr ⟨i, c, o, rfl, rfl, ho, hp⟩
def thinR (ks : List (Int × Int)) (err : Int) : List (Int × Int) × Int × Int := if chk ks err = 0 then (thinK ks, err, 0) else ([], 0, chk ks err)
theorem thinK_pos {ks : List (Int × Int)} (h : 0 < ks.length) : 0 < (thinK ks).length := by
  have : ∀ m, 0 < m → 0 < (thinTo ks m).length := by
    intro m
    induction m with
    | zero => intro h; omega
    | succ m ih =>
      intro _
      rw [thinTo_succ]
      by_cases h0 : m = 0
      · subst h0
        simp [keepK]
      · have := ih (by omega)
        rw [List.length_append]
        omega
  exact this _ h
set_option maxRecDepth 100000 in
set_option maxHeartbeats 8000000 in
theorem thinP_con (h : Heap) (g : Gd h) (kv : AV) (ks : List (Int × Int)) (err : Int) (hk : KnV h kv ks) (hl : ks.length ≤ 1000000) :
    ∃ v L, Con Tryz.prog Bs 10 [.agg [kv, .int .i64 err]] h [] v L ∧ SumOut (thinR ks err) v L := by
  by_cases h1 : chk ks err = 0
  rotate_left
  · refine Con.subR (Con.startR rfl Tryz.func10 rfl rfl Tryz.ntmps10 rfl rfl (SS.init g) ?_)
    (refine WK.seq ?_; refine WK.region ?_; refine St.box fun _ _ => ?_; refine St.alloc fun _ _ => ?_; refine St.assign ?_; refine WO.nil ?_; refine WK.seq ?_; refine WK.seq ?_; refine WK.region ?_; refine St.load ?_)
    refine St.call (fun _ => rfl) (fun h2 hh => check_con h2 hh.gd kv ks err (hk.vw hh) (by omega)) ?_
    (refine St.assign ?_; refine WO.nil ?_; refine WK.seq ?_; refine WK.region ?_; refine St.move ?_; refine St.bin ?_; refine WO.nil ?_)
    refine St.splitC (fun hc => ?_) (fun hc => ?_)
    · (refine WK.seq ?_; refine WK.region ?_; refine St.build ?_; refine St.move ?_; refine St.store0 ?_; refine St.assign ?_; refine WO.nil ?_)
      refine St.ret (by first | exact .tmp .nil | exact .cell .nil | exact .cell (.tmp .nil) | exact .tmp (.tmp .nil) | exact .cell (.cell .nil) | exact .tmp (.cell .nil) | exact .nil | exact .tmp (.cell (.tmp .nil)) | exact .cell (.tmp (.tmp .nil)) | exact .cell (.cell (.tmp .nil)) | exact .tmp (.tmp (.tmp .nil)) | exact .cell (.cell (.cell .nil))) ?_
      refine ⟨[], List.nil_sublist _, .slice0, .inl ⟨rfl, rfl, ?_⟩, ?_⟩
      · unfold thinR; rw [if_neg h1]
      · unfold thinR; rw [if_neg h1]; rfl
    · simp at hc; exact absurd hc h1
  have v := vd_of_chk h1
  obtain ⟨b, off, c, rfl, hk1⟩ := hk.ne v.ne
  have hr : thinR ks err = (thinK ks, err, 0) := by unfold thinR; rw [if_pos h1]
  rw [hr]
  refine Con.subR (Con.startR rfl Tryz.func10 rfl rfl Tryz.ntmps10 rfl rfl (SS.init g) ?_)
  (refine WK.seq ?_; refine WK.region ?_; refine St.box fun _ _ => ?_; refine St.alloc fun _ _ => ?_; refine St.assign ?_; refine WO.nil ?_; refine WK.seq ?_; refine WK.seq ?_; refine WK.region ?_; refine St.load ?_)
  refine St.call (v := .int .i64 0) (fun _ => rfl) (fun h2 hh => by
    have := check_con h2 hh.gd _ ks err (hk.vw hh) (by omega)
    rw [h1] at this
    exact this) ?_
  (refine St.assign ?_; refine WO.nil ?_; refine WK.seq ?_; refine WK.region ?_; refine St.move ?_; refine St.bin ?_; refine WO.nil ?_; refine WK.condF ?_; refine WK.skip ?_; refine WK.seq ?_; refine WK.regionD ?_; refine St.load ?_)
  refine StD.callR (fun _ => rfl) (fun h hh => bends_con h hh.gd b off c ks err v (hk1.vw hh)) (fun w1 L1 hw1 => ?_)
  have hcv := hw1.cv (thinK_pos v.pos)
  obtain ⟨i1, c1, o1, rfl, rfl, ho, _⟩ := IsL.ne hw1 (thinK_pos v.pos)
  (refine St.fieldAddr ?_; refine St.load ?_; refine St.build ?_; refine StD.store0 ?_; refine St.assign ?_; refine WO.nil1 ?_)
  refine St.ret (by first | exact .tmp .nil | exact .cell .nil | exact .cell (.tmp .nil) | exact .tmp (.tmp .nil) | exact .cell (.cell .nil) | exact .tmp (.cell .nil) | exact .nil | exact .tmp (.cell (.tmp .nil)) | exact .cell (.tmp (.tmp .nil)) | exact .cell (.cell (.tmp .nil)) | exact .tmp (.tmp (.tmp .nil)) | exact .cell (.cell (.cell .nil))) ?_
  exact ⟨[(i1, o1)], (List.nil_sublist _).cons_cons _, _, hcv, rfl⟩
set_option maxRecDepth 100000 in
set_option maxHeartbeats 8000000 in
theorem thinRef_con (h : Heap) (g : Gd h) (kv : AV) (ks : List (Int × Int)) (err : Int) (hk : KnV h kv ks) (hl : ks.length ≤ 1000000) :
    ∃ v L, Con Tryz.prog Bs 11 [.agg [kv, .int .i64 err]] h [] v L ∧ MixOut (thinR ks err) v L := by
  by_cases h1 : chk ks err = 0
  rotate_left
  · refine Con.subR (Con.startR rfl Tryz.func11 rfl rfl Tryz.ntmps11 rfl rfl (SS.init g) ?_)
    (refine WK.seq ?_; refine WK.region ?_; refine St.box fun _ _ => ?_; refine St.alloc fun _ _ => ?_; refine WO.nil ?_; refine WK.seq ?_; refine WK.region ?_; refine St.load ?_)
    refine St.call (fun _ => rfl) (fun h2 hh => rcheck_con h2 hh.gd kv ks err (hk.vw hh) (by omega)) ?_
    (refine St.assign ?_; refine WO.nil ?_; refine WK.seq ?_; refine WK.seq ?_; refine WK.region ?_; refine St.move ?_; refine St.bin ?_; refine WO.nil ?_)
    refine St.splitC (fun hc => ?_) (fun hc => ?_)
    · (refine WK.seq ?_; refine WK.region ?_; refine St.move ?_; refine St.build ?_; refine St.store0 ?_; refine WO.nil ?_)
      refine St.ret (by first | exact .tmp .nil | exact .cell .nil | exact .cell (.tmp .nil) | exact .tmp (.tmp .nil) | exact .cell (.cell .nil) | exact .tmp (.cell .nil) | exact .nil | exact .tmp (.cell (.tmp .nil)) | exact .cell (.tmp (.tmp .nil)) | exact .cell (.cell (.tmp .nil)) | exact .tmp (.tmp (.tmp .nil)) | exact .cell (.cell (.cell .nil))) ?_
      refine ⟨[], List.nil_sublist _, .slice0, .inl ⟨rfl, rfl, ?_⟩, ?_⟩
      · unfold thinR; rw [if_neg h1]
      · unfold thinR; rw [if_neg h1]; rfl
    · simp at hc; exact absurd hc h1
  have v := vd_of_chk h1
  obtain ⟨b, off, c, rfl, hk1⟩ := hk.ne v.ne
  have hr : thinR ks err = (thinK ks, err, 0) := by unfold thinR; rw [if_pos h1]
  rw [hr]
  refine Con.subR (Con.startR rfl Tryz.func11 rfl rfl Tryz.ntmps11 rfl rfl (SS.init g) ?_)
  (refine WK.seq ?_; refine WK.region ?_; refine St.box fun _ _ => ?_; refine St.alloc fun _ _ => ?_; refine WO.nil ?_; refine WK.seq ?_; refine WK.region ?_; refine St.load ?_)
  refine St.call (v := .int .i64 0) (fun _ => rfl) (fun h2 hh => by
    have := rcheck_con h2 hh.gd _ ks err (hk.vw hh) (by omega)
    rw [h1] at this
    exact this) ?_
  (refine St.assign ?_; refine WO.nil ?_; refine WK.seq ?_; refine WK.seq ?_; refine WK.region ?_; refine St.move ?_; refine St.bin ?_; refine WO.nil ?_; refine WK.condF ?_; refine WK.skip ?_; refine WK.seq ?_; refine WK.regionD ?_; refine St.fieldAddr ?_; refine St.load ?_)
  refine StD.callR (fun _ => rfl) (fun h hh => rthin_con h hh.gd b off c ks err v (hk1.vw hh)) (fun w1 L1 hw1 => ?_)
  have hcv := hw1.cv (thinK_pos v.pos)
  obtain ⟨i1, c1, o1, rfl, rfl, ho, _⟩ := IsL.ne hw1 (thinK_pos v.pos)
  (refine St.fieldAddr ?_; refine St.load ?_; refine St.build ?_; refine St.build ?_; refine StD.store0 ?_; refine WO.nil1 ?_)
  refine St.ret (by first | exact .tmp .nil | exact .cell .nil | exact .cell (.tmp .nil) | exact .tmp (.tmp .nil) | exact .cell (.cell .nil) | exact .tmp (.cell .nil) | exact .nil | exact .tmp (.cell (.tmp .nil)) | exact .cell (.tmp (.tmp .nil)) | exact .cell (.cell (.tmp .nil)) | exact .tmp (.tmp (.tmp .nil)) | exact .cell (.cell (.cell .nil))) ?_
  exact ⟨[(i1, o1)], (List.nil_sublist _).cons_cons _, _, hcv, rfl⟩
end Go.Proofs.YtbhklifflhoinaaGreat
