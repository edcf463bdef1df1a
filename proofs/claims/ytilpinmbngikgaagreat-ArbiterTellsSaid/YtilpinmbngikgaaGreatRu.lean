/- Layer 9: rulings of a tally, whatever the order of its map. -/
import Derived.Test.YtilpinmbngikgaaGreatRb
namespace Go.Proofs.YtilpinmbngikgaaGreat
open Go.Proofs.YtilpinmbngikgaaGreat.Ev

/-- what rulings returns: the rulings in order, in memory -/
def rlR (ps : List Rl3) (v : AV) (L : Ob) : Prop := (ps = [] ∧ v = .slice0) ∨ ∃ j, 0 < ps.length ∧ v = .slice j 0 ps.length (.m 0) ∧ (j, .row ((flT ps).map (AV.int .i64)) 52 3) ∈ L
/-- rulings that are gathered -/
def rV (ps : List Rl3) (v : AV) (L : Ob) : Prop := (ps = [] ∧ v = .slice0 ∧ L = []) ∨ ∃ j, 0 < ps.length ∧ v = .slice j 0 ps.length (.m 0) ∧ L = [(j, .row (enF rlC ps) 52 3)]
def rS (pc it : Nat) (v : AV) : Sl := [(3, .ptr pc 0), (5, v), (9, .ptr it 0)]
def rI (T : List Te) (c : Int) (h : Heap) (m pc it : Nat) (k : Nat) (a : AAct) (h2 : Heap) : Prop := ∃ seen v Lv, seen.Nodup ∧ (∀ i ∈ seen, i < T.length) ∧ k = T.length - seen.length ∧ seen.length ≤ T.length ∧ rV (ofT c (inOrd T seen)) v Lv ∧ Sat a 25 (rS pc it v) [] ∧ SS h [] ((it, .iter m T.length seen T.length) :: (pc, .cells [.int .i64 c] 23) :: Lv) h2
set_option maxRecDepth 100000 in
set_option maxHeartbeats 32000000 in
theorem rulings_nc (hP : Tryz.prog.follows .mixedOrders = true) (hB : SoundC Tryz.prog Bt) (T : List Te) (hT : ∀ e ∈ T, e.2 < 128) (hl : T.length ≤ 1000) (c : Int) (h : Heap) (g : Gd h) (m : Nat) (hm : h.get m = some (.map (tlE T 0) T.length)) (hmn : m < h.next) :
    ∃ fn code, enters Tryz.prog 24 = some fn ∧ fn.body = some code ∧ sizeN 2 fn.ntmps = 25 ∧ NC Tryz.prog (Ret Tryz.prog fn h [] (rlR (srtT (ofT c T)))) none code ⟨initT [.map m, .agg [.int .i64 c]] 0, 25, []⟩ h := by
  refine ⟨_, _, Ev.enters_of Tryz.func24 rfl rfl, rfl, by rw [Tryz.ntmps24]; rfl, ?_⟩
  have hs : Sat ⟨initT [.map m, .agg [.int .i64 c]] 0, 25, []⟩ 25 [(0, .map m), (1, .agg [.int .i64 c])] [] := ⟨rfl, rfl, fun t v ht => by
    show ((initT [.map m, .agg [.int .i64 c]] 0).get t).getD aundef = v
    rw [argS_get (l := [.map m, .agg [.int .i64 c]]) (i := 0) ht]; rfl⟩
  have hmv : ∀ {L : Ob} {h2 : Heap}, Vw h [] L h2 → h2.get m = some (.map (tlE T 0) T.length) := fun hh => by rw [hh.old m hmn (by simp)]; exact hm
  refine NC.seqN (NC.walk hP hB hs (SS.init g) ?_)
  (refine WK.region ?_; refine St.box fun _ _ => ?_; refine St.assign ?_; refine WO.nil ?_)
  rename_i pc hpc
  refine WK.here fun a1 h1 ha1 hh1 => ?_
  refine NC.seqN (NC.walk hP hB ha1 hh1 ?_)
  (refine WK.region ?_; refine St.assign ?_; refine WO.nil ?_)
  refine WK.here fun a2 h2 ha2 hh2 => ?_
  refine NC.seqN (NC.seqN (NC.walk hP hB ha2 hh2 ?_))
  (refine WK.region ?_; refine St.move ?_)
  refine St.rangeM (kt := 52) (vt := 75) rfl (by kernel_rfl) (fun h3 hh => ⟨_, hmv hh⟩) (fun it hit => ?_)
  (refine WO.nil ?_)
  refine WK.here fun a3 h3 ha3 hh3 => ?_
  refine NC.block (NC.loop (I := rI T c h m pc it) ?_ (m := T.length) ⟨[], .slice0, [], List.nodup_nil, (fun _ h => nomatch h), rfl, Nat.zero_le _, .inl ⟨rfl, rfl, rfl⟩, ?_, hh3⟩)
  · rintro k a4 h4 ⟨seen, v, Lv, hnd, hlt, rfl, hle, hv, ha4, hh4⟩
    have hi : h4.get it = some (.iter m T.length seen T.length) := (hh4.own (it, .iter m T.length seen T.length) (List.mem_cons_self ..)).1
    have hm4 : h4.get m = some (.map (tlE T 0) T.length) := hmv hh4.vw
    have hlo : h4.lo ≤ it := by rw [hh4.lo]; exact (hh4.own (it, .iter m T.length seen T.length) (List.mem_cons_self ..)).2.1
    refine NC.seqN (NC.next hP hB rfl (ha4.at_ 9 _ rfl) hi hm4 (fun e he => ?_) (Nat.le_refl _) hlo (by rw [ha4.size]; decide) (fun h0 a' hput => ?_) (fun e he a' g' hput hset => ?_))
    · obtain ⟨i, e', h5, rfl⟩ := tlE_mem he
      have := (List.getElem?_eq_some_iff.1 h5).1
      simp only [teE]
      omega
    · obtain ⟨a5, e1, ha5⟩ := ha4.put (d := some 10) rfl (.tup [.bool false])
      rw [hput] at e1
      cases e1
      have hall : ∀ i, i < T.length → i ∈ seen := fun i hi2 => by
        have := leftE_nil h0 (teE T[i] (0 + i)) (tlE_at (List.getElem?_eq_getElem hi2))
        simpa [teE] using this
      have hpm : (ofT c (inOrd T seen)).Perm (ofT c T) := ((inOrd_perm hnd hall hlt).filter _).map _
      refine WO.seq (T := []) (md := false) ?_ rfl a' h4 ha5 hh4
      (refine St.extract ?_; refine WO.nil ?_)
      refine WK.here fun a6 h6 ha6 hh6 => ?_
      refine NC.walk hP hB ha6 hh6 ?_
      (refine WK.seq ?_; refine WK.condF ?_)
      refine WK.leave fun a7 h7 ha7 hh7 => ?_
      refine .inr ⟨by simp, ?_⟩
      show thenN _ _ _ _ .normal a7 h7
      refine NC.seqN (NC.walk hP hB ha7 hh7 ?_)
      have hlen : (ofT c (inOrd T seen)).length ≤ 1000 := by
        rw [hpm.length_eq]
        unfold ofT
        rw [List.length_map]
        exact Nat.le_trans (List.length_filter_le _ _) hl
      rcases hv with ⟨hn, rfl, rfl⟩ | ⟨j, hn, rfl, rfl⟩
      · (refine WK.region ?_; refine St.move ?_)
        refine St.call (fun _ => rfl) (fun h8 hh => Con.nil (r := some 56) hh.gd (orB_right rfl)) ?_
        (refine WO.nil ?_)
        refine WK.here fun a8 h8 ha8 hh8 => ?_
        refine NC.walk hP hB ha8 hh8 ?_
        (refine WK.seq ?_; refine WK.region ?_; refine St.move ?_; refine St.assign ?_; refine WO.nil ?_)
        refine St.ret (by first | exact .tmp .nil | exact .cell .nil | exact .cell (.tmp .nil) | exact .tmp (.tmp .nil) | exact .cell (.cell .nil) | exact .tmp (.cell .nil) | exact .nil | exact .tmp (.cell (.tmp .nil)) | exact .cell (.tmp (.tmp .nil)) | exact .cell (.cell (.tmp .nil)) | exact .tmp (.tmp (.tmp .nil)) | exact .tmp (.tmp (.tmp (.tmp .nil))) | exact .cell (.cell (.cell .nil))) ?_
        refine .inl ⟨?_, rfl⟩
        rw [hn] at hpm
        rw [← srtT_eq hpm]
        exact srtT_nil
      · have hso := srtT_eq hpm
        (refine WK.region ?_; refine St.move ?_)
        refine St.callW (v := .tup []) (Lw := [(j, .row (enF rlC (ofT c (inOrd T seen))) 52 3)]) (Lk := [(it, .iter m T.length seen T.length), (pc, .cells [.int .i64 c] 23)]) (L' := [(j, .row ((flT (srtT (ofT c T))).map (AV.int .i64)) 52 3)]) (W' := [j]) (fun _ => rfl) (fun h8 hh => ?_) (by (repeat (first | exact List.Perm.refl _ | refine perm_at 0 rfl ?_ | refine perm_at 1 rfl ?_ | refine perm_at 2 rfl ?_ | refine perm_at 3 rfl ?_ | refine perm_at 4 rfl ?_ | refine perm_at 5 rfl ?_ | refine perm_at 6 rfl ?_ | refine perm_at 7 rfl ?_ | refine perm_at 8 rfl ?_ | refine perm_at 9 rfl ?_))) rfl ?_
        · have h9 := Con.inpz (P := Tryz.prog) (B := Bt) (h := h8) (f := 55) (g0 := 56) (z := 3) (ok := okT) (F := srtZ) (e := 52) (i := j) (n := (ofT c (inOrd T seen)).length) (zs := flT (ofT c (inOrd T seen))) (orB_left rfl) (by rw [← enF_flT]; exact (hh.sub (L' := [(j, .row (enF rlC (ofT c (inOrd T seen))) 52 3)]) (by (repeat (first | exact List.Sublist.refl _ | exact List.nil_sublist _ | apply List.Sublist.cons_cons | apply List.Sublist.cons)))).lend) (flT_len _) (by omega) hn (okT_fl _)
          rw [srtZ_fl, hso] at h9
          exact h9
        (refine WO.nil ?_)
        refine WK.here fun a8 h8 ha8 hh8 => ?_
        refine NC.walk hP hB ha8 hh8 ?_
        (refine WK.seq ?_; refine WK.region ?_; refine St.move ?_; refine St.assign ?_; refine WO.nil ?_)
        refine St.ret (by first | exact .tmp .nil | exact .cell .nil | exact .cell (.tmp .nil) | exact .tmp (.tmp .nil) | exact .cell (.cell .nil) | exact .tmp (.cell .nil) | exact .nil | exact .tmp (.cell (.tmp .nil)) | exact .cell (.tmp (.tmp .nil)) | exact .cell (.cell (.tmp .nil)) | exact .tmp (.tmp (.tmp .nil)) | exact .tmp (.tmp (.tmp (.tmp .nil))) | exact .cell (.cell (.cell .nil))) ?_
        refine .inr ⟨j, ?_, ?_, ?_⟩
        · rw [(srtT_perm _).length_eq, ← hpm.length_eq]; exact hn
        · rw [(srtT_perm _).length_eq, ← hpm.length_eq]; rfl
        · simp
    · obtain ⟨i, e', h5, hex⟩ := tlE_mem (leftE_mem he).1
      rw [Nat.zero_add] at hex
      subst hex
      have hns : i ∉ seen := by have := (leftE_mem he).2; simpa [teE] using this
      have hiT := (List.getElem?_eq_some_iff.1 h5).1
      obtain ⟨a5, e1, ha5⟩ := ha4.put (d := some 10) rfl (.tup [.bool true, (teE e' i).1, (teE e' i).2.1])
      rw [hput] at e1
      cases e1
      obtain ⟨q1, q2⟩ := (show SS h [] ([] ++ (it, .iter m T.length seen T.length) :: ((pc, .cells [.int .i64 c] 23) :: Lv)) h4 from hh4).store (o' := .iter m T.length (seen ++ [(teE e' i).2.2]) T.length)
      rw [q1] at hset
      cases hset
      rw [List.nil_append] at q2
      refine WO.seq (T := []) (md := false) ?_ rfl a' _ ha5 q2
      (refine St.extract ?_; refine WO.nil ?_)
      refine WK.here fun a6 h6 ha6 hh6 => ?_
      refine NC.walk hP hB ha6 hh6 ?_
      (refine WK.seq ?_; refine WK.condT ?_; refine WK.skip ?_; refine WK.block ?_; refine WK.seq ?_; refine WK.region ?_)
      refine St.entryM (b := i) (seen := seen) (e := teE e' i) rfl (fun h7 hh => (hh.own (it, .iter m T.length (seen ++ [i]) T.length) (List.mem_cons_self ..)).1) (fun h7 hh => hmv hh) (by have := bornE_at (c := 0) h5; rwa [Nat.zero_add] at this) ?_
      have hmem : e' ∈ T := List.mem_of_getElem? h5
      (refine St.extract ?_; refine St.extract ?_; refine St.alloc fun _ _ => ?_; refine St.store0 ?_; refine St.assign ?_; refine WO.nil ?_; refine WK.seq ?_; refine WK.region ?_; refine St.move ?_; refine St.load ?_)
      rename_i p6 hp6
      refine St.call (fun _ => rfl) (fun h7 hh => isMajority_tcon h7 hh.gd c e'.2 (hT e' hmem)) ?_
      have hnd2 : (seen ++ [i]).Nodup := by
        rw [List.nodup_append]
        refine ⟨hnd, by simp, fun a ha b hb => ?_⟩
        simp only [List.mem_singleton] at hb
        subst hb
        exact fun e => hns (e ▸ ha)
      have hlt2 : ∀ k ∈ seen ++ [i], k < T.length := fun k hk => by
        rcases List.mem_append.1 hk with h7 | h7
        · exact hlt k h7
        · simp only [List.mem_singleton] at h7; omega
      have hle2 := nodup_le hnd2 hlt2
      have hof := ofT_snoc (c := c) (seen := seen) h5
      (refine WO.nil ?_)
      refine St.splitC (fun hc => ?_) (fun hc => ?_)
      · have hb : bigT c e' = true := by unfold bigT; simpa using hc
        rw [hb, if_pos rfl] at hof
        have hfl : (ofT c (inOrd T seen)).length ≤ 1000 := by
          have h7 : (inOrd T seen).length ≤ seen.length := List.length_filterMap_le _ _
          have h8 : (ofT c (inOrd T seen)).length ≤ (inOrd T seen).length := by unfold ofT; rw [List.length_map]; exact List.length_filter_le _ _
          omega
        rcases hv with ⟨hn, rfl, rfl⟩ | ⟨j, hn, rfl, rfl⟩
        · (refine WK.region ?_; refine St.move ?_; refine St.load ?_; refine St.mkS fun _ _ => ?_)
          rename_i i2 hi2
          refine St.appNil (new := rlC e'.1) (n := 1) (sz := 3) (e := 52) (fun j hj => ?_) ⟨rfl, rfl, rfl, rfl, rfl, rfl, rfl, rfl, rfl, rfl, rfl, rfl⟩ (List.Mem.head _) rfl rfl
          (refine St.assign ?_; refine WO.nil ?_; refine WK.blk ?_)
          refine WK.le (s' := rS pc it (.slice j 0 1 (.m 0))) (L' := (j, .row (rlC e'.1) 52 3) :: (it, .iter m T.length (seen ++ [i]) T.length) :: [(pc, .cells [.int .i64 c] 23)]) ⟨rfl, rfl, rfl, trivial⟩ (by (repeat (first | exact List.Sublist.refl _ | exact List.nil_sublist _ | apply List.Sublist.cons_cons | apply List.Sublist.cons))) ?_
          refine WK.here fun a8 h8 ha8 hh8 => .inl ⟨rfl, _, ?_, seen ++ [i], .slice j 0 1 (.m 0), [(j, .row (rlC e'.1) 52 3)], hnd2, hlt2, rfl, hle2, ?_, ha8, hh8.perm (by (repeat (first | exact List.Perm.refl _ | refine perm_at 0 rfl ?_ | refine perm_at 1 rfl ?_ | refine perm_at 2 rfl ?_ | refine perm_at 3 rfl ?_ | refine perm_at 4 rfl ?_ | refine perm_at 5 rfl ?_ | refine perm_at 6 rfl ?_ | refine perm_at 7 rfl ?_ | refine perm_at 8 rfl ?_ | refine perm_at 9 rfl ?_)))⟩
          · simp only [List.length_append, List.length_singleton] at hle2 ⊢; omega
          · rw [hof, hn]
            exact .inr ⟨j, by simp, rfl, by simp [enF]⟩
        · (refine WK.region ?_; refine St.move ?_; refine St.load ?_; refine St.mkS fun _ _ => ?_)
          rename_i i2 hi2
          refine St.appR (A := [(i2, .cells (rlC e'.1) 52), (p6, .cells (rlC e'.1) 52), (it, .iter m T.length (seen ++ [i]) T.length), (pc, .cells [.int .i64 c] 23)]) (C := []) (i := j) (old := enF rlC (ofT c (inOrd T seen))) (new := rlC e'.1) (n := 1) (sz := 3) (e := 52) rfl (fun j2 hj2 => ?_) ⟨rfl, rfl, rfl, rfl, rfl, rfl, rfl, rfl, rfl, rfl, rfl, rfl⟩ (List.Mem.head _) rfl (enF_len (enc := rlC) (sz := 3) (fun _ => rfl) _) (by omega) (by omega)
          (refine St.assign ?_; refine WO.nil ?_; refine WK.blk ?_)
          refine WK.le (s' := rS pc it (.slice j2 0 ((ofT c (inOrd T seen)).length + 1) (.m 0))) (L' := (j2, .row (enF rlC (ofT c (inOrd T seen)) ++ rlC e'.1) 52 3) :: (it, .iter m T.length (seen ++ [i]) T.length) :: [(pc, .cells [.int .i64 c] 23)]) ⟨rfl, rfl, rfl, trivial⟩ (by (repeat (first | exact List.Sublist.refl _ | exact List.nil_sublist _ | apply List.Sublist.cons_cons | apply List.Sublist.cons))) ?_
          refine WK.here fun a8 h8 ha8 hh8 => .inl ⟨rfl, _, ?_, seen ++ [i], .slice j2 0 ((ofT c (inOrd T seen)).length + 1) (.m 0), [(j2, .row (enF rlC (ofT c (inOrd T seen)) ++ rlC e'.1) 52 3)], hnd2, hlt2, rfl, hle2, ?_, ha8, hh8.perm (by (repeat (first | exact List.Perm.refl _ | refine perm_at 0 rfl ?_ | refine perm_at 1 rfl ?_ | refine perm_at 2 rfl ?_ | refine perm_at 3 rfl ?_ | refine perm_at 4 rfl ?_ | refine perm_at 5 rfl ?_ | refine perm_at 6 rfl ?_ | refine perm_at 7 rfl ?_ | refine perm_at 8 rfl ?_ | refine perm_at 9 rfl ?_)))⟩
          · simp only [List.length_append, List.length_singleton] at hle2 ⊢; omega
          · rw [hof]
            exact .inr ⟨j2, by simp, by rw [List.length_append]; rfl, by rw [enF_app, enF_one]⟩
      · have hb : bigT c e' = false := by unfold bigT; simpa using hc
        rw [hb, if_neg (by simp), List.append_nil] at hof
        (refine WK.skip ?_; refine WK.blk ?_)
        refine WK.le (s' := rS pc it v) (L' := (it, .iter m T.length (seen ++ [i]) T.length) :: (pc, .cells [.int .i64 c] 23) :: Lv) ⟨rfl, rfl, rfl, trivial⟩ (by (repeat (first | exact List.Sublist.refl _ | exact List.nil_sublist _ | apply List.Sublist.cons_cons | apply List.Sublist.cons))) ?_
        refine WK.here fun a8 h8 ha8 hh8 => .inl ⟨rfl, _, ?_, seen ++ [i], v, Lv, hnd2, hlt2, rfl, hle2, ?_, ha8, hh8⟩
        · simp only [List.length_append, List.length_singleton] at hle2 ⊢; omega
        · rw [hof]; exact hv
  ·     exact ha3.sub (leS_fnd ⟨rfl, rfl, rfl, trivial⟩)
end Go.Proofs.YtilpinmbngikgaaGreat
