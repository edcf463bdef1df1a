/- Windows, Minutes, Next of the program. -/
import Derived.Test.YtekpffjcffeanaaXa
namespace Go.Proofs.Ytekpffjcffeanaa
open Go.Proofs.Ytekpffjcffeanaa.Ev

set_option maxRecDepth 100000 in
set_option maxHeartbeats 8000000 in
theorem windowsP_con (h : Heap) (g : Gd h) (lv lo hi height : Int) (cv sv : AV) (cl : List Cw) (ss : List Sh) (hc : CyV h cv cl) (hs : ShV h sv ss) :
    ∃ v L, Con Try.prog Bs 22 [.agg [.int .i64 lv, cv, sv], .agg [.int .i64 lo, .int .i64 hi], .int .i64 height] h [] v L ∧ ∃ u, v = .tup [u, .int .i64 (minR lv (cys cl) ss lo hi)] ∧ IsL 37 2 (winR lv (cys cl) ss lo hi height).length (wdF (winR lv (cys cl) ss lo hi height)) u L := by
  refine Con.pick (Con.startR rfl Try.func22 rfl rfl Try.ntmps22 rfl rfl (SS.init g) ?_)
  (refine WK.seq ?_; refine WK.region ?_; refine St.box fun _ _ => ?_; refine St.box fun _ _ => ?_; refine St.assign ?_; refine St.assign ?_; refine WO.nil ?_; refine WK.seq ?_; refine WK.seq ?_; refine WK.region ?_; refine St.load ?_; refine St.load ?_)
  rename_i p3 hp3 p4 hp4
  refine St.call (fun _ => rfl) (fun h2 hh => checkMinutes_con h2 hh.gd lv lo hi cv sv cl ss (hc.vw hh) (hs.vw hh)) ?_
  (refine St.assign ?_; refine WO.nil ?_; refine WK.seq ?_; refine WK.region ?_; refine St.move ?_; refine St.bin ?_; refine WO.nil ?_)
  refine St.splitC (fun h1 => ?_) (fun h1 => ?_)
  · (refine WK.seq ?_; refine WK.region ?_; refine St.move ?_; refine St.assign ?_; refine St.assign ?_; refine WO.nil ?_)
    refine St.ret (by first | exact .tmp .nil | exact .cell .nil | exact .cell (.tmp .nil) | exact .tmp (.tmp .nil) | exact .cell (.cell .nil) | exact .tmp (.cell .nil) | exact .nil | exact .tmp (.cell (.tmp .nil)) | exact .cell (.tmp (.tmp .nil)) | exact .cell (.cell (.tmp .nil)) | exact .tmp (.tmp (.tmp .nil)) | exact .cell (.cell (.cell .nil))) ?_
    rw [winR_no (by simpa using h1)]
    exact ⟨[], _, List.Perm.refl _, _, rfl, .nil rfl rfl⟩
  have e1 : minR lv (cys cl) ss lo hi = 0 := by simpa using h1
  have m := minR_ok e1
  rw [winR_ok e1]
  (refine WK.skip ?_; refine WK.seq ?_; refine WK.region ?_; refine St.load ?_; refine St.load ?_; refine St.move ?_)
  refine St.callR (fun _ => rfl) (fun h2 hh => windows_con h2 hh.gd lv lo hi height cv sv cl ss (hc.vw hh) (hs.vw hh) m) ?_
  intro v L' hv
  (refine St.assign ?_; refine St.assign ?_; refine WO.nil ?_)
  refine St.ret (by first | exact .tmp .nil | exact .cell .nil | exact .cell (.tmp .nil) | exact .tmp (.tmp .nil) | exact .cell (.cell .nil) | exact .tmp (.cell .nil) | exact .nil | exact .tmp (.cell (.tmp .nil)) | exact .cell (.tmp (.tmp .nil)) | exact .cell (.cell (.tmp .nil)) | exact .tmp (.tmp (.tmp .nil)) | exact .cell (.cell (.cell .nil))) ?_
  rw [e1]
  exact ⟨L', _, List.Perm.refl _, v, rfl, hv⟩
/-- what is known of windows when they are counted -/
structure WdOk (l : List Wd) : Prop where
  len : l.length ≤ 10080
  one : ∀ i, i < l.length → 0 ≤ (nthE l i).lo ∧ (nthE l i).lo ≤ (nthE l i).hi ∧ (nthE l i).hi ≤ 1048576 ∧ (nthE l i).hi - (nthE l i).lo < 10080
theorem winR_wd {lv : Int} {cs : List Cy} {ss : List Sh} {lo hi height : Int} : WdOk (winR lv cs ss lo hi height) := by
  refine ⟨winR_len, ?_⟩
  by_cases h : minR lv cs ss lo hi = 0
  · have m := minR_ok h
    have m1 := m.l1
    have m2 := m.le
    have m3 := m.h2
    have m4 := m.n
    rw [winR_ok h]
    intro i hil
    obtain ⟨a, b, c, _⟩ := (win_ok (p := hiP (hgt lv cs ss lo) height) (lo := lo) (hi - lo + 1).toNat).one i hil
    omega
  · rw [winR_no h]
    intro i hi
    simp at hi
def sumW (l : List Wd) (k : Nat) : Int := (l.take k).foldl (fun n s => n + (s.hi - s.lo + 1)) 0
theorem sumW_succ {l : List Wd} {k : Nat} (h : k < l.length) : sumW l (k + 1) = sumW l k + ((nthE l k).hi - (nthE l k).lo + 1) := by
  unfold sumW
  rw [List.take_succ_eq_append_getElem h, List.foldl_append, nthE_eq h]
  rfl
theorem sumW_bd {l : List Wd} (k : WdOk l) : ∀ i, i ≤ l.length → 0 ≤ sumW l i ∧ sumW l i ≤ 10080 * (i : Int)
  | 0, _ => by simp [sumW]
  | i + 1, hi => by
    obtain ⟨h1, h2⟩ := sumW_bd k i (by omega)
    have := k.one i (by omega)
    rw [sumW_succ (by omega)]
    omega
set_option maxRecDepth 100000 in
set_option maxHeartbeats 16000000 in
theorem minutes_con (h : Heap) (g : Gd h) (lv lo hi height : Int) (cv sv : AV) (cl : List Cw) (ss : List Sh) (hc : CyV h cv cl) (hs : ShV h sv ss) :
    Con Try.prog Bs 24 [.agg [.int .i64 lv, cv, sv], .agg [.int .i64 lo, .int .i64 hi], .int .i64 height] h [] (.tup [.int .i64 (sumW (winR lv (cys cl) ss lo hi height) (winR lv (cys cl) ss lo hi height).length), .int .i64 (minR lv (cys cl) ss lo hi)]) [] := by
  have hwd := winR_wd (lv := lv) (cs := cys cl) (ss := ss) (lo := lo) (hi := hi) (height := height)
  refine Con.start rfl Try.func24 rfl rfl Try.ntmps24 rfl rfl g ?_
  (refine WK.seq ?_; refine WK.region ?_; refine St.box fun _ _ => ?_; refine St.box fun _ _ => ?_; refine St.assign ?_; refine St.assign ?_; refine WO.nil ?_; refine WK.seq ?_; refine WK.seq ?_; refine WK.region ?_; refine St.load ?_; refine St.load ?_)
  rename_i p3 hp3 p4 hp4
  refine St.call (fun _ => rfl) (fun h2 hh => checkMinutes_con h2 hh.gd lv lo hi cv sv cl ss (hc.vw hh) (hs.vw hh)) ?_
  (refine St.assign ?_; refine WO.nil ?_; refine WK.seq ?_; refine WK.region ?_; refine St.move ?_; refine St.bin ?_; refine WO.nil ?_)
  refine St.splitC (fun h1 => ?_) (fun h1 => ?_)
  · (refine WK.seq ?_; refine WK.region ?_; refine St.move ?_; refine St.assign ?_; refine St.assign ?_; refine WO.nil ?_)
    refine St.ret (by first | exact .tmp .nil | exact .cell .nil | exact .cell (.tmp .nil) | exact .tmp (.tmp .nil) | exact .cell (.cell .nil) | exact .tmp (.cell .nil) | exact .nil | exact .tmp (.cell (.tmp .nil)) | exact .cell (.tmp (.tmp .nil)) | exact .cell (.cell (.tmp .nil)) | exact .tmp (.tmp (.tmp .nil)) | exact .cell (.cell (.cell .nil))) ?_
    rw [winR_no (by simpa using h1)]
    rfl
  have e1 : minR lv (cys cl) ss lo hi = 0 := by simpa using h1
  have m := minR_ok e1
  rw [e1]
  rw [winR_ok e1] at hwd ⊢
  (refine WK.skip ?_; refine WK.seq ?_; refine WK.region ?_; refine St.assign ?_; refine WO.nil ?_; refine WK.seq ?_; refine WK.seq ?_; refine WK.region ?_; refine St.load ?_; refine St.load ?_; refine St.move ?_)
  refine St.callR (fun _ => rfl) (fun h2 hh => windows_con h2 hh.gd lv lo hi height cv sv cl ss (hc.vw hh) (hs.vw hh) m) ?_
  intro v L' hv
  generalize winK (hiP (hgt lv (cys cl) ss lo) height) lo (hi - lo + 1).toNat = l at *
  refine St.lenV rfl (isl_len hv Try.underlying40) ?_
  (refine St.move ?_; refine WO.nil ?_; refine WK.block ?_)
  refine WK.inv (ι := Nat) (fun k => [(6, .int .i64 0), (7, .int .i64 0), (9, .int .i64 (sumW l k)), (21, v), (22, .int .i64 l.length), (23, .int .i64 k)]) (fun _ => L') (fun k => k ≤ l.length) (fun k => l.length - k) 0 (Nat.zero_le _) ⟨rfl, rfl, rfl, rfl, rfl, rfl, trivial⟩ (List.sublist_append_left _ _) ?_
  intro k hkl ih
  obtain ⟨s1, s2⟩ := sumW_bd hwd k hkl
  have hwl := hwd.len
  (refine WK.seq ?_; refine WK.region ?_; refine St.bin ?_; refine WO.nil ?_; refine WK.seq ?_)
  refine St.splitC (fun hcc => ?_) (fun hcc => ?_)
  · have hlt : k < l.length := by simp at hcc; omega
    have hst := sumW_succ hlt
    obtain ⟨a1, a2, a3, a4⟩ := hwd.one k hlt
    obtain ⟨js, c, o, rfl, rfl, ho, hl⟩ := hv.ne (by omega)
    (refine WK.skip ?_; refine WK.seq ?_; refine WK.block ?_; refine WK.seq ?_; refine WK.region ?_)
    refine St.at ?_
    refine St.loadX (fun h2 hh => ((has_wdh hh (j := js) (o := o) (by simp) ho).at_ (z := (k : Int)) (n := k) (by omega) hlt).agg (by simp) rfl rfl rfl) ?_
    (refine St.alloc fun _ _ => ?_; refine St.store0 ?_; refine WO.nil ?_; refine WK.region ?_; refine St.move ?_; refine St.load ?_)
    refine St.call (fun _ => rfl) (fun h2 hh => count_con h2 hh.gd _ _ (by omega) (by omega) (by omega) (by omega)) ?_
    (refine St.binI ?_; refine St.assign ?_; refine WO.nil ?_; refine WK.blk ?_; refine WK.region ?_; refine St.binI ?_; refine St.move ?_; refine WO.nil ?_)
    refine WK.le ?_ (by (repeat (first | exact List.Sublist.refl _ | exact List.nil_sublist _ | apply List.Sublist.cons_cons | apply List.Sublist.cons))) (ih (k + 1) hlt (by omega))
    exact ⟨rfl, rfl, congrArg (fun z => some (AV.int .i64 z)) (by rw [hst]), rfl, rfl, rfl, trivial⟩
  · have : k = l.length := by simp at hcc; omega
    subst this
    (refine WK.exit ?_; refine WK.seq ?_; refine WK.region ?_; refine St.move ?_; refine St.assign ?_; refine St.assign ?_; refine WO.nil ?_)
    refine St.ret (by first | exact .tmp .nil | exact .cell .nil | exact .cell (.tmp .nil) | exact .tmp (.tmp .nil) | exact .cell (.cell .nil) | exact .tmp (.cell .nil) | exact .nil | exact .tmp (.cell (.tmp .nil)) | exact .cell (.tmp (.tmp .nil)) | exact .cell (.cell (.tmp .nil)) | exact .tmp (.tmp (.tmp .nil)) | exact .cell (.cell (.cell .nil))) ?_
    rfl
/-- the first window that is long enough -/
def nextR (lv : Int) (cs : List Cy) (ss : List Sh) (lo hi height long : Int) : Int × Int × Int :=
  if minR lv cs ss lo hi ≠ 0 then (0, 0, minR lv cs ss lo hi) else if long < 1 then (0, 0, 1) else match (winR lv cs ss lo hi height).find? (fun s => decide (long ≤ s.hi - s.lo + 1)) with
    | some s => (s.lo, s.hi, 0)
    | none => (0, 0, 5)
theorem find_drop {l : List Wd} {p : Wd → Bool} {k : Nat} (h : k < l.length) : (l.drop k).find? p = if p (nthE l k) = true then some (nthE l k) else (l.drop (k + 1)).find? p := by
  rw [List.drop_eq_getElem_cons h, List.find?_cons, nthE_eq h]
  cases p l[k] <;> rfl
set_option maxRecDepth 100000 in
set_option maxHeartbeats 16000000 in
theorem next_con (h : Heap) (g : Gd h) (lv lo hi height long : Int) (cv sv : AV) (cl : List Cw) (ss : List Sh) (hc : CyV h cv cl) (hs : ShV h sv ss) :
    ∃ r, r = nextR lv (cys cl) ss lo hi height long ∧ Con Try.prog Bs 48 [.agg [.int .i64 lv, cv, sv], .agg [.int .i64 lo, .int .i64 hi], .int .i64 height, .int .i64 long] h [] (.tup [.agg [.int .i64 r.1, .int .i64 r.2.1], .int .i64 r.2.2]) [] := by
  have hwd := winR_wd (lv := lv) (cs := cys cl) (ss := ss) (lo := lo) (hi := hi) (height := height)
  refine ⟨_, rfl, ?_⟩
  refine Con.start rfl Try.func48 rfl rfl Try.ntmps48 rfl rfl g ?_
  (refine WK.seq ?_; refine WK.region ?_; refine St.box fun _ _ => ?_; refine St.box fun _ _ => ?_; refine St.alloc fun _ _ => ?_; refine St.assign ?_; refine WO.nil ?_; refine WK.seq ?_; refine WK.seq ?_; refine WK.region ?_; refine St.load ?_; refine St.load ?_)
  rename_i p4 hp4 p5 hp5 p8 hp8
  refine St.call (fun _ => rfl) (fun h2 hh => checkMinutes_con h2 hh.gd lv lo hi cv sv cl ss (hc.vw hh) (hs.vw hh)) ?_
  (refine St.assign ?_; refine WO.nil ?_; refine WK.seq ?_; refine WK.region ?_; refine St.move ?_; refine St.bin ?_; refine WO.nil ?_)
  refine St.splitC (fun h1 => ?_) (fun h1 => ?_)
  · (refine WK.seq ?_; refine WK.region ?_; refine St.build ?_; refine St.move ?_; refine St.store0 ?_; refine St.assign ?_; refine WO.nil ?_)
    refine St.ret (by first | exact .tmp .nil | exact .cell .nil | exact .cell (.tmp .nil) | exact .tmp (.tmp .nil) | exact .cell (.cell .nil) | exact .tmp (.cell .nil) | exact .nil | exact .tmp (.cell (.tmp .nil)) | exact .cell (.tmp (.tmp .nil)) | exact .cell (.cell (.tmp .nil)) | exact .tmp (.tmp (.tmp .nil)) | exact .cell (.cell (.cell .nil))) ?_
    unfold nextR
    rw [if_pos (by simpa using h1)]
    rfl
  have e1 : minR lv (cys cl) ss lo hi = 0 := by simpa using h1
  have m := minR_ok e1
  (refine WK.skip ?_; refine WK.seq ?_; refine WK.seq ?_; refine WK.region ?_; refine St.move ?_; refine St.bin ?_; refine WO.nil ?_)
  refine St.splitC (fun h2 => ?_) (fun h2 => ?_)
  · (refine WK.seq ?_; refine WK.region ?_; refine St.build ?_; refine St.store0 ?_; refine St.assign ?_; refine WO.nil ?_)
    refine St.ret (by first | exact .tmp .nil | exact .cell .nil | exact .cell (.tmp .nil) | exact .tmp (.tmp .nil) | exact .cell (.cell .nil) | exact .tmp (.cell .nil) | exact .nil | exact .tmp (.cell (.tmp .nil)) | exact .cell (.tmp (.tmp .nil)) | exact .cell (.cell (.tmp .nil)) | exact .tmp (.tmp (.tmp .nil)) | exact .cell (.cell (.cell .nil))) ?_
    unfold nextR
    rw [if_neg (by simp [e1]), if_pos (by simpa using h2)]
    rfl
  have es : nextR lv (cys cl) ss lo hi height long = match (winR lv (cys cl) ss lo hi height).find? (fun s => decide (long ≤ s.hi - s.lo + 1)) with | some s => (s.lo, s.hi, 0) | none => (0, 0, 5) := by
    unfold nextR
    rw [if_neg (by simp [e1]), if_neg (by simpa using h2)]
  rw [es]
  clear es
  rw [winR_ok e1] at hwd ⊢
  (refine WK.skip ?_; refine WK.seq ?_; refine WK.seq ?_; refine WK.region ?_; refine St.load ?_; refine St.load ?_; refine St.move ?_)
  refine St.callR (fun _ => rfl) (fun h2 hh => windows_con h2 hh.gd lv lo hi height cv sv cl ss (hc.vw hh) (hs.vw hh) m) ?_
  intro v L' hv
  generalize winK (hiP (hgt lv (cys cl) ss lo) height) lo (hi - lo + 1).toNat = l at *
  have hwl := hwd.len
  refine St.lenV rfl (isl_len hv Try.underlying40) ?_
  (refine St.move ?_; refine WO.nil ?_; refine WK.block ?_)
  refine WK.perm (L' := (p8, .cells [.int .i64 0, .int .i64 0] 37) :: (L' ++ [(p5, .cells [.int .i64 lo, .int .i64 hi] 37), (p4, .cells [.int .i64 lv, cv, sv] 25)])) (by (refine perm_cnt fun _ _ => ?_; simp only [List.append_eq, List.cons_append, List.nil_append, List.count_append, List.count_cons, List.count_nil, Nat.add_zero, Nat.zero_add]; try ac_rfl)) ?_
  refine WK.inv (ι := Nat) (fun k => [(3, .int .i64 long), (8, .ptr p8 0), (9, .int .i64 0), (26, v), (27, .int .i64 l.length), (28, .int .i64 k)]) (fun _ => (p8, .cells [.int .i64 0, .int .i64 0] 37) :: L') (fun k => k ≤ l.length ∧ l.find? (fun s => decide (long ≤ s.hi - s.lo + 1)) = (l.drop k).find? (fun s => decide (long ≤ s.hi - s.lo + 1))) (fun k => l.length - k) 0 ⟨Nat.zero_le _, rfl⟩ ⟨rfl, rfl, rfl, rfl, rfl, rfl, trivial⟩ (List.Sublist.cons_cons _ (List.sublist_append_left _ _)) ?_
  rintro k ⟨hkl, hfd⟩ ih
  (refine WK.seq ?_; refine WK.region ?_; refine St.bin ?_; refine WO.nil ?_; refine WK.seq ?_)
  refine St.splitC (fun hcc => ?_) (fun hcc => ?_)
  · have hlt : k < l.length := by simp at hcc; omega
    have hdr := find_drop (p := fun s => decide (long ≤ s.hi - s.lo + 1)) hlt
    obtain ⟨a1, a2, a3, a4⟩ := hwd.one k hlt
    obtain ⟨js, c, o, rfl, rfl, ho, hl⟩ := hv.ne (by omega)
    (refine WK.skip ?_; refine WK.seq ?_; refine WK.block ?_; refine WK.seq ?_; refine WK.region ?_)
    refine St.at ?_
    refine St.loadX (fun h2 hh => ((has_wdh hh (j := js) (o := o) (by simp) ho).at_ (z := (k : Int)) (n := k) (by omega) hlt).agg (by simp) rfl rfl rfl) ?_
    (refine St.alloc fun _ _ => ?_; refine St.store0 ?_; refine WO.nil ?_; refine WK.seq ?_; refine WK.region ?_; refine St.load ?_)
    refine St.call (fun _ => rfl) (fun h2 hh => count_con h2 hh.gd _ _ (by omega) (by omega) (by omega) (by omega)) ?_
    (refine St.move ?_; refine St.bin ?_; refine WO.nil ?_)
    refine St.splitC (fun h3 => ?_) (fun h3 => ?_)
    · rw [if_pos (by simpa using h3)] at hdr
      (refine WK.seq ?_; refine WK.region ?_; refine St.load ?_; refine St.store1 ?_; refine St.assign ?_; refine WO.nil ?_)
      refine St.ret (by first | exact .tmp .nil | exact .cell .nil | exact .cell (.tmp .nil) | exact .tmp (.tmp .nil) | exact .cell (.cell .nil) | exact .tmp (.cell .nil) | exact .nil | exact .tmp (.cell (.tmp .nil)) | exact .cell (.tmp (.tmp .nil)) | exact .cell (.cell (.tmp .nil)) | exact .tmp (.tmp (.tmp .nil)) | exact .cell (.cell (.cell .nil))) ?_
      rw [hfd, hdr]
      rfl
    · rw [if_neg (by simpa using h3)] at hdr
      (refine WK.skip ?_; refine WK.blk ?_; refine WK.region ?_; refine St.binI ?_; refine St.move ?_; refine WO.nil ?_)
      refine WK.le ?_ (by (repeat (first | exact List.Sublist.refl _ | exact List.nil_sublist _ | apply List.Sublist.cons_cons | apply List.Sublist.cons))) (ih (k + 1) ⟨hlt, by rw [hfd, hdr]⟩ (by omega))
      exact ⟨rfl, rfl, rfl, rfl, rfl, rfl, trivial⟩
  · have : k = l.length := by simp at hcc; omega
    subst this
    (refine WK.exit ?_; refine WK.seq ?_; refine WK.region ?_; refine St.build ?_; refine St.store0 ?_; refine St.assign ?_; refine WO.nil ?_)
    refine St.ret (by first | exact .tmp .nil | exact .cell .nil | exact .cell (.tmp .nil) | exact .tmp (.tmp .nil) | exact .cell (.cell .nil) | exact .tmp (.cell .nil) | exact .nil | exact .tmp (.cell (.tmp .nil)) | exact .cell (.tmp (.tmp .nil)) | exact .cell (.cell (.tmp .nil)) | exact .tmp (.tmp (.tmp .nil)) | exact .cell (.cell (.cell .nil))) ?_
    rw [hfd, List.drop_length]
    rfl
end Go.Proofs.Ytekpffjcffeanaa
