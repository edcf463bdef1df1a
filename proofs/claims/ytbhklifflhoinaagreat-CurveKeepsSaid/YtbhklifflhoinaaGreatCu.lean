/- Cut, the program's, over the calculator's memory. -/
import Derived.Test.YtbhklifflhoinaaGreatMg
namespace Go.Proofs.YtbhklifflhoinaaGreat
open Go.Proofs.YtbhklifflhoinaaGreat.Ev

/-- the ends of the span and the knots between -/
def corX (ks : List (Int × Int)) (lo hi : Int) : List Int := cornX lo hi [⟨none, 0, ks, 0⟩]
def cutR (ks : List (Int × Int)) (err lo hi : Int) : List (Int × Int) × Int × Int :=
  if errOn ks err lo hi ≠ 0 then ([], 0, errOn ks err lo hi) else if allK ks (corX ks lo hi) = false then ([], 0, 3) else (newK ks (corX ks lo hi), err, 0)
theorem newK_snoc {ks : List (Int × Int)} {xs : List Int} {k : Nat} (h : k < xs.length) : newK ks (xs.take (k + 1)) = newK ks (xs.take k) ++ [(xs[k], valN ks xs[k])] := by
  rw [List.take_succ_eq_append_getElem h]
  unfold newK
  rw [List.map_append]
  rfl
theorem newK_length (ks : List (Int × Int)) (xs : List Int) : (newK ks xs).length = xs.length := by simp [newK]
set_option maxRecDepth 100000 in
set_option maxHeartbeats 16000000 in
theorem cutP_con (h : Heap) (g : Gd h) (kv : AV) (ks : List (Int × Int)) (err lo hi : Int) (hk : KnV h kv ks) (hl : ks.length ≤ 1000000) :
    ∃ v L, Con Tryz.prog Bs 12 [.agg [kv, .int .i64 err], .agg [.int .i64 lo, .int .i64 hi]] h [] v L ∧ SumOut (cutR ks err lo hi) v L := by
  by_cases h1 : chk ks err = 0
  rotate_left
  · have he : errOn ks err lo hi = chk ks err := by unfold errOn; rw [if_neg h1]
    have hr : cutR ks err lo hi = ([], 0, chk ks err) := by unfold cutR; rw [he, if_pos h1]
    rw [hr]
    refine Con.subR (Con.startR rfl Tryz.func12 rfl rfl Tryz.ntmps12 rfl rfl (SS.init g) ?_)
    (refine WK.seq ?_; refine WK.region ?_; refine St.box fun _ _ => ?_; refine St.box fun _ _ => ?_; refine St.alloc fun _ _ => ?_; refine St.assign ?_; refine WO.nil ?_; refine WK.seq ?_; refine WK.seq ?_; refine WK.region ?_; refine St.load ?_)
    refine St.call (fun _ => rfl) (fun h2 hh => check_con h2 hh.gd kv ks err (hk.vw hh) (by omega)) ?_
    (refine St.assign ?_; refine WO.nil ?_; refine WK.seq ?_; refine WK.region ?_; refine St.move ?_; refine St.bin ?_; refine WO.nil ?_)
    refine St.splitC (fun hc => ?_) (fun hc => ?_)
    · (refine WK.seq ?_; refine WK.region ?_; refine St.build ?_; refine St.move ?_; refine St.store0 ?_; refine St.assign ?_; refine WO.nil ?_)
      refine St.ret (by first | exact .tmp .nil | exact .cell .nil | exact .cell (.tmp .nil) | exact .tmp (.tmp .nil) | exact .cell (.cell .nil) | exact .tmp (.cell .nil) | exact .nil | exact .tmp (.cell (.tmp .nil)) | exact .cell (.tmp (.tmp .nil)) | exact .cell (.cell (.tmp .nil)) | exact .tmp (.tmp (.tmp .nil)) | exact .cell (.cell (.cell .nil))) ?_
      exact ⟨[], List.nil_sublist _, .slice0, .inl ⟨rfl, rfl, rfl⟩, rfl⟩
    · simp at hc; exact absurd hc h1
  have v := vd_of_chk h1
  obtain ⟨b, off, c, rfl, hk1⟩ := hk.ne v.ne
  have hpos := v.pos
  have hl40 : ks.length ≤ 40 := v.le
  have he := errOn_of (lo := lo) (hi := hi) h1
  refine Con.subR (Con.startR rfl Tryz.func12 rfl rfl Tryz.ntmps12 rfl rfl (SS.init g) ?_)
  (refine WK.seq ?_; refine WK.region ?_; refine St.box fun _ _ => ?_; refine St.box fun _ _ => ?_; refine St.alloc fun _ _ => ?_; refine St.assign ?_; refine WO.nil ?_; refine WK.seq ?_; refine WK.seq ?_; refine WK.region ?_; refine St.load ?_)
  refine St.call (v := .int .i64 0) (fun _ => rfl) (fun h2 hh => by
    have := check_con h2 hh.gd _ ks err (hk.vw hh) (by omega)
    rw [h1] at this
    exact this) ?_
  (refine St.assign ?_; refine WO.nil ?_; refine WK.seq ?_; refine WK.region ?_; refine St.move ?_; refine St.bin ?_; refine WO.nil ?_; refine WK.condF ?_; refine WK.skip ?_; refine WK.seq ?_; refine WK.seq ?_; refine WK.region ?_; refine St.load ?_; refine St.load ?_; refine St.mkS fun _ _ => ?_)
  rename_i p hp r hr0 q hq i1 hi1
  refine St.call (v := .int .i64 (errOn ks err lo hi)) (fun _ => rfl) (fun h hh => by
    have := checkOn_con h hh.gd i1 0 (.k 1) [⟨.slice b off ks.length c, ks, err⟩] lo hi (by simp) (hh.cv1 (List.Mem.head _) rfl ((hk1.vw hh).v v.pos) (by omega)) (one_vd v)
    rw [he]
    exact this) ?_
  (refine St.assign ?_; refine WO.nil ?_; refine WK.seq ?_; refine WK.region ?_; refine St.move ?_; refine St.bin ?_; refine WO.nil ?_)
  refine St.splitC (fun hc => ?_) (fun hc => ?_)
  · have hc : errOn ks err lo hi ≠ 0 := by simpa using hc
    have hr : cutR ks err lo hi = ([], 0, errOn ks err lo hi) := by unfold cutR; rw [if_pos hc]
    rw [hr]
    (refine WK.seq ?_; refine WK.region ?_; refine St.build ?_; refine St.move ?_; refine St.store1 ?_; refine St.assign ?_; refine WO.nil ?_)
    refine St.ret (by first | exact .tmp .nil | exact .cell .nil | exact .cell (.tmp .nil) | exact .tmp (.tmp .nil) | exact .cell (.cell .nil) | exact .tmp (.cell .nil) | exact .nil | exact .tmp (.cell (.tmp .nil)) | exact .cell (.tmp (.tmp .nil)) | exact .cell (.cell (.tmp .nil)) | exact .tmp (.tmp (.tmp .nil)) | exact .cell (.cell (.cell .nil))) ?_
    exact ⟨[], List.nil_sublist _, .slice0, .inl ⟨rfl, rfl, rfl⟩, rfl⟩
  have hc : errOn ks err lo hi = 0 := by simpa using hc
  obtain ⟨_, hlh, hd⟩ := errOn_zero hc
  have hr : cutR ks err lo hi = if allK ks (corX ks lo hi) = false then ([], 0, 3) else (newK ks (corX ks lo hi), err, 0) := by unfold cutR; rw [if_neg (by simp [hc])]
  rw [hr]
  clear hc
  have hX : cornX lo hi ([(⟨.slice b off ks.length c, ks, err⟩ : Cv)].map Cv.c) = corX ks lo hi := cornX_ks rfl
  have hxp : 0 < (corX ks lo hi).length := cornX_pos _ _ _
  have hcl : (corX ks lo hi).length ≤ 2 + 40 * 1 := cornX_le2 (lo := lo) (hi := hi) (l := [⟨none, 0, ks, 0⟩]) (one_all (p := fun c : Cur => c.ks.length ≤ 40) hl40)
  generalize hxs : corX ks lo hi = xs at hX hxp hcl
  (refine WK.skip ?_; refine WK.seq ?_; refine WK.region ?_; refine St.assign ?_; refine WO.nil ?_; refine WK.seq ?_; refine WK.seq ?_; refine WK.region ?_; refine St.load ?_; refine St.load ?_; refine St.mkS fun _ _ => ?_)
  rename_i i2 hi2
  refine St.callR (R := fun v L => ∃ i m o, v = .slice i 0 xs.length m ∧ L = [(i, o)] ∧ o.has (xs.map (AV.int .i64))) (fun _ => rfl) (fun h hh => ?_) ?_
  · have := corners_con h hh.gd i2 0 (.k 1) [⟨.slice b off ks.length c, ks, err⟩] lo hi (by simp) (hh.cv1 (List.Mem.head _) rfl ((hk1.vw hh).v v.pos) (by omega)) (one_vd v)
    rw [hX] at this
    exact this
  rintro _ _ ⟨i, m, o, rfl, rfl, ho⟩
  (refine St.len ?_; refine St.move ?_; refine WO.nil ?_; refine WK.block ?_)
  refine WK.inv (ι := Nat × AV × Ob) (fun z => [(2, .ptr p 0), (3, .ptr r 0), (4, .ptr q 0), (8, z.2.1), (30, .slice i 0 xs.length m), (31, .int .i64 xs.length), (32, .int .i64 z.1)]) (fun z => (i, o) :: (q, .cells [.slice0, .int .i64 0] 24) :: (r, .cells [.int .i64 lo, .int .i64 hi] 27) :: (p, .cells [.slice b off ks.length c, .int .i64 err] 24) :: z.2.2) (fun z => z.1 ≤ xs.length ∧ (∀ i (hi : i < xs.length), i < z.1 → hasKn ks xs[i] = true) ∧ IsKn (newK ks (xs.take z.1)) z.2.1 z.2.2) (fun z => xs.length - z.1) (0, .slice0, []) ⟨by simp, fun i hi h => absurd h (by simp), .nil rfl rfl⟩ ⟨rfl, rfl, rfl, rfl, rfl, rfl, rfl, trivial⟩ (by (repeat (first | exact List.Sublist.refl _ | exact List.nil_sublist _ | apply List.Sublist.cons_cons | apply List.Sublist.cons))) ?_
  rintro ⟨k, w, Lw⟩ ⟨hkl, hall, hw⟩ ih
  simp only at hkl hall hw ih ⊢
  (refine WK.seq ?_; refine WK.region ?_; refine St.bin ?_; refine WO.nil ?_; refine WK.seq ?_)
  refine St.splitC (fun hc => ?_) (fun hc => ?_)
  · have hlt : k < xs.length := by simp at hc; omega
    (refine WK.skip ?_; refine WK.seq ?_; refine WK.block ?_; refine WK.seq ?_; refine WK.region ?_)
    refine St.at ?_
    skip
    refine St.loadX (v := .int .i64 (xs[k]'hlt)) (fun h hh => by
      have := (hh.ins (j := i) (o := o) (by simp) ho).at_ (z := (k : Int)) (n := k) (by omega) hlt
      rw [show xs[k]?.getD 0 = xs[k]'hlt by simp [hlt]] at this
      exact this.one rfl) ?_
    (refine St.assign ?_; refine WO.nil ?_; refine WK.seq ?_; refine WK.region ?_; refine St.load ?_; refine St.move ?_)
    by_cases hn : hasKn ks (xs[k]'hlt) = true
    rotate_left
    · have hn : hasKn ks (xs[k]'hlt) = false := by simpa using hn
      have hno := allK_no hlt hn
      refine St.call (v := .tup [.agg [.int .i64 0, .int .i64 0], .bool false]) (fun _ => rfl) (fun h hh => by
        have := knotAt_con h hh.gd b off c ks err (xs[k]'hlt) v (hk1.vw hh)
        rw [hn] at this
        exact this) ?_
      (refine St.move ?_; refine St.extract ?_; refine St.extract ?_; refine St.alloc fun _ _ => ?_; refine St.store0 ?_; refine St.assign ?_; refine WO.nil ?_; refine WK.seq ?_; refine WK.seq ?_; refine WK.region ?_; refine St.move ?_; refine St.un ?_; refine WO.nil ?_; refine WK.condT ?_; refine WK.seq ?_; refine WK.region ?_; refine St.build ?_; refine St.store2 ?_; refine St.assign ?_; refine WO.nil ?_)
      refine St.ret (by first | exact .tmp .nil | exact .cell .nil | exact .cell (.tmp .nil) | exact .tmp (.tmp .nil) | exact .cell (.cell .nil) | exact .tmp (.cell .nil) | exact .nil | exact .tmp (.cell (.tmp .nil)) | exact .cell (.tmp (.tmp .nil)) | exact .cell (.cell (.tmp .nil)) | exact .tmp (.tmp (.tmp .nil)) | exact .cell (.cell (.cell .nil))) ?_
      rw [if_pos hno]
      exact ⟨[], List.nil_sublist _, .slice0, .inl ⟨rfl, rfl, rfl⟩, rfl⟩
    refine St.call (v := .tup [.agg [.int .i64 (xs[k]'hlt), .int .i64 (valN ks (xs[k]'hlt))], .bool true]) (fun _ => rfl) (fun h hh => by
      have := knotAt_con h hh.gd b off c ks err (xs[k]'hlt) v (hk1.vw hh)
      rw [hn] at this
      exact this) ?_
    (refine St.move ?_; refine St.extract ?_; refine St.extract ?_; refine St.alloc fun _ _ => ?_; refine St.store0 ?_; refine St.assign ?_; refine WO.nil ?_; refine WK.seq ?_; refine WK.seq ?_; refine WK.region ?_; refine St.move ?_; refine St.un ?_; refine WO.nil ?_; refine WK.condF ?_; refine WK.skip ?_; refine WK.region ?_; refine St.move ?_; refine St.load ?_; refine St.mkS fun _ _ => ?_)
    rename_i u hu i3 hi3
    refine St.appL (len := (newK ks (xs.take k)).length) (old := flatA (newK ks (xs.take k))) (new := [.int .i64 (xs[k]'hlt), .int .i64 (valN ks (xs[k]'hlt))]) (Lk := [(i3, .cells [.int .i64 (xs[k]'hlt), .int .i64 (valN ks (xs[k]'hlt))] 81), (u, .cells [.int .i64 (xs[k]'hlt), .int .i64 (valN ks (xs[k]'hlt))] 81), (i, o), (q, .cells [.slice0, .int .i64 0] 24), (r, .cells [.int .i64 lo, .int .i64 hi] 27), (p, .cells [.slice b off ks.length c, .int .i64 err] 24)]) hw List.perm_append_comm (fun w2 L2 hw2 => ?_) ⟨rfl, rfl, rfl, rfl, rfl, rfl, rfl, rfl, rfl, rfl, rfl, rfl⟩ (List.Mem.head _) rfl (by omega) (by rw [newK_length, List.length_take]; omega)
    refine WO.permF (L' := [(i3, .cells [.int .i64 (xs[k]'hlt), .int .i64 (valN ks (xs[k]'hlt))] 81), (u, .cells [.int .i64 (xs[k]'hlt), .int .i64 (valN ks (xs[k]'hlt))] 81), (i, o), (q, .cells [.slice0, .int .i64 0] 24), (r, .cells [.int .i64 lo, .int .i64 hi] 27), (p, .cells [.slice b off ks.length c, .int .i64 err] 24)] ++ L2) List.perm_append_comm ?_
    have hw3 : IsKn (newK ks (xs.take (k + 1))) w2 L2 := by
      rw [newK_snoc hlt]
      unfold IsKn
      rw [flatA_snoc, List.length_append]
      exact hw2
    (refine St.assign ?_; refine WO.nil ?_; refine WK.blk ?_; refine WK.region ?_; refine St.binI ?_; refine St.move ?_; refine WO.nil ?_)
    refine WK.le ?_ (by (repeat (first | exact List.Sublist.refl _ | exact List.nil_sublist _ | apply List.Sublist.cons_cons | apply List.Sublist.cons))) (ih (k + 1, w2, L2) ⟨hlt, fun i hi h2 => ?_, hw3⟩ (by simp only; omega))
    · exact ⟨rfl, rfl, rfl, rfl, rfl, rfl, rfl, trivial⟩
    · rcases Nat.lt_succ_iff_lt_or_eq.1 h2 with h3 | rfl
      · exact hall i hi h3
      · exact hn
  · have hk' : k = xs.length := by simp at hc; omega
    subst hk'
    rw [List.take_length] at hw
    clear ih
    have hyes : allK ks xs = true := List.all_eq_true.2 fun y hy => by
      obtain ⟨i, hi, rfl⟩ := List.getElem_of_mem hy
      exact hall i hi hi
    rw [if_neg (by simp [hyes])]
    have hnp : 0 < (newK ks xs).length := by rw [newK_length]; exact hxp
    have hcv := hw.cv hnp
    obtain ⟨i4, c4, o4, rfl, rfl, ho4, _⟩ := IsL.ne hw hnp
    (refine WK.exit ?_; refine WK.seq ?_; refine WK.region ?_; refine St.move ?_; refine St.fieldAddr ?_; refine St.load ?_; refine St.build ?_; refine St.store1 ?_; refine St.assign ?_; refine WO.nil ?_)
    refine St.ret (by first | exact .tmp .nil | exact .cell .nil | exact .cell (.tmp .nil) | exact .tmp (.tmp .nil) | exact .cell (.cell .nil) | exact .tmp (.cell .nil) | exact .nil | exact .tmp (.cell (.tmp .nil)) | exact .cell (.tmp (.tmp .nil)) | exact .cell (.cell (.tmp .nil)) | exact .tmp (.tmp (.tmp .nil)) | exact .cell (.cell (.cell .nil))) ?_
    exact ⟨[(i4, o4)], by (repeat (first | exact List.Sublist.refl _ | exact List.nil_sublist _ | apply List.Sublist.cons_cons | apply List.Sublist.cons)), _, hcv, rfl⟩
end Go.Proofs.YtbhklifflhoinaaGreat
