/- Cut, the reference's, over the calculator's memory. -/
import Derived.Test.YtcaemeedmnpdjaaGreatCu
namespace Go.Proofs.YtcaemeedmnpdjaaGreat
open Go.Proofs.YtcaemeedmnpdjaaGreat.Ev

/-- the knots of a span -/
def inK (ks : List (Int × Int)) (lo hi : Int) : List (Int × Int) := ks.filter fun p => decide (lo ≤ p.1) && decide (p.1 ≤ hi)
theorem inK_take {ks : List (Int × Int)} {lo hi : Int} {k : Nat} (h : k < ks.length) : inK (ks.take (k + 1)) lo hi = inK (ks.take k) lo hi ++ if (decide (lo ≤ kx ks k) && decide (kx ks k ≤ hi)) = true then [(kx ks k, ky ks k)] else [] := by
  unfold inK
  rw [List.take_succ_eq_append_getElem h, List.filter_append, kx_eq h, ky_eq h]
  congr 1
  rw [List.filter_cons]
  split <;> simp
theorem inK_len (ks : List (Int × Int)) (lo hi : Int) : (inK ks lo hi).length ≤ ks.length := List.length_filter_le _ _
theorem allK_cor {ks : List (Int × Int)} {err lo hi : Int} (v : Vd ks err) (hd : inDom ks lo hi = true) (hlh : lo ≤ hi) : allK ks (corX ks lo hi) = (hasKn ks lo && hasKn ks hi) := by
  have inner : ∀ i (h : i < ks.length), lo < ks[i].1 → ks[i].1 < hi → hasKn ks ks[i].1 = true := fun i h h1 h2 => by
    have e := (own_val v h).2
    rw [kx_eq h] at e
    unfold hasKn
    rw [inDom_at hd (by omega) (by omega), e]
    rfl
  rw [Bool.eq_iff_iff]
  unfold allK
  rw [List.all_eq_true, Bool.and_eq_true]
  constructor
  · intro h
    exact ⟨h lo (cornX_iff.2 (.inl rfl)), h hi (cornX_iff.2 (.inr (.inl rfl)))⟩
  · rintro ⟨h1, h2⟩ x hx
    rcases cornX_iff.1 hx with rfl | rfl | ⟨c, hc, p, hp, h3, h4, rfl⟩
    · exact h1
    · exact h2
    · rw [List.mem_singleton.1 hc] at hp
      obtain ⟨i, hi, rfl⟩ := List.getElem_of_mem hp
      exact inner i hi h3 h4
/-- the knots of the span and its ends -/
theorem cut_eq {ks q1 q2 : List (Int × Int)} {err lo hi : Int} (v : Vd ks err) (hlh : lo ≤ hi) (k1 : PutIs (inK ks lo hi) lo (valN ks lo) q1) (k2 : PutIs q1 hi (valN ks hi) q2) : q2 = newK ks (corX ks lo hi) := by
  have hsub : List.Sublist (inK ks lo hi) ks := List.filter_sublist
  have hf0 : Fun (valN ks) (inK ks lo hi) := fun p hp => own_fun v p (hsub.subset hp)
  obtain ⟨a1, a2, _⟩ := put_asc ((vd_asc v).sublist hsub) hf0 rfl k1
  have hf1 : Fun (valN ks) q1 := fun p hp => by
    rcases (a2 p).1 hp with h | rfl
    · exact hf0 p h
    · rfl
  obtain ⟨b1, b2, _⟩ := put_asc a1 hf1 rfl k2
  have hs : Asc (newK ks (corX ks lo hi)) := by
    unfold newK Asc
    rw [List.pairwise_map]
    exact cornX_sorted _ _ _
  refine asc_unique b1 hs fun p => ?_
  rw [b2, a2]
  constructor
  · rintro ((h | rfl) | rfl)
    · obtain ⟨h1, h2⟩ := List.mem_filter.1 h
      simp only [Bool.and_eq_true, decide_eq_true_eq] at h2
      refine List.mem_map.2 ⟨p.1, cornX_iff.2 ?_, Prod.ext rfl (own_fun v p h1).symm⟩
      by_cases e1 : p.1 = lo
      · exact .inl e1
      by_cases e2 : p.1 = hi
      · exact .inr (.inl e2)
      exact .inr (.inr ⟨_, List.mem_singleton.2 rfl, p, h1, by omega, by omega, rfl⟩)
    · exact List.mem_map.2 ⟨lo, cornX_iff.2 (.inl rfl), rfl⟩
    · exact List.mem_map.2 ⟨hi, cornX_iff.2 (.inr (.inl rfl)), rfl⟩
  · intro h
    obtain ⟨x, hx, rfl⟩ := List.mem_map.1 h
    rcases cornX_iff.1 hx with rfl | rfl | ⟨c, hc, p, hp, h3, h4, rfl⟩
    · exact .inl (.inr rfl)
    · exact .inr rfl
    · rw [List.mem_singleton.1 hc] at hp
      refine .inl (.inl (List.mem_filter.2 ⟨?_, by simp only [Bool.and_eq_true, decide_eq_true_eq]; omega⟩))
      rw [← own_fun v p hp]
      exact hp
set_option maxRecDepth 100000 in
set_option maxHeartbeats 16000000 in
theorem cutRef_con (h : Heap) (g : Gd h) (kv : AV) (ks : List (Int × Int)) (err lo hi : Int) (hk : KnV h kv ks) (hl : ks.length ≤ 1000000) :
    ∃ v L, Con Tryz.prog Bs 13 [.agg [kv, .int .i64 err], .agg [.int .i64 lo, .int .i64 hi]] h [] v L ∧ MixOut (cutR ks err lo hi) v L := by
  have hR : ∀ (h2 : Heap) {V : Ob} (i1 : Nat) (l : List AV) (t : TypeId), Vw h [] V h2 → (i1, AObj.cells l t) ∈ V → l = [kv, .int .i64 err] → Con Tryz.prog Bs 50 [.slice i1 0 1 (.k 1), .agg [.int .i64 lo, .int .i64 hi]] h2 [] (.int .i64 (errOn ks err lo hi)) [] := fun h2 V i1 l t hh hm hl2 => by
    have := rover_con h2 hh.gd i1 0 (.k 1) [⟨kv, ks, err⟩] lo hi (by simp) (hh.cv1 hm hl2 (hk.vw hh) (by omega))
    rw [show errL ([(⟨kv, ks, err⟩ : Cv)].map Cv.c) lo hi = errOn ks err lo hi from errL_one] at this
    exact this
  by_cases he : errOn ks err lo hi = 0
  rotate_left
  · have hr : cutR ks err lo hi = ([], 0, errOn ks err lo hi) := by unfold cutR; rw [if_pos he]
    rw [hr]
    refine Con.subR (Con.startR rfl Tryz.func13 rfl rfl Tryz.ntmps13 rfl rfl (SS.init g) ?_)
    (refine WK.seq ?_; refine WK.region ?_; refine St.box fun _ _ => ?_; refine St.box fun _ _ => ?_; refine St.alloc fun _ _ => ?_; refine WO.nil ?_; refine WK.seq ?_; refine WK.region ?_; refine St.load ?_; refine St.mkS fun _ _ => ?_; refine St.load ?_)
    rename_i p hp r hr0 q hq i1 hi1
    refine St.call (fun _ => rfl) (fun h hh => hR h i1 _ _ hh (List.Mem.head _) rfl) ?_
    (refine St.assign ?_; refine WO.nil ?_; refine WK.seq ?_; refine WK.seq ?_; refine WK.region ?_; refine St.move ?_; refine St.bin ?_; refine WO.nil ?_)
    refine St.splitC (fun hc => ?_) (fun hc => ?_)
    · (refine WK.seq ?_; refine WK.region ?_; refine St.move ?_; refine St.build ?_; refine St.store1 ?_; refine WO.nil ?_)
      refine St.ret (by first | exact .tmp .nil | exact .cell .nil | exact .cell (.tmp .nil) | exact .tmp (.tmp .nil) | exact .cell (.cell .nil) | exact .tmp (.cell .nil) | exact .nil | exact .tmp (.cell (.tmp .nil)) | exact .cell (.tmp (.tmp .nil)) | exact .cell (.cell (.tmp .nil)) | exact .tmp (.tmp (.tmp .nil)) | exact .cell (.cell (.cell .nil))) ?_
      exact ⟨[], List.nil_sublist _, .slice0, .inl ⟨rfl, rfl, rfl⟩, rfl⟩
    · simp at hc; exact absurd hc he
  obtain ⟨h1, hlh, hd⟩ := errOn_zero he
  have v := vd_of_chk h1
  obtain ⟨b, off, c, rfl, hk1⟩ := hk.ne v.ne
  have hpos := v.pos
  have hl40 : ks.length ≤ 40 := v.le
  have hr : cutR ks err lo hi = if (hasKn ks lo && hasKn ks hi) = false then ([], 0, 3) else (newK ks (corX ks lo hi), err, 0) := by unfold cutR; rw [if_neg (by simp [he]), allK_cor v hd hlh]
  rw [hr]
  rw [he] at hR
  have dlo : inDom ks lo lo = true := inDom_at hd (Int.le_refl _) hlh
  have dhi : inDom ks hi hi = true := inDom_at hd hlh (Int.le_refl _)
  have hW : ∀ (h2 : Heap) {V : Ob} (x : Int), Vw h [] V h2 → inDom ks x x = true → Con Tryz.prog Bs 44 [.agg [.slice b off ks.length c, .int .i64 err], .int .i64 x] h2 [] (.tup [.int .i64 (valN ks x), .bool (hasKn ks x)]) [] := fun h2 V x hh hdx => by
    have := whole_con h2 hh.gd b off c ks err x v (hk1.vw hh)
    rw [if_pos hdx] at this
    exact this
  cases hA : hasKn ks lo with
  | false =>
    refine Con.subR (Con.startR rfl Tryz.func13 rfl rfl Tryz.ntmps13 rfl rfl (SS.init g) ?_)
    (refine WK.seq ?_; refine WK.region ?_; refine St.box fun _ _ => ?_; refine St.box fun _ _ => ?_; refine St.alloc fun _ _ => ?_; refine WO.nil ?_; refine WK.seq ?_; refine WK.region ?_; refine St.load ?_; refine St.mkS fun _ _ => ?_; refine St.load ?_)
    rename_i p hp r hr0 q hq i1 hi1
    refine St.call (fun _ => rfl) (fun h hh => hR h i1 _ _ hh (List.Mem.head _) rfl) ?_
    (refine St.assign ?_; refine WO.nil ?_; refine WK.seq ?_; refine WK.seq ?_; refine WK.region ?_; refine St.move ?_; refine St.bin ?_; refine WO.nil ?_; refine WK.condF ?_; refine WK.skip ?_; refine WK.seq ?_; refine WK.region ?_; refine St.load ?_; refine St.fieldAddr ?_; refine St.load ?_)
    refine St.call (v := .tup [.int .i64 (valN ks lo), .bool false]) (fun _ => rfl) (fun h hh => by rw [← hA]; exact hW h lo hh dlo) ?_
    (refine St.move ?_; refine St.extract ?_; refine St.extract ?_; refine St.assign ?_; refine St.assign ?_; refine WO.nil ?_; refine WK.seq ?_; refine WK.region ?_; refine St.load ?_; refine St.fieldAddr ?_; refine St.load ?_)
    refine St.call (fun _ => rfl) (fun h hh => hW h hi hh dhi) ?_
    (refine St.move ?_; refine St.extract ?_; refine St.extract ?_; refine St.assign ?_; refine St.assign ?_; refine WO.nil ?_; refine WK.seq ?_; refine WK.seq ?_; refine WK.region ?_; refine St.move ?_; refine St.un ?_; refine St.move ?_; refine St.skip ?_; refine St.skip ?_; refine St.pickT ?_; refine WO.nil ?_; refine WK.condT ?_; refine WK.seq ?_; refine WK.region ?_; refine St.build ?_; refine St.store1 ?_; refine WO.nil ?_)
    refine St.ret (by first | exact .tmp .nil | exact .cell .nil | exact .cell (.tmp .nil) | exact .tmp (.tmp .nil) | exact .cell (.cell .nil) | exact .tmp (.cell .nil) | exact .nil | exact .tmp (.cell (.tmp .nil)) | exact .cell (.tmp (.tmp .nil)) | exact .cell (.cell (.tmp .nil)) | exact .tmp (.tmp (.tmp .nil)) | exact .cell (.cell (.cell .nil))) ?_
    exact ⟨[], List.nil_sublist _, .slice0, .inl ⟨rfl, rfl, rfl⟩, rfl⟩
  | true =>
  cases hB : hasKn ks hi with
  | false =>
    refine Con.subR (Con.startR rfl Tryz.func13 rfl rfl Tryz.ntmps13 rfl rfl (SS.init g) ?_)
    (refine WK.seq ?_; refine WK.region ?_; refine St.box fun _ _ => ?_; refine St.box fun _ _ => ?_; refine St.alloc fun _ _ => ?_; refine WO.nil ?_; refine WK.seq ?_; refine WK.region ?_; refine St.load ?_; refine St.mkS fun _ _ => ?_; refine St.load ?_)
    rename_i p hp r hr0 q hq i1 hi1
    refine St.call (fun _ => rfl) (fun h hh => hR h i1 _ _ hh (List.Mem.head _) rfl) ?_
    (refine St.assign ?_; refine WO.nil ?_; refine WK.seq ?_; refine WK.seq ?_; refine WK.region ?_; refine St.move ?_; refine St.bin ?_; refine WO.nil ?_; refine WK.condF ?_; refine WK.skip ?_; refine WK.seq ?_; refine WK.region ?_; refine St.load ?_; refine St.fieldAddr ?_; refine St.load ?_)
    refine St.call (v := .tup [.int .i64 (valN ks lo), .bool true]) (fun _ => rfl) (fun h hh => by rw [← hA]; exact hW h lo hh dlo) ?_
    (refine St.move ?_; refine St.extract ?_; refine St.extract ?_; refine St.assign ?_; refine St.assign ?_; refine WO.nil ?_; refine WK.seq ?_; refine WK.region ?_; refine St.load ?_; refine St.fieldAddr ?_; refine St.load ?_)
    refine St.call (v := .tup [.int .i64 (valN ks hi), .bool false]) (fun _ => rfl) (fun h hh => by rw [← hB]; exact hW h hi hh dhi) ?_
    (refine St.move ?_; refine St.extract ?_; refine St.extract ?_; refine St.assign ?_; refine St.assign ?_; refine WO.nil ?_; refine WK.seq ?_; refine WK.seq ?_; refine WK.region ?_; refine St.move ?_; refine St.un ?_; refine St.move ?_; refine St.move ?_; refine St.un ?_; refine St.pickF ?_; refine WO.nil ?_; refine WK.condT ?_; refine WK.seq ?_; refine WK.region ?_; refine St.build ?_; refine St.store1 ?_; refine WO.nil ?_)
    refine St.ret (by first | exact .tmp .nil | exact .cell .nil | exact .cell (.tmp .nil) | exact .tmp (.tmp .nil) | exact .cell (.cell .nil) | exact .tmp (.cell .nil) | exact .nil | exact .tmp (.cell (.tmp .nil)) | exact .cell (.tmp (.tmp .nil)) | exact .cell (.cell (.tmp .nil)) | exact .tmp (.tmp (.tmp .nil)) | exact .cell (.cell (.cell .nil))) ?_
    exact ⟨[], List.nil_sublist _, .slice0, .inl ⟨rfl, rfl, rfl⟩, rfl⟩
  | true =>
  rw [if_neg (by simp)]
  refine Con.subR (Con.startR rfl Tryz.func13 rfl rfl Tryz.ntmps13 rfl rfl (SS.init g) ?_)
  (refine WK.seq ?_; refine WK.region ?_; refine St.box fun _ _ => ?_; refine St.box fun _ _ => ?_; refine St.alloc fun _ _ => ?_; refine WO.nil ?_; refine WK.seq ?_; refine WK.region ?_; refine St.load ?_; refine St.mkS fun _ _ => ?_; refine St.load ?_)
  rename_i p hp r hr0 q hq i1 hi1
  refine St.call (fun _ => rfl) (fun h hh => hR h i1 _ _ hh (List.Mem.head _) rfl) ?_
  (refine St.assign ?_; refine WO.nil ?_; refine WK.seq ?_; refine WK.seq ?_; refine WK.region ?_; refine St.move ?_; refine St.bin ?_; refine WO.nil ?_; refine WK.condF ?_; refine WK.skip ?_; refine WK.seq ?_; refine WK.region ?_; refine St.load ?_; refine St.fieldAddr ?_; refine St.load ?_)
  refine St.call (v := .tup [.int .i64 (valN ks lo), .bool true]) (fun _ => rfl) (fun h hh => by rw [← hA]; exact hW h lo hh dlo) ?_
  (refine St.move ?_; refine St.extract ?_; refine St.extract ?_; refine St.assign ?_; refine St.assign ?_; refine WO.nil ?_; refine WK.seq ?_; refine WK.region ?_; refine St.load ?_; refine St.fieldAddr ?_; refine St.load ?_)
  refine St.call (v := .tup [.int .i64 (valN ks hi), .bool true]) (fun _ => rfl) (fun h hh => by rw [← hB]; exact hW h hi hh dhi) ?_
  (refine St.move ?_; refine St.extract ?_; refine St.extract ?_; refine St.assign ?_; refine St.assign ?_; refine WO.nil ?_; refine WK.seq ?_; refine WK.seq ?_; refine WK.region ?_; refine St.move ?_; refine St.un ?_; refine St.move ?_; refine St.move ?_; refine St.un ?_; refine St.pickF ?_; refine WO.nil ?_; refine WK.condF ?_; refine WK.skip ?_; refine WK.seq ?_; refine WK.region ?_; refine St.assign ?_; refine WO.nil ?_; refine WK.seq ?_; refine WK.seq ?_; refine WK.region ?_; refine St.assign ?_; refine WO.nil ?_; refine WK.block ?_)
  refine WK.inv (ι := Nat × AV × Ob) (fun z => [(2, .ptr p 0), (3, .ptr r 0), (4, .ptr q 0), (6, .int .i64 (valN ks lo)), (8, .int .i64 (valN ks hi)), (10, z.2.1), (11, .int .i64 z.1)]) (fun z => (q, .cells [.slice0, .int .i64 0, .int .i64 0] 34) :: (r, .cells [.int .i64 lo, .int .i64 hi] 27) :: (p, .cells [.slice b off ks.length c, .int .i64 err] 24) :: z.2.2) (fun z => z.1 ≤ ks.length ∧ IsKn (inK (ks.take z.1) lo hi) z.2.1 z.2.2) (fun z => ks.length - z.1) (0, .slice0, []) ⟨by simp, .nil rfl rfl⟩ ⟨rfl, rfl, rfl, rfl, rfl, rfl, rfl, trivial⟩ (by (repeat (first | exact List.Sublist.refl _ | exact List.nil_sublist _ | apply List.Sublist.cons_cons | apply List.Sublist.cons))) ?_
  rintro ⟨k, w, Lw⟩ ⟨hkl, hw⟩ ih
  simp only at hkl hw ih ⊢
  have hil := inK_len (ks.take k) lo hi
  rw [List.length_take] at hil
  (refine WK.seq ?_; refine WK.seq ?_; refine WK.region ?_; refine St.move ?_; refine St.fieldAddr ?_; refine St.load ?_; refine St.len ?_; refine St.bin ?_; refine WO.nil ?_)
  refine St.splitC (fun hc => ?_) (fun hc => ?_)
  · have hlt : k < ks.length := by simp at hc; omega
    have hs := inK_take (lo := lo) (hi := hi) hlt
    (refine WK.skip ?_; refine WK.seq ?_; refine WK.block ?_; refine WK.seq ?_; refine WK.regionD ?_; refine St.fieldAddr ?_; refine St.load ?_; refine St.move ?_)
    refine St.at ?_
    (refine St.fieldAddr ?_)
    refine St.loadX (fun h hh => ((hk1.vw hh).x hlt).one rfl) ?_
    (refine St.load ?_)
    refine St.call (fun _ => rfl) (fun h hh => rin_con h hh.gd (kx ks k) lo hi) ?_
    (refine WO.nil ?_)
    refine St.splitC (fun hc2 => ?_) (fun hc2 => ?_)
    · rw [if_pos hc2] at hs
      (refine WK.region ?_; refine St.move ?_; refine St.fieldAddr ?_; refine St.load ?_; refine St.move ?_)
      refine St.at ?_
      refine St.loadX (fun h hh => ((hk1.vw hh).knot hlt).agg (by simp) rfl rfl rfl) ?_
      (refine St.mkS fun _ _ => ?_)
      rename_i i3 hi3
      refine St.appL (len := (inK (ks.take k) lo hi).length) (old := flatA (inK (ks.take k) lo hi)) (new := [.int .i64 (kx ks k), .int .i64 (ky ks k)]) (Lk := [(i3, .cells [.int .i64 (kx ks k), .int .i64 (ky ks k)] 81), (q, .cells [.slice0, .int .i64 0, .int .i64 0] 34), (r, .cells [.int .i64 lo, .int .i64 hi] 27), (p, .cells [.slice b off ks.length c, .int .i64 err] 24)]) hw List.perm_append_comm (fun w2 L2 hw2 => ?_) ⟨rfl, rfl, rfl, rfl, rfl, rfl, rfl, rfl, rfl, rfl, rfl, rfl⟩ (List.Mem.head _) rfl (by omega) (by omega)
      refine WO.permF (L' := [(i3, .cells [.int .i64 (kx ks k), .int .i64 (ky ks k)] 81), (q, .cells [.slice0, .int .i64 0, .int .i64 0] 34), (r, .cells [.int .i64 lo, .int .i64 hi] 27), (p, .cells [.slice b off ks.length c, .int .i64 err] 24)] ++ L2) List.perm_append_comm ?_
      have hw3 : IsKn (inK (ks.take (k + 1)) lo hi) w2 L2 := by
        rw [hs]
        unfold IsKn
        rw [flatA_snoc, List.length_append]
        exact hw2
      (refine St.assign ?_; refine WO.nil ?_; refine WK.blk ?_; refine WK.region ?_; refine St.move ?_; refine St.binI ?_; refine St.assign ?_; refine WO.nil ?_)
      refine WK.le ?_ (by (repeat (first | exact List.Sublist.refl _ | exact List.nil_sublist _ | apply List.Sublist.cons_cons | apply List.Sublist.cons))) (ih (k + 1, w2, L2) ⟨hlt, hw3⟩ (by simp only; omega))
      exact ⟨rfl, rfl, rfl, rfl, rfl, rfl, rfl, trivial⟩
    · rw [if_neg (by rw [hc2]; simp), List.append_nil] at hs
      (refine WK.skip ?_; refine WK.blk ?_; refine WK.region ?_; refine St.move ?_; refine St.binI ?_; refine St.assign ?_; refine WO.nil ?_)
      refine WK.le ?_ (by (repeat (first | exact List.Sublist.refl _ | exact List.nil_sublist _ | apply List.Sublist.cons_cons | apply List.Sublist.cons))) (ih (k + 1, w, Lw) ⟨hlt, by simp only; rw [hs]; exact hw⟩ (by simp only; omega))
      exact ⟨rfl, rfl, rfl, rfl, rfl, rfl, rfl, trivial⟩
  · have hk' : k = ks.length := by simp at hc; omega
    subst hk'
    rw [List.take_length] at hw hil
    clear ih
    (refine WK.exit ?_; refine WK.seq ?_; refine WK.region ?_; refine St.move ?_; refine St.fieldAddr ?_; refine St.load ?_; refine St.move ?_; refine St.build ?_)
    refine St.callR (R := fun v2 L2 => ∃ q1, PutIs (inK ks lo hi) lo (valN ks lo) q1 ∧ ((q1 = inK ks lo hi ∧ v2 = w ∧ L2 = []) ∨ IsKn q1 v2 L2)) (fun _ => rfl) (fun h2 hh => put_con h2 hh.gd w _ lo (valN ks lo) (hh.putV hw (by (repeat (first | exact List.Sublist.refl _ | exact List.nil_sublist _ | apply List.Sublist.cons_cons | apply List.Sublist.cons)))) (by omega)) ?_
    rintro w1 L1 ⟨q1, hp1, hres1⟩
    have hq1 : q1.length ≤ (inK ks lo hi).length + 1 := (put_asc (f := valN ks) ((vd_asc v).sublist List.filter_sublist) (fun p hp => own_fun v p (List.mem_filter.1 hp).1) rfl hp1).2.2
    have hil2 := inK_len ks lo hi
    obtain ⟨L1', hsub1, hw1⟩ : ∃ L1', List.Sublist L1' (Lw ++ L1) ∧ IsKn q1 w1 L1' := by
      rcases hres1 with ⟨rfl, rfl, rfl⟩ | h3
      · exact ⟨Lw, List.sublist_append_left _ _, hw⟩
      · exact ⟨L1, List.sublist_append_right _ _, h3⟩
    refine WO.permF (L' := ((q, .cells [.slice0, .int .i64 0, .int .i64 0] 34) :: (r, .cells [.int .i64 lo, .int .i64 hi] 27) :: (p, .cells [.slice b off ks.length c, .int .i64 err] 24) :: (Lw ++ L1))) (List.perm_append_comm (l₁ := (q, .cells [.slice0, .int .i64 0, .int .i64 0] 34) :: (r, .cells [.int .i64 lo, .int .i64 hi] 27) :: (p, .cells [.slice b off ks.length c, .int .i64 err] 24) :: Lw)) ?_
    (refine St.assign ?_; refine WO.nil ?_; refine WK.seq ?_; refine WK.region ?_; refine St.move ?_; refine St.fieldAddr ?_; refine St.load ?_; refine St.move ?_; refine St.build ?_)
    refine St.callR (R := fun v2 L2 => ∃ q2, PutIs q1 hi (valN ks hi) q2 ∧ ((q2 = q1 ∧ v2 = w1 ∧ L2 = []) ∨ IsKn q2 v2 L2)) (fun _ => rfl) (fun h2 hh => put_con h2 hh.gd w1 _ hi (valN ks hi) (hh.putV hw1 (((hsub1.cons _).cons _).cons _)) (by omega)) ?_
    rintro w2 L2 ⟨q2, hp2, hres2⟩
    obtain ⟨L2', hsub2, hw2⟩ : ∃ L2', List.Sublist L2' ((Lw ++ L1) ++ L2) ∧ IsKn q2 w2 L2' := by
      rcases hres2 with ⟨rfl, rfl, rfl⟩ | h3
      · exact ⟨L1', hsub1.trans (List.sublist_append_left _ _), hw1⟩
      · exact ⟨L2, List.sublist_append_right _ _, h3⟩
    refine WO.permF (L' := ((q, .cells [.slice0, .int .i64 0, .int .i64 0] 34) :: (r, .cells [.int .i64 lo, .int .i64 hi] 27) :: (p, .cells [.slice b off ks.length c, .int .i64 err] 24) :: ((Lw ++ L1) ++ L2))) (List.perm_append_comm (l₁ := (q, .cells [.slice0, .int .i64 0, .int .i64 0] 34) :: (r, .cells [.int .i64 lo, .int .i64 hi] 27) :: (p, .cells [.slice b off ks.length c, .int .i64 err] 24) :: (Lw ++ L1))) ?_
    have hq2 := cut_eq v hlh hp1 hp2
    subst hq2
    have hnp : 0 < (newK ks (corX ks lo hi)).length := by rw [newK_length]; exact cornX_pos _ _ _
    have hcv := hw2.cv hnp
    obtain ⟨i4, c4, o4, rfl, rfl, ho4, _⟩ := IsL.ne hw2 hnp
    (refine St.assign ?_; refine WO.nil ?_; refine WK.seq ?_; refine WK.region ?_; refine St.move ?_; refine St.fieldAddr ?_; refine St.load ?_; refine St.build ?_; refine St.build ?_; refine St.store0 ?_; refine WO.nil ?_)
    refine St.ret (by first | exact .tmp .nil | exact .cell .nil | exact .cell (.tmp .nil) | exact .tmp (.tmp .nil) | exact .cell (.cell .nil) | exact .tmp (.cell .nil) | exact .nil | exact .tmp (.cell (.tmp .nil)) | exact .cell (.tmp (.tmp .nil)) | exact .cell (.cell (.tmp .nil)) | exact .tmp (.tmp (.tmp .nil)) | exact .cell (.cell (.cell .nil))) ?_
    exact ⟨[(i4, o4)], ((hsub2.cons _).cons _).cons _, _, hcv, rfl⟩
end Go.Proofs.YtcaemeedmnpdjaaGreat
