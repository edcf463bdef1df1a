/- Refine, the reference's, over the calculator's memory. -/
import Derived.Test.YtcaemeedmnpdjaaGreatMg
namespace Go.Proofs.YtcaemeedmnpdjaaGreat
open Go.Proofs.YtcaemeedmnpdjaaGreat.Ev

set_option maxRecDepth 100000 in
set_option maxHeartbeats 16000000 in
theorem refineRef_con (h : Heap) (g : Gd h) (kv xv : AV) (ks : List (Int × Int)) (err : Int) (xs : List Int) (hk : KnV h kv ks) (hx : XsH h xv xs) (hl : ks.length ≤ 1000000) (hxl : xs.length ≤ 1000) :
    ∃ v L, Con Tryz.prog Bs 9 [.agg [kv, .int .i64 err], xv] h [] v L ∧ MixOut (refineR ks err xs) v L := by
  by_cases h1 : chk ks err = 0
  rotate_left
  · have hr : refineR ks err xs = ([], 0, chk ks err) := by unfold refineR; rw [if_pos h1]
    rw [hr]
    refine Con.subR (Con.startR rfl Tryz.func9 rfl rfl Tryz.ntmps9 rfl rfl (SS.init g) ?_)
    (refine WK.seq ?_; refine WK.region ?_; refine St.box fun _ _ => ?_; refine St.alloc fun _ _ => ?_; refine WO.nil ?_; refine WK.seq ?_; refine WK.region ?_; refine St.load ?_)
    refine St.call (fun _ => rfl) (fun h2 hh => rcheck_con h2 hh.gd kv ks err (hk.vw hh) (by omega)) ?_
    (refine St.assign ?_; refine WO.nil ?_; refine WK.seq ?_; refine WK.seq ?_; refine WK.region ?_; refine St.move ?_; refine St.bin ?_; refine WO.nil ?_)
    refine St.splitC (fun hc => ?_) (fun hc => ?_)
    · (refine WK.seq ?_; refine WK.region ?_; refine St.move ?_; refine St.build ?_; refine St.store0 ?_; refine WO.nil ?_)
      refine St.ret (by first | exact .tmp .nil | exact .cell .nil | exact .cell (.tmp .nil) | exact .tmp (.tmp .nil) | exact .cell (.cell .nil) | exact .tmp (.cell .nil) | exact .nil | exact .tmp (.cell (.tmp .nil)) | exact .cell (.tmp (.tmp .nil)) | exact .cell (.cell (.tmp .nil)) | exact .tmp (.tmp (.tmp .nil)) | exact .cell (.cell (.cell .nil))) ?_
      exact ⟨[], List.nil_sublist _, .slice0, .inl ⟨rfl, rfl, rfl⟩, rfl⟩
    · simp at hc; exact absurd hc h1
  have v := vd_of_chk h1
  obtain ⟨b, off, c, rfl, hk1⟩ := hk.ne v.ne
  have hpos := v.pos
  have hl40 : ks.length ≤ 40 := v.le
  have hr : refineR ks err xs = if allK ks xs = false then ([], 0, 3) else if (mergeK ks xs).length > 40 then ([], 0, 2) else (mergeK ks xs, err, 0) := by unfold refineR; rw [if_neg (by simp [h1])]
  rw [hr]
  rcases hx with ⟨hx1, rfl⟩ | ⟨b2, off2, c2, rfl, hx2⟩
  · have hyes : allK ks [] = true := rfl
    have hm0 : ks = mergeK ks [] := (Mg.nil v).uniq v
    rw [if_neg (by simp [hyes])]
    rcases hx1 with rfl | rfl
    · refine Con.subR (Con.startR rfl Tryz.func9 rfl rfl Tryz.ntmps9 rfl rfl (SS.init g) ?_)
      (refine WK.seq ?_; refine WK.region ?_; refine St.box fun _ _ => ?_; refine St.alloc fun _ _ => ?_; refine WO.nil ?_; refine WK.seq ?_; refine WK.region ?_; refine St.load ?_)
      refine St.call (v := .int .i64 0) (fun _ => rfl) (fun h2 hh => by
        have := rcheck_con h2 hh.gd _ ks err (hk.vw hh) (by omega)
        rw [h1] at this
        exact this) ?_
      (refine St.assign ?_; refine WO.nil ?_; refine WK.seq ?_; refine WK.seq ?_; refine WK.region ?_; refine St.move ?_; refine St.bin ?_; refine WO.nil ?_; refine WK.condF ?_; refine WK.skip ?_; refine WK.seq ?_; refine WK.region ?_; refine St.mkS fun _ _ => ?_; refine St.fieldAddr ?_; refine St.load ?_)
      rename_i p hp q hq i1 hi1
      refine St.appA (e := 81) (sz := 2) (n := ks.length) (new := flatA ks) (len := 0) (old := []) (Lv := [(i1, .cells [] 81)]) (Lk := [(q, .cells [.slice0, .int .i64 0, .int .i64 0] 34), (p, .cells [.slice b off ks.length c, .int .i64 err] 24)]) (IsL.cells i1 0 [] _ rfl rfl (Nat.le_refl _)) (List.Perm.refl _) ⟨rfl, rfl, rfl, rfl, rfl, rfl, rfl, rfl⟩ (.inr ⟨hpos, b, off, c, rfl, by omega, by rw [flatA_len], flatA_ok _, fun h2 hh => (hk1.vw hh).loadN hpos⟩) (by omega) (fun w0 Lw0 hw0 => ?_)
      refine WO.permF (L' := [(q, .cells [.slice0, .int .i64 0, .int .i64 0] 34), (p, .cells [.slice b off ks.length c, .int .i64 err] 24)] ++ Lw0) List.perm_append_comm ?_
      have hw0 : IsKn ks w0 Lw0 := by
        rw [Nat.zero_add, List.nil_append] at hw0
        exact hw0
      (refine St.assign ?_; refine WO.nil ?_; refine WK.seq ?_; refine WK.seq ?_; refine WK.region ?_; refine St.assign ?_; refine WO.nil ?_; refine WK.block ?_)
      obtain ⟨i3, c3, o3, rfl, rfl, ho3, _⟩ := IsL.ne hw0 (by omega)
      refine WK.unroll ?_
      (refine WK.seq ?_; refine WK.seq ?_; refine WK.region ?_; refine St.move ?_; refine St.move ?_; refine St.len0 ?_; refine St.bin ?_; refine WO.nil ?_; refine WK.condF ?_; refine WK.exit ?_; refine WK.seq ?_; refine WK.seq ?_; refine WK.region ?_; refine St.move ?_; refine St.len ?_; refine St.bin ?_; refine WO.nil ?_)
      refine St.splitC (fun hc => ?_) (fun hc => ?_)
      · simp at hc; omega
      · (refine WK.skip ?_; refine WK.seq ?_; refine WK.region ?_; refine St.move ?_; refine St.fieldAddr ?_; refine St.load ?_; refine St.build ?_; refine St.build ?_; refine St.store0 ?_; refine WO.nil ?_)
        refine St.ret (by first | exact .tmp .nil | exact .cell .nil | exact .cell (.tmp .nil) | exact .tmp (.tmp .nil) | exact .cell (.cell .nil) | exact .tmp (.cell .nil) | exact .nil | exact .tmp (.cell (.tmp .nil)) | exact .cell (.tmp (.tmp .nil)) | exact .cell (.cell (.tmp .nil)) | exact .tmp (.tmp (.tmp .nil)) | exact .cell (.cell (.cell .nil))) ?_
        rw [if_neg (by rw [← hm0]; omega), ← hm0]
        exact ⟨[(i3, o3)], by (repeat (first | exact List.Sublist.refl _ | exact List.nil_sublist _ | apply List.Sublist.cons_cons | apply List.Sublist.cons)), _, .inr ⟨i3, c3, o3, rfl, rfl, ho3, hpos⟩, rfl⟩
    · refine Con.subR (Con.startR rfl Tryz.func9 rfl rfl Tryz.ntmps9 rfl rfl (SS.init g) ?_)
      (refine WK.seq ?_; refine WK.region ?_; refine St.box fun _ _ => ?_; refine St.alloc fun _ _ => ?_; refine WO.nil ?_; refine WK.seq ?_; refine WK.region ?_; refine St.load ?_)
      refine St.call (v := .int .i64 0) (fun _ => rfl) (fun h2 hh => by
        have := rcheck_con h2 hh.gd _ ks err (hk.vw hh) (by omega)
        rw [h1] at this
        exact this) ?_
      (refine St.assign ?_; refine WO.nil ?_; refine WK.seq ?_; refine WK.seq ?_; refine WK.region ?_; refine St.move ?_; refine St.bin ?_; refine WO.nil ?_; refine WK.condF ?_; refine WK.skip ?_; refine WK.seq ?_; refine WK.region ?_; refine St.mkS fun _ _ => ?_; refine St.fieldAddr ?_; refine St.load ?_)
      rename_i p hp q hq i1 hi1
      refine St.appA (e := 81) (sz := 2) (n := ks.length) (new := flatA ks) (len := 0) (old := []) (Lv := [(i1, .cells [] 81)]) (Lk := [(q, .cells [.slice0, .int .i64 0, .int .i64 0] 34), (p, .cells [.slice b off ks.length c, .int .i64 err] 24)]) (IsL.cells i1 0 [] _ rfl rfl (Nat.le_refl _)) (List.Perm.refl _) ⟨rfl, rfl, rfl, rfl, rfl, rfl, rfl, rfl⟩ (.inr ⟨hpos, b, off, c, rfl, by omega, by rw [flatA_len], flatA_ok _, fun h2 hh => (hk1.vw hh).loadN hpos⟩) (by omega) (fun w0 Lw0 hw0 => ?_)
      refine WO.permF (L' := [(q, .cells [.slice0, .int .i64 0, .int .i64 0] 34), (p, .cells [.slice b off ks.length c, .int .i64 err] 24)] ++ Lw0) List.perm_append_comm ?_
      have hw0 : IsKn ks w0 Lw0 := by
        rw [Nat.zero_add, List.nil_append] at hw0
        exact hw0
      (refine St.assign ?_; refine WO.nil ?_; refine WK.seq ?_; refine WK.seq ?_; refine WK.region ?_; refine St.assign ?_; refine WO.nil ?_; refine WK.block ?_)
      obtain ⟨i3, c3, o3, rfl, rfl, ho3, _⟩ := IsL.ne hw0 (by omega)
      refine WK.unroll ?_
      (refine WK.seq ?_; refine WK.seq ?_; refine WK.region ?_; refine St.move ?_; refine St.move ?_; refine St.lenZ ?_; refine St.bin ?_; refine WO.nil ?_; refine WK.condF ?_; refine WK.exit ?_; refine WK.seq ?_; refine WK.seq ?_; refine WK.region ?_; refine St.move ?_; refine St.len ?_; refine St.bin ?_; refine WO.nil ?_)
      refine St.splitC (fun hc => ?_) (fun hc => ?_)
      · simp at hc; omega
      · (refine WK.skip ?_; refine WK.seq ?_; refine WK.region ?_; refine St.move ?_; refine St.fieldAddr ?_; refine St.load ?_; refine St.build ?_; refine St.build ?_; refine St.store0 ?_; refine WO.nil ?_)
        refine St.ret (by first | exact .tmp .nil | exact .cell .nil | exact .cell (.tmp .nil) | exact .tmp (.tmp .nil) | exact .cell (.cell .nil) | exact .tmp (.cell .nil) | exact .nil | exact .tmp (.cell (.tmp .nil)) | exact .cell (.tmp (.tmp .nil)) | exact .cell (.cell (.tmp .nil)) | exact .tmp (.tmp (.tmp .nil)) | exact .cell (.cell (.cell .nil))) ?_
        rw [if_neg (by rw [← hm0]; omega), ← hm0]
        exact ⟨[(i3, o3)], by (repeat (first | exact List.Sublist.refl _ | exact List.nil_sublist _ | apply List.Sublist.cons_cons | apply List.Sublist.cons)), _, .inr ⟨i3, c3, o3, rfl, rfl, ho3, hpos⟩, rfl⟩
  refine Con.subR (Con.startR rfl Tryz.func9 rfl rfl Tryz.ntmps9 rfl rfl (SS.init g) ?_)
  (refine WK.seq ?_; refine WK.region ?_; refine St.box fun _ _ => ?_; refine St.alloc fun _ _ => ?_; refine WO.nil ?_; refine WK.seq ?_; refine WK.region ?_; refine St.load ?_)
  refine St.call (v := .int .i64 0) (fun _ => rfl) (fun h2 hh => by
    have := rcheck_con h2 hh.gd _ ks err (hk.vw hh) (by omega)
    rw [h1] at this
    exact this) ?_
  (refine St.assign ?_; refine WO.nil ?_; refine WK.seq ?_; refine WK.seq ?_; refine WK.region ?_; refine St.move ?_; refine St.bin ?_; refine WO.nil ?_; refine WK.condF ?_; refine WK.skip ?_; refine WK.seq ?_; refine WK.region ?_; refine St.mkS fun _ _ => ?_; refine St.fieldAddr ?_; refine St.load ?_)
  rename_i p hp q hq i1 hi1
  refine St.appA (e := 81) (sz := 2) (n := ks.length) (new := flatA ks) (len := 0) (old := []) (Lv := [(i1, .cells [] 81)]) (Lk := [(q, .cells [.slice0, .int .i64 0, .int .i64 0] 34), (p, .cells [.slice b off ks.length c, .int .i64 err] 24)]) (IsL.cells i1 0 [] _ rfl rfl (Nat.le_refl _)) (List.Perm.refl _) ⟨rfl, rfl, rfl, rfl, rfl, rfl, rfl, rfl⟩ (.inr ⟨hpos, b, off, c, rfl, by omega, by rw [flatA_len], flatA_ok _, fun h2 hh => (hk1.vw hh).loadN hpos⟩) (by omega) (fun w0 Lw0 hw0 => ?_)
  refine WO.permF (L' := [(q, .cells [.slice0, .int .i64 0, .int .i64 0] 34), (p, .cells [.slice b off ks.length c, .int .i64 err] 24)] ++ Lw0) List.perm_append_comm ?_
  have hw0 : IsKn ks w0 Lw0 := by
    rw [Nat.zero_add, List.nil_append] at hw0
    exact hw0
  (refine St.assign ?_; refine WO.nil ?_; refine WK.seq ?_; refine WK.seq ?_; refine WK.region ?_; refine St.assign ?_; refine WO.nil ?_; refine WK.block ?_)
  refine WK.inv (ι := Nat × List (Int × Int) × AV × Ob) (fun z => [(1, .slice b2 off2 xs.length c2), (2, .ptr p 0), (4, .ptr q 0), (6, z.2.2.1), (7, .int .i64 z.1)]) (fun z => (q, .cells [.slice0, .int .i64 0, .int .i64 0] 34) :: (p, .cells [.slice b off ks.length c, .int .i64 err] 24) :: z.2.2.2) (fun z => z.1 ≤ xs.length ∧ (∀ i (hi : i < xs.length), i < z.1 → hasKn ks xs[i] = true) ∧ Mg ks (xs.take z.1) z.2.1 ∧ z.2.1.length ≤ ks.length + z.1 ∧ IsKn z.2.1 z.2.2.1 z.2.2.2) (fun z => xs.length - z.1) (0, ks, w0, Lw0) ⟨by simp, fun i hi h => absurd h (by simp), Mg.nil v, by simp, hw0⟩ ⟨rfl, rfl, rfl, rfl, rfl, trivial⟩ (by (repeat (first | exact List.Sublist.refl _ | exact List.nil_sublist _ | apply List.Sublist.cons_cons | apply List.Sublist.cons))) ?_
  rintro ⟨k, qs, w, Lw⟩ ⟨hkl, hall, hmg, hql, hw⟩ ih
  simp only at hkl hall hmg hql hw ih ⊢
  (refine WK.seq ?_; refine WK.seq ?_; refine WK.region ?_; refine St.move ?_; refine St.move ?_; refine St.len ?_; refine St.bin ?_; refine WO.nil ?_)
  refine St.splitC (fun hc => ?_) (fun hc => ?_)
  · have hlt : k < xs.length := by simp at hc; omega
    have hld : ∀ {V : Ob} (h2 : Heap), Vw h [] V h2 → Rd h2 b2 (off2 + (k : Int).toNat * 1) (.int .i64 (xs[k]'hlt)) := fun h2 hh => by
      have := hx2 k hlt
      rw [show off2 + k = off2 + (k : Int).toNat * 1 by omega] at this
      exact hh.rd (by simp) this
    (refine WK.skip ?_; refine WK.seq ?_; refine WK.block ?_; refine WK.seq ?_; refine WK.regionD ?_; refine St.load ?_; refine St.move ?_; refine St.move ?_)
    refine St.at ?_
    refine St.loadX (v := .int .i64 (xs[k]'hlt)) (fun h hh => (hld h hh).one rfl) ?_
    skip
    refine St.call (v := .tup [.int .i64 (if inDom ks (xs[k]'hlt) (xs[k]'hlt) = true then valN ks (xs[k]'hlt) else 0), .bool (hasKn ks (xs[k]'hlt))]) (fun _ => rfl) (fun h hh => whole_con h hh.gd b off c ks err (xs[k]'hlt) v (hk1.vw hh)) ?_
    (refine St.move ?_; refine St.extract ?_; refine St.extract ?_; refine St.assign ?_; refine St.assign ?_; refine WO.nil ?_; refine WK.seq ?_; refine WK.seq ?_; refine WK.region ?_; refine St.move ?_; refine St.un ?_; refine WO.nil ?_)
    refine St.splitC (fun hc2 => ?_) (fun hc2 => ?_)
    · have hn : hasKn ks (xs[k]'hlt) = false := by simpa using hc2
      (refine WK.seq ?_; refine WK.region ?_; refine St.build ?_; refine St.store0 ?_; refine WO.nil ?_)
      refine St.ret (by first | exact .tmp .nil | exact .cell .nil | exact .cell (.tmp .nil) | exact .tmp (.tmp .nil) | exact .cell (.cell .nil) | exact .tmp (.cell .nil) | exact .nil | exact .tmp (.cell (.tmp .nil)) | exact .cell (.tmp (.tmp .nil)) | exact .cell (.cell (.tmp .nil)) | exact .tmp (.tmp (.tmp .nil)) | exact .cell (.cell (.cell .nil))) ?_
      rw [if_pos (allK_no hlt hn)]
      exact ⟨[], List.nil_sublist _, .slice0, .inl ⟨rfl, rfl, rfl⟩, rfl⟩
    have hn : hasKn ks (xs[k]'hlt) = true := by simpa using hc2
    have hd : inDom ks (xs[k]'hlt) (xs[k]'hlt) = true := by unfold hasKn at hn; simp at hn; exact hn.1
    (refine WK.skip ?_; refine WK.region ?_; refine St.move ?_; refine St.move ?_; refine St.move ?_)
    refine St.at ?_
    skip
    refine St.loadX (v := .int .i64 (xs[k]'hlt)) (fun h hh => (hld h hh).one rfl) ?_
    (refine St.move ?_; refine St.build ?_)
    refine St.callR (R := fun v2 L2 => ∃ rs, PutIs qs (xs[k]'hlt) (valN ks (xs[k]'hlt)) rs ∧ ((rs = qs ∧ v2 = w ∧ L2 = []) ∨ IsKn rs v2 L2)) (fun _ => rfl) (fun h2 hh => by
      have := put_con h2 hh.gd w qs (xs[k]'hlt) (valN ks (xs[k]'hlt)) (hh.putV hw (by (repeat (first | exact List.Sublist.refl _ | exact List.nil_sublist _ | apply List.Sublist.cons_cons | apply List.Sublist.cons)))) (by omega)
      rw [if_pos hd]
      exact this) ?_
    rintro w2 L2 ⟨rs, hput, hres⟩
    obtain ⟨hmg2, hrl⟩ := hmg.put v hput
    have htk : xs.take (k + 1) = xs.take k ++ [xs[k]'hlt] := List.take_succ_eq_append_getElem hlt
    have hall2 : ∀ i (hi : i < xs.length), i < k + 1 → hasKn ks xs[i] = true := fun i hi h2 => by
      rcases Nat.lt_succ_iff_lt_or_eq.1 h2 with h3 | rfl
      · exact hall i hi h3
      · exact hn
    rcases hres with ⟨rfl, rfl, rfl⟩ | hw2
    · (refine St.assign ?_; refine WO.nil ?_; refine WK.blk ?_; refine WK.region ?_; refine St.move ?_; refine St.binI ?_; refine St.assign ?_; refine WO.nil ?_)
      refine WK.le ?_ (by (repeat (first | exact List.Sublist.refl _ | exact List.nil_sublist _ | apply List.Sublist.cons_cons | apply List.Sublist.cons))) (ih (k + 1, rs, w2, Lw) ⟨hlt, hall2, by rw [htk]; exact hmg2, by simp only; omega, hw⟩ (by simp only; omega))
      exact ⟨rfl, rfl, rfl, rfl, rfl, trivial⟩
    · refine WO.permF (L' := (q, .cells [.slice0, .int .i64 0, .int .i64 0] 34) :: (p, .cells [.slice b off ks.length c, .int .i64 err] 24) :: (Lw ++ L2)) (List.perm_append_comm (l₁ := (q, .cells [.slice0, .int .i64 0, .int .i64 0] 34) :: (p, .cells [.slice b off ks.length c, .int .i64 err] 24) :: Lw)) ?_
      (refine St.assign ?_; refine WO.nil ?_; refine WK.blk ?_; refine WK.region ?_; refine St.move ?_; refine St.binI ?_; refine St.assign ?_; refine WO.nil ?_)
      refine WK.le ?_ ?_ (ih (k + 1, rs, w2, L2) ⟨hlt, hall2, by rw [htk]; exact hmg2, by simp only; omega, hw2⟩ (by simp only; omega))
      · exact ⟨rfl, rfl, rfl, rfl, rfl, trivial⟩
      · exact ((List.sublist_append_right Lw L2).cons_cons _).cons_cons _
  · have hk' : k = xs.length := by simp at hc; omega
    subst hk'
    rw [List.take_length] at hmg
    clear ih
    have hq := hmg.uniq v
    subst hq
    have hyes : allK ks xs = true := List.all_eq_true.2 fun y hy => by
      obtain ⟨i, hi, rfl⟩ := List.getElem_of_mem hy
      exact hall i hi hi
    rw [if_neg (by simp [hyes])]
    obtain ⟨i3, c3, o3, rfl, rfl, ho3, _⟩ := IsL.ne hw (mergeK_pos hpos)
    (refine WK.exit ?_; refine WK.seq ?_; refine WK.seq ?_; refine WK.region ?_; refine St.move ?_; refine St.len ?_; refine St.bin ?_; refine WO.nil ?_)
    refine St.splitC (fun hc => ?_) (fun hc => ?_)
    · have hm : (mergeK ks xs).length > 40 := by simp at hc; omega
      (refine WK.seq ?_; refine WK.region ?_; refine St.build ?_; refine St.store0 ?_; refine WO.nil ?_)
      refine St.ret (by first | exact .tmp .nil | exact .cell .nil | exact .cell (.tmp .nil) | exact .tmp (.tmp .nil) | exact .cell (.cell .nil) | exact .tmp (.cell .nil) | exact .nil | exact .tmp (.cell (.tmp .nil)) | exact .cell (.tmp (.tmp .nil)) | exact .cell (.cell (.tmp .nil)) | exact .tmp (.tmp (.tmp .nil)) | exact .cell (.cell (.cell .nil))) ?_
      rw [if_pos hm]
      exact ⟨[], List.nil_sublist _, .slice0, .inl ⟨rfl, rfl, rfl⟩, rfl⟩
    · have hm : ¬ (mergeK ks xs).length > 40 := by simp at hc; omega
      (refine WK.skip ?_; refine WK.seq ?_; refine WK.region ?_; refine St.move ?_; refine St.fieldAddr ?_; refine St.load ?_; refine St.build ?_; refine St.build ?_; refine St.store0 ?_; refine WO.nil ?_)
      refine St.ret (by first | exact .tmp .nil | exact .cell .nil | exact .cell (.tmp .nil) | exact .tmp (.tmp .nil) | exact .cell (.cell .nil) | exact .tmp (.cell .nil) | exact .nil | exact .tmp (.cell (.tmp .nil)) | exact .cell (.tmp (.tmp .nil)) | exact .cell (.cell (.tmp .nil)) | exact .tmp (.tmp (.tmp .nil)) | exact .cell (.cell (.cell .nil))) ?_
      rw [if_neg hm]
      exact ⟨[(i3, o3)], by (repeat (first | exact List.Sublist.refl _ | exact List.nil_sublist _ | apply List.Sublist.cons_cons | apply List.Sublist.cons)), _, .inr ⟨i3, c3, o3, rfl, rfl, ho3, mergeK_pos hpos⟩, rfl⟩
end Go.Proofs.YtcaemeedmnpdjaaGreat
