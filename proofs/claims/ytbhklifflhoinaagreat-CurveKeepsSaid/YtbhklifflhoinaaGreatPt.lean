/- The reference's put over the calculator's memory. -/
import Derived.Test.YtbhklifflhoinaaGreatKn
namespace Go.Proofs.YtbhklifflhoinaaGreat
open Go.Proofs.YtbhklifflhoinaaGreat.Ev

theorem KnH.tak {h : Heap} {b off k : Nat} {ks : List (Int × Int)} (q : KnH h b off ks) : KnH h b off (ks.take k) := fun i hi => by
  rw [List.getElem_take]
  exact q i (by rw [List.length_take] at hi; omega)
theorem KnH.drp {h : Heap} {b off k : Nat} {ks : List (Int × Int)} (q : KnH h b off ks) : KnH h b (off + k * 2) (ks.drop k) := fun i hi => by
  have hl : k + i < ks.length := by rw [List.length_drop] at hi; omega
  have := q (k + i) hl
  rw [List.getElem_drop]
  rw [show off + k * 2 + i * 2 = off + (k + i) * 2 by omega]
  exact this
theorem sl_nilT (h : Heap) : evSlice Tryz.prog h 22 .slice0 none (some (.int .i64 0)) none = some .slice0 := by
  have e : sizeT Tryz.prog 81 = some 2 := by kernel_rfl
  unfold evSlice
  rw [if_neg (by simp), Tryz.underlying22]
  simp [e, optB, boundIn]
theorem sl_nilF (h : Heap) : evSlice Tryz.prog h 22 .slice0 (some (.int .i64 0)) none none = some .slice0 := by
  have e : sizeT Tryz.prog 81 = some 2 := by kernel_rfl
  unfold evSlice
  rw [if_neg (by simp), Tryz.underlying22]
  simp [e, optB, boundIn]
theorem comes_take {h : Heap} {i k : Nat} {c : ACap} {ps : List (Int × Int)} {L : Ob} (hk : KnH h i 0 ps) (hq : SlQ h i c ps.length) (hkl : k ≤ ps.length) (hl : ps.length ≤ 100000) : Ev.Comes h [] L (.slice i 0 k c) 2 k (flatA (ps.take k)) := by
  have hlen : (ps.take k).length = k := by rw [List.length_take]; omega
  by_cases h0 : k = 0
  · subst h0
    exact .inl ⟨rfl, rfl, rfl, fun h2 hh => load_none (hq.vw hh).2.1⟩
  · refine .inr ⟨by omega, i, 0, c, rfl, by omega, by rw [flatA_len, hlen], flatA_ok _, fun h2 hh => ?_⟩
    have := KnH.loadN (KnH.tak (k := k) (hk.vw hh)) (by omega)
    rw [hlen] at this
    exact this
theorem comes_drop {h : Heap} {i k : Nat} {c : ACap} {ps : List (Int × Int)} {L : Ob} (hk : KnH h i 0 ps) (hkl : k < ps.length) (hl : ps.length ≤ 100000) : Ev.Comes h [] L (.slice i (0 + k * 2) (ps.length - k) c) 2 (ps.length - k) (flatA (ps.drop k)) := by
  have hlen : (ps.drop k).length = ps.length - k := by rw [List.length_drop]
  refine .inr ⟨by omega, i, 0 + k * 2, c, rfl, by omega, by rw [flatA_len, hlen], flatA_ok _, fun h2 hh => ?_⟩
  have := KnH.loadN (KnH.drp (k := k) (hk.vw hh)) (by omega)
  rw [hlen] at this
  exact this
theorem comes_end {h : Heap} {i : Nat} {c : ACap} {ps : List (Int × Int)} {L : Ob} (hq : SlQ h i c ps.length) : Ev.Comes h [] L (slEnd i c ps.length) 2 (ps.length - ps.length) (flatA (ps.drop ps.length)) := .inl ⟨Nat.sub_self _, by rw [List.drop_length]; rfl, (sl_end hq).2.1, fun h2 hh => (sl_end (hq.vw hh)).2.2⟩
set_option maxRecDepth 100000 in
set_option maxHeartbeats 8000000 in
theorem put_con (h : Heap) (g : Gd h) (w : AV) (ps : List (Int × Int)) (x y : Int) (hw : PutV h w ps) (hl : ps.length ≤ 100000) :
    ∃ v L, Con Tryz.prog Bs 45 [w, .agg [.int .i64 x, .int .i64 y]] h [] v L ∧ ∃ qs, PutIs ps x y qs ∧ ((qs = ps ∧ v = w ∧ L = []) ∨ IsKn qs v L) := by
  rcases hw with ⟨rfl, rfl⟩ | ⟨i, c, rfl, hk, hq⟩
  · refine Con.subR (Con.startR rfl Tryz.func45 rfl rfl Tryz.ntmps45 rfl rfl (SS.init g) ?_)
    (refine WK.seq ?_; refine WK.region ?_; refine St.box fun _ _ => ?_; refine St.assign ?_; refine WO.nil ?_; refine WK.seq ?_; refine WK.region ?_; refine St.assign ?_; refine WO.nil ?_; refine WK.seq ?_; refine WK.block ?_)
    rename_i p hp
    refine WK.unroll ?_
    (refine WK.seq ?_; refine WK.seq ?_; refine WK.regionD ?_; refine St.move ?_; refine St.move ?_; refine St.len0 ?_; refine St.bin ?_; refine St.move ?_; refine St.skip ?_; refine St.skip ?_; refine St.skip ?_; refine St.skip ?_; refine St.skip ?_; refine St.skip ?_; refine St.skip ?_; refine St.skip ?_; refine St.pickF ?_; refine WO.nil ?_; refine WK.condF ?_; refine WK.exit ?_; refine WK.seq ?_; refine WK.seq ?_; refine WK.regionD ?_; refine St.move ?_; refine St.move ?_; refine St.len0 ?_; refine St.bin ?_; refine St.move ?_; refine St.skip ?_; refine St.skip ?_; refine St.skip ?_; refine St.skip ?_; refine St.skip ?_; refine St.skip ?_; refine St.skip ?_; refine St.skip ?_; refine St.pickF ?_; refine WO.nil ?_; refine WK.condF ?_; refine WK.skip ?_; refine WK.seq ?_; refine WK.region ?_; refine St.mkS fun _ _ => ?_; refine St.move ?_; refine St.move ?_)
    rename_i i1 hi1
    refine St.sliceV (v := .slice0) (fun h2 hh => ?_) ?_
    · show plainV (evSlice Tryz.prog h2 22 .slice0 none (some (.int .i64 0)) none) h2 = _
      rw [sl_nilT]
      rfl
    skip
    refine St.appA (e := 81) (sz := 2) (n := 0) (new := []) (len := 0) (old := []) (Lv := [(i1, .cells [] 81)]) (Lk := [(p, .cells [.int .i64 x, .int .i64 y] 81)]) (IsL.cells i1 0 [] _ rfl rfl (Nat.le_refl _)) (List.Perm.refl _) ⟨rfl, rfl, rfl, rfl, rfl, rfl, rfl, rfl⟩ (.inl ⟨rfl, rfl, rfl, fun _ _ => rfl⟩) (by omega) (fun v1 Lv1 hv1 => ?_)
    refine WO.permF (L' := [(p, .cells [.int .i64 x, .int .i64 y] 81)] ++ Lv1) List.perm_append_comm ?_
    (refine St.assign ?_; refine WO.nil ?_; refine WK.seq ?_; refine WK.region ?_; refine St.move ?_; refine St.load ?_; refine St.mkS fun _ _ => ?_)
    rename_i i2 hi2
    refine St.appL (new := [.int .i64 x, .int .i64 y]) (Lk := [(i2, .cells [.int .i64 x, .int .i64 y] 81), (p, .cells [.int .i64 x, .int .i64 y] 81)]) hv1 List.perm_append_comm (fun v2 Lv2 hv2 => ?_) ⟨rfl, rfl, rfl, rfl, rfl, rfl, rfl, rfl, rfl, rfl, rfl, rfl⟩ (List.Mem.head _) rfl (by omega) (by omega)
    refine WO.permF (L' := [(i2, .cells [.int .i64 x, .int .i64 y] 81), (p, .cells [.int .i64 x, .int .i64 y] 81)] ++ Lv2) List.perm_append_comm ?_
    (refine St.assign ?_; refine WO.nil ?_; refine WK.seq ?_; refine WK.region ?_; refine St.move ?_; refine St.move ?_; refine St.move ?_)
    refine St.sliceV (v := .slice0) (fun h2 hh => ?_) ?_
    · show plainV (evSlice Tryz.prog h2 22 .slice0 (some (.int .i64 0)) none none) h2 = _
      rw [sl_nilF]
      rfl
    skip
    refine St.appA (e := 81) (sz := 2) (n := 0) (new := []) (Lk := [(i2, .cells [.int .i64 x, .int .i64 y] 81), (p, .cells [.int .i64 x, .int .i64 y] 81)]) hv2 List.perm_append_comm ⟨rfl, rfl, rfl, rfl, rfl, rfl, rfl, rfl⟩ (.inl ⟨rfl, rfl, rfl, fun _ _ => rfl⟩) (by omega) (fun v3 Lv3 hv3 => ?_)
    (refine St.assign ?_; refine WO.nil ?_)
    refine St.ret (by first | exact .tmp .nil | exact .cell .nil | exact .cell (.tmp .nil) | exact .tmp (.tmp .nil) | exact .cell (.cell .nil) | exact .tmp (.cell .nil) | exact .nil | exact .tmp (.cell (.tmp .nil)) | exact .cell (.tmp (.tmp .nil)) | exact .cell (.cell (.tmp .nil)) | exact .tmp (.tmp (.tmp .nil)) | exact .cell (.cell (.cell .nil))) ?_
    exact ⟨Lv3, List.sublist_append_left _ _, [(x, y)], ⟨0, Nat.le_refl _, fun j hj => absurd hj (by omega), fun hj => absurd hj (by simp), .inr ⟨by simp, rfl⟩⟩, .inr hv3⟩
  · refine Con.subR (Con.startR rfl Tryz.func45 rfl rfl Tryz.ntmps45 rfl rfl (SS.init g) ?_)
    (refine WK.seq ?_; refine WK.region ?_; refine St.box fun _ _ => ?_; refine St.assign ?_; refine WO.nil ?_; refine WK.seq ?_; refine WK.region ?_; refine St.assign ?_; refine WO.nil ?_; refine WK.seq ?_; refine WK.block ?_)
    rename_i p hp
    refine WK.inv (ι := Nat) (fun k => [(0, .slice i 0 ps.length c), (3, .ptr p 0), (5, .int .i64 k)]) (fun _ => [(p, .cells [.int .i64 x, .int .i64 y] 81)]) (fun k => k ≤ ps.length ∧ ∀ j, j < k → kx ps j < x) (fun k => ps.length - k) 0 ⟨by omega, fun j hj => absurd hj (by omega)⟩ ⟨rfl, rfl, rfl, trivial⟩ (by (repeat (first | exact List.Sublist.refl _ | exact List.nil_sublist _ | apply List.Sublist.cons_cons | apply List.Sublist.cons))) ?_
    intro k ⟨hkl, hlow⟩ ih
    (refine WK.seq ?_; refine WK.seq ?_; refine WK.regionD ?_; refine St.move ?_; refine St.move ?_; refine St.len ?_; refine St.bin ?_; refine St.move ?_)
    refine St.split (fun hc => ?_) (fun hc => ?_)
    · have hlt : k < ps.length := by simp at hc; omega
      (refine St.move ?_; refine St.move ?_)
      refine St.at ?_
      (refine St.fieldAddr ?_)
      refine St.loadX (fun h hh => ((hk.vw hh).x hlt).one rfl) ?_
      (refine St.fieldAddr ?_; refine St.load ?_; refine St.bin ?_; refine St.pickT ?_; refine WO.nil ?_)
      refine St.splitC (fun hc2 => ?_) (fun hc2 => ?_)
      · have hx : kx ps k < x := by simpa using hc2
        (refine WK.skip ?_; refine WK.block ?_; refine WK.region ?_; refine St.move ?_; refine St.binI ?_; refine St.assign ?_; refine WO.nil ?_; refine WK.blk ?_)
        refine WK.le ?_ (by (repeat (first | exact List.Sublist.refl _ | exact List.nil_sublist _ | apply List.Sublist.cons_cons | apply List.Sublist.cons))) (ih (k + 1) ⟨hlt, fun j hj => ?_⟩ (by omega))
        · exact ⟨rfl, rfl, rfl, trivial⟩
        · rcases Nat.lt_succ_iff_lt_or_eq.1 hj with h1 | rfl
          · exact hlow j h1
          · exact hx
      · have hge : x ≤ kx ps k := by simp at hc2; omega
        clear ih
        (refine WK.exit ?_; refine WK.seq ?_; refine WK.seq ?_; refine WK.regionD ?_; refine St.move ?_; refine St.move ?_; refine St.len ?_; refine St.bin ?_; refine St.move ?_)
        refine St.split (fun _ => ?_) (fun hc3 => ?_)
        rotate_left
        · simp at hc3; omega
        (refine St.move ?_; refine St.move ?_)
        refine St.at ?_
        (refine St.fieldAddr ?_)
        refine St.loadX (fun h hh => ((hk.vw hh).x hlt).one rfl) ?_
        (refine St.fieldAddr ?_; refine St.load ?_; refine St.bin ?_; refine St.pickT ?_; refine WO.nil ?_)
        refine St.splitC (fun hc4 => ?_) (fun hc4 => ?_)
        · have he : kx ps k = x := by simpa using hc4
          (refine WK.seq ?_; refine WK.region ?_; refine St.move ?_; refine St.assign ?_; refine WO.nil ?_)
          refine St.ret (by first | exact .tmp .nil | exact .cell .nil | exact .cell (.tmp .nil) | exact .tmp (.tmp .nil) | exact .cell (.cell .nil) | exact .tmp (.cell .nil) | exact .nil | exact .tmp (.cell (.tmp .nil)) | exact .cell (.tmp (.tmp .nil)) | exact .cell (.cell (.tmp .nil)) | exact .tmp (.tmp (.tmp .nil)) | exact .cell (.cell (.cell .nil))) ?_
          exact ⟨[], List.nil_sublist _, ps, ⟨k, hkl, hlow, fun _ => hge, .inl ⟨hlt, he, rfl⟩⟩, .inl ⟨rfl, rfl, rfl⟩⟩
        have hne : kx ps k ≠ x := by simpa using hc4
        (refine WK.skip ?_; refine WK.seq ?_; refine WK.region ?_; refine St.mkS fun _ _ => ?_; refine St.move ?_; refine St.move ?_)
        rename_i i1 hi1
        refine St.sliceV (v := .slice i 0 k c) (fun h2 hh => ?_) ?_
        · show plainV (evSlice Tryz.prog h2 22 (.slice i 0 ps.length c) none (some (.int .i64 k)) none) h2 = _
          rw [sl_to (hq.vw hh) hkl]
          rfl
        skip
        refine St.appA (e := 81) (sz := 2) (n := k) (new := flatA (ps.take k)) (len := 0) (old := []) (Lv := [(i1, .cells [] 81)]) (Lk := [(p, .cells [.int .i64 x, .int .i64 y] 81)]) (IsL.cells i1 0 [] _ rfl rfl (Nat.le_refl _)) (List.Perm.refl _) ⟨rfl, rfl, rfl, rfl, rfl, rfl, rfl, rfl⟩ (comes_take hk hq hkl (by omega)) (by omega) (fun v1 Lv1 hv1 => ?_)
        refine WO.permF (L' := [(p, .cells [.int .i64 x, .int .i64 y] 81)] ++ Lv1) List.perm_append_comm ?_
        (refine St.assign ?_; refine WO.nil ?_; refine WK.seq ?_; refine WK.region ?_; refine St.move ?_; refine St.load ?_; refine St.mkS fun _ _ => ?_)
        rename_i i2 hi2
        refine St.appL (new := [.int .i64 x, .int .i64 y]) (Lk := [(i2, .cells [.int .i64 x, .int .i64 y] 81), (p, .cells [.int .i64 x, .int .i64 y] 81)]) hv1 List.perm_append_comm (fun v2 Lv2 hv2 => ?_) ⟨rfl, rfl, rfl, rfl, rfl, rfl, rfl, rfl, rfl, rfl, rfl, rfl⟩ (List.Mem.head _) rfl (by omega) (by omega)
        refine WO.permF (L' := [(i2, .cells [.int .i64 x, .int .i64 y] 81), (p, .cells [.int .i64 x, .int .i64 y] 81)] ++ Lv2) List.perm_append_comm ?_
        (refine St.assign ?_; refine WO.nil ?_; refine WK.seq ?_; refine WK.region ?_; refine St.move ?_; refine St.move ?_; refine St.move ?_)
        refine St.sliceV (v := .slice i (0 + k * 2) (ps.length - k) (slC c k)) (fun h2 hh => ?_) ?_
        · show plainV (evSlice Tryz.prog h2 22 (.slice i 0 ps.length c) (some (.int .i64 k)) none none) h2 = _
          obtain ⟨c2, e1, e2⟩ := sl_from (hq.vw hh) hlt
          rw [e1, e2]
          rfl
        skip
        refine St.appA (e := 81) (sz := 2) (n := ps.length - k) (new := flatA (ps.drop k)) (Lk := [(i2, .cells [.int .i64 x, .int .i64 y] 81), (p, .cells [.int .i64 x, .int .i64 y] 81)]) hv2 List.perm_append_comm ⟨rfl, rfl, rfl, rfl, rfl, rfl, rfl, rfl⟩ (comes_drop hk hlt (by omega)) (by omega) (fun v3 Lv3 hv3 => ?_)
        (refine St.assign ?_; refine WO.nil ?_)
        refine St.ret (by first | exact .tmp .nil | exact .cell .nil | exact .cell (.tmp .nil) | exact .tmp (.tmp .nil) | exact .cell (.cell .nil) | exact .tmp (.cell .nil) | exact .nil | exact .tmp (.cell (.tmp .nil)) | exact .cell (.tmp (.tmp .nil)) | exact .cell (.cell (.tmp .nil)) | exact .tmp (.tmp (.tmp .nil)) | exact .cell (.cell (.cell .nil))) ?_
        refine ⟨Lv3, List.sublist_append_left _ _, ps.take k ++ (x, y) :: ps.drop k, ⟨k, hkl, hlow, fun _ => hge, .inr ⟨fun h2 => hne h2.2, rfl⟩⟩, .inr ?_⟩
        have e : flatA (ps.take k ++ (x, y) :: ps.drop k) = [] ++ flatA (ps.take k) ++ [.int .i64 x, .int .i64 y] ++ flatA (ps.drop k) := by rw [flatA_app]; simp [flatA]
        unfold IsKn
        rw [e, show (ps.take k ++ (x, y) :: ps.drop k).length = 0 + k + 1 + (ps.length - k) by simp <;> omega]
        exact hv3
    · have hk' : k = ps.length := by simp at hc; omega
      subst hk'
      clear ih
      (refine St.skip ?_; refine St.skip ?_; refine St.skip ?_; refine St.skip ?_; refine St.skip ?_; refine St.skip ?_; refine St.skip ?_; refine St.skip ?_; refine St.pickF ?_; refine WO.nil ?_; refine WK.condF ?_; refine WK.exit ?_; refine WK.seq ?_; refine WK.seq ?_; refine WK.regionD ?_; refine St.move ?_; refine St.move ?_; refine St.len ?_; refine St.bin ?_; refine St.move ?_)
      refine St.split (fun hc3 => ?_) (fun _ => ?_)
      · simp at hc3
      (refine St.skip ?_; refine St.skip ?_; refine St.skip ?_; refine St.skip ?_; refine St.skip ?_; refine St.skip ?_; refine St.skip ?_; refine St.skip ?_; refine St.pickF ?_; refine WO.nil ?_; refine WK.condF ?_; refine WK.skip ?_; refine WK.seq ?_; refine WK.region ?_; refine St.mkS fun _ _ => ?_; refine St.move ?_; refine St.move ?_)
      rename_i i1 hi1
      refine St.sliceV (v := .slice i 0 ps.length c) (fun h2 hh => ?_) ?_
      · show plainV (evSlice Tryz.prog h2 22 (.slice i 0 ps.length c) none (some (.int .i64 ps.length)) none) h2 = _
        rw [sl_to (hq.vw hh) (Nat.le_refl _)]
        rfl
      skip
      refine St.appA (e := 81) (sz := 2) (n := ps.length) (new := flatA (ps.take ps.length)) (len := 0) (old := []) (Lv := [(i1, .cells [] 81)]) (Lk := [(p, .cells [.int .i64 x, .int .i64 y] 81)]) (IsL.cells i1 0 [] _ rfl rfl (Nat.le_refl _)) (List.Perm.refl _) ⟨rfl, rfl, rfl, rfl, rfl, rfl, rfl, rfl⟩ (comes_take hk hq (Nat.le_refl _) (by omega)) (by omega) (fun v1 Lv1 hv1 => ?_)
      refine WO.permF (L' := [(p, .cells [.int .i64 x, .int .i64 y] 81)] ++ Lv1) List.perm_append_comm ?_
      (refine St.assign ?_; refine WO.nil ?_; refine WK.seq ?_; refine WK.region ?_; refine St.move ?_; refine St.load ?_; refine St.mkS fun _ _ => ?_)
      rename_i i2 hi2
      refine St.appL (new := [.int .i64 x, .int .i64 y]) (Lk := [(i2, .cells [.int .i64 x, .int .i64 y] 81), (p, .cells [.int .i64 x, .int .i64 y] 81)]) hv1 List.perm_append_comm (fun v2 Lv2 hv2 => ?_) ⟨rfl, rfl, rfl, rfl, rfl, rfl, rfl, rfl, rfl, rfl, rfl, rfl⟩ (List.Mem.head _) rfl (by omega) (by omega)
      refine WO.permF (L' := [(i2, .cells [.int .i64 x, .int .i64 y] 81), (p, .cells [.int .i64 x, .int .i64 y] 81)] ++ Lv2) List.perm_append_comm ?_
      (refine St.assign ?_; refine WO.nil ?_; refine WK.seq ?_; refine WK.region ?_; refine St.move ?_; refine St.move ?_; refine St.move ?_)
      refine St.sliceV (v := slEnd i c ps.length) (fun h2 hh => ?_) ?_
      · show plainV (evSlice Tryz.prog h2 22 (.slice i 0 ps.length c) (some (.int .i64 ps.length)) none none) h2 = _
        rw [(sl_end (hq.vw hh)).1]
        rfl
      skip
      refine St.appA (e := 81) (sz := 2) (n := ps.length - ps.length) (new := flatA (ps.drop ps.length)) (Lk := [(i2, .cells [.int .i64 x, .int .i64 y] 81), (p, .cells [.int .i64 x, .int .i64 y] 81)]) hv2 List.perm_append_comm ⟨rfl, rfl, rfl, rfl, rfl, rfl, rfl, rfl⟩ (comes_end hq) (by omega) (fun v3 Lv3 hv3 => ?_)
      (refine St.assign ?_; refine WO.nil ?_)
      refine St.ret (by first | exact .tmp .nil | exact .cell .nil | exact .cell (.tmp .nil) | exact .tmp (.tmp .nil) | exact .cell (.cell .nil) | exact .tmp (.cell .nil) | exact .nil | exact .tmp (.cell (.tmp .nil)) | exact .cell (.tmp (.tmp .nil)) | exact .cell (.cell (.tmp .nil)) | exact .tmp (.tmp (.tmp .nil)) | exact .cell (.cell (.cell .nil))) ?_
      refine ⟨Lv3, List.sublist_append_left _ _, ps.take ps.length ++ (x, y) :: ps.drop ps.length, ⟨ps.length, Nat.le_refl _, hlow, fun h2 => absurd h2 (by omega), .inr ⟨fun h2 => absurd h2.1 (by omega), rfl⟩⟩, .inr ?_⟩
      have e : flatA (ps.take ps.length ++ (x, y) :: ps.drop ps.length) = [] ++ flatA (ps.take ps.length) ++ [.int .i64 x, .int .i64 y] ++ flatA (ps.drop ps.length) := by rw [flatA_app]; simp [flatA]
      unfold IsKn
      rw [e, show (ps.take ps.length ++ (x, y) :: ps.drop ps.length).length = 0 + ps.length + 1 + (ps.length - ps.length) by simp <;> omega]
      exact hv3
end Go.Proofs.YtbhklifflhoinaaGreat
