/- The program's bends, and Same on both sides, over the calculator's memory. -/
import Derived.Test.YtbhklifflhoinaaGreatTh
import Derived.Test.YtbhklifflhoinaaGreatCx
import Derived.Test.YtbhklifflhoinaaGreatRc
namespace Go.Proofs.YtbhklifflhoinaaGreat
open Go.Proofs.YtbhklifflhoinaaGreat.Ev

/-- the piece before piece k, as the program holds it -/
def befC (ks : List (Int × Int)) : Nat → List AV
  | 0 => [.int .i64 0, .int .i64 0, .int .i64 0, .int .i64 0]
  | k + 1 => [.int .i64 (kx ks k), .int .i64 (ky ks k), .int .i64 (kx ks (k + 1)), .int .i64 (ky ks (k + 1))]
set_option maxRecDepth 100000 in
set_option maxHeartbeats 16000000 in
theorem bends_con (h : Heap) (g : Gd h) (b off : Nat) (c : ACap) (ks : List (Int × Int)) (err : Int) (v : Vd ks err) (hk : KnH h b off ks) :
    ∃ w L, Con Tryz.prog Bs 46 [.agg [.slice b off ks.length c, .int .i64 err]] h [] w L ∧ IsKn (thinK ks) w L := by
  have hlen : ks.length ≤ 40 := v.le
  have hpos := v.pos
  have hb := (hk.x v.pos).lt
  refine Con.subR (Con.startR rfl Tryz.func46 rfl rfl Tryz.ntmps46 rfl rfl (SS.init g) ?_)
  (refine WK.seq ?_; refine WK.region ?_; refine St.box fun _ _ => ?_; refine St.assign ?_; refine WO.nil ?_; refine WK.seq ?_; refine WK.region ?_; refine St.fieldAddr ?_; refine St.load ?_)
  refine St.at ?_
  refine St.loadX (fun h hh => ((hk.vw hh).at_ (z := 0) (n := 0) (by omega) (by omega)).agg (by simp) rfl rfl rfl) ?_
  (refine St.mkS fun _ _ => ?_; refine St.alloc fun _ _ => ?_; refine St.store0 ?_; refine WO.nil ?_; refine WK.seq ?_; refine WK.region ?_; refine St.alloc fun _ _ => ?_; refine WO.nil ?_; refine WK.seq ?_; refine WK.seq ?_; refine WK.region ?_; refine St.load ?_)
  rename_i p1 hp1 i9 hi9 u3 hu3 u4 hu4
  refine St.call1 (fun _ => rfl) (fun h hh => pieces_con h hh.gd _ _) (fun j hj => ?_)
  (refine WO.nil ?_; refine WK.block ?_)
  refine WK.le (s' := [(1, .ptr p1 0), (3, .ptr u3 0), (4, .ptr u4 0), (13, .fn (.func 123) [] [.ptr j 0])]) (L' := [(j, .cells [.slice b off ks.length c, .int .i64 err] 24), (u4, .cells (befC ks 0) 138), (u3, .cells [.slice i9 0 1 (.k 1)] 22), (i9, .cells [.int .i64 (kx ks 0), .int .i64 (ky ks 0)] 81), (p1, .cells [.slice b off ks.length c, .int .i64 err] 24)]) ⟨rfl, rfl, rfl, rfl, trivial⟩ (by (repeat (first | exact List.Sublist.refl _ | exact List.nil_sublist _ | apply List.Sublist.cons_cons | apply List.Sublist.cons))) ?_
  refine WK.rangeQ (Lw := [(u4, .cells (befC ks 0) 138), (u3, .cells [.slice i9 0 1 (.k 1)] 22), (i9, .cells [.int .i64 (kx ks 0), .int .i64 (ky ks 0)] 81)]) (Lk := [(j, .cells [.slice b off ks.length c, .int .i64 err] 24), (p1, .cells [.slice b off ks.length c, .int .i64 err] 24)])
    (R := fun L' => ∃ w Lv, IsKn (thinTo ks (max (ks.length - 1) 1)) w Lv ∧ L' = (u4, .cells (befC ks (ks.length - 1)) 138) :: (u3, .cells [w] 22) :: Lv)
    rfl (by (repeat (first | exact List.Perm.refl _ | refine perm_at 0 rfl ?_ | refine perm_at 1 rfl ?_ | refine perm_at 2 rfl ?_ | refine perm_at 3 rfl ?_ | refine perm_at 4 rfl ?_ | refine perm_at 5 rfl ?_ | refine perm_at 6 rfl ?_ | refine perm_at 7 rfl ?_ | refine perm_at 8 rfl ?_ | refine perm_at 9 rfl ?_))) ?_ ?_
  · intro dq r lq h' hq' hs
    have hju : j ∉ r :: [u4, u3, i9] ∧ h.next ≤ r := by
      have h1 := hs.nodup
      simp at h1
      have h2 := (hs.own _ List.mem_cons_self).2.2.2
      simp at h2
      simp
      grind
    have hold : ∀ x ∈ r :: [u4, u3, i9], h.next ≤ x := by
      intro x hx
      simp only [List.mem_cons, List.not_mem_nil, or_false] at hx
      rcases hx with rfl | rfl | rfl | rfl
      · exact hju.2
      · assumption
      · assumption
      · assumption
    refine (yields_rel h' r j b off c ks err lq [(u4, .cells (befC ks 0) 138), (u3, .cells [.slice i9 0 1 (.k 1)] 22), (i9, .cells [.int .i64 (kx ks 0), .int .i64 (ky ks 0)] 81)] (fun k Lk => ∃ w Lv, IsKn (thinTo ks (max k 1)) w Lv ∧ Lk = (u4, .cells (befC ks k) 138) :: (u3, .cells [w] 22) :: Lv) (by omega) ?_ ?_ hju.1 ?_ ?_ ?_ ?_ ?_).elim fun Ln hLn => ⟨_, Ln, hLn.2, hLn.1⟩
    · exact (hs.own (j, .cells [.slice b off ks.length c, .int .i64 err] 24) (by simp)).1
    · exact (hs.own (j, .cells [.slice b off ks.length c, .int .i64 err] 24) (by simp)).2.2.1
    · exact fun i hi => hs.vw.rds (by simp) (hk i hi)
    · exact fun hm => by have := hold b hm; omega
    · exact (hs.sub (L' := (r, _) :: [(u4, .cells (befC ks 0) 138), (u3, .cells [.slice i9 0 1 (.k 1)] 22), (i9, .cells [.int .i64 (kx ks 0), .int .i64 (ky ks 0)] 81)]) (by (repeat (first | exact List.Sublist.refl _ | exact List.nil_sublist _ | apply List.Sublist.cons_cons | apply List.Sublist.cons)))).lend
    · refine ⟨_, _, ?_, rfl⟩
      show IsKn (thinTo ks 1) _ _
      rw [thinTo_one]
      have := IsL.cells (e := 81) (sz := 2) (len := 1) (l := [.int .i64 (kx ks 0), .int .i64 (ky ks 0)]) i9 1 [] 81 rfl rfl (by omega)
      exact this
    · rintro k Lk ⟨w, Lv, hw, rfl⟩ hk1 h'' hh
      have hWW := hh.ltW
      obtain ⟨⟨a1, a2⟩, ⟨a3, a4⟩, a5, a6, a7⟩ := v.pc hk1
      have e := ConR.enterQ (P := Tryz.prog) (B := Bs) (args := [.int .i64 k, pcV ks k]) (R := fun v' L' => v' = .bool true ∧ ∃ w' Lv', IsKn (thinTo ks (k + 1)) w' Lv' ∧ L' = (r, .loop lq) :: (u4, .cells (befC ks (k + 1)) 138) :: (u3, .cells [w'] 22) :: Lv') hq' hh.lend (hh.own _ List.mem_cons_self).1 rfl rfl rfl (by
        cases k with
        | zero =>
          have hw1 : IsKn (thinTo ks 1) w Lv := hw
          (refine WK.seq ?_; refine WK.region ?_; refine St.assign ?_; refine WO.nil ?_; refine WK.region ?_; refine St.alloc fun _ _ => ?_; refine St.store0 ?_; refine WO.nil ?_)
          rename_i x hx
          refine WK.busyQ hq'.st (A := [(_, _)]) rfl ?_
          (refine WK.block ?_; refine WK.seq ?_; refine WK.seq ?_; refine WK.regionD ?_; refine St.move ?_; refine St.bin ?_; refine St.move ?_; refine St.skip ?_; refine St.skip ?_; refine St.skip ?_; refine St.skip ?_; refine St.skip ?_; refine St.skip ?_; refine St.skip ?_; refine St.skip ?_; refine St.skip ?_; refine St.skip ?_; refine St.skip ?_; refine St.pickF ?_; refine WO.nil ?_; refine WK.condF ?_; refine WK.skip ?_; refine WK.region ?_; refine St.load ?_; refine St.store2 ?_; refine WO.nil ?_; refine WK.blk ?_)
          refine WK.le (s' := []) (L' := (r, .loop lq.busy) :: (u4, .cells (befC ks (0 + 1)) 138) :: (u3, .cells [w] 22) :: Lv) trivial (by (repeat (first | exact List.Sublist.refl _ | exact List.nil_sublist _ | apply List.Sublist.cons_cons | apply List.Sublist.cons))) ?_
          refine WK.endQ (A := []) (C := (u4, .cells (befC ks (0 + 1)) 138) :: (u3, .cells [w] 22) :: Lv) (List.Perm.refl _) ⟨rfl, w, Lv, hw1, by rw [hq'.left]; rfl⟩
        | succ m =>
          have hm1 : max (m + 1) 1 = m + 1 := by omega
          rw [hm1] at hw
          have htl := thinTo_len ks (m + 1)
          have hts := thinTo_succ ks (m + 1)
          have hkp : keepK ks (m + 1) = bendAt ks (m + 1) := by unfold keepK; rw [decide_eq_false (by omega), decide_eq_false (by omega)]; rfl
          obtain ⟨⟨b1, b2⟩, ⟨b3, b4⟩, b5, b6, b7⟩ := v.pc (i := m) (by omega)
          obtain ⟨m1, m2⟩ := mul_bd (a := ky ks (m + 1) - ky ks m) (b := kx ks (m + 1 + 1) - kx ks (m + 1)) (A := 131072) (B := 2000) (by omega) (by omega) (by omega) (by omega)
          obtain ⟨m3, m4⟩ := mul_bd (a := ky ks (m + 1 + 1) - ky ks (m + 1)) (b := kx ks (m + 1) - kx ks m) (A := 131072) (B := 2000) (by omega) (by omega) (by omega) (by omega)
          (refine WK.seq ?_; refine WK.region ?_; refine St.assign ?_; refine WO.nil ?_; refine WK.region ?_; refine St.alloc fun _ _ => ?_; refine St.store0 ?_; refine WO.nil ?_)
          rename_i x hx
          refine WK.busyQ hq'.st (A := [(_, _)]) rfl ?_
          (refine WK.block ?_; refine WK.seq ?_; refine WK.seq ?_; refine WK.regionD ?_; refine St.move ?_; refine St.bin ?_; refine St.move ?_)
          refine St.split (fun hc => ?_) (fun hc => ?_)
          rotate_left
          · have := of_decide_eq_false hc; omega
          (refine St.load ?_)
          refine St.call (fun _ => rfl) (fun h hh => rise_con h hh.gd (kx ks m) (ky ks m) (kx ks (m + 1)) (ky ks (m + 1)) (by omega) (by omega) (by omega) (by omega)) ?_
          (refine St.load ?_)
          refine St.call (fun _ => rfl) (fun h hh => run_con h hh.gd (kx ks (m + 1)) (ky ks (m + 1)) (kx ks (m + 1 + 1)) (ky ks (m + 1 + 1)) (by omega) (by omega) (by omega) (by omega)) ?_
          (refine St.binI ?_; refine St.load ?_)
          refine St.call (fun _ => rfl) (fun h hh => rise_con h hh.gd (kx ks (m + 1)) (ky ks (m + 1)) (kx ks (m + 1 + 1)) (ky ks (m + 1 + 1)) (by omega) (by omega) (by omega) (by omega)) ?_
          (refine St.load ?_)
          refine St.call (fun _ => rfl) (fun h hh => run_con h hh.gd (kx ks m) (ky ks m) (kx ks (m + 1)) (ky ks (m + 1)) (by omega) (by omega) (by omega) (by omega)) ?_
          (refine St.binI ?_; refine St.bin ?_; refine St.pickT ?_; refine WO.nil ?_)
          refine St.splitC (fun hc2 => ?_) (fun hc2 => ?_)
          · have hkt : keepK ks (m + 1) = true := by rw [hkp]; exact hc2
            rw [if_pos hkt] at hts
            (refine WK.region ?_; refine St.load ?_; refine St.fieldAddr ?_; refine St.load ?_; refine St.mkS fun _ _ => ?_)
            rename_i i2 hi2
            refine St.appL (new := [.int .i64 (kx ks (m + 1)), .int .i64 (ky ks (m + 1))]) (Lk := [(i2, .cells [.int .i64 (kx ks (m + 1)), .int .i64 (ky ks (m + 1))] 81), (x, .cells [.int .i64 (kx ks (m + 1)), .int .i64 (ky ks (m + 1)), .int .i64 (kx ks (m + 1 + 1)), .int .i64 (ky ks (m + 1 + 1))] 138), (r, .loop lq.busy), (u4, .cells (befC ks (m + 1)) 138), (u3, .cells [w] 22)]) hw List.perm_append_comm (fun w3 Lv3 hw3 => ?_) ⟨rfl, rfl, rfl, rfl, rfl, rfl, rfl, rfl, rfl, rfl, rfl, rfl⟩ (List.Mem.head _) rfl (by omega) (by omega)
            refine WO.permF (L' := [(i2, .cells [.int .i64 (kx ks (m + 1)), .int .i64 (ky ks (m + 1))] 81), (x, .cells [.int .i64 (kx ks (m + 1)), .int .i64 (ky ks (m + 1)), .int .i64 (kx ks (m + 1 + 1)), .int .i64 (ky ks (m + 1 + 1))] 138), (r, .loop lq.busy), (u4, .cells (befC ks (m + 1)) 138), (u3, .cells [w] 22)] ++ Lv3) List.perm_append_comm ?_
            have hw4 : IsKn (thinTo ks (m + 1 + 1)) w3 Lv3 := by
              rw [hts]
              unfold IsKn
              rw [flatA_snoc, List.length_append]
              exact hw3
            obtain ⟨i3, c3, o3, rfl, rfl, _, _⟩ := hw3.ne (by omega)
            (refine St.store4 ?_; refine WO.nil ?_; refine WK.region ?_; refine St.load ?_; refine St.store3 ?_; refine WO.nil ?_; refine WK.blk ?_)
            refine WK.le (s' := []) (L' := (r, .loop lq.busy) :: (u4, .cells (befC ks (m + 1 + 1)) 138) :: (u3, .cells [.slice i3 0 ((thinTo ks (m + 1)).length + 1) c3] 22) :: [(i3, o3)]) trivial (by (repeat (first | exact List.Sublist.refl _ | exact List.nil_sublist _ | apply List.Sublist.cons_cons | apply List.Sublist.cons))) ?_
            refine WK.endQ (A := []) (C := (u4, .cells (befC ks (m + 1 + 1)) 138) :: (u3, .cells [.slice i3 0 ((thinTo ks (m + 1)).length + 1) c3] 22) :: [(i3, o3)]) (List.Perm.refl _) ⟨rfl, _, _, hw4, by rw [hq'.left]; rfl⟩
          · have hkt : ¬ keepK ks (m + 1) = true := by rw [hkp]; unfold bendAt; simp only [Nat.add_sub_cancel]; simpa using hc2
            rw [if_neg hkt, List.append_nil] at hts
            (refine WK.skip ?_; refine WK.region ?_; refine St.load ?_; refine St.store2 ?_; refine WO.nil ?_; refine WK.blk ?_)
            refine WK.le (s' := []) (L' := (r, .loop lq.busy) :: (u4, .cells (befC ks (m + 1 + 1)) 138) :: (u3, .cells [w] 22) :: Lv) trivial (by (repeat (first | exact List.Sublist.refl _ | exact List.nil_sublist _ | apply List.Sublist.cons_cons | apply List.Sublist.cons))) ?_
            refine WK.endQ (A := []) (C := (u4, .cells (befC ks (m + 1 + 1)) 138) :: (u3, .cells [w] 22) :: Lv) (List.Perm.refl _) ⟨rfl, w, Lv, by rw [hts]; exact hw, by rw [hq'.left]; rfl⟩)
      obtain ⟨v', L', q1, rfl, w', Lv', q2, rfl⟩ := e
      exact ⟨_, ⟨w', Lv', by rw [show max (k + 1) 1 = k + 1 by omega]; exact q2, rfl⟩, q1⟩
  · rintro dq L' ⟨w, Lv, hw, rfl⟩
    refine WK.perm (L' := [(dq, .deferred true), (j, .cells [.slice b off ks.length c, .int .i64 err] 24), (p1, .cells [.slice b off ks.length c, .int .i64 err] 24)] ++ (u4, .cells (befC ks (ks.length - 1)) 138) :: (u3, .cells [w] 22) :: Lv) List.perm_append_comm ?_
    by_cases hn : ks.length = 1
    · have hw1 : IsKn (thinK ks) w Lv := by
        unfold thinK
        rw [show max (ks.length - 1) 1 = ks.length by omega] at hw
        exact hw
      (refine WK.blk ?_; refine WK.seq ?_; refine WK.seq ?_; refine WK.region ?_; refine St.fieldAddr ?_; refine St.load ?_; refine St.len ?_; refine St.bin ?_; refine WO.nil ?_)
      refine St.splitC (fun hc => ?_) (fun hc => ?_)
      · simp at hc; omega
      (refine WK.skip ?_; refine WK.seq ?_; refine WK.region ?_; refine St.load ?_; refine St.assign ?_; refine WO.nil ?_)
      refine St.ret1 (A := []) (C := (j, .cells [.slice b off ks.length c, .int .i64 err] 24) :: (p1, .cells [.slice b off ks.length c, .int .i64 err] 24) :: (u4, .cells (befC ks (ks.length - 1)) 138) :: (u3, .cells [w] 22) :: Lv) rfl (.tmp .nil) ?_
      exact ⟨Lv, by (repeat (first | exact List.Sublist.refl _ | exact List.nil_sublist _ | apply List.Sublist.cons_cons | apply List.Sublist.cons)), hw1⟩
    · obtain ⟨m, hm⟩ : ∃ m, ks.length = m + 1 + 1 := ⟨ks.length - 2, by omega⟩
      have hkt : keepK ks (m + 1) = true := by unfold keepK; rw [decide_eq_true (show m + 1 + 1 = ks.length by omega)]; simp
      have htl := thinTo_len ks (m + 1)
      have hts := thinTo_succ ks (m + 1)
      rw [if_pos hkt] at hts
      rw [show max (ks.length - 1) 1 = m + 1 by omega] at hw
      rw [show ks.length - 1 = m + 1 by omega]
      (refine WK.blk ?_; refine WK.seq ?_; refine WK.seq ?_; refine WK.region ?_; refine St.fieldAddr ?_; refine St.load ?_; refine St.len ?_; refine St.bin ?_; refine WO.nil ?_)
      refine St.splitC (fun hc => ?_) (fun hc => ?_)
      rotate_left
      · simp at hc; omega
      (refine WK.region ?_; refine St.load ?_; refine St.fieldAddr ?_; refine St.load ?_; refine St.mkS fun _ _ => ?_)
      rename_i i2 hi2
      refine St.appL (new := [.int .i64 (kx ks (m + 1)), .int .i64 (ky ks (m + 1))]) (Lk := [(i2, .cells [.int .i64 (kx ks (m + 1)), .int .i64 (ky ks (m + 1))] 81), (dq, .deferred true), (j, .cells [.slice b off ks.length c, .int .i64 err] 24), (p1, .cells [.slice b off ks.length c, .int .i64 err] 24), (u4, .cells (befC ks (m + 1)) 138), (u3, .cells [w] 22)]) hw List.perm_append_comm (fun w3 Lv3 hw3 => ?_) ⟨rfl, rfl, rfl, rfl, rfl, rfl, rfl, rfl, rfl, rfl, rfl, rfl⟩ (List.Mem.head _) rfl (by omega) (by omega)
      refine WO.permF (L' := [(i2, .cells [.int .i64 (kx ks (m + 1)), .int .i64 (ky ks (m + 1))] 81), (dq, .deferred true), (j, .cells [.slice b off ks.length c, .int .i64 err] 24), (p1, .cells [.slice b off ks.length c, .int .i64 err] 24), (u4, .cells (befC ks (m + 1)) 138), (u3, .cells [w] 22)] ++ Lv3) List.perm_append_comm ?_
      have hw4 : IsKn (thinK ks) w3 Lv3 := by
        unfold thinK
        rw [hm, hts]
        unfold IsKn
        rw [flatA_snoc, List.length_append]
        exact hw3
      obtain ⟨i3, c3, o3, rfl, rfl, _, _⟩ := hw3.ne (by omega)
      (refine St.store5 ?_; refine WO.nil ?_; refine WK.seq ?_; refine WK.region ?_; refine St.load ?_; refine St.assign ?_; refine WO.nil ?_)
      refine St.ret1 (A := [(i2, .cells [.int .i64 (kx ks (m + 1)), .int .i64 (ky ks (m + 1))] 81)]) rfl (.tmp .nil) ?_
      exact ⟨[(i3, o3)], by (repeat (first | exact List.Sublist.refl _ | exact List.nil_sublist _ | apply List.Sublist.cons_cons | apply List.Sublist.cons)), hw4⟩
def sameA (ka : List (Int × Int)) (ea : Int) (kb : List (Int × Int)) (eb : Int) : Bool := decide (chk2 ka ea kb eb = 0) && ((ea == eb) && decide (thinK ka = thinK kb))
theorem thinK_len (ks : List (Int × Int)) : (thinK ks).length ≤ ks.length := thinTo_len ks _
set_option maxRecDepth 100000 in
set_option maxHeartbeats 8000000 in
theorem sameP_con (h : Heap) (g : Gd h) (kva kvb : AV) (ka kb : List (Int × Int)) (ea eb : Int) (hka : KnV h kva ka) (hkb : KnV h kvb kb) (hla : ka.length ≤ 1000000) (hlb : kb.length ≤ 1000000) :
    Con Tryz.prog Bs 21 [.agg [kva, .int .i64 ea], .agg [kvb, .int .i64 eb]] h [] (.tup [.bool (sameA ka ea kb eb), .int .i64 (chk2 ka ea kb eb)]) [] := by
  have hC : ∀ (h2 : Heap) {V : Ob} (j : Nat) (l : List AV) (ty : TypeId), Vw h [] V h2 → (j, .cells l ty) ∈ V → l = [kva, .int .i64 ea, kvb, .int .i64 eb] → Con Tryz.prog Bs 53 [.slice j 0 2 (.k 2)] h2 [] (.int .i64 (chk2 ka ea kb eb)) [] := fun h2 V j l ty hh hm e => by
    have := checkL_con h2 hh.gd j 0 (.k 2) [⟨kva, ka, ea⟩, ⟨kvb, kb, eb⟩] (by simp) (hh.cv2 hm e (hka.vw hh) (hkb.vw hh) (by omega) (by omega))
    rw [← chk2_eq]
    exact this
  by_cases e0 : chk2 ka ea kb eb = 0
  rotate_left
  · refine Con.start rfl Tryz.func21 rfl rfl Tryz.ntmps21 rfl rfl g ?_
    (refine WK.seq ?_; refine WK.region ?_; refine St.box fun _ _ => ?_; refine St.box fun _ _ => ?_; refine St.assign ?_; refine St.assign ?_; refine WO.nil ?_; refine WK.seq ?_; refine WK.seq ?_; refine WK.region ?_; refine St.load ?_; refine St.load ?_; refine St.mkS fun _ _ => ?_)
    refine St.call (fun _ => rfl) (fun h2 hh => hC h2 _ _ _ hh (List.Mem.head _) rfl) ?_
    (refine St.assign ?_; refine WO.nil ?_; refine WK.seq ?_; refine WK.region ?_; refine St.move ?_; refine St.bin ?_; refine WO.nil ?_)
    refine St.splitC (fun hc => ?_) (fun hc => ?_)
    · (refine WK.seq ?_; refine WK.region ?_; refine St.move ?_; refine St.assign ?_; refine St.assign ?_; refine WO.nil ?_)
      refine St.ret (by first | exact .tmp .nil | exact .cell .nil | exact .cell (.tmp .nil) | exact .tmp (.tmp .nil) | exact .cell (.cell .nil) | exact .tmp (.cell .nil) | exact .nil | exact .tmp (.cell (.tmp .nil)) | exact .cell (.tmp (.tmp .nil)) | exact .cell (.cell (.tmp .nil)) | exact .tmp (.tmp (.tmp .nil)) | exact .cell (.cell (.cell .nil))) ?_
      unfold sameA
      rw [decide_eq_false e0]
      rfl
    · simp at hc; exact absurd hc e0
  obtain ⟨h1, h2⟩ := chk2_zero e0
  have va := vd_of_chk h1
  have vb := vd_of_chk h2
  have hl40 : ka.length ≤ 40 := va.le
  have htl := thinK_len ka
  obtain ⟨b, off, c, rfl, hk1⟩ := hka.ne va.ne
  obtain ⟨b2, off2, c2, rfl, hk2⟩ := hkb.ne vb.ne
  have hS : sameA ka ea kb eb = ((ea == eb) && decide (thinK ka = thinK kb)) := by unfold sameA; rw [decide_eq_true e0]; rfl
  rw [hS, e0]
  rw [e0] at hC
  refine Con.start rfl Tryz.func21 rfl rfl Tryz.ntmps21 rfl rfl g ?_
  (refine WK.seq ?_; refine WK.region ?_; refine St.box fun _ _ => ?_; refine St.box fun _ _ => ?_; refine St.assign ?_; refine St.assign ?_; refine WO.nil ?_; refine WK.seq ?_; refine WK.seq ?_; refine WK.region ?_; refine St.load ?_; refine St.load ?_; refine St.mkS fun _ _ => ?_)
  refine St.call (fun _ => rfl) (fun h2 hh => hC h2 _ _ _ hh (List.Mem.head _) rfl) ?_
  (refine St.assign ?_; refine WO.nil ?_; refine WK.seq ?_; refine WK.region ?_; refine St.move ?_; refine St.bin ?_; refine WO.nil ?_; refine WK.condF ?_; refine WK.skip ?_; refine WK.seq ?_; refine WK.regionD ?_; refine St.fieldAddr ?_; refine St.load ?_; refine St.fieldAddr ?_; refine St.load ?_; refine St.bin ?_; refine St.move ?_)
  refine St.split (fun hc => ?_) (fun hc => ?_)
  rotate_left
  · (refine St.skip ?_; refine St.skip ?_; refine St.skip ?_; refine St.skip ?_; refine St.skip ?_; refine St.pickF ?_; refine St.assign ?_; refine St.assign ?_; refine WO.nil ?_)
    refine St.ret (by first | exact .tmp .nil | exact .cell .nil | exact .cell (.tmp .nil) | exact .tmp (.tmp .nil) | exact .cell (.cell .nil) | exact .tmp (.cell .nil) | exact .nil | exact .tmp (.cell (.tmp .nil)) | exact .cell (.tmp (.tmp .nil)) | exact .cell (.cell (.tmp .nil)) | exact .tmp (.tmp (.tmp .nil)) | exact .cell (.cell (.cell .nil))) ?_
    rw [hc]
    rfl
  (refine St.load ?_)
  refine StD.callR (fun _ => rfl) (fun h hh => bends_con h hh.gd b off c ka ea va (hk1.vw hh)) (fun w1 L1 hw1 => ?_)
  (refine St.load ?_)
  refine StD.callR (fun _ => rfl) (fun h hh => bends_con h hh.gd b2 off2 c2 kb eb vb (hk2.vw hh)) (fun w2 L2 hw2 => ?_)
  skip
  refine StD.callV (L2.map (fun p => (9, p)) ++ L1.map (fun p => (7, p))) (v := .bool (decide (thinK ka = thinK kb))) (fun _ => rfl) (fun x hx => ?_) (fun h hh => ?_) ?_
  · rcases List.mem_append.1 hx with hx | hx
    · obtain ⟨p, hp, rfl⟩ := List.mem_map.1 hx
      exact ⟨List.mem_append.2 (.inl hx), show maskAt _ _ 9 = true by decide +kernel⟩
    · obtain ⟨p, hp, rfl⟩ := List.mem_map.1 hx
      exact ⟨List.mem_append.2 (.inr (List.mem_append.2 (.inl hx))), show maskAt _ _ 7 = true by decide +kernel⟩
  · have e : (L2.map (fun p : Nat × AObj => ((9 : Nat), p)) ++ L1.map (fun p : Nat × AObj => ((7 : Nat), p))).map (·.2) = L2 ++ L1 := by simp [Function.comp_def]
    rw [e] at hh
    exact equalKn_con h hh.gd w1 w2 _ _ (hh.prv hw1 (((List.sublist_append_right L2 L1)).trans (List.sublist_append_left _ _))) (hh.prv hw2 (((List.sublist_append_left L2 L1)).trans (List.sublist_append_left _ _))) (by omega)
  (refine St.pickT ?_; refine St.assign ?_; refine St.assign ?_)
  refine WO.nilG ?_
  skip
  refine St.ret (by first | exact .tmp .nil | exact .cell .nil | exact .cell (.tmp .nil) | exact .tmp (.tmp .nil) | exact .cell (.cell .nil) | exact .tmp (.cell .nil) | exact .nil | exact .tmp (.cell (.tmp .nil)) | exact .cell (.tmp (.tmp .nil)) | exact .cell (.cell (.tmp .nil)) | exact .tmp (.tmp (.tmp .nil)) | exact .cell (.cell (.cell .nil))) ?_
  rw [hc]
  rfl
set_option maxRecDepth 100000 in
set_option maxHeartbeats 8000000 in
theorem sameRef_con (h : Heap) (g : Gd h) (kva kvb : AV) (ka kb : List (Int × Int)) (ea eb : Int) (hka : KnV h kva ka) (hkb : KnV h kvb kb) (hla : ka.length ≤ 1000000) (hlb : kb.length ≤ 1000000) :
    Con Tryz.prog Bs 22 [.agg [kva, .int .i64 ea], .agg [kvb, .int .i64 eb]] h [] (.tup [.bool (sameA ka ea kb eb), .int .i64 (chk2 ka ea kb eb)]) [] := by
  by_cases e0 : chk2 ka ea kb eb = 0
  rotate_left
  · refine Con.start rfl Tryz.func22 rfl rfl Tryz.ntmps22 rfl rfl g ?_
    (refine WK.seq ?_; refine WK.region ?_; refine St.box fun _ _ => ?_; refine St.box fun _ _ => ?_; refine St.assign ?_; refine St.assign ?_; refine WO.nil ?_; refine WK.seq ?_; refine WK.region ?_; refine St.load ?_; refine St.load ?_)
    refine St.call (fun _ => rfl) (fun h2 hh => rtwo_con h2 hh.gd kva kvb ka kb ea eb (hka.vw hh) (hkb.vw hh) hla hlb) ?_
    (refine St.assign ?_; refine WO.nil ?_; refine WK.seq ?_; refine WK.seq ?_; refine WK.region ?_; refine St.move ?_; refine St.bin ?_; refine WO.nil ?_)
    refine St.splitC (fun hc => ?_) (fun hc => ?_)
    · (refine WK.seq ?_; refine WK.region ?_; refine St.move ?_; refine St.assign ?_; refine St.assign ?_; refine WO.nil ?_)
      refine St.ret (by first | exact .tmp .nil | exact .cell .nil | exact .cell (.tmp .nil) | exact .tmp (.tmp .nil) | exact .cell (.cell .nil) | exact .tmp (.cell .nil) | exact .nil | exact .tmp (.cell (.tmp .nil)) | exact .cell (.tmp (.tmp .nil)) | exact .cell (.cell (.tmp .nil)) | exact .tmp (.tmp (.tmp .nil)) | exact .cell (.cell (.cell .nil))) ?_
      unfold sameA
      rw [decide_eq_false e0]
      rfl
    · simp at hc; exact absurd hc e0
  obtain ⟨h1, h2⟩ := chk2_zero e0
  have va := vd_of_chk h1
  have vb := vd_of_chk h2
  have hl40 : ka.length ≤ 40 := va.le
  have htl := thinK_len ka
  obtain ⟨b, off, c, rfl, hk1⟩ := hka.ne va.ne
  obtain ⟨b2, off2, c2, rfl, hk2⟩ := hkb.ne vb.ne
  have hS : sameA ka ea kb eb = ((ea == eb) && decide (thinK ka = thinK kb)) := by unfold sameA; rw [decide_eq_true e0]; rfl
  rw [hS, e0]
  refine Con.start rfl Tryz.func22 rfl rfl Tryz.ntmps22 rfl rfl g ?_
  (refine WK.seq ?_; refine WK.region ?_; refine St.box fun _ _ => ?_; refine St.box fun _ _ => ?_; refine St.assign ?_; refine St.assign ?_; refine WO.nil ?_; refine WK.seq ?_; refine WK.region ?_; refine St.load ?_; refine St.load ?_)
  refine St.call (v := .int .i64 0) (fun _ => rfl) (fun h2 hh => by
    have := rtwo_con h2 hh.gd _ _ ka kb ea eb (hka.vw hh) (hkb.vw hh) hla hlb
    rw [e0] at this
    exact this) ?_
  (refine St.assign ?_; refine WO.nil ?_; refine WK.seq ?_; refine WK.seq ?_; refine WK.region ?_; refine St.move ?_; refine St.bin ?_; refine WO.nil ?_; refine WK.condF ?_; refine WK.skip ?_; refine WK.seq ?_; refine WK.regionD ?_; refine St.fieldAddr ?_; refine St.load ?_; refine St.fieldAddr ?_; refine St.load ?_; refine St.bin ?_; refine St.move ?_)
  refine St.split (fun hc => ?_) (fun hc => ?_)
  rotate_left
  · (refine St.skip ?_; refine St.skip ?_; refine St.skip ?_; refine St.skip ?_; refine St.skip ?_; refine St.skip ?_; refine St.skip ?_; refine St.pickF ?_; refine St.assign ?_; refine St.assign ?_; refine WO.nil ?_)
    refine St.ret (by first | exact .tmp .nil | exact .cell .nil | exact .cell (.tmp .nil) | exact .tmp (.tmp .nil) | exact .cell (.cell .nil) | exact .tmp (.cell .nil) | exact .nil | exact .tmp (.cell (.tmp .nil)) | exact .cell (.tmp (.tmp .nil)) | exact .cell (.cell (.tmp .nil)) | exact .tmp (.tmp (.tmp .nil)) | exact .cell (.cell (.cell .nil))) ?_
    rw [hc]
    rfl
  (refine St.fieldAddr ?_; refine St.load ?_)
  refine StD.callR (fun _ => rfl) (fun h hh => rthin_con h hh.gd b off c ka ea va (hk1.vw hh)) (fun w1 L1 hw1 => ?_)
  (refine St.fieldAddr ?_; refine St.load ?_)
  refine StD.callR (fun _ => rfl) (fun h hh => rthin_con h hh.gd b2 off2 c2 kb eb vb (hk2.vw hh)) (fun w2 L2 hw2 => ?_)
  skip
  refine StD.callV (L2.map (fun p => (11, p)) ++ L1.map (fun p => (8, p))) (v := .bool (decide (thinK ka = thinK kb))) (fun _ => rfl) (fun x hx => ?_) (fun h hh => ?_) ?_
  · rcases List.mem_append.1 hx with hx | hx
    · obtain ⟨p, hp, rfl⟩ := List.mem_map.1 hx
      exact ⟨List.mem_append.2 (.inl hx), show maskAt _ _ 11 = true by decide +kernel⟩
    · obtain ⟨p, hp, rfl⟩ := List.mem_map.1 hx
      exact ⟨List.mem_append.2 (.inr (List.mem_append.2 (.inl hx))), show maskAt _ _ 8 = true by decide +kernel⟩
  · have e : (L2.map (fun p : Nat × AObj => ((11 : Nat), p)) ++ L1.map (fun p : Nat × AObj => ((8 : Nat), p))).map (·.2) = L2 ++ L1 := by simp [Function.comp_def]
    rw [e] at hh
    exact sameKnG_con h hh.gd w1 w2 _ _ (hh.prv hw1 (((List.sublist_append_right L2 L1)).trans (List.sublist_append_left _ _))) (hh.prv hw2 (((List.sublist_append_left L2 L1)).trans (List.sublist_append_left _ _))) (by omega)
  (refine St.pickT ?_; refine St.assign ?_; refine St.assign ?_)
  refine WO.nilG ?_
  skip
  refine St.ret (by first | exact .tmp .nil | exact .cell .nil | exact .cell (.tmp .nil) | exact .tmp (.tmp .nil) | exact .cell (.cell .nil) | exact .tmp (.cell .nil) | exact .nil | exact .tmp (.cell (.tmp .nil)) | exact .cell (.tmp (.tmp .nil)) | exact .cell (.cell (.tmp .nil)) | exact .tmp (.tmp (.tmp .nil)) | exact .cell (.cell (.cell .nil))) ?_
  rw [hc]
  rfl
end Go.Proofs.YtbhklifflhoinaaGreat
