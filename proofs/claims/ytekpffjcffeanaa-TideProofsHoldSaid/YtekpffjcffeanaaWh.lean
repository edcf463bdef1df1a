/- The stands of a water: the iterator stands, and the list of all of them. -/
import Derived.Test.YtekpffjcffeanaaWf
import Derived.Test.YtekpffjcffeanaaWq
namespace Go.Proofs.Ytekpffjcffeanaa
open Go.Proofs.Ytekpffjcffeanaa.Ev

def sdC (s : Sd) : List AV := [.int .i64 s.lo, .int .i64 s.hi, .int .i64 s.ht]
/-- the height of a water k minutes behind lo -/
def hgt (lv : Int) (cs : List Cy) (ss : List Sh) (lo : Int) (k : Nat) : Int := lv + bareV cs ss (lo + (k : Int))
set_option maxRecDepth 100000 in
theorem stands_con (h : Heap) (g : Gd h) (lv lo hi : Int) (cv sv : AV) : ∃ v L, Con Try.prog Bs 69 [.agg [.int .i64 lv, cv, sv], .agg [.int .i64 lo, .int .i64 hi]] h [] v L ∧ ∃ j1 j2, v = .fn (.func 111) [] [.ptr j1 0, .ptr j2 0] ∧ L = [(j2, .cells [.int .i64 lo, .int .i64 hi] 37), (j1, .cells [.int .i64 lv, cv, sv] 25)] := by
  refine Con.startR rfl Try.func69 rfl rfl Try.ntmps69 rfl rfl (SS.init g) ?_
  (refine WK.seq ?_; refine WK.region ?_; refine St.box fun _ _ => ?_; refine St.box fun _ _ => ?_; refine St.assign ?_; refine WO.nil ?_; refine WK.seq ?_; refine WK.region ?_; refine St.fn ?_; refine St.assign ?_; refine WO.nil ?_)
  refine St.ret (by first | exact .tmp .nil | exact .cell .nil | exact .cell (.tmp .nil) | exact .tmp (.tmp .nil) | exact .cell (.cell .nil) | exact .tmp (.cell .nil) | exact .nil | exact .tmp (.cell (.tmp .nil)) | exact .cell (.tmp (.tmp .nil)) | exact .cell (.cell (.tmp .nil)) | exact .tmp (.tmp (.tmp .nil)) | exact .cell (.cell (.cell .nil))) ?_
  exact ⟨_, _, rfl, rfl⟩
set_option maxRecDepth 100000 in
set_option maxHeartbeats 32000000 in
theorem stands_y (hb : Heap) (lv lo hi : Int) (cv sv : AV) (cl : List Cw) (ss : List Sh) (hc : CyV hb cv cl) (hs : ShV hb sv ss) (m : MinOk lv (cys cl) ss lo hi) : YieldsOf 111 hb (.cells [.int .i64 lv, cv, sv] 25) (.cells [.int .i64 lo, .int .i64 hi] 37) (allS (hgt lv (cys cl) ss lo) lo (hi - lo + 1).toNat).length (fun j => [.agg (sdC (nthD (allS (hgt lv (cys cl) ss lo) lo (hi - lo + 1).toNat) j))]) := by
  intro h r jw js q L0 I F hl hI hr
  have hWW := hl.ss.ltW
  have w := m.w
  have m1 := m.l1
  have m2 := m.le
  have m3 := m.h2
  have m4 := m.n
  generalize hf : hgt lv (cys cl) ss lo = f at *
  obtain ⟨n, hn⟩ : ∃ n, (hi - lo + 1).toNat = n + 1 := ⟨(hi - lo + 1).toNat - 1, by omega⟩
  rw [hn] at hr ⊢
  refine Con.pick (Con.startR rfl Try.func111 rfl rfl Try.ntmps111 rfl rfl hl.ss ?_)
  (refine WK.seq ?_; refine WK.region ?_; refine St.box fun _ _ => ?_; refine WO.nil ?_; refine WK.seq ?_; refine WK.region ?_; refine St.alloc fun _ _ => ?_; refine WO.nil ?_; refine WK.seq ?_; refine WK.seq ?_; refine WK.region ?_; refine St.load ?_; refine St.load ?_)
  rename_i p3 hp3 p4 hp4
  refine St.callR (fun _ => rfl) (fun h2 hh => heights_con h2 hh.gd lv lo hi cv sv) ?_
  rintro u L' ⟨j1, j2, rfl, rfl⟩
  (refine WO.nil ?_; refine WK.block ?_)
  have hy : YieldsOf 129 hb (.cells [.int .i64 lv, cv, sv] 25) (.cells [.int .i64 lo, .int .i64 hi] 37) (n + 1) (fun k => [.int .i64 (lo + k), .int .i64 (f k)]) := by
    rw [← hn, ← hf]
    exact heights_y hb lv lo hi cv sv cl ss hc hs m
  refine rangeY (j1 := j1) (j2 := j2) (L0 := (p4, .cells [.int .i64 0, .int .i64 0, .int .i64 0] 51) :: (p3, .cells [.fn (.yield r) [] []] 147) :: (jw, .cells [.int .i64 lv, cv, sv] 25) :: (js, .cells [.int .i64 lo, .int .i64 hi] 37) :: (r, .loop q) :: L0)
    (fun k Ln => ∃ Lo, I (jS f lo k) Lo ∧ Ln = (p4, .cells (sdC (nowS f lo k)) 51) :: (p3, .cells [.fn (.yield r) [] []] 147) :: (jw, .cells [.int .i64 lv, cv, sv] 25) :: (js, .cells [.int .i64 lo, .int .i64 hi] 37) :: (r, .loop q) :: Lo)
    (fun pd Ln => pd = some .ret ∧ ∃ q' Lk X, F q' Lk ∧ (((r, AObj.loop q') :: Lk) ++ X).Perm Ln)
    hy rfl hl.vw hl.hold (by (repeat (first | exact List.Perm.refl _ | refine perm_at 0 rfl ?_ | refine perm_at 1 rfl ?_ | refine perm_at 2 rfl ?_ | refine perm_at 3 rfl ?_ | refine perm_at 4 rfl ?_ | refine perm_at 5 rfl ?_ | refine perm_at 6 rfl ?_ | refine perm_at 7 rfl ?_ | refine perm_at 8 rfl ?_ | refine perm_at 9 rfl ?_))) ⟨L0, hI, rfl⟩ (fun _ => rfl) rfl ?_ ?_ ?_
  · rintro r2 q2 hq2 k Lk h2 hk ⟨Lo, hIk, rfl⟩ hl2
    have hW2 := hl2.ss.ltW
    cases k with
    | zero =>
      simp only [Int.natCast_zero, Int.add_zero]
      (refine WK.seq ?_; refine WK.region ?_; refine St.assign ?_; refine WO.nil ?_; refine WK.region ?_; refine St.assign ?_; refine WO.nil ?_)
      refine WK.busyQ hq2.st (A := []) rfl ?_
      (refine WK.block ?_; refine WK.seq ?_; refine WK.seq ?_; refine WK.region ?_; refine St.move ?_; refine St.fieldAddr ?_; refine St.load ?_; refine St.bin ?_; refine St.move ?_)
      refine St.split (fun hc => ?_) (fun _ => ?_)
      · simp at hc
      (refine St.skip ?_; refine St.skip ?_; refine St.skip ?_; refine St.skip ?_; refine St.pickF ?_; refine WO.nil ?_; refine WK.condF ?_; refine WK.skip ?_; refine WK.seq ?_; refine WK.seq ?_; refine WK.region ?_; refine St.move ?_; refine St.fieldAddr ?_; refine St.load ?_; refine St.bin ?_; refine St.move ?_)
      refine St.split (fun hc => ?_) (fun _ => ?_)
      · simp at hc
      (refine St.skip ?_; refine St.skip ?_; refine St.skip ?_; refine St.skip ?_; refine St.pickF ?_; refine WO.nil ?_; refine WK.condF ?_; refine WK.skip ?_; refine WK.region ?_; refine St.move ?_; refine St.move ?_; refine St.build ?_; refine St.move ?_; refine St.build ?_; refine St.store1 ?_; refine WO.nil ?_; refine WK.blk ?_)
      exact endY (Lk := (p4, .cells (sdC (curS f lo 0)) 51) :: (p3, .cells [.fn (.yield r) [] []] 147) :: (jw, .cells [.int .i64 lv, cv, sv] 25) :: (js, .cells [.int .i64 lo, .int .i64 hi] 37) :: (r, .loop q) :: Lo) (X := []) (by (refine perm_cnt fun _ _ => ?_; simp only [List.append_eq, List.cons_append, List.nil_append, List.count_append, List.count_cons, List.count_nil, Nat.add_zero, Nat.zero_add]; try ac_rfl)) ⟨Lo, hIk, rfl⟩
    | succ k =>
      have hht := cur_ht (f := f) (lo := lo) k
      have hpos : lo < lo + ((k + 1 : Nat) : Int) := by omega
      (refine WK.seq ?_; refine WK.region ?_; refine St.assign ?_; refine WO.nil ?_; refine WK.region ?_; refine St.assign ?_; refine WO.nil ?_)
      refine WK.busyQ hq2.st (A := []) rfl ?_
      (refine WK.block ?_; refine WK.seq ?_; refine WK.seq ?_; refine WK.region ?_; refine St.move ?_; refine St.fieldAddr ?_; refine St.load ?_; refine St.bin ?_; refine St.move ?_)
      refine St.split (fun _ => ?_) (fun hc => ?_)
      rotate_left
      · simp at hc
        omega
      (refine St.move ?_; refine St.fieldAddr ?_; refine St.load ?_; refine St.bin ?_; refine St.pickT ?_; refine WO.nil ?_)
      refine St.splitC (fun hc => ?_) (fun hc => ?_)
      · have heq : f (k + 1) = (curS f lo k).ht := by simp at hc; exact hc
        have e1 : doneS f lo (k + 1) = doneS f lo k := by rw [doneS, if_pos heq]
        have e2 : curS f lo (k + 1) = ⟨(curS f lo k).lo, lo + ((k + 1 : Nat) : Int), (curS f lo k).ht⟩ := by rw [curS, if_pos heq]
        (refine WK.seq ?_; refine WK.region ?_; refine St.move ?_; refine St.fieldAddr ?_; refine St.fieldAddr ?_; refine St.store1 ?_; refine WO.nil ?_; refine WK.exit ?_)
        refine endY (Lk := (p4, .cells (sdC (curS f lo (k + 1))) 51) :: (p3, .cells [.fn (.yield r) [] []] 147) :: (jw, .cells [.int .i64 lv, cv, sv] 25) :: (js, .cells [.int .i64 lo, .int .i64 hi] 37) :: (r, .loop q) :: Lo) (X := []) ?_ ⟨Lo, ?_, rfl⟩
        · rw [e2]
          (refine perm_cnt fun _ _ => ?_; simp only [List.append_eq, List.cons_append, List.nil_append, List.count_append, List.count_cons, List.count_nil, Nat.add_zero, Nat.zero_add]; try ac_rfl)
        · show I (doneS f lo (k + 1)).length Lo
          rw [e1]
          exact hIk
      · have hne : f (k + 1) ≠ (curS f lo k).ht := by simp at hc; exact hc
        have e1 : doneS f lo (k + 1) = doneS f lo k ++ [curS f lo k] := by rw [doneS, if_neg hne]
        have e2 : curS f lo (k + 1) = ⟨lo + ((k + 1 : Nat) : Int), lo + ((k + 1 : Nat) : Int), f (k + 1)⟩ := by rw [curS, if_neg hne]
        obtain ⟨d1, d2⟩ := all_done (f := f) (lo := lo) (k := k) (n := n + 1) hk (by rw [← hht]; exact hne)
        have hr2 := hr (doneS f lo k).length Lo
        simp only [d2] at hr2
        (refine WK.skip ?_; refine WK.seq ?_; refine WK.seq ?_; refine WK.region ?_; refine St.move ?_; refine St.fieldAddr ?_; refine St.load ?_; refine St.bin ?_; refine St.move ?_)
        refine St.split (fun _ => ?_) (fun hc => ?_)
        rotate_left
        · simp at hc
          omega
        (refine St.load ?_; refine St.load ?_)
        refine St.roundR (Lw := (r, .loop q) :: Lo) (Lk := [(r2, .loop q2.busy), (p4, .cells (sdC (curS f lo k)) 51), (p3, .cells [.fn (.yield r) [] []] 147), (jw, .cells [.int .i64 lv, cv, sv] 25), (js, .cells [.int .i64 lo, .int .i64 hi] 37)]) (fun _ => rfl) (fun h3 hh => hr2 h3 d1 hIk (hl2.next (X := [(r2, .loop q2.busy), (p4, .cells (sdC (curS f lo k)) 51), (p3, .cells [.fn (.yield r) [] []] 147), (jw, .cells [.int .i64 lv, cv, sv] 25), (js, .cells [.int .i64 lo, .int .i64 hi] 37)]) hh List.perm_append_comm)) List.perm_append_comm rfl ?_
        rintro v L' ⟨b, q', Lk', rfl, rfl, g1, g2⟩
        refine WO.permF (L' := (p4, .cells (sdC (curS f lo k)) 51) :: (r2, .loop q2.busy) :: (p3, .cells [.fn (.yield r) [] []] 147) :: (jw, .cells [.int .i64 lv, cv, sv] 25) :: (js, .cells [.int .i64 lo, .int .i64 hi] 37) :: (r, .loop q') :: Lk') (by (refine perm_cnt fun _ _ => ?_; simp only [List.append_eq, List.cons_append, List.nil_append, List.count_append, List.count_cons, List.count_nil, Nat.add_zero, Nat.zero_add]; try ac_rfl)) ?_
        (refine St.un ?_; refine St.pickT ?_; refine WO.nil ?_)
        refine St.splitC (fun hc => ?_) (fun hc => ?_)
        · have hbf : b = false := by simpa using hc
          skip
          refine retY (Lk := (r, AObj.loop q') :: Lk') (X := [(p4, .cells (sdC (curS f lo k)) 51), (p3, .cells [.fn (.yield r) [] []] 147), (jw, .cells [.int .i64 lv, cv, sv] 25), (js, .cells [.int .i64 lo, .int .i64 hi] 37)]) (by (refine perm_cnt fun _ _ => ?_; simp only [List.append_eq, List.cons_append, List.nil_append, List.count_append, List.count_cons, List.count_nil, Nat.add_zero, Nat.zero_add]; try ac_rfl)) ⟨rfl, q', Lk', [], g2 hbf, by rw [List.append_nil]⟩
        · have hbt : b = true := by simpa using hc
          obtain ⟨rfl, hI2⟩ := g1 hbt
          (refine WK.skip ?_; refine WK.region ?_; refine St.move ?_; refine St.move ?_; refine St.build ?_; refine St.move ?_; refine St.build ?_; refine St.store0 ?_; refine WO.nil ?_; refine WK.blk ?_)
          refine endY (Lk := (p4, .cells (sdC (curS f lo (k + 1))) 51) :: (p3, .cells [.fn (.yield r) [] []] 147) :: (jw, .cells [.int .i64 lv, cv, sv] 25) :: (js, .cells [.int .i64 lo, .int .i64 hi] 37) :: (r, .loop q') :: Lk') (X := []) ?_ ⟨Lk', ?_, rfl⟩
          · rw [e2]
            (refine perm_cnt fun _ _ => ?_; simp only [List.append_eq, List.cons_append, List.nil_append, List.count_append, List.count_cons, List.count_nil, Nat.add_zero, Nat.zero_add]; try ac_rfl)
          · show I (doneS f lo (k + 1)).length Lk'
            rw [e1, List.length_append]
            exact hI2
  · rintro dq L' ⟨Lo, hIk, rfl⟩
    obtain ⟨d1, d2⟩ := all_last (f := f) (lo := lo) n
    have hr2 := hr (doneS f lo n).length Lo
    simp only [d2] at hr2
    (refine WK.blk ?_; refine WK.region ?_; refine St.load ?_; refine St.load ?_)
    refine St.roundR (Lw := (r, .loop q) :: Lo) (Lk := [(p4, .cells (sdC (curS f lo n)) 51), (p3, .cells [.fn (.yield r) [] []] 147), (jw, .cells [.int .i64 lv, cv, sv] 25), (js, .cells [.int .i64 lo, .int .i64 hi] 37), (dq, .deferred true)]) (fun _ => rfl) (fun h3 hh => hr2 h3 (by omega) hIk (hl.next (X := [(p4, .cells (sdC (curS f lo n)) 51), (p3, .cells [.fn (.yield r) [] []] 147), (jw, .cells [.int .i64 lv, cv, sv] 25), (js, .cells [.int .i64 lo, .int .i64 hi] 37), (dq, .deferred true)]) hh (by (refine perm_cnt fun _ _ => ?_; simp only [List.append_eq, List.cons_append, List.nil_append, List.count_append, List.count_cons, List.count_nil, Nat.add_zero, Nat.zero_add]; try ac_rfl)))) (by (refine perm_cnt fun _ _ => ?_; simp only [List.append_eq, List.cons_append, List.nil_append, List.count_append, List.count_cons, List.count_nil, Nat.add_zero, Nat.zero_add]; try ac_rfl)) rfl ?_
    rintro v L' ⟨b, q', Lk', rfl, rfl, g1, g2⟩
    (refine WO.nil ?_)
    refine WK.perm (L' := (((r, .loop q') :: Lk') ++ [(p4, .cells (sdC (curS f lo n)) 51), (p3, .cells [.fn (.yield r) [] []] 147), (jw, .cells [.int .i64 lv, cv, sv] 25), (js, .cells [.int .i64 lo, .int .i64 hi] 37)]) ++ [(dq, .deferred true)]) (by (refine perm_cnt fun _ _ => ?_; simp only [List.append_eq, List.cons_append, List.nil_append, List.count_append, List.count_cons, List.count_nil, Nat.add_zero, Nat.zero_add]; try ac_rfl)) ?_
    refine St.fin1 (C := []) rfl .nil ?_
    refine ⟨(r, .loop q') :: Lk', [(p4, .cells (sdC (curS f lo n)) 51), (p3, .cells [.fn (.yield r) [] []] 147), (jw, .cells [.int .i64 lv, cv, sv] 25), (js, .cells [.int .i64 lo, .int .i64 hi] 37)], by rw [List.append_nil], q', Lk', rfl, rfl, ?_⟩
    cases b with
    | true =>
      obtain ⟨rfl, hI2⟩ := g1 rfl
      rw [← d1]
      exact .inl ⟨rfl, hI2⟩
    | false => exact .inr (g2 rfl)
  · rintro dq c L' ⟨e, q', Lk, X, hF, hp⟩
    cases e
    skip
    refine St.ret1 (C := []) rfl .nil ?_
    exact ⟨(r, .loop q') :: Lk, X, by rw [List.append_nil]; exact hp, q', Lk, rfl, rfl, .inr hF⟩
end Go.Proofs.Ytekpffjcffeanaa
