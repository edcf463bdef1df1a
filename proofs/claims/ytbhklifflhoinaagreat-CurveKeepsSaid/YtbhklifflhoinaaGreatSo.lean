/- corners over the calculator's memory. -/
import Derived.Test.YtbhklifflhoinaaGreatLi
import Derived.Test.YtbhklifflhoinaaGreatEv6
namespace Go.Proofs.YtbhklifflhoinaaGreat
open Go.Proofs.YtbhklifflhoinaaGreat.Ev

theorem sortX_map_len (l : List Int) : ((sortX l).map (AV.int .i64)).length = l.length := by rw [List.length_map, sortX_len]
theorem cmpF_len (zs : List Int) : (cmpF zs).length = zs.length := by
  have := uniq_len zs
  simp [cmpF]; omega
theorem Bs_sort (i n : Nat) (c : ACap) (h : Heap) : Bs.ans 95 [.slice i 0 n c] h = inplA 95 sortX (fun _ _ _ => .tup []) 95 [.slice i 0 n c] h := (orB_right rfl).trans (orB_left rfl)
theorem Bs_compact (i n : Nat) (c : ACap) (h : Heap) : Bs.ans 96 [.slice i 0 n c] h = inplA 96 cmpF (fun i zs c => .slice i 0 (uniq zs).length c) 96 [.slice i 0 n c] h := (orB_right rfl).trans ((orB_right rfl).trans (orB_left rfl))
theorem rawX_pos (lo hi : Int) (l : List Cur) : 2 ≤ (rawX lo hi l).length := by simp [rawX]
set_option maxRecDepth 100000 in
set_option maxHeartbeats 8000000 in
theorem corners_con (h : Heap) (g : Gd h) (b off : Nat) (c : ACap) (l : List Cv) (lo hi : Int) (hl : l.length ≤ 12) (hk : CvH h b off l) (hv : ∀ i (hi : i < l.length), Vd l[i].ks l[i].err) :
    ∃ v L, Con Tryz.prog Bs 49 [.agg [.int .i64 lo, .int .i64 hi], .slice b off l.length c] h [] v L ∧ ∃ i m o, v = .slice i 0 (cornX lo hi (l.map Cv.c)).length m ∧ L = [(i, o)] ∧ o.has ((cornX lo hi (l.map Cv.c)).map (AV.int .i64)) := by
  have hle : ∀ i (h : i < (l.map Cv.c).length), (l.map Cv.c)[i].ks.length ≤ 40 := fun i hi => by
    rw [List.getElem_map]
    exact (hv i (by simpa using hi)).le
  refine Con.startR rfl Tryz.func49 rfl rfl Tryz.ntmps49 rfl rfl (SS.init g) ?_
  (refine WK.seq ?_; refine WK.region ?_; refine St.box fun _ _ => ?_; refine St.assign ?_; refine WO.nil ?_; refine WK.seq ?_; refine WK.region ?_; refine St.fieldAddr ?_; refine St.load ?_; refine St.fieldAddr ?_; refine St.load ?_; refine St.mkS fun _ _ => ?_; refine St.assign ?_; refine WO.nil ?_; refine WK.seq ?_; refine WK.seq ?_; refine WK.region ?_; refine St.move ?_; refine St.len ?_; refine St.move ?_; refine WO.nil ?_; refine WK.block ?_)
  rename_i p hp q hq
  refine WK.perm (L' := [(p, .cells [.int .i64 lo, .int .i64 hi] 27), (q, .cells [.int .i64 lo, .int .i64 hi] 3)]) (by (repeat (first | exact List.Perm.refl _ | refine perm_at 0 rfl ?_ | refine perm_at 1 rfl ?_ | refine perm_at 2 rfl ?_ | refine perm_at 3 rfl ?_ | refine perm_at 4 rfl ?_ | refine perm_at 5 rfl ?_ | refine perm_at 6 rfl ?_ | refine perm_at 7 rfl ?_ | refine perm_at 8 rfl ?_ | refine perm_at 9 rfl ?_))) ?_
  refine WK.inv (ι := Nat × AV × Ob) (fun z => [(2, .ptr p 0), (5, z.2.1), (15, .slice b off l.length c), (16, .int .i64 l.length), (17, .int .i64 z.1)]) (fun z => (p, .cells [.int .i64 lo, .int .i64 hi] 27) :: z.2.2)
    (fun z => z.1 ≤ l.length ∧ IsL 3 1 (rawX lo hi ((l.map Cv.c).take z.1)).length ((rawX lo hi ((l.map Cv.c).take z.1)).map (AV.int .i64)) z.2.1 z.2.2) (fun z => l.length - z.1) (0, .slice q 0 2 (.k 2), [(q, .cells [.int .i64 lo, .int .i64 hi] 3)])
    ⟨by simp, by
      have := IsL.cells (e := 3) (sz := 1) (len := 2) (l := [.int .i64 lo, .int .i64 hi]) q 2 [] 3 rfl rfl (by omega)
      simpa [rawX] using this⟩ ⟨rfl, rfl, rfl, rfl, rfl, trivial⟩ (by (repeat (first | exact List.Sublist.refl _ | exact List.nil_sublist _ | apply List.Sublist.cons_cons | apply List.Sublist.cons))) ?_
  rintro ⟨k, w, Lw⟩ ⟨hkl, hw⟩ ih
  simp only at hkl hw ih ⊢
  (refine WK.seq ?_; refine WK.region ?_; refine St.bin ?_; refine WO.nil ?_; refine WK.seq ?_)
  refine St.splitC (fun hc => ?_) (fun hc => ?_)
  · have hlt : k < l.length := by simp at hc; omega
    have v := hv k hlt
    have hlen : (l[k]'hlt).ks.length ≤ 40 := v.le
    obtain ⟨b2, off2, c2, e2, hk2⟩ := (hk k hlt).2.1.ne v.ne
    have hraw := rawX_take (lo := lo) (hi := hi) (l := l.map Cv.c) (k := k) (by simpa using hlt)
    rw [List.getElem_map] at hraw
    have hrl := rawX_len (lo := lo) (hi := hi) (l := (l.map Cv.c).take k) (fun i hi => by
      rw [List.getElem_take]
      exact hle i (by simp at hi ⊢; omega))
    rw [List.length_take, List.length_map] at hrl
    (refine WK.skip ?_; refine WK.seq ?_; refine WK.block ?_; refine WK.seq ?_; refine WK.region ?_)
    refine St.at ?_
    skip
    refine St.loadX (fun h hh => ((hk.vw hh).at_ (z := (k : Int)) (n := k) (by omega) hlt).agg (by simp) rfl rfl rfl) ?_
    rw [e2]
    (refine St.alloc fun _ _ => ?_; refine St.store0 ?_; refine WO.nil ?_; refine WK.seq ?_; refine WK.region ?_; refine St.fieldAddr ?_; refine St.load ?_; refine St.len ?_; refine St.move ?_; refine WO.nil ?_; refine WK.block ?_)
    rename_i y hy
    refine WK.inv (ι := Nat × AV × Ob) (fun z => [(2, .ptr p 0), (5, z.2.1), (15, .slice b off l.length c), (16, .int .i64 l.length), (17, .int .i64 k), (22, .slice b2 off2 (l[k]'hlt).ks.length c2), (23, .int .i64 (l[k]'hlt).ks.length), (24, .int .i64 z.1)]) (fun z => (p, .cells [.int .i64 lo, .int .i64 hi] 27) :: z.2.2)
      (fun z => z.1 ≤ (l[k]'hlt).ks.length ∧ IsL 3 1 (rawX lo hi ((l.map Cv.c).take k) ++ innerX lo hi ((l[k]'hlt).ks.take z.1)).length ((rawX lo hi ((l.map Cv.c).take k) ++ innerX lo hi ((l[k]'hlt).ks.take z.1)).map (AV.int .i64)) z.2.1 z.2.2) (fun z => (l[k]'hlt).ks.length - z.1) (0, w, Lw)
      ⟨by simp, by simpa [innerX] using hw⟩ ⟨rfl, rfl, rfl, rfl, rfl, rfl, rfl, rfl, trivial⟩ (by (repeat (first | exact List.Sublist.refl _ | exact List.nil_sublist _ | apply List.Sublist.cons_cons | apply List.Sublist.cons))) ?_
    rintro ⟨m, w2, Lw2⟩ ⟨hml, hw2⟩ ih2
    simp only at hml hw2 ih2 ⊢
    (refine WK.seq ?_; refine WK.region ?_; refine St.bin ?_; refine WO.nil ?_; refine WK.seq ?_)
    refine St.splitC (fun hc2 => ?_) (fun hc2 => ?_)
    · have hlt2 : m < (l[k]'hlt).ks.length := by simp at hc2; omega
      have hin := innerX_take (lo := lo) (hi := hi) (ks := (l[k]'hlt).ks) (m := m) hlt2
      have hil := innerX_len (lo := lo) (hi := hi) (ks := (l[k]'hlt).ks.take m)
      rw [List.length_take] at hil
      (refine WK.skip ?_; refine WK.seq ?_; refine WK.block ?_; refine WK.seq ?_; refine WK.region ?_)
      refine St.at ?_
      skip
      refine St.loadX (fun h hh => ((hk2.vw hh) m hlt2).agg (by simp) rfl rfl rfl) ?_
      (refine St.alloc fun _ _ => ?_; refine St.store0 ?_; refine WO.nil ?_; refine WK.seq ?_; refine WK.region ?_; refine St.fieldAddr ?_; refine St.load ?_; refine St.fieldAddr ?_; refine St.load ?_; refine St.bin ?_; refine St.move ?_)
      refine St.split (fun hc3 => ?_) (fun hc3 => ?_)
      · (refine St.fieldAddr ?_; refine St.load ?_; refine St.fieldAddr ?_; refine St.load ?_; refine St.bin ?_; refine St.pickT ?_; refine WO.nil ?_)
        refine St.splitC (fun hc4 => ?_) (fun hc4 => ?_)
        · have e3 : rawX lo hi ((l.map Cv.c).take k) ++ innerX lo hi ((l[k]'hlt).ks.take (m + 1)) = (rawX lo hi ((l.map Cv.c).take k) ++ innerX lo hi ((l[k]'hlt).ks.take m)) ++ [((l[k]'hlt).ks[m]'hlt2).1] := by
            simp at hc3 hc4
            rw [hin, if_pos ⟨hc3, hc4⟩, List.append_assoc]
          (refine WK.region ?_; refine St.move ?_; refine St.fieldAddr ?_; refine St.load ?_; refine St.mkS fun _ _ => ?_)
          rename_i y2 hy2 i2 hi2
          refine St.appL (new := [.int .i64 ((l[k]'hlt).ks[m]'hlt2).1]) (Lk := [(i2, .cells [.int .i64 ((l[k]'hlt).ks[m]'hlt2).1] 3), (y2, .cells [.int .i64 ((l[k]'hlt).ks[m]'hlt2).1, .int .i64 ((l[k]'hlt).ks[m]'hlt2).2] 81), (p, .cells [.int .i64 lo, .int .i64 hi] 27)]) hw2 List.perm_append_comm (fun w3 Lw3 hw3 => ?_) ⟨rfl, rfl, rfl, rfl, rfl, rfl, rfl, rfl, rfl, rfl, rfl, rfl⟩ (List.Mem.head _) rfl (by omega) (by rw [List.length_append]; omega)
          refine WO.permF (L' := [(i2, .cells [.int .i64 ((l[k]'hlt).ks[m]'hlt2).1] 3), (y2, .cells [.int .i64 ((l[k]'hlt).ks[m]'hlt2).1, .int .i64 ((l[k]'hlt).ks[m]'hlt2).2] 81), (p, .cells [.int .i64 lo, .int .i64 hi] 27)] ++ Lw3) List.perm_append_comm ?_
          (refine St.assign ?_; refine WO.nil ?_; refine WK.blk ?_; refine WK.region ?_; refine St.binI ?_; refine St.move ?_; refine WO.nil ?_)
          refine WK.le ?_ (by (repeat (first | exact List.Sublist.refl _ | exact List.nil_sublist _ | apply List.Sublist.cons_cons | apply List.Sublist.cons))) (ih2 (m + 1, w3, Lw3) ⟨hlt2, ?_⟩ (by simp only; omega))
          · exact ⟨rfl, rfl, rfl, rfl, rfl, rfl, rfl, rfl, trivial⟩
          · simp only
            rw [e3, List.map_append, List.length_append]
            exact hw3
        · (refine WK.skip ?_; refine WK.blk ?_; refine WK.region ?_; refine St.binI ?_; refine St.move ?_; refine WO.nil ?_)
          refine WK.le ?_ (by (repeat (first | exact List.Sublist.refl _ | exact List.nil_sublist _ | apply List.Sublist.cons_cons | apply List.Sublist.cons))) (ih2 (m + 1, w2, Lw2) ⟨hlt2, ?_⟩ (by simp only; omega))
          · exact ⟨rfl, rfl, rfl, rfl, rfl, rfl, rfl, rfl, trivial⟩
          · simp at hc3 hc4
            simp only
            rw [hin, if_neg (by omega), List.append_nil]
            exact hw2
      · (refine St.skip ?_; refine St.skip ?_; refine St.skip ?_; refine St.skip ?_; refine St.skip ?_; refine St.pickF ?_; refine WO.nil ?_; refine WK.condF ?_; refine WK.skip ?_; refine WK.blk ?_; refine WK.region ?_; refine St.binI ?_; refine St.move ?_; refine WO.nil ?_)
        refine WK.le ?_ (by (repeat (first | exact List.Sublist.refl _ | exact List.nil_sublist _ | apply List.Sublist.cons_cons | apply List.Sublist.cons))) (ih2 (m + 1, w2, Lw2) ⟨hlt2, ?_⟩ (by simp only; omega))
        · exact ⟨rfl, rfl, rfl, rfl, rfl, rfl, rfl, rfl, trivial⟩
        · simp at hc3
          simp only
          rw [hin, if_neg (by omega), List.append_nil]
          exact hw2
    · have : m = (l[k]'hlt).ks.length := by simp at hc2; omega
      subst this
      (refine WK.exit ?_; refine WK.blk ?_; refine WK.region ?_; refine St.binI ?_; refine St.move ?_; refine WO.nil ?_)
      refine WK.le ?_ (by (repeat (first | exact List.Sublist.refl _ | exact List.nil_sublist _ | apply List.Sublist.cons_cons | apply List.Sublist.cons))) (ih (k + 1, w2, Lw2) ⟨hlt, ?_⟩ (by simp only; omega))
      · exact ⟨rfl, rfl, rfl, rfl, rfl, trivial⟩
      · simp only
        rw [hraw]
        rw [List.take_length] at hw2
        exact hw2
  · have : k = l.length := by simp at hc; omega
    subst this
    have hrl := rawX_len (lo := lo) (hi := hi) (l := l.map Cv.c) hle
    rw [List.length_map] at hrl
    have hr2 := rawX_pos lo hi (l.map Cv.c)
    rw [List.take_of_length_le (by simp)] at hw
    obtain ⟨i, m, o, o1, rfl, rfl, hw1, hs1⟩ := hw.inpl (P := Tryz.prog) (B := Bs) (f := 95) (F := sortX) (R := fun _ _ _ => .tup []) (fun i c h => Bs_sort i _ c h) (by omega) (by omega) (sortX_len _)
    obtain ⟨i', m', o', o2, e1, e2, hw2, hs2⟩ := hw1.inpl (P := Tryz.prog) (B := Bs) (f := 96) (F := cmpF) (R := fun i zs c => .slice i 0 (uniq zs).length c) (fun i c h => Bs_compact i _ c h) (by omega) (by omega) (cmpF_len _)
    cases e1
    cases e2
    (refine WK.exit ?_; refine WK.seq ?_; refine WK.region ?_; refine St.move ?_)
    refine St.callW (Lw := [(i, o)]) (Lk := [(p, .cells [.int .i64 lo, .int .i64 hi] 27)]) (fun _ => rfl) (fun h hh => hs1 h (hh.sub (L' := [(i, o)]) (by (repeat (first | exact List.Sublist.refl _ | exact List.nil_sublist _ | apply List.Sublist.cons_cons | apply List.Sublist.cons)))).lend) (by (repeat (first | exact List.Perm.refl _ | refine perm_at 0 rfl ?_ | refine perm_at 1 rfl ?_ | refine perm_at 2 rfl ?_ | refine perm_at 3 rfl ?_ | refine perm_at 4 rfl ?_ | refine perm_at 5 rfl ?_ | refine perm_at 6 rfl ?_ | refine perm_at 7 rfl ?_ | refine perm_at 8 rfl ?_ | refine perm_at 9 rfl ?_))) rfl ?_
    (refine WO.nil ?_; refine WK.seq ?_; refine WK.region ?_; refine St.move ?_)
    refine St.callW (Lw := [(i, o1)]) (Lk := [(p, .cells [.int .i64 lo, .int .i64 hi] 27)]) (fun _ => rfl) (fun h hh => hs2 h (hh.sub (L' := [(i, o1)]) (by (repeat (first | exact List.Sublist.refl _ | exact List.nil_sublist _ | apply List.Sublist.cons_cons | apply List.Sublist.cons)))).lend) (by (repeat (first | exact List.Perm.refl _ | refine perm_at 0 rfl ?_ | refine perm_at 1 rfl ?_ | refine perm_at 2 rfl ?_ | refine perm_at 3 rfl ?_ | refine perm_at 4 rfl ?_ | refine perm_at 5 rfl ?_ | refine perm_at 6 rfl ?_ | refine perm_at 7 rfl ?_ | refine perm_at 8 rfl ?_ | refine perm_at 9 rfl ?_))) rfl ?_
    (refine St.assign ?_; refine WO.nil ?_)
    refine WK.le (s' := [(4, .slice i 0 (cornX lo hi (l.map Cv.c)).length m)]) (L' := [(i, o2)]) ⟨rfl, trivial⟩ (by (repeat (first | exact List.Sublist.refl _ | exact List.nil_sublist _ | apply List.Sublist.cons_cons | apply List.Sublist.cons))) ?_
    refine St.ret (by first | exact .tmp .nil | exact .cell .nil | exact .cell (.tmp .nil) | exact .tmp (.tmp .nil) | exact .cell (.cell .nil) | exact .tmp (.cell .nil) | exact .nil | exact .tmp (.cell (.tmp .nil)) | exact .cell (.tmp (.tmp .nil)) | exact .cell (.cell (.tmp .nil)) | exact .tmp (.tmp (.tmp .nil)) | exact .cell (.cell (.cell .nil))) ?_
    obtain ⟨_, _, _, e3, e4, h5, _⟩ := hw2.ne (by omega)
    cases e3
    cases e4
    refine ⟨i, m, o2, rfl, rfl, ?_⟩
    rw [show (cmpF (sortX (rawX lo hi (l.map Cv.c)))) = cornX lo hi (l.map Cv.c) ++ List.replicate ((sortX (rawX lo hi (l.map Cv.c))).length - (cornX lo hi (l.map Cv.c)).length) 0 from rfl, List.map_append] at h5
    exact h5.left
end Go.Proofs.YtbhklifflhoinaaGreat
