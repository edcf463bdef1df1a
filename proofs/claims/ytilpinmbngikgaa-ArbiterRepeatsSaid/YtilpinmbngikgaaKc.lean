/- Layer 9: isMajority; promises of a round as an iterator; votedUpTo. -/
import Derived.Test.YtilpinmbngikgaaKb
import Derived.Test.YtilpinmbngikgaaKa
namespace Go.Proofs.Ytilpinmbngikgaa
open Go.Proofs.Ytilpinmbngikgaa.Ev

set_option maxRecDepth 100000 in
set_option maxHeartbeats 8000000 in
theorem onesCount_con (h : Heap) (g : Gd h) (n : Nat) (hn : n < 128) : Con Try.prog Bs 73 [.int .u64 n] h [] (.int .i64 (popN n)) [] := by
  obtain ⟨f, hf, hk⟩ := ones_ex
  refine Con.start rfl Try.func73 rfl rfl Try.ntmps73 rfl rfl g ?_
  (refine WK.seq ?_; refine WK.region ?_; refine St.assign ?_; refine WO.nil ?_; refine WK.seq ?_; refine WK.condF ?_; refine WK.skip ?_; refine WK.seq ?_; refine WK.region ?_; refine St.move ?_)
  refine St.call (fun _ => rfl) (fun h2 hh => hf h2 hh.gd n) ?_
  rw [hk n hn]
  (refine St.assign ?_; refine WO.nil ?_)
  refine St.ret (by first | exact .tmp .nil | exact .cell .nil | exact .cell (.tmp .nil) | exact .tmp (.tmp .nil) | exact .cell (.cell .nil) | exact .tmp (.cell .nil) | exact .nil | exact .tmp (.cell (.tmp .nil)) | exact .cell (.tmp (.tmp .nil)) | exact .cell (.cell (.tmp .nil)) | exact .tmp (.tmp (.tmp .nil)) | exact .cell (.cell (.cell .nil))) ?_
  rfl
set_option maxRecDepth 100000 in
set_option maxHeartbeats 8000000 in
theorem isMajority_con (h : Heap) (g : Gd h) (c : Int) (n : Nat) (hn : n < 128) : Con Try.prog Bs 43 [.int .u64 n, .agg [.int .i64 c]] h [] (.bool (decide ((popN n : Int) ≥ maj c))) [] := by
  refine Con.start rfl Try.func43 rfl rfl Try.ntmps43 rfl rfl g ?_
  (refine WK.seq ?_; refine WK.region ?_; refine St.box fun _ _ => ?_; refine St.assign ?_; refine WO.nil ?_; refine WK.seq ?_; refine WK.regionD ?_; refine St.move ?_)
  refine St.call (fun _ => rfl) (fun h2 hh => onesCount_con h2 hh.gd n hn) ?_
  (refine St.load ?_)
  refine St.call (fun _ => rfl) (fun h2 hh => majority_con h2 hh.gd c) ?_
  (refine St.bin ?_; refine St.assign ?_; refine WO.nil ?_)
  refine St.ret (by first | exact .tmp .nil | exact .cell .nil | exact .cell (.tmp .nil) | exact .tmp (.tmp .nil) | exact .cell (.cell .nil) | exact .tmp (.cell .nil) | exact .nil | exact .tmp (.cell (.tmp .nil)) | exact .cell (.tmp (.tmp .nil)) | exact .cell (.cell (.tmp .nil)) | exact .tmp (.tmp (.tmp .nil)) | exact .cell (.cell (.cell .nil))) ?_
  rfl
set_option maxRecDepth 100000 in
set_option maxHeartbeats 32000000 in
theorem promises_y (hb : Heap) (v : AV) (l : List Le) (rd : Int) (hv : LeV hb v l) (hl : l.length ≤ 1000000) : YieldsOf 104 hb (.cells [v] 24) (.cells [.int .i64 rd] 3) (prms l rd).length (fun k => [.agg (leC (atL (prms l rd) k))]) := by
  intro h r jw js q L0 I F hlt hI hr
  have hWW := hlt.ss.ltW
  refine Con.pick (Con.startR rfl Try.func104 rfl rfl Try.ntmps104 rfl rfl hlt.ss ?_)
  (refine WK.seq ?_; refine WK.region ?_; refine St.load ?_)
  refine St.lenG rfl hv.llen ?_
  (refine St.move ?_; refine WO.nil ?_; refine WK.block ?_)
  refine WK.inv (ι := Nat × Ob) (fun z => [(0, .fn (.yield r) [] []), (1, .ptr jw 0), (2, .ptr js 0), (6, v), (7, .int .i64 l.length), (8, .int .i64 z.1)]) (fun z => (r, .loop q) :: (jw, .cells [v] 24) :: (js, .cells [.int .i64 rd] 3) :: z.2) (fun z => z.1 ≤ l.length ∧ I (prms (l.take z.1) rd).length z.2) (fun z => l.length - z.1) (0, L0) ⟨Nat.zero_le _, hI⟩ ⟨rfl, rfl, rfl, rfl, rfl, rfl, trivial⟩ (by exact List.Sublist.refl _) ?_
  rintro ⟨i, Lk⟩ ⟨hil, hIk⟩ ih
  simp only at hil hIk ih ⊢
  (refine WK.seq ?_; refine WK.region ?_; refine St.bin ?_; refine WO.nil ?_; refine WK.seq ?_)
  refine St.splitC (fun hc => ?_) (fun hc => ?_)
  · have hlti : i < l.length := by simp at hc; omega
    have hv' := hv
    obtain ⟨b, off, m, rfl, hk⟩ := hv'.ne (by omega)
    have ea : atL l i = nthE l i := rfl
    (refine WK.skip ?_; refine WK.seq ?_; refine WK.block ?_; refine WK.seq ?_; refine WK.region ?_)
    refine St.at ?_
    refine St.loadX (fun h2 hh => ((hk.vw (hlt.to hh)).at_ (z := (i : Int)) (n := i) (by omega) hlti).agg (by simp [leC]) rfl rfl rfl) ?_
    (refine St.alloc fun _ _ => ?_; refine St.store0 ?_; refine WO.nil ?_; refine WK.seq ?_; refine WK.region ?_; refine St.fieldAddr ?_; refine St.load ?_; refine St.bin ?_; refine St.move ?_)
    rename_i p5 hp5
    refine St.split (fun q1 => ?_) (fun q1 => ?_)
    rotate_left
    · have e1 : ¬ (nthE l i).kd = 2 := by simpa using q1
      have hp := prms_no (rd := rd) hlti (by rw [ea]; unfold prmB; simp [e1])
      (refine St.skip ?_; refine St.skip ?_; refine St.skip ?_; refine St.skip ?_; refine St.pickF ?_; refine St.move ?_; refine St.skip ?_; refine St.skip ?_; refine St.skip ?_; refine St.skip ?_; refine St.pickF ?_; refine WO.nil ?_; refine WK.condF ?_; refine WK.skip ?_; refine WK.blk ?_; refine WK.region ?_; refine St.binI ?_; refine St.move ?_; refine WO.nil ?_)
      refine WK.le ?_ (by exact List.sublist_cons_self _ _) (ih (i + 1, Lk) ⟨hlti, by rw [hp]; exact hIk⟩ (by simp only; omega))
      exact ⟨rfl, rfl, rfl, rfl, rfl, rfl, trivial⟩
    have e1 : (nthE l i).kd = 2 := by simpa using q1
    (refine St.fieldAddr ?_; refine St.load ?_; refine St.load ?_; refine St.bin ?_; refine St.pickT ?_; refine St.move ?_)
    refine St.split (fun q2 => ?_) (fun q2 => ?_)
    rotate_left
    · have e2 : ¬ (nthE l i).rd = rd := by simpa using q2
      have hp := prms_no (rd := rd) hlti (by rw [ea]; unfold prmB; simp [e2])
      (refine St.skip ?_; refine St.skip ?_; refine St.skip ?_; refine St.skip ?_; refine St.pickF ?_; refine WO.nil ?_; refine WK.condF ?_; refine WK.skip ?_; refine WK.blk ?_; refine WK.region ?_; refine St.binI ?_; refine St.move ?_; refine WO.nil ?_)
      refine WK.le ?_ (by exact List.sublist_cons_self _ _) (ih (i + 1, Lk) ⟨hlti, by rw [hp]; exact hIk⟩ (by simp only; omega))
      exact ⟨rfl, rfl, rfl, rfl, rfl, rfl, trivial⟩
    have e2 : (nthE l i).rd = rd := by simpa using q2
    obtain ⟨hp1, hp2, hp3⟩ := prms_at (rd := rd) hlti (by rw [ea]; unfold prmB; simp [e1, e2])
    (refine St.move ?_; refine St.load ?_)
    have hpm : ∀ (q : ALoop) (Lk : Ob), (((r, AObj.loop q) :: Lk) ++ [(p5, AObj.cells (leC (nthE l i)) 38), (jw, .cells [.slice b off l.length m] 24), (js, .cells [.int .i64 rd] 3)]).Perm ((p5, AObj.cells (leC (nthE l i)) 38) :: (r, .loop q) :: (jw, .cells [.slice b off l.length m] 24) :: (js, .cells [.int .i64 rd] 3) :: Lk) := fun q Lk => by (refine perm_cnt fun _ _ => ?_; simp only [List.append_eq, List.cons_append, List.nil_append, List.count_append, List.count_cons, List.count_nil, Nat.add_zero, Nat.zero_add]; try ac_rfl)
    refine Ev.St.roundR (args := [.agg (leC (nthE l i))]) (Lw := (r, .loop q) :: Lk) (Lk := [(p5, AObj.cells (leC (nthE l i)) 38), (jw, .cells [.slice b off l.length m] 24), (js, .cells [.int .i64 rd] 3)]) (fun _ => rfl) (fun h3 hh => by
      have := hr _ Lk h3 hp1 hIk (hlt.next hh (hpm q Lk))
      simp only [hp2] at this
      exact this) (hpm q Lk) rfl ?_
    rintro u L' ⟨bb, q', Lk', rfl, rfl, g1, g2⟩
    refine WO.permF (L' := (p5, AObj.cells (leC (nthE l i)) 38) :: (r, .loop q') :: (jw, .cells [.slice b off l.length m] 24) :: (js, .cells [.int .i64 rd] 3) :: Lk') ?_ ?_
    · exact (hpm q' Lk').symm
    cases bb
    · (refine St.un ?_; refine St.pickT ?_; refine WO.nil ?_; refine WK.condT ?_)
      refine St.ret .nil ?_
      refine ⟨(r, .loop q') :: Lk', [(p5, AObj.cells (leC (nthE l i)) 38), (jw, .cells [.slice b off l.length m] 24), (js, .cells [.int .i64 rd] 3)], ?_, q', Lk', rfl, rfl, .inr (g2 rfl)⟩
      exact hpm q' Lk'
    · obtain ⟨rfl, hI2⟩ := g1 rfl
      (refine St.un ?_; refine St.pickT ?_; refine WO.nil ?_; refine WK.condF ?_; refine WK.skip ?_; refine WK.blk ?_; refine WK.region ?_; refine St.binI ?_; refine St.move ?_; refine WO.nil ?_)
      refine WK.le ?_ (by exact List.sublist_cons_self _ _) (ih (i + 1, Lk') ⟨hlti, by rw [hp3]; exact hI2⟩ (by simp only; omega))
      exact ⟨rfl, rfl, rfl, rfl, rfl, rfl, trivial⟩
  · have : i = l.length := by simp at hc; omega
    subst this
    rw [List.take_length] at hIk
    (refine WK.exit ?_)
    refine St.fin .nil ?_
    refine ⟨(r, .loop q) :: Lk, [(jw, .cells [v] 24), (js, .cells [.int .i64 rd] 3)], ?_, q, Lk, rfl, rfl, .inl ⟨rfl, hIk⟩⟩
    (refine perm_cnt fun _ _ => ?_; simp only [List.append_eq, List.cons_append, List.nil_append, List.count_append, List.count_cons, List.count_nil, Nat.add_zero, Nat.zero_add]; try ac_rfl)
set_option maxRecDepth 100000 in
theorem promises_con (h : Heap) (g : Gd h) (v : AV) (rd : Int) (hok : okCell v = true) : ∃ u L, Con Try.prog Bs 93 [v, .int .i64 rd] h [] u L ∧ ∃ j1 j2, u = .fn (.func 104) [] [.ptr j1 0, .ptr j2 0] ∧ L = [(j2, .cells [.int .i64 rd] 3), (j1, .cells [v] 24)] := by
  have hc := okCell_cells hok
  refine Con.startR rfl Try.func93 rfl rfl Try.ntmps93 rfl rfl (SS.init g) ?_
  (refine WK.seq ?_; refine WK.region ?_; refine St.box fun _ _ => ?_; refine St.box fun _ _ => ?_; refine St.assign ?_; refine WO.nil ?_; refine WK.seq ?_; refine WK.region ?_; refine St.fn ?_; refine St.assign ?_; refine WO.nil ?_)
  refine St.ret (by first | exact .tmp .nil | exact .cell .nil | exact .cell (.tmp .nil) | exact .tmp (.tmp .nil) | exact .cell (.cell .nil) | exact .tmp (.cell .nil) | exact .nil | exact .tmp (.cell (.tmp .nil)) | exact .cell (.tmp (.tmp .nil)) | exact .cell (.cell (.tmp .nil)) | exact .tmp (.tmp (.tmp .nil)) | exact .cell (.cell (.cell .nil))) ?_
  exact ⟨_, _, rfl, by rw [hc]; rfl⟩
theorem withI_con (h : Heap) (g : Gd h) (b : Nat) (a : Int) (hb : b < 128) (ha : 0 ≤ a ∧ a < 7) : Con Try.prog Bs 41 [.int .u64 b, .int .i64 a] h [] (.int .u64 ((b ||| 2 ^ a.toNat : Nat) : Int)) [] := by
  have := with_con h g b a.toNat hb (by omega)
  rwa [show ((a.toNat : Nat) : Int) = a by omega] at this
set_option maxRecDepth 100000 in
set_option maxHeartbeats 16000000 in
theorem votedUpTo_con (h : Heap) (g : Gd h) (v : AV) (l : List Le) (rd last : Int) (hv : LeV h v l) (hl : l.length ≤ 1000000) (hfr : ∀ y ∈ l, 0 ≤ y.fr ∧ y.fr < 7) : Con Try.prog Bs 92 [v, .int .i64 rd, .int .i64 last] h [] (.int .u64 (vBits l rd last)) [] := by
  have hpf : ∀ i, i < (prms l rd).length → 0 ≤ (atL (prms l rd) i).fr ∧ (atL (prms l rd) i).fr < 7 := fun i hi => hfr _ (prms_mem hi).1
  refine Con.start rfl Try.func92 rfl rfl Try.ntmps92 rfl rfl g ?_
  (refine WK.seq ?_; refine WK.region ?_; refine St.box fun _ _ => ?_; refine St.assign ?_; refine WO.nil ?_; refine WK.seq ?_; refine WK.region ?_; refine St.alloc fun _ _ => ?_; refine St.store0 ?_; refine WO.nil ?_; refine WK.seq ?_; refine WK.seq ?_; refine WK.region ?_; refine St.move ?_; refine St.move ?_)
  rename_i p5 hp5 p7 hp7
  refine St.callR (fun _ => rfl) (fun h2 hh => promises_con h2 hh.gd v rd (EV.okv hv)) ?_
  rintro u L' ⟨j1, j2, rfl, rfl⟩
  (refine WO.nil ?_; refine WK.block ?_)
  refine rangeY (hb := h) (j1 := j1) (j2 := j2) (L0 := [(p7, .cells [.int .u64 0] 71), (p5, .cells [.int .i64 last] 3)])
    (fun k Ln => Ln = [(p7, .cells [.int .u64 (bitsTo (prms l rd) last k)] 71), (p5, .cells [.int .i64 last] 3)])
    (fun _ _ => False) (promises_y h v l rd hv hl) rfl (SS.init g).vw (fun _ h => by cases h) (by (repeat (first | exact List.Perm.refl _ | refine perm_at 0 rfl ?_ | refine perm_at 1 rfl ?_ | refine perm_at 2 rfl ?_ | refine perm_at 3 rfl ?_ | refine perm_at 4 rfl ?_ | refine perm_at 5 rfl ?_ | refine perm_at 6 rfl ?_ | refine perm_at 7 rfl ?_ | refine perm_at 8 rfl ?_ | refine perm_at 9 rfl ?_))) rfl (fun _ => rfl) rfl ?_ ?_ ?_
  · rintro r2 q2 hq2 k Lk h2 hk rfl hl2
    have hW2 := hl2.ss.ltW
    have hf := hpf k hk
    have hb := bits_lt (p := prms l rd) (last := last) (k := k) fun i hi => hpf i (by omega)
    have hs : bitsTo (prms l rd) last (k + 1) = if (atL (prms l rd) k).vo ≤ last then bitsTo (prms l rd) last k ||| 2 ^ (atL (prms l rd) k).fr.toNat else bitsTo (prms l rd) last k := rfl
    generalize bitsTo (prms l rd) last k = b at hb hs ⊢
    (refine WK.region ?_; refine St.alloc fun _ _ => ?_; refine St.store0 ?_; refine WO.nil ?_)
    rename_i j8 hj8
    refine WK.busyQ hq2.st (A := [(_, _)]) rfl ?_
    (refine WK.block ?_; refine WK.seq ?_; refine WK.region ?_; refine St.fieldAddr ?_; refine St.load ?_; refine St.load ?_; refine St.bin ?_; refine WO.nil ?_)
    refine St.splitC (fun hc => ?_) (fun hc => ?_)
    · have e1 : (atL (prms l rd) k).vo ≤ last := by simpa using hc
      rw [if_pos e1] at hs
      (refine WK.region ?_; refine St.load ?_; refine St.fieldAddr ?_; refine St.load ?_)
      refine St.call (fun _ => rfl) (fun h2 hh => withI_con h2 hh.gd b (atL (prms l rd) k).fr hb hf) ?_
      (refine St.store2 ?_; refine WO.nil ?_; refine WK.blk ?_)
      refine endY (Lk := [(p7, .cells [.int .u64 ((b ||| 2 ^ (atL (prms l rd) k).fr.toNat : Nat) : Int)] 71), (p5, .cells [.int .i64 last] 3)]) (X := [(j8, .cells (leC (atL (prms l rd) k)) 38)]) (by (refine perm_cnt fun _ _ => ?_; simp only [List.append_eq, List.cons_append, List.nil_append, List.count_append, List.count_cons, List.count_nil, Nat.add_zero, Nat.zero_add]; try ac_rfl)) (by rw [hs])
    · have e1 : ¬ (atL (prms l rd) k).vo ≤ last := by simp at hc; omega
      rw [if_neg e1] at hs
      (refine WK.skip ?_; refine WK.blk ?_)
      refine endY (Lk := [(p7, .cells [.int .u64 b] 71), (p5, .cells [.int .i64 last] 3)]) (X := [(j8, .cells (leC (atL (prms l rd) k)) 38)]) (by (refine perm_cnt fun _ _ => ?_; simp only [List.append_eq, List.cons_append, List.nil_append, List.count_append, List.count_cons, List.count_nil, Nat.add_zero, Nat.zero_add]; try ac_rfl)) (by rw [hs])
  · rintro dq L' rfl
    (refine WK.blk ?_; refine WK.seq ?_; refine WK.region ?_; refine St.load ?_; refine St.assign ?_; refine WO.nil ?_)
    refine St.ret1 (C := []) rfl (.tmp .nil) ?_
    rfl
  · rintro dq c L' hF
    exact hF.elim
end Go.Proofs.Ytilpinmbngikgaa
