/- What a water tells of gauges: see, common, Levels. -/
import Derived.Test.YtgjkfmcjalcefaaGreatQa
namespace Go.Proofs.YtgjkfmcjalcefaaGreat
open Go.Proofs.YtgjkfmcjalcefaaGreat.Ev

theorem Ev.Vw.rdsD {h0 h : Heap} {W : List Nat} {V : Ob} {j : Nat} {o : AObj} {L : List AV} (k : Vw h0 W V h) (hm : (j, o) ∈ V) (ho : o.has L) : ∀ (m r : List AV) (off : Nat), L.drop off = m ++ r → Rds h j off m
  | [], _, _, _ => trivial
  | v :: m, r, off, e => by
    have hlt : off < L.length := by
      have := congrArg List.length e
      simp at this
      omega
    rw [List.drop_eq_getElem_cons hlt] at e
    obtain ⟨e1, e2⟩ := List.cons.inj e
    refine ⟨?_, k.rdsD hm ho m r (off + 1) e2⟩
    exact k.rdL hm ho (by rw [List.getElem?_eq_getElem hlt, e1])
/-- a gauge with its levels -/
def seeC (cs : List Cy) (ss : List Sh) (g : Ga) : List AV := [.int .i64 g.id, .int .i64 g.tk, .int .i64 g.lo, .int .i64 g.hi, .int .i64 (lvG cs ss g).1, .int .i64 (lvG cs ss g).2]
def seeA (cs : List Cy) (ss : List Sh) (l : List Ga) : List AV := (l.map (seeC cs ss)).flatten
theorem seeA_len (cs : List Cy) (ss : List Sh) : ∀ l : List Ga, (seeA cs ss l).length = l.length * 6
  | [] => rfl
  | g :: r => by
    have := seeA_len cs ss r
    show (seeC cs ss g ++ seeA cs ss r).length = _
    rw [List.length_append, this, List.length_cons]
    show 6 + _ = _
    omega
theorem seeA_snoc (cs : List Cy) (ss : List Sh) (l : List Ga) (g : Ga) : seeA cs ss (l ++ [g]) = seeA cs ss l ++ seeC cs ss g := by
  unfold seeA
  simp
theorem seeA_drop (cs : List Cy) (ss : List Sh) : ∀ (l : List Ga) (i : Nat), i < l.length → (seeA cs ss l).drop (i * 6) = seeC cs ss (nthG l i) ++ seeA cs ss (l.drop (i + 1))
  | [], _, h => by simp at h
  | g :: r, 0, _ => rfl
  | g :: r, i + 1, h => by
    have := seeA_drop cs ss r i (by simpa using h)
    show (seeC cs ss g ++ seeA cs ss r).drop ((i + 1) * 6) = _
    rw [show (i + 1) * 6 = (seeC cs ss g).length + i * 6 from by show _ = 6 + _; omega, List.drop_append, List.drop_eq_nil_of_le (by omega), Nat.add_sub_cancel_left, List.nil_append, this]
    rfl
/-- sightings in memory -/
def SeH (h : Heap) (b off : Nat) (cs : List Cy) (ss : List Sh) (l : List Ga) : Prop := ∀ i, i < l.length → Rds h b (off + i * 6) (seeC cs ss (nthG l i))
theorem SeH.vw {h0 h : Heap} {V : Ob} {b off cs ss l} (k : SeH h0 b off cs ss l) (hh : Vw h0 [] V h) : SeH h b off cs ss l := fun i hi => hh.rds (by simp) (k i hi)
theorem SeH.at_ {h : Heap} {b off cs ss l} (k : SeH h b off cs ss l) {z : Int} {n : Nat} (e : z.toNat = n) (hi : n < l.length) : Rds h b (off + z.toNat * 6) [.int .i64 (nthG l n).id, .int .i64 (nthG l n).tk, .int .i64 (nthG l n).lo, .int .i64 (nthG l n).hi, .int .i64 (lvG cs ss (nthG l n)).1, .int .i64 (lvG cs ss (nthG l n)).2] := by
  subst e; exact k _ hi
def SeV (h : Heap) (v : AV) (cs : List Cy) (ss : List Sh) (l : List Ga) : Prop := ((v = .slice0 ∨ v = .sliceZ) ∧ l = []) ∨ ∃ b off c, v = .slice b off l.length c ∧ SeH h b off cs ss l
theorem SeV.vw {h0 h : Heap} {V : Ob} {v cs ss l} (k : SeV h0 v cs ss l) (hh : Vw h0 [] V h) : SeV h v cs ss l := by
  rcases k with k | ⟨b, off, c, rfl, k⟩
  · exact .inl k
  · exact .inr ⟨b, off, c, rfl, k.vw hh⟩
theorem SeV.ne {h : Heap} {v : AV} {cs ss} {l : List Ga} (k : SeV h v cs ss l) (hn : 0 < l.length) : ∃ b off c, v = .slice b off l.length c ∧ SeH h b off cs ss l := by
  rcases k with ⟨_, rfl⟩ | k
  · simp at hn
  · exact k
theorem SeV.len {h : Heap} {v : AV} {cs ss} {l : List Ga} (k : SeV h v cs ss l) : ∀ h2, lenA Tryz.prog 79 h2 v = some (.int .i64 (l.length : Int)) := by
  intro h2
  unfold lenA
  rw [Tryz.underlying79]
  rcases k with ⟨rfl | rfl, rfl⟩ | ⟨b, off, c, rfl, _⟩ <;> rfl
/-- what see returned, read afterwards -/
theorem see_v {h0 h : Heap} {W : List Nat} {V : Ob} {cs : List Cy} {ss : List Sh} {l : List Ga} {v : AV} {Lv : Ob} (hw : IsR 87 6 l.length (seeA cs ss l) v Lv) (k : Vw h0 W V h) (hm : ∀ x ∈ Lv, x ∈ V) : SeV h v cs ss l := by
  cases hw with
  | nil h1 h2 => exact .inl ⟨.inl rfl, List.length_eq_zero_iff.1 h1⟩
  | row i h1 =>
    refine .inr ⟨i, 0, .m 0, rfl, fun j hj => ?_⟩
    rw [Nat.zero_add]
    exact k.rdsD (hm _ (List.mem_cons_self ..)) (AObj.has_row _ _ _) _ _ _ (seeA_drop cs ss l j hj)
set_option maxRecDepth 100000 in
set_option maxHeartbeats 8000000 in
theorem commonG_con (h : Heap) (g : Gd h) (v : AV) (cs : List Cy) (ss : List Sh) (l : List Ga) (hv : SeV h v cs ss l) (hl : l.length ≤ 1000000) :
    Con Tryz.prog Bs 34 [v] h [] (.agg [.int .i64 (comG cs ss l).1, .int .i64 (comG cs ss l).2]) [] := by
  refine Con.start rfl Tryz.func34 rfl rfl Tryz.ntmps34 rfl rfl g ?_
  (refine WK.seq ?_; refine WK.region ?_; refine St.alloc fun _ _ => ?_; refine WO.nil ?_; refine WK.seq ?_; refine WK.region ?_)
  rename_i r hr
  refine St.call (fun _ => rfl) (fun h2 hh => allLevels_con h2 hh.gd) ?_
  (refine St.alloc fun _ _ => ?_; refine St.store0 ?_; refine WO.nil ?_; refine WK.seq ?_; refine WK.seq ?_; refine WK.region ?_; refine St.move ?_)
  rename_i q hq
  refine St.lenV rfl hv.len ?_
  (refine St.move ?_; refine WO.nil ?_; refine WK.block ?_)
  by_cases hn : l.length = 0
  · have e1 : l = [] := List.length_eq_zero_iff.1 hn
    subst e1
    refine WK.unroll ?_
    (refine WK.seq ?_; refine WK.region ?_; refine St.bin ?_; refine WO.nil ?_; refine WK.seq ?_; refine WK.condF ?_; refine WK.exit ?_; refine WK.seq ?_; refine WK.region ?_; refine St.load ?_; refine St.store1 ?_; refine WO.nil ?_)
    refine St.ret (by first | exact .tmp .nil | exact .cell .nil | exact .cell (.tmp .nil) | exact .tmp (.tmp .nil) | exact .cell (.cell .nil) | exact .tmp (.cell .nil) | exact .nil | exact .tmp (.cell (.tmp .nil)) | exact .cell (.tmp (.tmp .nil)) | exact .cell (.cell (.tmp .nil)) | exact .tmp (.tmp (.tmp .nil)) | exact .cell (.cell (.cell .nil))) ?_
    rfl
  obtain ⟨b, off, c, rfl, hk⟩ := hv.ne (by omega)
  refine WK.inv (ι := Nat) (fun z => [(2, .ptr r 0), (3, .ptr q 0), (7, .slice b off l.length c), (8, .int .i64 l.length), (9, .int .i64 z)]) (fun z => [(q, .cells [.int .i64 (comG cs ss (l.take z)).1, .int .i64 (comG cs ss (l.take z)).2] 30), (r, .cells [.int .i64 0, .int .i64 0] 30)]) (fun z => z ≤ l.length) (fun z => l.length - z) 0 (by omega) ⟨rfl, rfl, rfl, rfl, rfl, trivial⟩ (by (repeat (first | exact List.Sublist.refl _ | exact List.nil_sublist _ | apply List.Sublist.cons_cons | apply List.Sublist.cons))) ?_
  rintro k hkl ih
  (refine WK.seq ?_; refine WK.region ?_; refine St.bin ?_; refine WO.nil ?_; refine WK.seq ?_)
  refine St.splitC (fun hc => ?_) (fun hc => ?_)
  · have hlt : k < l.length := by simp at hc; omega
    have hs := com_succ (cs := cs) (ss := ss) hlt
    (refine WK.skip ?_; refine WK.seq ?_; refine WK.block ?_; refine WK.seq ?_; refine WK.region ?_)
    refine St.at ?_
    refine St.loadX (fun h hh => ((hk.vw hh).at_ (z := (k : Int)) (n := k) (by omega) hlt).agg (by simp) rfl rfl rfl) ?_
    (refine St.alloc fun _ _ => ?_; refine St.store0 ?_; refine WO.nil ?_; refine WK.region ?_; refine St.load ?_; refine St.fieldAddr ?_; refine St.load ?_)
    refine St.call (fun _ => rfl) (fun h2 hh => meet_con h2 hh.gd (comG cs ss (l.take k)).1 (comG cs ss (l.take k)).2 (lvG cs ss (nthG l k)).1 (lvG cs ss (nthG l k)).2) ?_
    (refine St.store1 ?_; refine WO.nil ?_; refine WK.blk ?_; refine WK.region ?_; refine St.binI ?_; refine St.move ?_; refine WO.nil ?_)
    have ih2 := ih (k + 1) hlt (by omega)
    simp only [hs, meetP] at ih2
    refine WK.le ?_ (by (repeat (first | exact List.Sublist.refl _ | exact List.nil_sublist _ | apply List.Sublist.cons_cons | apply List.Sublist.cons))) ih2
    exact ⟨rfl, rfl, rfl, rfl, rfl, trivial⟩
  · have : k = l.length := by simp at hc; omega
    subst this
    rw [List.take_length]
    (refine WK.exit ?_; refine WK.seq ?_; refine WK.region ?_; refine St.load ?_; refine St.store1 ?_; refine WO.nil ?_)
    refine St.ret (by first | exact .tmp .nil | exact .cell .nil | exact .cell (.tmp .nil) | exact .tmp (.tmp .nil) | exact .cell (.cell .nil) | exact .tmp (.cell .nil) | exact .nil | exact .tmp (.cell (.tmp .nil)) | exact .cell (.tmp (.tmp .nil)) | exact .cell (.cell (.tmp .nil)) | exact .tmp (.tmp (.tmp .nil)) | exact .cell (.cell (.cell .nil))) ?_
    rfl
set_option maxRecDepth 100000 in
set_option maxHeartbeats 16000000 in
theorem see_con (h : Heap) (g : Gd h) (lv : Int) (cv sv v : AV) (cl : List Cw) (ss : List Sh) (l : List Ga) (hc : CyV h cv cl) (hs : ShV h sv ss) (hv : GaV h v l) (hl : l.length ≤ 1000) (w : WOk lv (cys cl) ss) (hg : ∀ x ∈ l, GaOk x) :
    ∃ u L, Con Tryz.prog Bs 35 [.agg [.int .i64 lv, cv, sv], v] h [] u L ∧ IsR 87 6 l.length (seeA (cys cl) ss l) u L := by
  refine Con.subR (Con.startR rfl Tryz.func35 rfl rfl Tryz.ntmps35 rfl rfl (SS.init g) ?_)
  (refine WK.seq ?_; refine WK.region ?_; refine St.box fun _ _ => ?_; refine St.assign ?_; refine WO.nil ?_; refine WK.seq ?_; refine WK.region ?_; refine St.assign ?_; refine WO.nil ?_; refine WK.seq ?_; refine WK.seq ?_; refine WK.region ?_; refine St.move ?_)
  rename_i p hp
  refine St.lenV rfl hv.len ?_
  (refine St.move ?_; refine WO.nil ?_; refine WK.block ?_)
  by_cases hn : l.length = 0
  · have e1 : l = [] := List.length_eq_zero_iff.1 hn
    subst e1
    refine WK.unroll ?_
    (refine WK.seq ?_; refine WK.region ?_; refine St.bin ?_; refine WO.nil ?_; refine WK.seq ?_; refine WK.condF ?_; refine WK.exit ?_; refine WK.seq ?_; refine WK.region ?_; refine St.move ?_; refine St.assign ?_; refine WO.nil ?_)
    refine St.ret (by first | exact .tmp .nil | exact .cell .nil | exact .cell (.tmp .nil) | exact .tmp (.tmp .nil) | exact .cell (.cell .nil) | exact .tmp (.cell .nil) | exact .nil | exact .tmp (.cell (.tmp .nil)) | exact .cell (.tmp (.tmp .nil)) | exact .cell (.cell (.tmp .nil)) | exact .tmp (.tmp (.tmp .nil)) | exact .cell (.cell (.cell .nil))) ?_
    exact ⟨[], List.nil_sublist _, .nil rfl rfl⟩
  obtain ⟨b, off, c, rfl, hk⟩ := hv.ne (by omega)
  refine WK.inv (ι := Nat × AV × Ob) (fun z => [(2, .ptr p 0), (4, .slice0), (5, z.2.1), (9, .slice b off l.length c), (10, .int .i64 l.length), (11, .int .i64 z.1)]) (fun z => (p, .cells [.int .i64 lv, cv, sv] 25) :: z.2.2) (fun z => z.1 ≤ l.length ∧ IsR 87 6 z.1 (seeA (cys cl) ss (l.take z.1)) z.2.1 z.2.2) (fun z => l.length - z.1) (0, .slice0, []) ⟨Nat.zero_le _, .nil rfl rfl⟩ ⟨rfl, rfl, rfl, rfl, rfl, rfl, trivial⟩ (by (repeat (first | exact List.Sublist.refl _ | exact List.nil_sublist _ | apply List.Sublist.cons_cons | apply List.Sublist.cons))) ?_
  rintro ⟨k, u, Lw⟩ ⟨hkl, hw⟩ ih
  simp only at hkl hw ih ⊢
  (refine WK.seq ?_; refine WK.region ?_; refine St.bin ?_; refine WO.nil ?_; refine WK.seq ?_)
  refine St.splitC (fun hc2 => ?_) (fun hc2 => ?_)
  · have hlt : k < l.length := by simp at hc2; omega
    have hgk := hg (nthG l k) (by rw [nthG_eq hlt]; exact List.getElem_mem hlt)
    have e3 : seeA (cys cl) ss (l.take (k + 1)) = seeA (cys cl) ss (l.take k) ++ seeC (cys cl) ss (nthG l k) := by
      rw [List.take_succ_eq_append_getElem hlt, seeA_snoc, nthG_eq hlt]
    (refine WK.skip ?_; refine WK.seq ?_; refine WK.block ?_; refine WK.seq ?_; refine WK.region ?_)
    refine St.at ?_
    refine St.loadX (fun h hh => ((hk.vw hh).at_ (z := (k : Int)) (n := k) (by omega) hlt).agg (by simp) rfl rfl rfl) ?_
    have d1 := hgk.tk1
    have d2 := hgk.tk2
    have d3 := hgk.lo
    have d4 := hgk.hi
    have d5 := hgk.le
    have hcb := corD_bd (day := (nthG l k).tk / 1440) (chkS_all w.ss)
    have hsb := sumV_bd (t := (nthG l k).tk) (chkC_all w.cs) _ (Nat.le_refl _)
    have hn1 := w.n1
    have hbv : -28000 ≤ bareV (cys cl) ss (nthG l k).tk ∧ bareV (cys cl) ss (nthG l k).tk ≤ 28000 := by unfold bareV; omega
    (refine St.alloc fun _ _ => ?_; refine St.store0 ?_; refine WO.nil ?_; refine WK.seq ?_; refine WK.region ?_; refine St.load ?_; refine St.fieldAddr ?_; refine St.load ?_)
    refine St.call (fun _ => rfl) (fun h2 hh => bare_con h2 hh.gd lv (nthG l k).tk cv sv cl ss (hc.vw hh) (hs.vw hh) w d1 d2) ?_
    (refine St.assign ?_; refine WO.nil ?_; refine WK.regionD ?_; refine St.move ?_; refine St.load ?_)
    rename_i x hx
    refine St.call (fun _ => rfl) (fun h2 hh => allLevels_con h2 hh.gd) ?_
    (refine St.fieldAddr ?_; refine St.fieldAddr ?_; refine St.load ?_; refine St.move ?_; refine St.binI ?_; refine St.fieldAddr ?_; refine St.fieldAddr ?_; refine St.load ?_; refine St.move ?_; refine St.binI ?_; refine St.build ?_)
    refine St.call (fun _ => rfl) (fun h2 hh => meet_con h2 hh.gd (-4000) 4000 ((nthG l k).lo - bareV (cys cl) ss (nthG l k).tk) ((nthG l k).hi - bareV (cys cl) ss (nthG l k).tk)) ?_
    (refine St.build ?_; refine StD.mkS fun _ _ => ?_)
    rename_i i2 hi2
    refine StD.appL (new := seeC (cys cl) ss (nthG l k)) (Lk := [(x, .cells [.int .i64 (nthG l k).id, .int .i64 (nthG l k).tk, .int .i64 (nthG l k).lo, .int .i64 (nthG l k).hi] 75), (p, .cells [.int .i64 lv, cv, sv] 25)]) hw List.perm_append_comm (fun j' hj' => ?_) ⟨rfl, rfl, rfl, rfl, rfl, rfl, rfl, rfl, rfl, rfl, rfl, rfl⟩ (List.Mem.head _) rfl (by omega) (by omega)
    (refine St.assign ?_; refine WO.nil2 ?_; refine WK.blk ?_; refine WK.region ?_; refine St.binI ?_; refine St.move ?_; refine WO.nil ?_)
    refine WK.perm (L' := [(x, .cells [.int .i64 (nthG l k).id, .int .i64 (nthG l k).tk, .int .i64 (nthG l k).lo, .int .i64 (nthG l k).hi] 75), (p, .cells [.int .i64 lv, cv, sv] 25), (j', .row (seeA (cys cl) ss (l.take k) ++ seeC (cys cl) ss (nthG l k)) 87 6), (i2, .cells (seeC (cys cl) ss (nthG l k)) 87)]) (by (repeat (first | exact List.Perm.refl _ | refine perm_at 0 rfl ?_ | refine perm_at 1 rfl ?_ | refine perm_at 2 rfl ?_ | refine perm_at 3 rfl ?_ | refine perm_at 4 rfl ?_ | refine perm_at 5 rfl ?_ | refine perm_at 6 rfl ?_ | refine perm_at 7 rfl ?_ | refine perm_at 8 rfl ?_ | refine perm_at 9 rfl ?_))) ?_
    refine WK.le ?_ (by (repeat (first | exact List.Sublist.refl _ | exact List.nil_sublist _ | apply List.Sublist.cons_cons | apply List.Sublist.cons))) (ih (k + 1, .slice j' 0 (k + 1) (.m 0), [(j', .row (seeA (cys cl) ss (l.take k) ++ seeC (cys cl) ss (nthG l k)) 87 6)]) ⟨hlt, ?_⟩ (by simp only; omega))
    · exact ⟨rfl, rfl, rfl, rfl, rfl, rfl, trivial⟩
    · simp only
      rw [e3]
      exact .row j' (by rw [← e3, seeA_len, List.length_take]; omega)
  · have : k = l.length := by simp at hc2; omega
    subst this
    rw [List.take_length] at hw
    (refine WK.exit ?_; refine WK.seq ?_; refine WK.region ?_; refine St.move ?_; refine St.assign ?_; refine WO.nil ?_)
    refine St.ret (by first | exact .tmp .nil | exact .cell .nil | exact .cell (.tmp .nil) | exact .tmp (.tmp .nil) | exact .cell (.cell .nil) | exact .tmp (.cell .nil) | exact .nil | exact .tmp (.cell (.tmp .nil)) | exact .cell (.tmp (.tmp .nil)) | exact .cell (.cell (.tmp .nil)) | exact .tmp (.tmp (.tmp .nil)) | exact .cell (.cell (.cell .nil))) ?_
    exact ⟨Lw, List.sublist_cons_self _ _, hw⟩
end Go.Proofs.YtgjkfmcjalcefaaGreat
