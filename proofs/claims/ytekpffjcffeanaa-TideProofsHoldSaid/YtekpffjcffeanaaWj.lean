/- Lists of stands that are read; the reference's stands; comparing lists of stands. -/
import Derived.Test.YtekpffjcffeanaaWi
import Derived.Test.YtekpffjcffeanaaWr
namespace Go.Proofs.Ytekpffjcffeanaa
open Go.Proofs.Ytekpffjcffeanaa.Ev

theorem Ev.Vw.rdsE {h0 h : Heap} {W : List Nat} {V : Ob} {j : Nat} {o : AObj} {L : List AV} (k : Vw h0 W V h) (hm : (j, o) ∈ V) (ho : o.has L) : ∀ (m r : List AV) (off : Nat), L.drop off = m ++ r → Rds h j off m
  | [], _, _, _ => trivial
  | v :: m, r, off, e => by
    have hlt : off < L.length := by
      have := congrArg List.length e
      simp at this
      omega
    rw [List.drop_eq_getElem_cons hlt] at e
    obtain ⟨e1, e2⟩ := List.cons.inj e
    refine ⟨?_, k.rdsE hm ho m r (off + 1) e2⟩
    exact k.rdL hm ho (by rw [List.getElem?_eq_getElem hlt, e1])
theorem sdF_drop : ∀ (l : List Sd) (i : Nat), i < l.length → (sdF l).drop (i * 3) = sdC (nthD l i) ++ sdF (l.drop (i + 1))
  | [], _, h => by simp at h
  | g :: r, 0, _ => rfl
  | g :: r, i + 1, h => by
    have := sdF_drop r i (by simpa using h)
    show (sdC g ++ sdF r).drop ((i + 1) * 3) = _
    rw [show (i + 1) * 3 = (sdC g).length + i * 3 from by show _ = 3 + _; omega, List.drop_append, List.drop_eq_nil_of_le (by omega), Nat.add_sub_cancel_left, List.nil_append, this]
    rfl
/-- stands in memory -/
def StH (h : Heap) (b off : Nat) (l : List Sd) : Prop := ∀ i, i < l.length → Rds h b (off + i * 3) (sdC (nthD l i))
theorem StH.vw {h0 h : Heap} {V : Ob} {b off l} (k : StH h0 b off l) (hh : Vw h0 [] V h) : StH h b off l := fun i hi => hh.rds (by simp) (k i hi)
theorem StH.at_ {h : Heap} {b off l} (k : StH h b off l) {z : Int} {n : Nat} (e : z.toNat = n) (hi : n < l.length) : Rds h b (off + z.toNat * 3) [.int .i64 (nthD l n).lo, .int .i64 (nthD l n).hi, .int .i64 (nthD l n).ht] := by
  subst e; exact k _ hi
theorem StH.ht_ {h : Heap} {b off l} (k : StH h b off l) {z : Int} {n : Nat} (e : z.toNat = n) (hi : n < l.length) : Rd h b (off + z.toNat * 3 + 2) (.int .i64 (nthD l n).ht) := (k.at_ e hi).2.2.1
theorem StH.hi_ {h : Heap} {b off l} (k : StH h b off l) {z : Int} {n : Nat} (e : z.toNat = n) (hi : n < l.length) : Rd h b (off + z.toNat * 3 + 0 + 1) (.int .i64 (nthD l n).hi) := (k.at_ e hi).2.1
theorem StH.lo_ {h : Heap} {b off l} (k : StH h b off l) {z : Int} {n : Nat} (e : z.toNat = n) (hi : n < l.length) : Rd h b (off + z.toNat * 3 + 0 + 0) (.int .i64 (nthD l n).lo) := (k.at_ e hi).1
def StV (h : Heap) (v : AV) (l : List Sd) : Prop := ((v = .slice0 ∨ v = .sliceZ) ∧ l = []) ∨ ∃ b off c, v = .slice b off l.length c ∧ StH h b off l
theorem StV.vw {h0 h : Heap} {V : Ob} {v l} (k : StV h0 v l) (hh : Vw h0 [] V h) : StV h v l := by
  rcases k with k | ⟨b, off, c, rfl, k⟩
  · exact .inl k
  · exact .inr ⟨b, off, c, rfl, k.vw hh⟩
theorem StV.ne {h : Heap} {v : AV} {l : List Sd} (k : StV h v l) (hn : 0 < l.length) : ∃ b off c, v = .slice b off l.length c ∧ StH h b off l := by
  rcases k with ⟨_, rfl⟩ | k
  · simp at hn
  · exact k
theorem StV.len {h : Heap} {v : AV} {l : List Sd} (k : StV h v l) : ∀ h2, lenA Try.prog 47 h2 v = some (.int .i64 (l.length : Int)) := by
  intro h2
  unfold lenA
  rw [Try.underlying47]
  rcases k with ⟨rfl | rfl, rfl⟩ | ⟨b, off, c, rfl, _⟩ <;> rfl
theorem has_sth {h0 h : Heap} {W : List Nat} {V : Ob} {j : Nat} {o : AObj} {l : List Sd} (k : Vw h0 W V h) (hm : (j, o) ∈ V) (ho : o.has (sdF l)) : StH h j 0 l := fun i hi => by
  rw [Nat.zero_add]
  exact k.rdsE hm ho _ _ _ (sdF_drop l i hi)
/-- a list that a call has made, read afterwards -/
theorem isl_stv {h0 h : Heap} {W : List Nat} {V : Ob} {l : List Sd} {v : AV} {Lv : Ob} (hw : IsL 51 3 l.length (sdF l) v Lv) (k : Vw h0 W V h) (hs : ∀ x ∈ Lv, x ∈ V) : StV h v l := by
  rcases hw.open_ with ⟨rfl, _, h1, _⟩ | ⟨i, c, o, rfl, rfl, ho, _⟩
  · exact .inl ⟨.inl rfl, List.length_eq_zero_iff.1 h1⟩
  · exact .inr ⟨i, 0, c, rfl, has_sth k (hs _ (List.mem_cons_self ..)) ho⟩
theorem isl_len {l : List AV} {n : Nat} {v : AV} {Lv : Ob} {t e : TypeId} {sz : Nat} (hw : IsL e sz n l v Lv) (ht : Try.prog.underlying t = some (.slice e)) : ∀ h2, lenA Try.prog t h2 v = some (.int .i64 (n : Int)) := by
  intro h2
  unfold lenA
  rw [ht]
  rcases hw.open_ with ⟨rfl, _, h1, _⟩ | ⟨i, c, o, rfl, rfl, ho, _⟩
  · rw [h1]; rfl
  · rfl
/-! stands that are the same -/
def sdEq (x y : Sd) : Bool := (x.lo == y.lo && x.hi == y.hi) && x.ht == y.ht
theorem sdEq_self (x : Sd) : sdEq x x = true := by simp [sdEq]
set_option maxRecDepth 100000 in
theorem szS2 : sizeT Try.prog 37 = some 2 := by kernel_rfl
set_option maxRecDepth 100000 in
theorem sd_neq (x y : Sd) : evBin Try.prog .neq 51 (.agg (sdC x)) (.agg (sdC y)) = some (.bool (!sdEq x y)) := by
  unfold sdEq sdC
  simp [evBin, evEq, guardOk, eqT, eqFs, partE, isAggT, szS2, takeN, dropN, nthN]
  cases x.lo == y.lo <;> cases x.hi == y.hi <;> cases x.ht == y.ht <;> rfl
set_option maxRecDepth 100000 in
theorem sd_eql (x y : Sd) : evBin Try.prog .eql 51 (.agg (sdC x)) (.agg (sdC y)) = some (.bool (sdEq x y)) := by
  unfold sdEq sdC
  simp [evBin, evEq, guardOk, eqT, eqFs, partE, isAggT, szS2, takeN, dropN, nthN]
  cases x.lo == y.lo <;> cases x.hi == y.hi <;> cases x.ht == y.ht <;> rfl
set_option maxRecDepth 100000 in
set_option maxHeartbeats 8000000 in
theorem sameStands_con (h : Heap) (g : Gd h) (v v2 : AV) (l : List Sd) (hv : StV h v l) (hv2 : StV h v2 l) (hl : l.length ≤ 1000000) :
    Con Try.prog Bs 45 [v, v2] h [] (.bool true) [] := by
  refine Con.start rfl Try.func45 rfl rfl Try.ntmps45 rfl rfl g ?_
  (refine WK.seq ?_; refine WK.region ?_; refine St.assign ?_; refine WO.nil ?_; refine WK.seq ?_; refine WK.seq ?_; refine WK.region ?_; refine St.move ?_)
  refine St.lenV rfl hv.len ?_
  (refine St.move ?_)
  refine St.lenV rfl hv2.len ?_
  (refine St.bin ?_; refine WO.nil ?_)
  refine St.splitC (fun hc => ?_) (fun _ => ?_)
  · simp at hc
  (refine WK.skip ?_; refine WK.seq ?_; refine WK.seq ?_; refine WK.region ?_; refine St.assign ?_; refine WO.nil ?_; refine WK.block ?_)
  by_cases hn : l.length = 0
  · have e1 : l = [] := List.length_eq_zero_iff.1 hn
    subst e1
    refine WK.unroll ?_
    (refine WK.seq ?_; refine WK.seq ?_; refine WK.region ?_; refine St.move ?_; refine St.move ?_)
    refine St.lenV rfl hv.len ?_
    (refine St.bin ?_; refine WO.nil ?_; refine WK.condF ?_; refine WK.exit ?_; refine WK.seq ?_; refine WK.region ?_; refine St.assign ?_; refine WO.nil ?_)
    refine St.ret (by first | exact .tmp .nil | exact .cell .nil | exact .cell (.tmp .nil) | exact .tmp (.tmp .nil) | exact .cell (.cell .nil) | exact .tmp (.cell .nil) | exact .nil | exact .tmp (.cell (.tmp .nil)) | exact .cell (.tmp (.tmp .nil)) | exact .cell (.cell (.tmp .nil)) | exact .tmp (.tmp (.tmp .nil)) | exact .cell (.cell (.cell .nil))) ?_
    rfl
  obtain ⟨b, off, c, rfl, hk⟩ := hv.ne (by omega)
  obtain ⟨b2, off2, c2, rfl, hk2⟩ := hv2.ne (by omega)
  refine WK.inv (ι := Nat) (fun z => [(0, .slice b off l.length c), (1, .slice b2 off2 l.length c2), (5, .int .i64 z)]) (fun _ => []) (fun z => z ≤ l.length) (fun z => l.length - z) 0 (by omega) ⟨rfl, rfl, rfl, trivial⟩ (by (repeat (first | exact List.Sublist.refl _ | exact List.nil_sublist _ | apply List.Sublist.cons_cons | apply List.Sublist.cons))) ?_
  intro k hkl ih
  (refine WK.seq ?_; refine WK.seq ?_; refine WK.region ?_; refine St.move ?_; refine St.move ?_; refine St.len ?_; refine St.bin ?_; refine WO.nil ?_)
  refine St.splitC (fun hc => ?_) (fun hc => ?_)
  · have hlt : k < l.length := by simp at hc; omega
    (refine WK.skip ?_; refine WK.seq ?_; refine WK.block ?_; refine WK.seq ?_; refine WK.regionD ?_; refine St.move ?_; refine St.move ?_)
    refine St.at ?_
    refine St.loadX (fun h hh => ((hk.vw hh).at_ (z := (k : Int)) (n := k) (by omega) hlt).agg (by simp) rfl rfl rfl) ?_
    (refine St.move ?_; refine St.move ?_)
    refine St.at ?_
    refine St.loadX (fun h hh => ((hk2.vw hh).at_ (z := (k : Int)) (n := k) (by omega) hlt).agg (by simp) rfl rfl rfl) ?_
    refine St.binX (sd_neq (nthD l k) (nthD l k)) rfl rfl ?_
    rw [sdEq_self]
    (refine WO.nil ?_; refine WK.condF ?_; refine WK.skip ?_; refine WK.blk ?_; refine WK.region ?_; refine St.move ?_; refine St.binI ?_; refine St.assign ?_; refine WO.nil ?_)
    refine WK.le ?_ (by (repeat (first | exact List.Sublist.refl _ | exact List.nil_sublist _ | apply List.Sublist.cons_cons | apply List.Sublist.cons))) (ih (k + 1) hlt (by omega))
    exact ⟨rfl, rfl, rfl, trivial⟩
  · (refine WK.exit ?_; refine WK.seq ?_; refine WK.region ?_; refine St.assign ?_; refine WO.nil ?_)
    refine St.ret (by first | exact .tmp .nil | exact .cell .nil | exact .cell (.tmp .nil) | exact .tmp (.tmp .nil) | exact .cell (.cell .nil) | exact .tmp (.cell .nil) | exact .nil | exact .tmp (.cell (.tmp .nil)) | exact .cell (.tmp (.tmp .nil)) | exact .cell (.cell (.tmp .nil)) | exact .tmp (.tmp (.tmp .nil)) | exact .cell (.cell (.cell .nil))) ?_
    rfl
/-! a cell of a list that a call has made is written over -/
theorem isl_put {e : TypeId} {sz n : Nat} {l : List AV} {v : AV} {j : Nat} {o : AObj} {x : Int} {off : Nat} (hw : IsL e sz n l v [(j, o)]) (ho : off < l.length) : ∃ o', o.store Try.prog 3 off (.int .i64 x) = some o' ∧ IsL e sz n (l.set off (.int .i64 x)) v [(j, o')] := by
  have e2 : sizeT Try.prog 3 = some 1 := by kernel_rfl
  cases hw with
  | cells i c rest t h1 h2 h3 =>
    refine ⟨.cells (l.set off (.int .i64 x) ++ rest) t, ?_, .cells j c rest t (by simpa using h1) (by simpa using h2) h3⟩
    rw [store_int (n := off) rfl (by simp; omega), List.set_append_left _ _ ho]
  | row i h1 =>
    refine ⟨.row (l.set off (.int .i64 x)) e sz, ?_, .row j (by simpa using h1)⟩
    unfold AObj.store
    rw [e2]
    simp [AV.cells, okCell, AObj.put, overN_one ho]
theorem sdF_put (r : List Sd) (s : Sd) (x : Int) : (sdF (r ++ [s])).set (r.length * 3 + 1) (.int .i64 x) = sdF (r ++ [⟨s.lo, x, s.ht⟩]) := by
  rw [sdF_snoc, sdF_snoc, List.set_append_right _ _ (by rw [sdF_len]; omega), sdF_len, Nat.add_sub_cancel_left]
  rfl
set_option maxRecDepth 100000 in
set_option maxHeartbeats 32000000 in
theorem rstanding_con (h : Heap) (g : Gd h) (lv lo hi : Int) (cv sv : AV) (cl : List Cw) (ss : List Sh) (hc : CyV h cv cl) (hs : ShV h sv ss) :
    ∃ v L, Con Try.prog Bs 44 [.agg [.int .i64 lv, cv, sv], .agg [.int .i64 lo, .int .i64 hi]] h [] v L ∧ ∃ u, v = .agg [u, .int .i64 (minR lv (cys cl) ss lo hi)] ∧ IsL 51 3 (stdR lv (cys cl) ss lo hi).length (sdF (stdR lv (cys cl) ss lo hi)) u L := by
  have hlen := stdR_len (lv := lv) (cs := cys cl) (ss := ss) (lo := lo) (hi := hi)
  refine Con.pick (Con.startR rfl Try.func44 rfl rfl Try.ntmps44 rfl rfl (SS.init g) ?_)
  (refine WK.seq ?_; refine WK.region ?_; refine St.box fun _ _ => ?_; refine St.box fun _ _ => ?_; refine St.alloc fun _ _ => ?_; refine WO.nil ?_; refine WK.seq ?_; refine WK.region ?_; refine St.load ?_; refine St.load ?_)
  rename_i p2 hp2 p3 hp3 p4 hp4
  refine St.call (fun _ => rfl) (fun h2 hh => watched_con h2 hh.gd lv lo hi cv sv cl ss (hc.vw hh) (hs.vw hh)) ?_
  (refine St.assign ?_; refine WO.nil ?_; refine WK.seq ?_; refine WK.seq ?_; refine WK.region ?_; refine St.move ?_; refine St.bin ?_; refine WO.nil ?_)
  refine St.splitC (fun h1 => ?_) (fun h1 => ?_)
  · (refine WK.seq ?_; refine WK.region ?_; refine St.move ?_; refine St.build ?_; refine St.store0 ?_; refine WO.nil ?_)
    refine St.ret (by first | exact .tmp .nil | exact .cell .nil | exact .cell (.tmp .nil) | exact .tmp (.tmp .nil) | exact .cell (.cell .nil) | exact .tmp (.cell .nil) | exact .nil | exact .tmp (.cell (.tmp .nil)) | exact .cell (.tmp (.tmp .nil)) | exact .cell (.cell (.tmp .nil)) | exact .tmp (.tmp (.tmp .nil)) | exact .cell (.cell (.cell .nil))) ?_
    rw [stdR_no (by simpa using h1)]
    exact ⟨[], _, List.Perm.refl _, _, rfl, .nil rfl rfl⟩
  have e1 : minR lv (cys cl) ss lo hi = 0 := by simpa using h1
  have m := minR_ok e1
  have m1 := m.l1
  have m2 := m.le
  have m3 := m.h2
  have m4 := m.n
  have es := stdR_ok e1
  rw [es] at hlen ⊢
  have hfe : ∀ k : Nat, lv + bareV (cys cl) ss (lo + (k : Int)) = hgt lv (cys cl) ss lo k := fun _ => rfl
  (refine WK.skip ?_; refine WK.seq ?_; refine WK.region ?_; refine St.assign ?_; refine WO.nil ?_; refine WK.seq ?_; refine WK.seq ?_; refine WK.region ?_; refine St.fieldAddr ?_; refine St.load ?_; refine St.assign ?_; refine WO.nil ?_; refine WK.block ?_)
  refine WK.inv (ι := Nat × AV × Ob) (fun z => [(2, .ptr p2 0), (3, .ptr p3 0), (4, .ptr p4 0), (6, z.2.1), (7, .int .i64 (lo + (z.1 : Int)))]) (fun z => (p4, .cells [.slice0, .int .i64 0] 80) :: (p3, .cells [.int .i64 lo, .int .i64 hi] 37) :: (p2, .cells [.int .i64 lv, cv, sv] 25) :: z.2.2) (fun z => z.1 ≤ (hi - lo + 1).toNat ∧ IsL 51 3 (allS (hgt lv (cys cl) ss lo) lo z.1).length (sdF (allS (hgt lv (cys cl) ss lo) lo z.1)) z.2.1 z.2.2) (fun z => (hi - lo + 1).toNat - z.1) (0, .slice0, []) ⟨Nat.zero_le _, .nil rfl rfl⟩ ⟨rfl, rfl, rfl, rfl, congrArg (fun z => some (AV.int .i64 z)) (by simp), trivial⟩ (by (repeat (first | exact List.Sublist.refl _ | exact List.nil_sublist _ | apply List.Sublist.cons_cons | apply List.Sublist.cons))) ?_
  rintro ⟨k, w, Lw⟩ ⟨hkl, hw⟩ ih
  simp only at hkl hw ih ⊢
  (refine WK.seq ?_; refine WK.seq ?_; refine WK.region ?_; refine St.move ?_; refine St.fieldAddr ?_; refine St.load ?_; refine St.bin ?_; refine WO.nil ?_)
  refine St.splitC (fun hcc => ?_) (fun hcc => ?_)
  rotate_left
  · have : k = (hi - lo + 1).toNat := by simp at hcc; omega
    subst this
    obtain ⟨n, hn⟩ : ∃ n, (hi - lo + 1).toNat = n + 1 := ⟨(hi - lo + 1).toNat - 1, by omega⟩
    rw [hn] at hw ⊢
    obtain ⟨js, c, o, rfl, rfl, ho, hl⟩ := hw.ne (by simp [allS])
    (refine WK.exit ?_; refine WK.seq ?_; refine WK.region ?_; refine St.move ?_; refine St.build ?_; refine St.store0 ?_; refine WO.nil ?_)
    refine St.ret (by first | exact .tmp .nil | exact .cell .nil | exact .cell (.tmp .nil) | exact .tmp (.tmp .nil) | exact .cell (.cell .nil) | exact .tmp (.cell .nil) | exact .nil | exact .tmp (.cell (.tmp .nil)) | exact .cell (.tmp (.tmp .nil)) | exact .cell (.cell (.tmp .nil)) | exact .tmp (.tmp (.tmp .nil)) | exact .cell (.cell (.cell .nil))) ?_
    refine ⟨[(js, o)], [(p4, .cells [.slice js 0 (allS (hgt lv (cys cl) ss lo) lo (n + 1)).length c, .int .i64 0] 80), (p3, .cells [.int .i64 lo, .int .i64 hi] 37), (p2, .cells [.int .i64 lv, cv, sv] 25)], by (repeat (first | exact List.Perm.refl _ | refine perm_at 0 rfl ?_ | refine perm_at 1 rfl ?_ | refine perm_at 2 rfl ?_ | refine perm_at 3 rfl ?_ | refine perm_at 4 rfl ?_ | refine perm_at 5 rfl ?_ | refine perm_at 6 rfl ?_ | refine perm_at 7 rfl ?_ | refine perm_at 8 rfl ?_ | refine perm_at 9 rfl ?_)), _, ?_, hw⟩
    rw [e1]
    rfl
  have hlt : k < (hi - lo + 1).toNat := by simp at hcc; omega
  have ht0 : 0 ≤ lo + (k : Int) := by omega
  have ht1 : lo + (k : Int) ≤ 1048576 := by simp at hcc; omega
  (refine WK.skip ?_; refine WK.seq ?_; refine WK.block ?_; refine WK.seq ?_; refine WK.region ?_; refine St.load ?_; refine St.move ?_)
  refine St.call (fun _ => rfl) (fun h2 hh => rat_con h2 hh.gd lv (lo + (k : Int)) cv sv cl ss (hc.vw hh) (hs.vw hh) m.w ht0 ht1) ?_
  rw [hfe]
  generalize hgt lv (cys cl) ss lo = f at *
  have hakl := all_len (f := f) (lo := lo) k
  (refine St.assign ?_; refine WO.nil ?_; refine WK.seq ?_; refine WK.region ?_; refine St.move ?_)
  refine St.lenV rfl (isl_len hw Try.underlying47) ?_
  (refine St.assign ?_; refine WO.nil ?_; refine WK.seq ?_; refine WK.region ?_; refine St.move ?_; refine St.bin ?_; refine St.move ?_)
  cases k with
  | zero =>
    simp only [Int.natCast_zero, Int.add_zero]
    refine St.split (fun hc3 => ?_) (fun _ => ?_)
    · simp [allS] at hc3
    (refine St.skip ?_; refine St.skip ?_; refine St.skip ?_; refine St.skip ?_; refine St.skip ?_; refine St.skip ?_; refine St.skip ?_; refine St.skip ?_; refine St.pickF ?_; refine WO.nil ?_; refine WK.condF ?_; refine WK.region ?_; refine St.move ?_; refine St.move ?_; refine St.move ?_; refine St.build ?_; refine St.move ?_; refine St.build ?_; refine St.mkS fun _ _ => ?_)
    rename_i i2 hi2
    refine St.appL (new := sdC ⟨lo, lo, f 0⟩) (Lk := [(i2, .cells (sdC ⟨lo, lo, f 0⟩) 51), (p4, .cells [.slice0, .int .i64 0] 80), (p3, .cells [.int .i64 lo, .int .i64 hi] 37), (p2, .cells [.int .i64 lv, cv, sv] 25)]) hw List.perm_append_comm (fun w3 Lw3 hw3 => ?_) ⟨rfl, rfl, rfl, rfl, rfl, rfl, rfl, rfl, rfl, rfl, rfl, rfl⟩ (List.Mem.head _) rfl (by omega) (by omega)
    (refine St.assign ?_; refine WO.nil ?_; refine WK.blk ?_; refine WK.region ?_; refine St.move ?_; refine St.binI ?_; refine St.assign ?_; refine WO.nil ?_)
    refine WK.perm (L' := (p4, .cells [.slice0, .int .i64 0] 80) :: (p3, .cells [.int .i64 lo, .int .i64 hi] 37) :: (p2, .cells [.int .i64 lv, cv, sv] 25) :: (Lw3 ++ [(i2, .cells (sdC ⟨lo, lo, f 0⟩) 51)])) (by (refine perm_cnt fun _ _ => ?_; simp only [List.append_eq, List.cons_append, List.nil_append, List.count_append, List.count_cons, List.count_nil, Nat.add_zero, Nat.zero_add]; try ac_rfl)) ?_
    refine WK.le ?_ ?_ (ih (1, w3, Lw3) ⟨hlt, hw3⟩ (by simp only; omega))
    · exact ⟨rfl, rfl, rfl, rfl, congrArg (fun z => some (AV.int .i64 z)) (by omega), trivial⟩
    · exact List.Sublist.cons_cons _ (List.Sublist.cons_cons _ (List.Sublist.cons_cons _ (List.sublist_append_left _ _)))
  | succ k =>
    have hal : (allS f lo (k + 1)).length = (doneS f lo k).length + 1 := by simp [allS]
    have hcur : nthD (allS f lo (k + 1)) (doneS f lo k).length = curS f lo k := nthD_snoc rfl
    obtain ⟨js, c, o, rfl, rfl, ho, hl⟩ := hw.ne (by omega)
    refine St.split (fun _ => ?_) (fun hc3 => ?_)
    rotate_left
    · have := of_decide_eq_false hc3
      omega
    (refine St.move ?_; refine St.move ?_; refine St.binI ?_)
    refine St.at ?_
    (refine St.fieldAddr ?_)
    refine St.loadX (fun h2 hh => ((has_sth hh (j := js) (o := o) (by simp) ho).ht_ (z := ((allS f lo (k + 1)).length : Int) - 1) (n := (doneS f lo k).length) (by omega) (by omega)).one rfl) ?_
    rw [hcur]
    (refine St.move ?_; refine St.bin ?_; refine St.pickT ?_; refine WO.nil ?_)
    refine St.splitC (fun hc3 => ?_) (fun hc3 => ?_)
    · have heq : f (k + 1) = (curS f lo k).ht := by simp at hc3; exact hc3.symm
      have q1 : allS f lo (k + 1 + 1) = doneS f lo k ++ [⟨(curS f lo k).lo, lo + ((k + 1 : Nat) : Int), (curS f lo k).ht⟩] := by
        rw [allS, doneS, curS, if_pos heq, if_pos heq]
      obtain ⟨o', g1, g2⟩ := isl_put (x := lo + ((k + 1 : Nat) : Int)) (off := (doneS f lo k).length * 3 + 1) hw (by rw [sdF_len]; omega)
      have hput : o.store Try.prog 3 (0 + (((allS f lo (k + 1)).length : Int) - 1).toNat * 3 + 0 + 1) (.int .i64 (lo + ((k + 1 : Nat) : Int))) = some o' := by
        rw [show 0 + (((allS f lo (k + 1)).length : Int) - 1).toNat * 3 + 0 + 1 = (doneS f lo k).length * 3 + 1 by omega]
        exact g1
      have g3 : IsL 51 3 (allS f lo (k + 1 + 1)).length (sdF (allS f lo (k + 1 + 1))) (.slice js 0 (allS f lo (k + 1)).length c) [(js, o')] := by
        rw [q1, ← sdF_put, show (doneS f lo k ++ [(⟨(curS f lo k).lo, lo + ((k + 1 : Nat) : Int), (curS f lo k).ht⟩ : Sd)]).length = (allS f lo (k + 1)).length by rw [hal]; simp]
        exact g2
      (refine WK.region ?_; refine St.move ?_; refine St.move ?_; refine St.binI ?_; refine St.move ?_)
      refine St.at ?_
      (refine St.fieldAddr ?_; refine St.fieldAddr ?_)
      refine St.store3 (hv := hput) ?_
      (refine WO.nil ?_; refine WK.blk ?_; refine WK.region ?_; refine St.move ?_; refine St.binI ?_; refine St.assign ?_; refine WO.nil ?_)
      refine WK.le ?_ (by (repeat (first | exact List.Sublist.refl _ | exact List.nil_sublist _ | apply List.Sublist.cons_cons | apply List.Sublist.cons))) (ih (k + 1 + 1, .slice js 0 (allS f lo (k + 1)).length c, [(js, o')]) ⟨hlt, g3⟩ (by simp only; omega))
      exact ⟨rfl, rfl, rfl, rfl, congrArg (fun z => some (AV.int .i64 z)) (by omega), trivial⟩
    · have hne : f (k + 1) ≠ (curS f lo k).ht := by
        intro q
        simp at hc3
        exact hc3 q.symm
      have q1 : allS f lo (k + 1 + 1) = allS f lo (k + 1) ++ [⟨lo + ((k + 1 : Nat) : Int), lo + ((k + 1 : Nat) : Int), f (k + 1)⟩] := by
        rw [allS, doneS, curS, if_neg hne, if_neg hne]
        rfl
      (refine WK.region ?_; refine St.move ?_; refine St.move ?_; refine St.move ?_; refine St.build ?_; refine St.move ?_; refine St.build ?_; refine St.mkS fun _ _ => ?_)
      rename_i i2 hi2
      refine St.appL (new := sdC ⟨lo + ((k + 1 : Nat) : Int), lo + ((k + 1 : Nat) : Int), f (k + 1)⟩) (Lk := [(i2, .cells (sdC ⟨lo + ((k + 1 : Nat) : Int), lo + ((k + 1 : Nat) : Int), f (k + 1)⟩) 51), (p4, .cells [.slice0, .int .i64 0] 80), (p3, .cells [.int .i64 lo, .int .i64 hi] 37), (p2, .cells [.int .i64 lv, cv, sv] 25)]) hw (by (repeat (first | exact List.Perm.refl _ | refine perm_at 0 rfl ?_ | refine perm_at 1 rfl ?_ | refine perm_at 2 rfl ?_ | refine perm_at 3 rfl ?_ | refine perm_at 4 rfl ?_ | refine perm_at 5 rfl ?_ | refine perm_at 6 rfl ?_ | refine perm_at 7 rfl ?_ | refine perm_at 8 rfl ?_ | refine perm_at 9 rfl ?_))) (fun w3 Lw3 hw3 => ?_) ⟨rfl, rfl, rfl, rfl, rfl, rfl, rfl, rfl, rfl, rfl, rfl, rfl⟩ (List.Mem.head _) rfl (by omega) (by omega)
      (refine St.assign ?_; refine WO.nil ?_; refine WK.blk ?_; refine WK.region ?_; refine St.move ?_; refine St.binI ?_; refine St.assign ?_; refine WO.nil ?_)
      refine WK.perm (L' := (p4, .cells [.slice0, .int .i64 0] 80) :: (p3, .cells [.int .i64 lo, .int .i64 hi] 37) :: (p2, .cells [.int .i64 lv, cv, sv] 25) :: (Lw3 ++ [(i2, .cells (sdC ⟨lo + ((k + 1 : Nat) : Int), lo + ((k + 1 : Nat) : Int), f (k + 1)⟩) 51)])) (by (refine perm_cnt fun _ _ => ?_; simp only [List.append_eq, List.cons_append, List.nil_append, List.count_append, List.count_cons, List.count_nil, Nat.add_zero, Nat.zero_add]; try ac_rfl)) ?_
      refine WK.le ?_ ?_ (ih (k + 1 + 1, w3, Lw3) ⟨hlt, ?_⟩ (by simp only; omega))
      · exact ⟨rfl, rfl, rfl, rfl, congrArg (fun z => some (AV.int .i64 z)) (by omega), trivial⟩
      · exact List.Sublist.cons_cons _ (List.Sublist.cons_cons _ (List.Sublist.cons_cons _ (List.sublist_append_left _ _)))
      · rw [q1, sdF_snoc, List.length_append]
        exact hw3
end Go.Proofs.Ytekpffjcffeanaa
