/- Layer 9: the specification's promises, lawful, Lawful. -/
import Derived.Test.YtehmkhlcejcniaaKf
import Derived.Test.YtehmkhlcejcniaaIt
namespace Go.Proofs.Ytehmkhlcejcniaa
open Go.Proofs.Ytehmkhlcejcniaa.Ev

/-- letters that a call has made -/
abbrev OwP (l : List Le) (v : AV) (L : Ob) : Prop := IsL 38 8 l.length (enF leC l) v L
theorem find_take {l : List Le} {t : Le → Bool} {k : Nat} (hk : k < l.length) (h : ∀ i, i < k → t (nthE l i) = false) (h2 : t (nthE l k) = true) : l.find? t = some (nthE l k) := by
  rw [List.find?_eq_some_iff_getElem]
  rw [nthE_eq hk] at h2 ⊢
  refine ⟨h2, k, hk, rfl, fun j hj => ?_⟩
  have := h j hj
  rw [nthE_eq (by omega)] at this
  simp [this]
theorem find_none {l : List Le} {t : Le → Bool} (h : ∀ i, i < l.length → t (nthE l i) = false) : l.find? t = none := by
  rw [List.find?_eq_none]
  intro x hx
  obtain ⟨i, hi, rfl⟩ := List.mem_iff_getElem.1 hx
  have := h i hi
  rw [nthE_eq hi] at this
  simp [this]
set_option maxRecDepth 100000 in
set_option maxHeartbeats 64000000 in
theorem rpromises_con (h : Heap) (g : Gd h) (c : Int) (v : AV) (l : List Le) (cs rd : Int) (hv : LeV h v l) (hl : l.length ≤ 1000000) (hc : 3 ≤ c ∧ c ≤ 7) : ∃ u L, Con Try.prog Bs 60 [.agg [.int .i64 c], v, .int .i64 cs, .int .i64 rd] h [] u L ∧ OwP (prR l cs rd c.toNat) u L := by
  refine Con.subG (Con.startR rfl Try.func60 rfl rfl Try.ntmps60 rfl rfl (SS.init g) ?_)
  (refine WK.seq ?_; refine WK.region ?_; refine St.box fun _ _ => ?_; refine St.assign ?_; refine WO.nil ?_; refine WK.seq ?_; refine WK.region ?_; refine St.assign ?_; refine WO.nil ?_; refine WK.seq ?_; refine WK.seq ?_; refine WK.region ?_; refine St.assign ?_; refine WO.nil ?_; refine WK.block ?_)
  rename_i p4 hp4
  refine WK.inv (ι := Nat × AV × Ob) (fun z => [(1, v), (2, .int .i64 cs), (3, .int .i64 rd), (4, .ptr p4 0), (9, z.2.1), (10, .int .i64 z.1)]) (fun z => (p4, .cells [.int .i64 c] 23) :: z.2.2) (fun z => z.1 ≤ c.toNat ∧ OwP (prR l cs rd z.1) z.2.1 z.2.2) (fun z => c.toNat - z.1) (0, .slice0, []) ⟨Nat.zero_le _, .nil rfl rfl⟩ ⟨rfl, rfl, rfl, rfl, rfl, rfl, trivial⟩ (by exact List.Sublist.refl _) ?_
  rintro ⟨a, w, Lw⟩ ⟨hac, hw⟩ ih
  simp only at hac hw ih ⊢
  (refine WK.seq ?_; refine WK.seq ?_; refine WK.region ?_; refine St.move ?_; refine St.fieldAddr ?_; refine St.load ?_; refine St.bin ?_; refine WO.nil ?_)
  refine St.splitC (fun hc1 => ?_) (fun hc1 => ?_)
  rotate_left
  · have : a = c.toNat := by simp at hc1; omega
    subst this
    (refine WK.exit ?_; refine WK.seq ?_; refine WK.region ?_; refine St.move ?_; refine St.assign ?_; refine WO.nil ?_)
    refine St.ret (by first | exact .tmp .nil | exact .cell .nil | exact .cell (.tmp .nil) | exact .tmp (.tmp .nil) | exact .cell (.cell .nil) | exact .tmp (.cell .nil) | exact .nil | exact .tmp (.cell (.tmp .nil)) | exact .cell (.tmp (.tmp .nil)) | exact .cell (.cell (.tmp .nil)) | exact .tmp (.tmp (.tmp .nil)) | exact .cell (.cell (.cell .nil))) ?_
    exact ⟨Lw, by exact List.sublist_cons_self _ _, hw⟩
  have hal : a < c.toNat := by simp at hc1; omega
  have hpl := prR_len (l := l) (cs := cs) (rd := rd) (k := a)
  have hsu := prR_succ l cs rd a
  (refine WK.skip ?_; refine WK.seq ?_; refine WK.block ?_; refine WK.seq ?_; refine WK.region ?_; refine St.assign ?_; refine WO.nil ?_; refine WK.seq ?_; refine WK.region ?_; refine St.assign ?_; refine WO.nil ?_; refine WK.block ?_)
  refine WK.inv (ι := Nat × Bool × AV × Ob) (fun z => [(1, v), (2, .int .i64 cs), (3, .int .i64 rd), (4, .ptr p4 0), (9, z.2.2.1), (10, .int .i64 a), (11, .bool z.2.1), (12, .int .i64 z.1)]) (fun z => (p4, .cells [.int .i64 c] 23) :: z.2.2.2) (fun z => z.1 ≤ l.length ∧ (z.2.1 = false → OwP (prR l cs rd a) z.2.2.1 z.2.2.2 ∧ ∀ i, i < z.1 → isP cs rd (a : Int) (nthE l i) = false) ∧ (z.2.1 = true → OwP (prR l cs rd (a + 1)) z.2.2.1 z.2.2.2)) (fun z => l.length - z.1) (0, false, w, Lw) ⟨Nat.zero_le _, fun _ => ⟨hw, fun i hi => absurd hi (by omega)⟩, fun e => by cases e⟩ ⟨rfl, rfl, rfl, rfl, rfl, rfl, rfl, rfl, trivial⟩ (by exact List.Sublist.refl _) ?_
  rintro ⟨k, fd, u, Lu⟩ ⟨hkl, hf, ht⟩ ih2
  simp only at hkl hf ht ih2 ⊢
  have nxt : ∀ (u : AV) (Lu : Ob), OwP (prR l cs rd (a + 1)) u Lu → WK Try.prog Bs _ h [] _ [] _ _ ((p4, .cells [.int .i64 c] 23) :: Lu) := fun u Lu hu => ih (a + 1, u, Lu) ⟨hal, hu⟩ (by simp only; omega)
  (refine WK.seq ?_; refine WK.seq ?_; refine WK.region ?_; refine St.move ?_; refine St.move ?_)
  refine St.lenG rfl hv.llen ?_
  (refine St.bin ?_; refine St.move ?_)
  refine St.split (fun hc2 => ?_) (fun hc2 => ?_)
  rotate_left
  · have hk2 : k = l.length := by simp at hc2; omega
    subst hk2
    have hu : OwP (prR l cs rd (a + 1)) u Lu := by
      cases fd
      · obtain ⟨h1, h2⟩ := hf rfl
        rw [hsu, find_none h2]
        simpa using h1
      · exact ht rfl
    (refine St.skip ?_; refine St.skip ?_; refine St.pickF ?_; refine WO.nil ?_; refine WK.condF ?_; refine WK.exit ?_; refine WK.blk ?_; refine WK.region ?_; refine St.move ?_; refine St.binI ?_; refine St.assign ?_; refine WO.nil ?_)
    refine WK.le ?_ (by exact List.Sublist.refl _) (nxt u Lu hu)
    exact ⟨rfl, rfl, rfl, rfl, rfl, rfl, trivial⟩
  have hlt : k < l.length := by simp at hc2; omega
  cases fd
  rotate_left
  · have hu := ht rfl
    (refine St.move ?_; refine St.un ?_; refine St.pickT ?_; refine WO.nil ?_; refine WK.condF ?_; refine WK.exit ?_; refine WK.blk ?_; refine WK.region ?_; refine St.move ?_; refine St.binI ?_; refine St.assign ?_; refine WO.nil ?_)
    refine WK.le ?_ (by exact List.Sublist.refl _) (nxt u Lu hu)
    exact ⟨rfl, rfl, rfl, rfl, rfl, rfl, trivial⟩
  obtain ⟨hu, hno⟩ := hf rfl
  clear hf ht
  have hv0 := hv
  have hv' := hv
  obtain ⟨b, off, m, rfl, hk⟩ := hv'.ne (by omega)
  have nx := fun e => ih2 (k + 1, false, u, Lu) ⟨hlt, fun _ => ⟨hu, less_succ' hno e⟩, fun e => by cases e⟩ (by simp only; omega)
  (refine St.move ?_; refine St.un ?_; refine St.pickT ?_; refine WO.nil ?_; refine WK.condT ?_; refine WK.skip ?_; refine WK.seq ?_; refine WK.block ?_; refine WK.seq ?_; refine WK.region ?_; refine St.move ?_; refine St.move ?_)
  refine St.at ?_
  (refine St.fieldAddr ?_)
  refine St.loadX (fun h2 hh => (Rds.headG ((hk.vw hh).at_ (z := (k : Int)) (n := k) (by omega) hlt).2.2).one rfl) ?_
  (refine St.bin ?_; refine St.move ?_)
  refine St.split (fun q => ?_) (fun q => ?_)
  rotate_left
  · have e1 : ¬ (nthE l k).kd = 2 := by simpa using q
    (refine St.skip ?_; refine St.skip ?_; refine St.skip ?_; refine St.skip ?_; refine St.skip ?_; refine St.skip ?_; refine St.skip ?_; refine St.pickF ?_; refine St.move ?_; refine St.skip ?_; refine St.skip ?_; refine St.skip ?_; refine St.skip ?_; refine St.skip ?_; refine St.skip ?_; refine St.skip ?_; refine St.pickF ?_; refine St.move ?_; refine St.skip ?_; refine St.skip ?_; refine St.skip ?_; refine St.skip ?_; refine St.skip ?_; refine St.skip ?_; refine St.skip ?_; refine St.pickF ?_; refine WO.nil ?_; refine WK.condF ?_; refine WK.skip ?_; refine WK.blk ?_; refine WK.region ?_; refine St.move ?_; refine St.binI ?_; refine St.assign ?_; refine WO.nil ?_)
    refine WK.le ?_ (by exact List.Sublist.refl _) (nx (by unfold isP; simp [e1]))
    exact ⟨rfl, rfl, rfl, rfl, rfl, rfl, rfl, rfl, trivial⟩
  have e1 : (nthE l k).kd = 2 := by simpa using q
  (refine St.move ?_; refine St.move ?_)
  refine St.at ?_
  (refine St.fieldAddr ?_)
  refine St.loadX (fun h2 hh => (Rds.headG ((hk.vw hh).at_ (z := (k : Int)) (n := k) (by omega) hlt).2).one rfl) ?_
  (refine St.move ?_; refine St.bin ?_; refine St.pickT ?_; refine St.move ?_)
  refine St.split (fun q => ?_) (fun q => ?_)
  rotate_left
  · have e2 : ¬ (nthE l k).cs = cs := by simpa using q
    (refine St.skip ?_; refine St.skip ?_; refine St.skip ?_; refine St.skip ?_; refine St.skip ?_; refine St.skip ?_; refine St.skip ?_; refine St.pickF ?_; refine St.move ?_; refine St.skip ?_; refine St.skip ?_; refine St.skip ?_; refine St.skip ?_; refine St.skip ?_; refine St.skip ?_; refine St.skip ?_; refine St.pickF ?_; refine WO.nil ?_; refine WK.condF ?_; refine WK.skip ?_; refine WK.blk ?_; refine WK.region ?_; refine St.move ?_; refine St.binI ?_; refine St.assign ?_; refine WO.nil ?_)
    refine WK.le ?_ (by exact List.Sublist.refl _) (nx (by unfold isP; simp [e2]))
    exact ⟨rfl, rfl, rfl, rfl, rfl, rfl, rfl, rfl, trivial⟩
  have e2 : (nthE l k).cs = cs := by simpa using q
  (refine St.move ?_; refine St.move ?_)
  refine St.at ?_
  (refine St.fieldAddr ?_)
  refine St.loadX (fun h2 hh => (Rds.headG ((hk.vw hh).at_ (z := (k : Int)) (n := k) (by omega) hlt).2.2.2).one rfl) ?_
  (refine St.move ?_; refine St.bin ?_; refine St.pickT ?_; refine St.move ?_)
  refine St.split (fun q => ?_) (fun q => ?_)
  rotate_left
  · have e3 : ¬ (nthE l k).rd = rd := by simpa using q
    (refine St.skip ?_; refine St.skip ?_; refine St.skip ?_; refine St.skip ?_; refine St.skip ?_; refine St.skip ?_; refine St.skip ?_; refine St.pickF ?_; refine WO.nil ?_; refine WK.condF ?_; refine WK.skip ?_; refine WK.blk ?_; refine WK.region ?_; refine St.move ?_; refine St.binI ?_; refine St.assign ?_; refine WO.nil ?_)
    refine WK.le ?_ (by exact List.Sublist.refl _) (nx (by unfold isP; simp [e3]))
    exact ⟨rfl, rfl, rfl, rfl, rfl, rfl, rfl, rfl, trivial⟩
  have e3 : (nthE l k).rd = rd := by simpa using q
  (refine St.move ?_; refine St.move ?_)
  refine St.at ?_
  (refine St.fieldAddr ?_)
  refine St.loadX (fun h2 hh => (Rds.headG ((hk.vw hh).at_ (z := (k : Int)) (n := k) (by omega) hlt).2.2.2.2).one rfl) ?_
  (refine St.move ?_; refine St.bin ?_; refine St.pickT ?_; refine WO.nil ?_)
  refine St.splitC (fun q => ?_) (fun q => ?_)
  rotate_left
  · have e4 : ¬ (nthE l k).fr = (a : Int) := by simpa using q
    (refine WK.skip ?_; refine WK.blk ?_; refine WK.region ?_; refine St.move ?_; refine St.binI ?_; refine St.assign ?_; refine WO.nil ?_)
    refine WK.le ?_ (by exact List.Sublist.refl _) (nx (by unfold isP; simp [e4]))
    exact ⟨rfl, rfl, rfl, rfl, rfl, rfl, rfl, rfl, trivial⟩
  have e4 : (nthE l k).fr = (a : Int) := by simpa using q
  (refine WK.seq ?_; refine WK.region ?_; refine St.move ?_; refine St.move ?_; refine St.move ?_)
  have hyes : isP cs rd (a : Int) (nthE l k) = true := by unfold isP; simp [e1, e2, e3, e4]
  rw [find_take hlt hno hyes] at hsu
  refine St.at ?_
  refine St.loadX (fun h2 hh => ((hk.vw hh).at_ (z := (k : Int)) (n := k) (by omega) hlt).agg (by simp [leC]) rfl rfl rfl) ?_
  (refine St.mkS fun _ _ => ?_)
  rename_i i2 hi2
  refine St.appL (e := 38) (sz := 8) (new := leC (nthE l k)) (Lk := (i2, .cells (leC (nthE l k)) 38) :: (p4, .cells [.int .i64 c] 23) :: []) hu ?_ (fun w2 Lw2 hw2 => ?_) ⟨rfl, rfl, rfl, rfl, rfl, rfl, rfl, rfl, rfl, rfl, rfl, rfl⟩ (List.Mem.head _) rfl (by omega) (by omega)
  · show List.Perm (Lu ++ (i2, .cells (leC (nthE l k)) 38) :: (p4, .cells [.int .i64 c] 23) :: [] : Ob) ((i2, .cells (leC (nthE l k)) 38) :: (p4, .cells [.int .i64 c] 23) :: Lu)
    (refine perm_cnt fun _ _ => ?_; simp only [List.append_eq, List.cons_append, List.nil_append, List.count_append, List.count_cons, List.count_nil, Nat.add_zero, Nat.zero_add]; try ac_rfl)
  have hw3 : OwP (prR l cs rd (a + 1)) w2 Lw2 := by
    rw [hsu]
    have e5 : (prR l cs rd a ++ (some (nthE l k)).toList).length = (prR l cs rd a).length + 1 := by simp
    have e6 : enF leC (prR l cs rd a ++ (some (nthE l k)).toList) = enF leC (prR l cs rd a) ++ leC (nthE l k) := by
      rw [show (some (nthE l k)).toList = [nthE l k] from rfl, enF_app, enF_one]
    unfold OwP
    rw [e5, e6]
    exact hw2
  refine WO.permF (L' := (i2, .cells (leC (nthE l k)) 38) :: (p4, .cells [.int .i64 c] 23) :: Lw2) ?_ ?_
  · show List.Perm ((i2, .cells (leC (nthE l k)) 38) :: (p4, .cells [.int .i64 c] 23) :: Lw2 : Ob) (Lw2 ++ (i2, .cells (leC (nthE l k)) 38) :: (p4, .cells [.int .i64 c] 23) :: [])
    (refine perm_cnt fun _ _ => ?_; simp only [List.append_eq, List.cons_append, List.nil_append, List.count_append, List.count_cons, List.count_nil, Nat.add_zero, Nat.zero_add]; try ac_rfl)
  (refine St.assign ?_; refine WO.nil ?_; refine WK.region ?_; refine St.assign ?_; refine WO.nil ?_; refine WK.blk ?_; refine WK.region ?_; refine St.move ?_; refine St.binI ?_; refine St.assign ?_; refine WO.nil ?_)
  refine WK.le ?_ (by exact List.sublist_cons_self _ _) (ih2 (k + 1, true, w2, Lw2) ⟨hlt, fun e => (by cases e), fun _ => hw3⟩ (by simp only; omega))
  exact ⟨rfl, rfl, rfl, rfl, rfl, rfl, rfl, rfl, trivial⟩
end Go.Proofs.Ytehmkhlcejcniaa
