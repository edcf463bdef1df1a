/- Least, the program's, over the calculator's memory. -/
import Derived.Test.YtcaemeedmnpdjaaSh
namespace Go.Proofs.Ytcaemeedmnpdjaa
open Go.Proofs.Ytcaemeedmnpdjaa.Ev

/-! Least -/
def lsI (l : List Cv) (x : Int) : Nat := bestIx lessF (0, 0) (l.map fun c => valF c.ks x) l.length
def leastR (l : List Cv) (x : Int) : Int × (Int × Int) × Int :=
  if sheafErr (l.map Cv.c) x = 0 then (lsI l x, ((l.map fun c => valF c.ks x)[lsI l x]?.getD (0, 0)), 0) else (0, (0, 0), sheafErr (l.map Cv.c) x)
def avL (r : Int × (Int × Int) × Int) : AV := .tup [.int .i64 r.1, .agg [.int .i64 r.2.1.1, .int .i64 r.2.1.2], .int .i64 r.2.2]
set_option maxRecDepth 100000 in
set_option maxHeartbeats 16000000 in
theorem leastP_con (h : Heap) (g : Gd h) (lv : AV) (l : List Cv) (x : Int) (hl : l.length ≤ 1000000) (hk : CvV h lv l) : Con Try.prog Bs 48 [lv, .int .i64 x] h [] (avL (leastR l x)) [] := by
  have hS : ∀ (h2 : Heap) {V : Ob}, Vw h [] V h2 → Con Try.prog Bs 91 [lv] h2 [] (.int .i64 (chkSheaf (l.map Cv.c))) [] := fun h2 V hh => checkSheaf_con h2 hh.gd lv l hl (hk.vw hh)
  by_cases e0 : chkSheaf (l.map Cv.c) = 0
  rotate_left
  · have eb : leastR l x = (0, (0, 0), chkSheaf (l.map Cv.c)) := by
      have : sheafErr (l.map Cv.c) x = chkSheaf (l.map Cv.c) := by unfold sheafErr; rw [if_pos e0]
      unfold leastR
      rw [this, if_neg e0]
    rw [eb]
    refine Con.start rfl Try.func48 rfl rfl Try.ntmps48 rfl rfl g ?_
    (refine WK.seq ?_; refine WK.region ?_; refine St.assign ?_; refine St.alloc fun _ _ => ?_; refine St.assign ?_; refine WO.nil ?_; refine WK.seq ?_; refine WK.seq ?_; refine WK.region ?_; refine St.move ?_)
    refine St.call (fun _ => rfl) (fun h2 hh => hS h2 hh) ?_
    (refine St.assign ?_; refine WO.nil ?_; refine WK.seq ?_; refine WK.region ?_; refine St.move ?_; refine St.bin ?_; refine WO.nil ?_)
    refine St.splitC (fun hc => ?_) (fun hc => ?_)
    · (refine WK.seq ?_; refine WK.region ?_; refine St.build ?_; refine St.move ?_; refine St.assign ?_; refine St.store0 ?_; refine St.assign ?_; refine WO.nil ?_)
      refine St.ret (by first | exact .tmp .nil | exact .cell .nil | exact .cell (.tmp .nil) | exact .tmp (.tmp .nil) | exact .cell (.cell .nil) | exact .tmp (.cell .nil) | exact .nil | exact .tmp (.cell (.tmp .nil)) | exact .cell (.tmp (.tmp .nil)) | exact .cell (.cell (.tmp .nil)) | exact .tmp (.tmp (.tmp .nil)) | exact .cell (.cell (.cell .nil))) ?_
      rfl
    · simp at hc; exact absurd hc e0
  obtain ⟨hle, hv⟩ := vd_of_sheaf e0
  have hA : ∀ (h2 : Heap) {V : Ob}, Vw h [] V h2 → Con Try.prog Bs 66 [.int .i64 x, lv] h2 [] (.int .i64 (chkOn (l.map Cv.c) x x)) [] := fun h2 V hh => checkAtV_con h2 hh.gd lv l x hl (hk.vw hh) hv
  rw [e0] at hS
  by_cases e1 : chkOn (l.map Cv.c) x x = 0
  rotate_left
  · have eb : leastR l x = (0, (0, 0), chkOn (l.map Cv.c) x x) := by
      have : sheafErr (l.map Cv.c) x = chkOn (l.map Cv.c) x x := by unfold sheafErr; rw [if_neg (by simp [e0]), if_pos e1]
      unfold leastR
      rw [this, if_neg e1]
    rw [eb]
    refine Con.start rfl Try.func48 rfl rfl Try.ntmps48 rfl rfl g ?_
    (refine WK.seq ?_; refine WK.region ?_; refine St.assign ?_; refine St.alloc fun _ _ => ?_; refine St.assign ?_; refine WO.nil ?_; refine WK.seq ?_; refine WK.seq ?_; refine WK.region ?_; refine St.move ?_)
    refine St.call (fun _ => rfl) (fun h2 hh => hS h2 hh) ?_
    (refine St.assign ?_; refine WO.nil ?_; refine WK.seq ?_; refine WK.region ?_; refine St.move ?_; refine St.bin ?_; refine WO.nil ?_; refine WK.condF ?_; refine WK.skip ?_; refine WK.seq ?_; refine WK.seq ?_; refine WK.region ?_; refine St.move ?_; refine St.move ?_)
    refine St.call (fun _ => rfl) (fun h2 hh => hA h2 hh) ?_
    (refine St.assign ?_; refine WO.nil ?_; refine WK.seq ?_; refine WK.region ?_; refine St.move ?_; refine St.bin ?_; refine WO.nil ?_)
    refine St.splitC (fun hc => ?_) (fun hc => ?_)
    · (refine WK.seq ?_; refine WK.region ?_; refine St.build ?_; refine St.move ?_; refine St.assign ?_; refine St.store0 ?_; refine St.assign ?_; refine WO.nil ?_)
      refine St.ret (by first | exact .tmp .nil | exact .cell .nil | exact .cell (.tmp .nil) | exact .tmp (.tmp .nil) | exact .cell (.cell .nil) | exact .tmp (.cell .nil) | exact .nil | exact .tmp (.cell (.tmp .nil)) | exact .cell (.tmp (.tmp .nil)) | exact .cell (.cell (.tmp .nil)) | exact .tmp (.tmp (.tmp .nil)) | exact .cell (.cell (.cell .nil))) ?_
      rfl
    · simp at hc; exact absurd hc e1
  rw [e1] at hA
  have hd := sheaf_dom e1
  by_cases e2 : l.length = 0
  · obtain rfl : l = [] := List.length_eq_zero_iff.1 e2
    have : leastR [] x = (0, (0, 0), 5) := by simp [leastR, sheafErr, chkSheaf, chkL, chkOn, covL]
    rw [this]
    rcases hk with ⟨rfl, _⟩ | ⟨b, off, c, rfl, hk⟩
    · refine Con.start rfl Try.func48 rfl rfl Try.ntmps48 rfl rfl g ?_
      (refine WK.seq ?_; refine WK.region ?_; refine St.assign ?_; refine St.alloc fun _ _ => ?_; refine St.assign ?_; refine WO.nil ?_; refine WK.seq ?_; refine WK.seq ?_; refine WK.region ?_; refine St.move ?_)
      refine St.call (fun _ => rfl) (fun h2 hh => hS h2 hh) ?_
      (refine St.assign ?_; refine WO.nil ?_; refine WK.seq ?_; refine WK.region ?_; refine St.move ?_; refine St.bin ?_; refine WO.nil ?_; refine WK.condF ?_; refine WK.skip ?_; refine WK.seq ?_; refine WK.seq ?_; refine WK.region ?_; refine St.move ?_; refine St.move ?_)
      refine St.call (fun _ => rfl) (fun h2 hh => hA h2 hh) ?_
      (refine St.assign ?_; refine WO.nil ?_; refine WK.seq ?_; refine WK.region ?_; refine St.move ?_; refine St.bin ?_; refine WO.nil ?_; refine WK.condF ?_; refine WK.skip ?_; refine WK.seq ?_; refine WK.seq ?_; refine WK.region ?_; refine St.move ?_; refine St.len0 ?_; refine St.bin ?_; refine WO.nil ?_; refine WK.condT ?_; refine WK.seq ?_; refine WK.region ?_; refine St.build ?_; refine St.assign ?_; refine St.store0 ?_; refine St.assign ?_; refine WO.nil ?_)
      refine St.ret (by first | exact .tmp .nil | exact .cell .nil | exact .cell (.tmp .nil) | exact .tmp (.tmp .nil) | exact .cell (.cell .nil) | exact .tmp (.cell .nil) | exact .nil | exact .tmp (.cell (.tmp .nil)) | exact .cell (.tmp (.tmp .nil)) | exact .cell (.cell (.tmp .nil)) | exact .tmp (.tmp (.tmp .nil)) | exact .cell (.cell (.cell .nil))) ?_
      rfl
    · refine Con.start rfl Try.func48 rfl rfl Try.ntmps48 rfl rfl g ?_
      (refine WK.seq ?_; refine WK.region ?_; refine St.assign ?_; refine St.alloc fun _ _ => ?_; refine St.assign ?_; refine WO.nil ?_; refine WK.seq ?_; refine WK.seq ?_; refine WK.region ?_; refine St.move ?_)
      refine St.call (fun _ => rfl) (fun h2 hh => hS h2 hh) ?_
      (refine St.assign ?_; refine WO.nil ?_; refine WK.seq ?_; refine WK.region ?_; refine St.move ?_; refine St.bin ?_; refine WO.nil ?_; refine WK.condF ?_; refine WK.skip ?_; refine WK.seq ?_; refine WK.seq ?_; refine WK.region ?_; refine St.move ?_; refine St.move ?_)
      refine St.call (fun _ => rfl) (fun h2 hh => hA h2 hh) ?_
      (refine St.assign ?_; refine WO.nil ?_; refine WK.seq ?_; refine WK.region ?_; refine St.move ?_; refine St.bin ?_; refine WO.nil ?_; refine WK.condF ?_; refine WK.skip ?_; refine WK.seq ?_; refine WK.seq ?_; refine WK.region ?_; refine St.move ?_; refine St.len ?_; refine St.bin ?_; refine WO.nil ?_; refine WK.condT ?_; refine WK.seq ?_; refine WK.region ?_; refine St.build ?_; refine St.assign ?_; refine St.store0 ?_; refine St.assign ?_; refine WO.nil ?_)
      refine St.ret (by first | exact .tmp .nil | exact .cell .nil | exact .cell (.tmp .nil) | exact .tmp (.tmp .nil) | exact .cell (.cell .nil) | exact .tmp (.cell .nil) | exact .nil | exact .tmp (.cell (.tmp .nil)) | exact .cell (.tmp (.tmp .nil)) | exact .cell (.cell (.tmp .nil)) | exact .tmp (.tmp (.tmp .nil)) | exact .cell (.cell (.cell .nil))) ?_
      rfl
  obtain ⟨b, off, c, rfl, hk'⟩ := hk.ne (by omega)
  have eE : sheafErr (l.map Cv.c) x = 0 := by unfold sheafErr; rw [if_neg (by simp [e0]), if_neg (by simp [e1]), if_neg (by simpa using e2)]
  have hlen : (l.map fun c => valF c.ks x).length = l.length := by simp
  have hen : ∀ i, i < l.length → Small (kx (l.map fun c => valF c.ks x) i) (ky (l.map fun c => valF c.ks x) i) := fun i hi => by
    have : (l.map fun c => valF c.ks x)[i]? = some (valF l[i].ks x) := by simp [hi]
    obtain ⟨d1, d2⟩ := (hv i hi).dom (hd i hi)
    have := ((hv i hi).fr (x := x) (by omega) (by omega)).small
    simpa [kx, ky, valF, hi] using this
  refine Con.start rfl Try.func48 rfl rfl Try.ntmps48 rfl rfl g ?_
  (refine WK.seq ?_; refine WK.region ?_; refine St.assign ?_; refine St.alloc fun _ _ => ?_; refine St.assign ?_; refine WO.nil ?_; refine WK.seq ?_; refine WK.seq ?_; refine WK.region ?_; refine St.move ?_)
  refine St.call (fun _ => rfl) (fun h2 hh => hS h2 hh) ?_
  (refine St.assign ?_; refine WO.nil ?_; refine WK.seq ?_; refine WK.region ?_; refine St.move ?_; refine St.bin ?_; refine WO.nil ?_; refine WK.condF ?_; refine WK.skip ?_; refine WK.seq ?_; refine WK.seq ?_; refine WK.region ?_; refine St.move ?_; refine St.move ?_)
  refine St.call (fun _ => rfl) (fun h2 hh => hA h2 hh) ?_
  (refine St.assign ?_; refine WO.nil ?_; refine WK.seq ?_; refine WK.region ?_; refine St.move ?_; refine St.bin ?_; refine WO.nil ?_; refine WK.condF ?_; refine WK.skip ?_; refine WK.seq ?_; refine WK.seq ?_; refine WK.region ?_; refine St.move ?_; refine St.len ?_; refine St.bin ?_; refine WO.nil ?_)
  refine St.splitC (fun hc => ?_) (fun hc => ?_)
  · simp at hc; exact absurd (by rw [hc]; rfl) e2
  (refine WK.skip ?_; refine WK.seq ?_; refine WK.region ?_; refine St.assign ?_; refine WO.nil ?_; refine WK.seq ?_; refine WK.seq ?_; refine WK.region ?_; refine St.move ?_; refine St.len ?_; refine St.move ?_; refine WO.nil ?_; refine WK.block ?_)
  rename_i r hr
  refine WK.inv (ι := Nat × AV × Ob) (fun z => [(1, .int .i64 x), (5, .ptr r 0), (9, z.2.1), (30, .slice b off l.length c), (31, .int .i64 l.length), (32, .int .i64 z.1)]) (fun z => (r, .cells [.int .i64 0, .int .i64 0] 23) :: z.2.2)
    (fun z => z.1 ≤ l.length ∧ IsL 23 2 z.1 (flatA ((l.take z.1).map fun c => valF c.ks x)) z.2.1 z.2.2) (fun z => l.length - z.1) (0, .slice0, [])
    ⟨by simp, .nil rfl rfl⟩ ⟨rfl, rfl, rfl, rfl, rfl, rfl, trivial⟩ (by (repeat (first | exact List.Sublist.refl _ | exact List.nil_sublist _ | apply List.Sublist.cons_cons | apply List.Sublist.cons))) ?_
  rintro ⟨k, w, Lw⟩ ⟨hkl, hw⟩ ih
  simp only at hkl hw ih ⊢
  (refine WK.seq ?_; refine WK.region ?_; refine St.bin ?_; refine WO.nil ?_; refine WK.seq ?_)
  refine St.splitC (fun hc => ?_) (fun hc => ?_)
  · have hlt : k < l.length := by simp at hc; omega
    have v := hv k hlt
    obtain ⟨d1, d2⟩ := v.dom (hd k hlt)
    obtain ⟨b2, off2, c2, f2, hk2⟩ := (hk' k hlt).2.1.ne v.ne
    have e3 : flatA ((l.take (k + 1)).map fun c => valF c.ks x) = flatA ((l.take k).map fun c => valF c.ks x) ++ [.int .i64 (valN (l[k]'hlt).ks x), .int .i64 (valD (l[k]'hlt).ks x)] := by
      rw [List.take_succ_eq_append_getElem hlt, List.map_append]
      exact flatA_snoc _ _
    (refine WK.skip ?_; refine WK.seq ?_; refine WK.block ?_; refine WK.seq ?_; refine WK.region ?_)
    refine St.at ?_
    skip
    refine St.loadX (fun h hh => ((hk'.vw hh).at_ (z := (k : Int)) (n := k) (by omega) hlt).agg (by simp) rfl rfl rfl) ?_
    rw [f2]
    (refine St.alloc fun _ _ => ?_; refine St.store0 ?_; refine WO.nil ?_; refine WK.region ?_; refine St.move ?_; refine St.load ?_; refine St.move ?_)
    refine St.call (v := .agg [.int .i64 (valN (l[k]'hlt).ks x), .int .i64 (valD (l[k]'hlt).ks x)]) (fun _ => rfl) (fun h hh => value_con h hh.gd b2 off2 c2 (l[k]'hlt).ks (l[k]'hlt).err x v (hk2.vw hh) (by omega) (by omega)) ?_
    (refine St.mkS fun _ _ => ?_)
    rename_i y hy i2 hi2
    refine St.appL (new := [.int .i64 (valN (l[k]'hlt).ks x), .int .i64 (valD (l[k]'hlt).ks x)]) (Lk := [(i2, .cells [.int .i64 (valN (l[k]'hlt).ks x), .int .i64 (valD (l[k]'hlt).ks x)] 23), (y, .cells [.slice b2 off2 (l[k]'hlt).ks.length c2, .int .i64 (l[k]'hlt).err] 33), (r, .cells [.int .i64 0, .int .i64 0] 23)]) hw List.perm_append_comm (fun w3 Lw3 hw3 => ?_) ⟨rfl, rfl, rfl, rfl, rfl, rfl, rfl, rfl, rfl, rfl, rfl, rfl⟩ (List.Mem.head _) rfl (by omega) (by omega)
    refine WO.permF (L' := [(i2, .cells [.int .i64 (valN (l[k]'hlt).ks x), .int .i64 (valD (l[k]'hlt).ks x)] 23), (y, .cells [.slice b2 off2 (l[k]'hlt).ks.length c2, .int .i64 (l[k]'hlt).err] 33), (r, .cells [.int .i64 0, .int .i64 0] 23)] ++ Lw3) List.perm_append_comm ?_
    (refine St.assign ?_; refine WO.nil ?_; refine WK.blk ?_; refine WK.region ?_; refine St.binI ?_; refine St.move ?_; refine WO.nil ?_)
    refine WK.le ?_ (by (repeat (first | exact List.Sublist.refl _ | exact List.nil_sublist _ | apply List.Sublist.cons_cons | apply List.Sublist.cons))) (ih (k + 1, w3, Lw3) ⟨hlt, ?_⟩ (by simp only; omega))
    · exact ⟨rfl, rfl, rfl, rfl, rfl, rfl, trivial⟩
    · simp only
      rw [e3]
      exact hw3
  · have : k = l.length := by simp at hc; omega
    subst this
    rw [List.take_length] at hw
    have eL : leastR l x = (((bestIx lessF (0, 0) (l.map fun c => valF c.ks x) l.length : Nat) : Int), (kx (l.map fun c => valF c.ks x) (bestIx lessF (0, 0) (l.map fun c => valF c.ks x) l.length), ky (l.map fun c => valF c.ks x) (bestIx lessF (0, 0) (l.map fun c => valF c.ks x) l.length)), 0) := by
      unfold leastR lsI
      rw [if_pos eE]
      rfl
    rw [eL]
    clear ih eL
    generalize (l.map fun c => valF c.ks x) = fs at hw hen hlen
    obtain ⟨i, c1, o, rfl, rfl, ho, -⟩ := hw.ne (by omega)
    have b1 : bestIx lessF (0, 0) fs l.length < l.length := by
      have := bestIx_lt lessF (0, 0) fs (k := l.length) (by omega) (by omega)
      rw [hlen] at this
      exact this
    have hL : ∀ (h2 : Heap) {V : Ob}, Vw h [] V h2 → (i, o) ∈ V → Con Try.prog Bs 82 [.slice i 0 l.length c1, .fn (.func 95) [] []] h2 [] (.int .i64 (bestIx lessF (0, 0) fs l.length)) [] := fun h2 V hh hm => by
      have := foremost_con h2 hh.gd i 0 c1 fs 95 lessF (by omega) (hh.frs hm ho) (fun i j hi hj h' hg => isLess_con h' hg _ _ _ _ (hen i (by omega)) (hen j (by omega)))
      rw [hlen] at this
      exact this
    generalize bestIx lessF (0, 0) fs l.length = bi at b1 hL
    (refine WK.exit ?_; refine WK.seq ?_; refine WK.region ?_; refine St.move ?_)
    refine St.call (fun _ => rfl) (fun h2 hh => hL h2 hh (by simp)) ?_
    (refine St.assign ?_; refine WO.nil ?_; refine WK.seq ?_; refine WK.regionD ?_; refine St.move ?_; refine St.move ?_; refine St.move ?_)
    refine St.at ?_
    skip
    refine St.loadX (fun h2 hh => ((hh.frs (fs := fs) (j := i) (o := o) (by simp) ho).at_ (z := (bi : Int)) (n := bi) (by omega) (by omega)).agg (by simp) rfl rfl rfl) ?_
    (refine St.assign ?_; refine StD.store0 ?_; refine St.assign ?_; refine WO.nil ?_)
    refine St.ret (by first | exact .tmp .nil | exact .cell .nil | exact .cell (.tmp .nil) | exact .tmp (.tmp .nil) | exact .cell (.cell .nil) | exact .tmp (.cell .nil) | exact .nil | exact .tmp (.cell (.tmp .nil)) | exact .cell (.tmp (.tmp .nil)) | exact .cell (.cell (.tmp .nil)) | exact .tmp (.tmp (.tmp .nil)) | exact .cell (.cell (.cell .nil))) ?_
    rfl
end Go.Proofs.Ytcaemeedmnpdjaa
