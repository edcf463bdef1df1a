/- The reference's over, peak, Over over the calculator's memory. -/
import Derived.Test.YtbhklifflhoinaaGreatOv
import Derived.Test.YtbhklifflhoinaaGreatAt
namespace Go.Proofs.YtbhklifflhoinaaGreat
open Go.Proofs.YtbhklifflhoinaaGreat.Ev

def errL (l : List Cur) (lo hi : Int) : Int := if chkL l = 0 then chkOn l lo hi else chkL l
theorem vd_of_chkL {l : List Cur} (h : chkL l = 0) : ∀ i (hi : i < l.length), Vd l[i].ks l[i].err := by
  induction l with
  | nil => intro i hi; simp at hi
  | cons c r ih =>
    unfold chkL at h
    split at h
    · rename_i h1
      intro i hi
      cases i with
      | zero => exact vd_of_chk h1
      | succ i => exact ih h i (by simpa using hi)
    · rename_i h1; exact absurd h h1
set_option maxRecDepth 100000 in
set_option maxHeartbeats 8000000 in
theorem rover_con (h : Heap) (g : Gd h) (b off : Nat) (c : ACap) (l : List Cv) (lo hi : Int) (hl : l.length ≤ 1000000) (hk : CvH h b off l) : Con Tryz.prog Bs 50 [.slice b off l.length c, .agg [.int .i64 lo, .int .i64 hi]] h [] (.int .i64 (errL (l.map Cv.c) lo hi)) [] := by
  refine Con.start rfl Tryz.func50 rfl rfl Tryz.ntmps50 rfl rfl g ?_
  (refine WK.seq ?_; refine WK.region ?_; refine St.box fun _ _ => ?_; refine St.assign ?_; refine WO.nil ?_; refine WK.seq ?_; refine WK.seq ?_; refine WK.region ?_; refine St.assign ?_; refine WO.nil ?_; refine WK.block ?_)
  rename_i p hp
  refine WK.inv (ι := Nat) (fun k => [(0, .slice b off l.length c), (3, .ptr p 0), (5, .int .i64 k)]) (fun _ => [(p, .cells [.int .i64 lo, .int .i64 hi] 27)]) (fun k => k ≤ l.length ∧ chkL (l.map Cv.c) = chkL ((l.map Cv.c).drop k)) (fun k => l.length - k) 0 ⟨by omega, rfl⟩ ⟨rfl, rfl, rfl, trivial⟩ (by (repeat (first | exact List.Sublist.refl _ | exact List.nil_sublist _ | apply List.Sublist.cons_cons | apply List.Sublist.cons))) ?_
  intro k ⟨hkl, he⟩ ih
  (refine WK.seq ?_; refine WK.seq ?_; refine WK.region ?_; refine St.move ?_; refine St.move ?_; refine St.len ?_; refine St.bin ?_; refine WO.nil ?_)
  refine St.splitC (fun hc => ?_) (fun hc => ?_)
  · have hlt : k < l.length := by simp at hc; omega
    have hd := chkL_drop (l := l.map Cv.c) (k := k) (by simpa using hlt)
    simp only [List.getElem_map] at hd
    (refine WK.skip ?_; refine WK.seq ?_; refine WK.block ?_; refine WK.seq ?_; refine WK.region ?_; refine St.move ?_; refine St.move ?_)
    refine St.at ?_
    skip
    refine St.loadX (fun h hh => ((hk.vw hh).at_ (z := (k : Int)) (n := k) (by omega) hlt).agg (by simp) rfl rfl rfl) ?_
    skip
    refine St.call (v := .int .i64 (chk (l[k]'hlt).ks (l[k]'hlt).err)) (fun _ => rfl) (fun h hh => rcheck_con h hh.gd (l[k]'hlt).kv (l[k]'hlt).ks (l[k]'hlt).err ((hk.vw hh) k hlt).2.1 (hk k hlt).2.2) ?_
    (refine St.assign ?_; refine WO.nil ?_; refine WK.seq ?_; refine WK.region ?_; refine St.move ?_; refine St.bin ?_; refine WO.nil ?_)
    refine St.splitC (fun hc2 => ?_) (fun hc2 => ?_)
    · (refine WK.seq ?_; refine WK.region ?_; refine St.move ?_; refine St.assign ?_; refine WO.nil ?_)
      refine St.ret (by first | exact .tmp .nil | exact .cell .nil | exact .cell (.tmp .nil) | exact .tmp (.tmp .nil) | exact .cell (.cell .nil) | exact .tmp (.cell .nil) | exact .nil | exact .tmp (.cell (.tmp .nil)) | exact .cell (.tmp (.tmp .nil)) | exact .cell (.cell (.tmp .nil)) | exact .tmp (.tmp (.tmp .nil)) | exact .cell (.cell (.cell .nil))) ?_
      have hne : chk (l[k]'hlt).ks (l[k]'hlt).err ≠ 0 := by simpa using hc2
      have e1 : chkL (l.map Cv.c) = chk (l[k]'hlt).ks (l[k]'hlt).err := by rw [he, hd]; exact if_neg hne
      unfold errL
      rw [e1, if_neg hne]
      rfl
    · have h0 : chk (l[k]'hlt).ks (l[k]'hlt).err = 0 := by simpa using hc2
      (refine WK.skip ?_; refine WK.blk ?_; refine WK.region ?_; refine St.move ?_; refine St.binI ?_; refine St.assign ?_; refine WO.nil ?_)
      refine WK.le ?_ (by (repeat (first | exact List.Sublist.refl _ | exact List.nil_sublist _ | apply List.Sublist.cons_cons | apply List.Sublist.cons))) (ih (k + 1) ⟨hlt, ?_⟩ (by omega))
      · exact ⟨rfl, rfl, rfl, trivial⟩
      · rw [he, hd]
        exact if_pos h0
  have : k = l.length := by simp at hc; omega
  subst this
  have hz : chkL (l.map Cv.c) = 0 := by rw [he, List.drop_eq_nil_of_le (by simp)]; rfl
  have hv := vd_of_chkL hz
  have hE : errL (l.map Cv.c) lo hi = chkOn (l.map Cv.c) lo hi := by unfold errL; rw [if_pos hz]
  clear ih he hkl hc
  rw [hE]
  (refine WK.exit ?_; refine WK.seq ?_; refine WK.seq ?_; refine WK.region ?_; refine St.fieldAddr ?_; refine St.load ?_; refine St.fieldAddr ?_; refine St.load ?_; refine St.bin ?_; refine WO.nil ?_)
  refine St.splitC (fun hc => ?_) (fun hc => ?_)
  · (refine WK.seq ?_; refine WK.region ?_; refine St.assign ?_; refine WO.nil ?_)
    refine St.ret (by first | exact .tmp .nil | exact .cell .nil | exact .cell (.tmp .nil) | exact .tmp (.tmp .nil) | exact .cell (.cell .nil) | exact .tmp (.cell .nil) | exact .nil | exact .tmp (.cell (.tmp .nil)) | exact .cell (.tmp (.tmp .nil)) | exact .cell (.cell (.tmp .nil)) | exact .tmp (.tmp (.tmp .nil)) | exact .cell (.cell (.cell .nil))) ?_
    have : hi < lo := by simp at hc; omega
    simp [oneOf, chkOn, this]
  have hlh : ¬ hi < lo := by simp at hc; omega
  (refine WK.skip ?_; refine WK.seq ?_; refine WK.seq ?_; refine WK.region ?_; refine St.assign ?_; refine WO.nil ?_; refine WK.block ?_)
  refine WK.inv (ι := Nat) (fun k => [(0, .slice b off l.length c), (3, .ptr p 0), (7, .int .i64 k)]) (fun _ => [(p, .cells [.int .i64 lo, .int .i64 hi] 27)]) (fun k => k ≤ l.length ∧ covL (l.map Cv.c) lo hi = covL ((l.map Cv.c).drop k) lo hi) (fun k => l.length - k) 0 ⟨by omega, rfl⟩ ⟨rfl, rfl, rfl, trivial⟩ (by (repeat (first | exact List.Sublist.refl _ | exact List.nil_sublist _ | apply List.Sublist.cons_cons | apply List.Sublist.cons))) ?_
  intro k ⟨hkl, he⟩ ih
  (refine WK.seq ?_; refine WK.seq ?_; refine WK.region ?_; refine St.move ?_; refine St.move ?_; refine St.len ?_; refine St.bin ?_; refine WO.nil ?_)
  refine St.splitC (fun hc => ?_) (fun hc => ?_)
  · have hlt : k < l.length := by simp at hc; omega
    have hd := covL_drop (l := l.map Cv.c) (lo := lo) (hi := hi) (k := k) (by simpa using hlt)
    simp only [List.getElem_map] at hd
    have v : Vd (l[k]'hlt).ks (l[k]'hlt).err := by
      have := hv k (by simpa using hlt)
      rw [List.getElem_map] at this
      exact this
    obtain ⟨b2, off2, c2, e2, hk2⟩ := (hk k hlt).2.1.ne v.ne
    have bad : (lo < dLo (l[k]'hlt).ks ∨ dHi (l[k]'hlt).ks < hi) → AV.int .i64 3 = .int .i64 (chkOn (l.map Cv.c) lo hi) := fun hb => by
      have e3 : covL (l.map Cv.c) lo hi = false := by
        rw [he, hd]
        have : (decide (dLo (l[k]'hlt).ks ≤ lo) && decide (hi ≤ dHi (l[k]'hlt).ks)) = false := by simp; omega
        show ((decide (dLo (l[k]'hlt).ks ≤ lo) && decide (hi ≤ dHi (l[k]'hlt).ks)) && _) = false
        rw [this, Bool.false_and]
      simp [chkOn, hlh, e3]
    (refine WK.skip ?_; refine WK.seq ?_; refine WK.block ?_; refine WK.seq ?_; refine WK.region ?_; refine St.move ?_; refine St.move ?_)
    refine St.at ?_
    skip
    refine St.loadX (fun h hh => ((hk.vw hh).at_ (z := (k : Int)) (n := k) (by omega) hlt).agg (by simp) rfl rfl rfl) ?_
    skip
    refine St.call (v := .agg [.int .i64 (dLo (l[k]'hlt).ks), .int .i64 (dHi (l[k]'hlt).ks)]) (fun _ => rfl) (fun h hh => by
      have := rdomain_con h hh.gd b2 off2 c2 (l[k]'hlt).ks (l[k]'hlt).err (hk2.vw hh) v.ne (hk k hlt).2.2
      rw [← e2] at this
      exact this) ?_
    (refine St.alloc fun _ _ => ?_; refine St.store0 ?_; refine WO.nil ?_; refine WK.seq ?_; refine WK.region ?_; refine St.fieldAddr ?_; refine St.load ?_; refine St.fieldAddr ?_; refine St.load ?_; refine St.bin ?_; refine St.move ?_)
    refine St.split (fun hc2 => ?_) (fun hc2 => ?_)
    · (refine St.skip ?_; refine St.skip ?_; refine St.skip ?_; refine St.skip ?_; refine St.skip ?_; refine St.pickT ?_; refine WO.nil ?_; refine WK.condT ?_; refine WK.seq ?_; refine WK.region ?_; refine St.assign ?_; refine WO.nil ?_)
      refine St.ret (by first | exact .tmp .nil | exact .cell .nil | exact .cell (.tmp .nil) | exact .tmp (.tmp .nil) | exact .cell (.cell .nil) | exact .tmp (.cell .nil) | exact .nil | exact .tmp (.cell (.tmp .nil)) | exact .cell (.tmp (.tmp .nil)) | exact .cell (.cell (.tmp .nil)) | exact .tmp (.tmp (.tmp .nil)) | exact .cell (.cell (.cell .nil))) ?_
      exact bad (by simp at hc2; omega)
    (refine St.fieldAddr ?_; refine St.load ?_; refine St.fieldAddr ?_; refine St.load ?_; refine St.bin ?_; refine St.pickF ?_; refine WO.nil ?_)
    refine St.splitC (fun hc3 => ?_) (fun hc3 => ?_)
    · (refine WK.seq ?_; refine WK.region ?_; refine St.assign ?_; refine WO.nil ?_)
      refine St.ret (by first | exact .tmp .nil | exact .cell .nil | exact .cell (.tmp .nil) | exact .tmp (.tmp .nil) | exact .cell (.cell .nil) | exact .tmp (.cell .nil) | exact .nil | exact .tmp (.cell (.tmp .nil)) | exact .cell (.tmp (.tmp .nil)) | exact .cell (.cell (.tmp .nil)) | exact .tmp (.tmp (.tmp .nil)) | exact .cell (.cell (.cell .nil))) ?_
      exact bad (by simp at hc3; omega)
    · (refine WK.skip ?_; refine WK.blk ?_; refine WK.region ?_; refine St.move ?_; refine St.binI ?_; refine St.assign ?_; refine WO.nil ?_)
      refine WK.le ?_ (by (repeat (first | exact List.Sublist.refl _ | exact List.nil_sublist _ | apply List.Sublist.cons_cons | apply List.Sublist.cons))) (ih (k + 1) ⟨hlt, ?_⟩ (by omega))
      · exact ⟨rfl, rfl, rfl, trivial⟩
      · rw [he, hd]
        simp at hc2 hc3
        have : (decide (dLo (l[k]'hlt).ks ≤ lo) && decide (hi ≤ dHi (l[k]'hlt).ks)) = true := by simp; omega
        show ((decide (dLo (l[k]'hlt).ks ≤ lo) && decide (hi ≤ dHi (l[k]'hlt).ks)) && _) = _
        rw [this, Bool.true_and]
  · have : k = l.length := by simp at hc; omega
    subst this
    rw [List.drop_eq_nil_of_le (by simp)] at he
    (refine WK.exit ?_; refine WK.seq ?_; refine WK.region ?_; refine St.assign ?_; refine WO.nil ?_)
    refine St.ret (by first | exact .tmp .nil | exact .cell .nil | exact .cell (.tmp .nil) | exact .tmp (.tmp .nil) | exact .cell (.cell .nil) | exact .tmp (.cell .nil) | exact .nil | exact .tmp (.cell (.tmp .nil)) | exact .cell (.tmp (.tmp .nil)) | exact .cell (.cell (.tmp .nil)) | exact .tmp (.tmp (.tmp .nil)) | exact .cell (.cell (.cell .nil))) ?_
    simp [oneOf, chkOn, hlh, he]
    rfl

/-- the integers of a span -/
def intsX (lo hi : Int) : List Int := (List.range (hi - lo + 1).toNat).map fun (i : Nat) => lo + (i : Int)
theorem intsX_len (lo hi : Int) : (intsX lo hi).length = (hi - lo + 1).toNat := by simp [intsX]
theorem intsX_get {lo hi : Int} {i : Nat} (h : i < (hi - lo + 1).toNat) : (intsX lo hi)[i]? = some (lo + i) := by simp [intsX, h]
theorem best_one (lt : Int × Int → Int × Int → Bool) (hirr : ∀ a, lt a a = false) (fs : List (Int × Int)) : bestIx lt (0, 0) fs 1 = 0 := by
  rw [best_step]
  simp [bestIx, hirr]
theorem lessF_self (a : Int × Int) : lessF a a = false := by simp [lessF, ordF, cmpI]
theorem moreF_self (a : Int × Int) : moreF a a = false := by simp [moreF, ordF, cmpI]
def bL (fs : List (Int × Int)) (k : Nat) : Nat := bestIx lessF (0, 0) fs k
def bM (fs : List (Int × Int)) (k : Nat) : Nat := bestIx moreF (0, 0) fs k
/-- the reference's peak, from a number on -/
def pkR (fr : Int) (fs : List (Int × Int)) : Pk :=
  ⟨kx fs (bL fs fs.length), ky fs (bL fs fs.length), kx fs (bM fs fs.length), ky fs (bM fs fs.length), fr + bL fs fs.length, fr + bM fs fs.length⟩
set_option maxRecDepth 100000 in
set_option maxHeartbeats 16000000 in
theorem rpeak_con (h : Heap) (g : Gd h) (b off : Nat) (c : ACap) (fr : Int) (fs : List (Int × Int)) (hpos : 0 < fs.length) (hl : fs.length ≤ 65536) (hk : KnH h b off fs) (h0 : -100000 ≤ fr) (h1 : fr ≤ 100000) (hsm : ∀ i, i < fs.length → Small (kx fs i) (ky fs i)) : Con Tryz.prog Bs 60 [.int .i64 fr, .slice b off fs.length c] h [] (pkA (pkR fr fs)) [] := by
  refine Con.start rfl Tryz.func60 rfl rfl Tryz.ntmps60 rfl rfl g ?_
  (refine WK.seq ?_; refine WK.region ?_; refine St.alloc fun _ _ => ?_; refine WO.nil ?_; refine WK.seq ?_; refine WK.regionD ?_; refine St.move ?_)
  refine St.at ?_
  skip
  refine St.loadX (fun h hh => ((hk.vw hh).at_ (z := 0) (n := 0) rfl hpos).agg (by simp) rfl rfl rfl) ?_
  (refine St.move ?_)
  refine St.at ?_
  skip
  refine St.loadX (fun h hh => ((hk.vw hh).at_ (z := 0) (n := 0) rfl hpos).agg (by simp) rfl rfl rfl) ?_
  (refine St.move ?_; refine St.move ?_; refine St.build ?_; refine StD.alloc fun _ _ => ?_; refine StD.storeT ?_; refine WO.nil1 ?_; refine WK.seq ?_; refine WK.seq ?_; refine WK.region ?_; refine St.assign ?_; refine WO.nil ?_; refine WK.block ?_)
  rename_i p hp q hq
  have l1 : bL fs 1 = 0 := best_one _ lessF_self fs
  have m1 : bM fs 1 = 0 := best_one _ moreF_self fs
  have z0 : fr + ((0 : Nat) : Int) = fr := by simp
  refine WK.inv (ι := Nat) (fun k => [(0, .int .i64 fr), (1, .slice b off fs.length c), (4, .ptr p 0), (5, .ptr q 0), (6, .int .i64 k)]) (fun k => [(q, .cells [.int .i64 (kx fs (bL fs k)), .int .i64 (ky fs (bL fs k)), .int .i64 (kx fs (bM fs k)), .int .i64 (ky fs (bM fs k)), .int .i64 (fr + bL fs k), .int .i64 (fr + bM fs k)] 45), (p, .cells [.int .i64 0, .int .i64 0, .int .i64 0, .int .i64 0, .int .i64 0, .int .i64 0] 45)])
    (fun k => 1 ≤ k ∧ k ≤ fs.length) (fun k => fs.length - k) 1 ⟨by omega, by omega⟩ ⟨rfl, rfl, rfl, rfl, rfl, trivial⟩ (by
      simp only [l1, m1, z0]
      exact List.Sublist.refl _) ?_
  intro k ⟨hk1, hkl⟩ ih
  (refine WK.seq ?_; refine WK.seq ?_; refine WK.region ?_; refine St.move ?_; refine St.move ?_; refine St.len ?_; refine St.bin ?_; refine WO.nil ?_)
  refine St.splitC (fun hc => ?_) (fun hc => ?_)
  · have hlt : k < fs.length := by simp at hc; omega
    have b1 : bL fs k < fs.length := bestIx_lt lessF (0, 0) fs hkl hpos
    have b2 : bM fs k < fs.length := bestIx_lt moreF (0, 0) fs hkl hpos
    have sl : bL fs (k + 1) = if lessF (kx fs k, ky fs k) (kx fs (bL fs k), ky fs (bL fs k)) = true then k else bL fs k := best_step
    have sm : bM fs (k + 1) = if moreF (kx fs k, ky fs k) (kx fs (bM fs k), ky fs (bM fs k)) = true then k else bM fs k := best_step
    have ihk := ih (k + 1) ⟨by omega, hlt⟩ (by omega)
    (refine WK.skip ?_; refine WK.seq ?_; refine WK.block ?_; refine WK.seq ?_; refine WK.seq ?_; refine WK.regionD ?_; refine St.move ?_; refine St.move ?_)
    refine St.at ?_
    skip
    refine St.loadX (fun h hh => ((hk.vw hh).at_ (z := (k : Int)) (n := k) (by omega) hlt).agg (by simp) rfl rfl rfl) ?_
    (refine St.fieldAddr ?_; refine St.load ?_)
    refine St.call (fun _ => rfl) (fun h hh => rorder_con h hh.gd (kx fs k) (ky fs k) (kx fs (bL fs k)) (ky fs (bL fs k)) (hsm k hlt) (hsm _ b1)) ?_
    (refine St.bin ?_; refine WO.nil ?_)
    refine St.splitC (fun hc2 => ?_) (fun hc2 => ?_)
    · have e1 : bL fs (k + 1) = k := by rw [sl, if_pos]; exact hc2
      (refine WK.seq ?_; refine WK.region ?_; refine St.move ?_; refine St.move ?_)
      refine St.at ?_
      skip
      refine St.loadX (fun h hh => ((hk.vw hh).at_ (z := (k : Int)) (n := k) (by omega) hlt).agg (by simp) rfl rfl rfl) ?_
      (refine St.fieldAddr ?_; refine St.store0 ?_; refine WO.nil ?_; refine WK.region ?_; refine St.move ?_; refine St.move ?_; refine St.binI ?_; refine St.fieldAddr ?_; refine St.store0 ?_; refine WO.nil ?_; refine WK.seq ?_; refine WK.regionD ?_; refine St.move ?_; refine St.move ?_)
      refine St.at ?_
      skip
      refine St.loadX (fun h hh => ((hk.vw hh).at_ (z := (k : Int)) (n := k) (by omega) hlt).agg (by simp) rfl rfl rfl) ?_
      (refine St.fieldAddr ?_; refine St.load ?_)
      refine St.call (fun _ => rfl) (fun h hh => rorder_con h hh.gd (kx fs k) (ky fs k) (kx fs (bM fs k)) (ky fs (bM fs k)) (hsm k hlt) (hsm _ b2)) ?_
      (refine St.bin ?_; refine WO.nil ?_)
      refine St.splitC (fun hc3 => ?_) (fun hc3 => ?_)
      · have e2 : bM fs (k + 1) = k := by rw [sm, if_pos]; simpa [moreF] using hc3
        simp only [e1, e2] at ihk
        (refine WK.seq ?_; refine WK.region ?_; refine St.move ?_; refine St.move ?_)
        refine St.at ?_
        skip
        refine St.loadX (fun h hh => ((hk.vw hh).at_ (z := (k : Int)) (n := k) (by omega) hlt).agg (by simp) rfl rfl rfl) ?_
        (refine St.fieldAddr ?_; refine St.store0 ?_; refine WO.nil ?_; refine WK.region ?_; refine St.move ?_; refine St.move ?_; refine St.binI ?_; refine St.fieldAddr ?_; refine St.store0 ?_; refine WO.nil ?_; refine WK.blk ?_; refine WK.region ?_; refine St.move ?_; refine St.binI ?_; refine St.assign ?_; refine WO.nil ?_)
        refine WK.le ?_ (by (repeat (first | exact List.Sublist.refl _ | exact List.nil_sublist _ | apply List.Sublist.cons_cons | apply List.Sublist.cons))) ihk
        exact ⟨rfl, rfl, rfl, rfl, rfl, trivial⟩
      · have e2 : bM fs (k + 1) = bM fs k := by rw [sm, if_neg]; simpa [moreF] using hc3
        simp only [e1, e2] at ihk
        (refine WK.skip ?_; refine WK.blk ?_; refine WK.region ?_; refine St.move ?_; refine St.binI ?_; refine St.assign ?_; refine WO.nil ?_)
        refine WK.le ?_ (by (repeat (first | exact List.Sublist.refl _ | exact List.nil_sublist _ | apply List.Sublist.cons_cons | apply List.Sublist.cons))) ihk
        exact ⟨rfl, rfl, rfl, rfl, rfl, trivial⟩
    · have e1 : bL fs (k + 1) = bL fs k := by rw [sl, if_neg]; simpa [lessF] using hc2
      (refine WK.skip ?_; refine WK.seq ?_; refine WK.regionD ?_; refine St.move ?_; refine St.move ?_)
      refine St.at ?_
      skip
      refine St.loadX (fun h hh => ((hk.vw hh).at_ (z := (k : Int)) (n := k) (by omega) hlt).agg (by simp) rfl rfl rfl) ?_
      (refine St.fieldAddr ?_; refine St.load ?_)
      refine St.call (fun _ => rfl) (fun h hh => rorder_con h hh.gd (kx fs k) (ky fs k) (kx fs (bM fs k)) (ky fs (bM fs k)) (hsm k hlt) (hsm _ b2)) ?_
      (refine St.bin ?_; refine WO.nil ?_)
      refine St.splitC (fun hc3 => ?_) (fun hc3 => ?_)
      · have e2 : bM fs (k + 1) = k := by rw [sm, if_pos]; simpa [moreF] using hc3
        simp only [e1, e2] at ihk
        (refine WK.seq ?_; refine WK.region ?_; refine St.move ?_; refine St.move ?_)
        refine St.at ?_
        skip
        refine St.loadX (fun h hh => ((hk.vw hh).at_ (z := (k : Int)) (n := k) (by omega) hlt).agg (by simp) rfl rfl rfl) ?_
        (refine St.fieldAddr ?_; refine St.store0 ?_; refine WO.nil ?_; refine WK.region ?_; refine St.move ?_; refine St.move ?_; refine St.binI ?_; refine St.fieldAddr ?_; refine St.store0 ?_; refine WO.nil ?_; refine WK.blk ?_; refine WK.region ?_; refine St.move ?_; refine St.binI ?_; refine St.assign ?_; refine WO.nil ?_)
        refine WK.le ?_ (by (repeat (first | exact List.Sublist.refl _ | exact List.nil_sublist _ | apply List.Sublist.cons_cons | apply List.Sublist.cons))) ihk
        exact ⟨rfl, rfl, rfl, rfl, rfl, trivial⟩
      · have e2 : bM fs (k + 1) = bM fs k := by rw [sm, if_neg]; simpa [moreF] using hc3
        simp only [e1, e2] at ihk
        (refine WK.skip ?_; refine WK.blk ?_; refine WK.region ?_; refine St.move ?_; refine St.binI ?_; refine St.assign ?_; refine WO.nil ?_)
        refine WK.le ?_ (by (repeat (first | exact List.Sublist.refl _ | exact List.nil_sublist _ | apply List.Sublist.cons_cons | apply List.Sublist.cons))) ihk
        exact ⟨rfl, rfl, rfl, rfl, rfl, trivial⟩
  · have : k = fs.length := by simp at hc; omega
    subst this
    (refine WK.exit ?_; refine WK.seq ?_; refine WK.region ?_; refine St.load ?_; refine St.store1 ?_; refine WO.nil ?_)
    refine St.ret (by first | exact .tmp .nil | exact .cell .nil | exact .cell (.tmp .nil) | exact .tmp (.tmp .nil) | exact .cell (.cell .nil) | exact .tmp (.cell .nil) | exact .nil | exact .tmp (.cell (.tmp .nil)) | exact .cell (.tmp (.tmp .nil)) | exact .cell (.cell (.tmp .nil)) | exact .tmp (.tmp (.tmp .nil)) | exact .cell (.cell (.cell .nil))) ?_
    rfl
end Go.Proofs.YtbhklifflhoinaaGreat
