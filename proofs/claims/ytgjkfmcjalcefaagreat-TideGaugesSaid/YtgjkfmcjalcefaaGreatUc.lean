/- The reference's Check, Value, Height over the calculator's memory; the laws' few. -/
import Derived.Test.YtgjkfmcjalcefaaGreatUb
namespace Go.Proofs.YtgjkfmcjalcefaaGreat
open Go.Proofs.YtgjkfmcjalcefaaGreat.Ev

theorem Rds3 {h : Heap} {b off : Nat} {x y z : AV} (k : Rds h b off [x, y, z]) : Rd h b off x ∧ Rd h b (off + 1) y ∧ Rd h b (off + 2) z := ⟨k.1, k.2.1, k.2.2.1⟩
theorem ShH.fr_ {h : Heap} {b off l} (k : ShH h b off l) {z : Int} {n : Nat} (e : z.toNat = n) (hi : n < l.length) : Rd h b (off + z.toNat * 3) (.int .i64 (nthS l n).fr) := (Rds3 (k.at_ e hi)).1
theorem ShH.to_ {h : Heap} {b off l} (k : ShH h b off l) {z : Int} {n : Nat} (e : z.toNat = n) (hi : n < l.length) : Rd h b (off + z.toNat * 3 + 1) (.int .i64 (nthS l n).to) := (Rds3 (k.at_ e hi)).2.1
theorem ShH.ad_ {h : Heap} {b off l} (k : ShH h b off l) {z : Int} {n : Nat} (e : z.toNat = n) (hi : n < l.length) : Rd h b (off + z.toNat * 3 + 2) (.int .i64 (nthS l n).ad) := (Rds3 (k.at_ e hi)).2.2
theorem CyH.id_ {h : Heap} {b off l} (k : CyH h b off l) {z : Int} {n : Nat} (e : z.toNat = n) (hi : n < l.length) : Rd h b (off + z.toNat * 4) (.int .i64 (nthW l n).c.id) := (k.at_ e hi).1
theorem CyH.hs_ {h : Heap} {b off l} (k : CyH h b off l) {z : Int} {n : Nat} (e : z.toNat = n) (hi : n < l.length) : Rd h b (off + z.toNat * 4 + 3) (nthW l n).v := (k.at_ e hi).2.2.2.1
/-- the greatest end so far -/
def befS (ss : List Sh) (k : Nat) : Int := if k = 0 then -1 else (nthS ss (k - 1)).to
set_option maxRecDepth 100000 in
set_option maxHeartbeats 8000000 in
theorem shifted_con (h : Heap) (g : Gd h) (v : AV) (l : List Sh) (hv : ShV h v l) (hl : l.length ≤ 1000000) :
    Con Tryz.prog Bs 102 [v] h [] (.int .i64 (chkS (-1) l)) [] := by
  refine Con.start rfl Tryz.func102 rfl rfl Tryz.ntmps102 rfl rfl g ?_
  (refine WK.seq ?_; refine WK.region ?_; refine St.assign ?_; refine WO.nil ?_; refine WK.seq ?_; refine WK.seq ?_; refine WK.region ?_; refine St.assign ?_; refine WO.nil ?_; refine WK.block ?_)
  by_cases hn : l.length = 0
  · have e1 : l = [] := List.length_eq_zero_iff.1 hn
    subst e1
    refine WK.unroll ?_
    (refine WK.seq ?_; refine WK.seq ?_; refine WK.region ?_; refine St.move ?_; refine St.move ?_)
    refine St.lenV rfl hv.len ?_
    (refine St.bin ?_; refine WO.nil ?_; refine WK.condF ?_; refine WK.exit ?_; refine WK.seq ?_; refine WK.region ?_; refine St.assign ?_; refine WO.nil ?_)
    refine St.ret (by first | exact .tmp .nil | exact .cell .nil | exact .cell (.tmp .nil) | exact .tmp (.tmp .nil) | exact .cell (.cell .nil) | exact .tmp (.cell .nil) | exact .nil | exact .tmp (.cell (.tmp .nil)) | exact .cell (.tmp (.tmp .nil)) | exact .cell (.cell (.tmp .nil)) | exact .tmp (.tmp (.tmp .nil)) | exact .cell (.cell (.cell .nil))) ?_
    rfl
  obtain ⟨b, off, c, rfl, hk⟩ := hv.ne (by omega)
  refine WK.inv (ι := Nat) (fun z => [(0, .slice b off l.length c), (2, .int .i64 0), (3, .int .i64 z)]) (fun _ => []) (fun z => z ≤ l.length ∧ chkS (-1) l = chkS (befS l z) (l.drop z) ∧ -1 ≤ befS l z ∧ (z ≠ 0 → 0 ≤ befS l z)) (fun z => l.length - z) 0 ⟨by omega, rfl, by simp [befS], fun q => absurd rfl q⟩ ⟨rfl, rfl, rfl, trivial⟩ (by (repeat (first | exact List.Sublist.refl _ | exact List.nil_sublist _ | apply List.Sublist.cons_cons | apply List.Sublist.cons))) ?_
  rintro k ⟨hkl, hchk, hb0, hb1⟩ ih
  (refine WK.seq ?_; refine WK.seq ?_; refine WK.region ?_; refine St.move ?_; refine St.move ?_; refine St.len ?_; refine St.bin ?_; refine WO.nil ?_)
  refine St.splitC (fun hc => ?_) (fun hc => ?_)
  · have hlt : k < l.length := by simp at hc; omega
    have hd := chkS_drop (before := befS l k) hlt
    have bad : shBad (befS l k) (nthS l k) = true → chkS (-1) l = 1 := fun q => by rw [hchk, hd, if_pos q]
    have hld1 : ∀ (h2 : Heap) {V : Ob}, Vw h [] V h2 → Rd h2 b (off + (k : Int).toNat * 3) (.int .i64 (nthS l k).fr) := fun h2 V hh => (hk.vw hh).fr_ (by omega) hlt
    have hld2 : ∀ (h2 : Heap) {V : Ob}, Vw h [] V h2 → Rd h2 b (off + (k : Int).toNat * 3 + 1) (.int .i64 (nthS l k).to) := fun h2 V hh => (hk.vw hh).to_ (by omega) hlt
    (refine WK.skip ?_; refine WK.seq ?_; refine WK.block ?_; refine WK.seq ?_; refine WK.region ?_; refine St.move ?_; refine St.move ?_)
    refine St.at ?_
    (refine St.fieldAddr ?_)
    refine St.loadX (fun h hh => ((hk.vw hh).ad_ (z := (k : Int)) (n := k) (by omega) hlt).one rfl) ?_
    skip
    refine St.call (fun _ => rfl) (fun hp2 hh => rwithin_con hp2 hh.gd (nthS l k).ad (-4000) 4000) ?_
    (refine St.assign ?_; refine WO.nil ?_; refine WK.seq ?_; refine WK.seq ?_; refine WK.regionD ?_; refine St.move ?_; refine St.move ?_)
    refine St.at ?_
    (refine St.fieldAddr ?_)
    refine St.loadX (fun h hh => (hld1 h hh).one rfl) ?_
    (refine St.bin ?_; refine St.move ?_)
    refine St.split (fun h1 => ?_) (fun h1 => ?_)
    · (refine St.skip ?_; refine St.skip ?_; refine St.skip ?_; refine St.skip ?_; refine St.skip ?_; refine St.skip ?_; refine St.skip ?_; refine St.skip ?_; refine St.skip ?_; refine St.skip ?_; refine St.skip ?_; refine St.pickT ?_; refine St.move ?_; refine St.skip ?_; refine St.skip ?_; refine St.skip ?_; refine St.skip ?_; refine St.skip ?_; refine St.skip ?_; refine St.pickT ?_; refine St.move ?_; refine St.skip ?_; refine St.skip ?_; refine St.pickT ?_; refine WO.nil ?_; refine WK.condT ?_; refine WK.seq ?_; refine WK.region ?_; refine St.assign ?_; refine WO.nil ?_)
      refine St.ret (by first | exact .tmp .nil | exact .cell .nil | exact .cell (.tmp .nil) | exact .tmp (.tmp .nil) | exact .cell (.cell .nil) | exact .tmp (.cell .nil) | exact .nil | exact .tmp (.cell (.tmp .nil)) | exact .cell (.tmp (.tmp .nil)) | exact .cell (.cell (.tmp .nil)) | exact .tmp (.tmp (.tmp .nil)) | exact .cell (.cell (.cell .nil))) ?_
      rw [bad (by unfold shBad; simp at h1 ⊢; omega)]; rfl
    (refine St.move ?_; refine St.move ?_)
    refine St.at ?_
    (refine St.fieldAddr ?_)
    refine St.loadX (fun h hh => (hld1 h hh).one rfl) ?_
    (refine St.move ?_; refine St.move ?_)
    refine St.at ?_
    (refine St.fieldAddr ?_)
    refine St.loadX (fun h hh => (hld2 h hh).one rfl) ?_
    (refine St.bin ?_; refine St.pickF ?_; refine St.move ?_)
    refine St.split (fun h2 => ?_) (fun h2 => ?_)
    · (refine St.skip ?_; refine St.skip ?_; refine St.skip ?_; refine St.skip ?_; refine St.skip ?_; refine St.skip ?_; refine St.pickT ?_; refine St.move ?_; refine St.skip ?_; refine St.skip ?_; refine St.pickT ?_; refine WO.nil ?_; refine WK.condT ?_; refine WK.seq ?_; refine WK.region ?_; refine St.assign ?_; refine WO.nil ?_)
      refine St.ret (by first | exact .tmp .nil | exact .cell .nil | exact .cell (.tmp .nil) | exact .tmp (.tmp .nil) | exact .cell (.cell .nil) | exact .tmp (.cell .nil) | exact .nil | exact .tmp (.cell (.tmp .nil)) | exact .cell (.tmp (.tmp .nil)) | exact .cell (.cell (.tmp .nil)) | exact .tmp (.tmp (.tmp .nil)) | exact .cell (.cell (.cell .nil))) ?_
      rw [bad (by unfold shBad; simp at h2 ⊢; omega)]; rfl
    (refine St.move ?_; refine St.move ?_)
    refine St.at ?_
    (refine St.fieldAddr ?_)
    refine St.loadX (fun h hh => (hld2 h hh).one rfl) ?_
    (refine St.bin ?_; refine St.pickF ?_; refine St.move ?_)
    refine St.split (fun h3 => ?_) (fun h3 => ?_)
    · (refine St.skip ?_; refine St.skip ?_; refine St.pickT ?_; refine WO.nil ?_; refine WK.condT ?_; refine WK.seq ?_; refine WK.region ?_; refine St.assign ?_; refine WO.nil ?_)
      refine St.ret (by first | exact .tmp .nil | exact .cell .nil | exact .cell (.tmp .nil) | exact .tmp (.tmp .nil) | exact .cell (.cell .nil) | exact .tmp (.cell .nil) | exact .nil | exact .tmp (.cell (.tmp .nil)) | exact .cell (.tmp (.tmp .nil)) | exact .cell (.cell (.tmp .nil)) | exact .tmp (.tmp (.tmp .nil)) | exact .cell (.cell (.cell .nil))) ?_
      rw [bad (by unfold shBad; simp at h3 ⊢; omega)]; rfl
    (refine St.move ?_; refine St.un ?_; refine St.pickF ?_; refine WO.nil ?_)
    refine St.splitC (fun h4 => ?_) (fun h4 => ?_)
    · (refine WK.seq ?_; refine WK.region ?_; refine St.assign ?_; refine WO.nil ?_)
      refine St.ret (by first | exact .tmp .nil | exact .cell .nil | exact .cell (.tmp .nil) | exact .tmp (.tmp .nil) | exact .cell (.cell .nil) | exact .tmp (.cell .nil) | exact .nil | exact .tmp (.cell (.tmp .nil)) | exact .cell (.tmp (.tmp .nil)) | exact .cell (.cell (.tmp .nil)) | exact .tmp (.tmp (.tmp .nil)) | exact .cell (.cell (.cell .nil))) ?_
      rw [bad (by unfold shBad inB; simp at h4 ⊢; omega)]; rfl
    have hbn : befS l (k + 1) = (nthS l k).to := by unfold befS; rw [if_neg (by omega)]; rfl
    have ok1 : ¬ (nthS l k).fr ≤ befS l k → shBad (befS l k) (nthS l k) = false := fun q => by
      unfold shBad inB
      simp at h1 h2 h3 h4 ⊢
      exact ⟨by omega, by omega, by omega, by omega, by omega⟩
    have hnext : ¬ (nthS l k).fr ≤ befS l k → chkS (-1) l = chkS (befS l (k + 1)) (l.drop (k + 1)) ∧ -1 ≤ befS l (k + 1) ∧ (k + 1 ≠ 0 → 0 ≤ befS l (k + 1)) := fun q => by
      rw [hbn, hchk, hd, if_neg (by rw [ok1 q]; simp)]
      simp at h1 h2
      exact ⟨rfl, by omega, fun _ => by omega⟩
    by_cases hk0 : k = 0
    · subst hk0
      (refine WK.skip ?_; refine WK.seq ?_; refine WK.regionD ?_; refine St.move ?_; refine St.bin ?_; refine St.move ?_; refine St.skip ?_; refine St.skip ?_; refine St.skip ?_; refine St.skip ?_; refine St.skip ?_; refine St.skip ?_; refine St.skip ?_; refine St.skip ?_; refine St.skip ?_; refine St.skip ?_; refine St.skip ?_; refine St.skip ?_; refine St.skip ?_; refine St.pickF ?_; refine WO.nil ?_; refine WK.condF ?_; refine WK.skip ?_; refine WK.blk ?_; refine WK.region ?_; refine St.move ?_; refine St.binI ?_; refine St.assign ?_; refine WO.nil ?_)
      refine WK.le ?_ (by (repeat (first | exact List.Sublist.refl _ | exact List.nil_sublist _ | apply List.Sublist.cons_cons | apply List.Sublist.cons))) (ih 1 ⟨hlt, hnext (by simp at h1; simp [befS]; omega)⟩ (by omega))
      exact ⟨rfl, rfl, rfl, trivial⟩
    · have hbk : befS l k = (nthS l (k - 1)).to := by unfold befS; rw [if_neg hk0]
      have hmx : max (0 : Int) ((k : Int) - 1) = (k : Int) - 1 := by omega
      (refine WK.skip ?_; refine WK.seq ?_; refine WK.regionD ?_; refine St.move ?_; refine St.bin ?_; refine St.move ?_)
      refine St.split (fun h5 => ?_) (fun h5 => ?_)
      rotate_left
      · simp at h5; omega
      (refine St.move ?_; refine St.move ?_)
      refine St.at ?_
      (refine St.fieldAddr ?_)
      refine St.loadX (fun h hh => (hld1 h hh).one rfl) ?_
      (refine St.move ?_; refine St.move ?_; refine St.binI ?_; refine St.maxI ?_)
      rw [hmx]
      refine St.at ?_
      (refine St.fieldAddr ?_)
      refine St.loadX (fun h hh => ((hk.vw hh).to_ (z := (k : Int) - 1) (n := k - 1) (by omega) (by omega)).one rfl) ?_
      rw [← hbk]
      (refine St.bin ?_; refine St.pickT ?_; refine WO.nil ?_)
      refine St.splitC (fun h6 => ?_) (fun h6 => ?_)
      · (refine WK.seq ?_; refine WK.region ?_; refine St.assign ?_; refine WO.nil ?_)
        refine St.ret (by first | exact .tmp .nil | exact .cell .nil | exact .cell (.tmp .nil) | exact .tmp (.tmp .nil) | exact .cell (.cell .nil) | exact .tmp (.cell .nil) | exact .nil | exact .tmp (.cell (.tmp .nil)) | exact .cell (.tmp (.tmp .nil)) | exact .cell (.cell (.tmp .nil)) | exact .tmp (.tmp (.tmp .nil)) | exact .cell (.cell (.cell .nil))) ?_
        rw [bad (by unfold shBad; simp at h6 ⊢; omega)]; rfl
      · (refine WK.skip ?_; refine WK.blk ?_; refine WK.region ?_; refine St.move ?_; refine St.binI ?_; refine St.assign ?_; refine WO.nil ?_)
        refine WK.le ?_ (by (repeat (first | exact List.Sublist.refl _ | exact List.nil_sublist _ | apply List.Sublist.cons_cons | apply List.Sublist.cons))) (ih (k + 1) ⟨hlt, hnext (by simp at h6; omega)⟩ (by omega))
        exact ⟨rfl, rfl, rfl, trivial⟩
  · have : k = l.length := by simp at hc; omega
    subst this
    (refine WK.exit ?_; refine WK.seq ?_; refine WK.region ?_; refine St.assign ?_; refine WO.nil ?_)
    refine St.ret (by first | exact .tmp .nil | exact .cell .nil | exact .cell (.tmp .nil) | exact .tmp (.tmp .nil) | exact .cell (.cell .nil) | exact .tmp (.cell .nil) | exact .nil | exact .tmp (.cell (.tmp .nil)) | exact .cell (.tmp (.tmp .nil)) | exact .cell (.cell (.tmp .nil)) | exact .tmp (.tmp (.tmp .nil)) | exact .cell (.cell (.cell .nil))) ?_
    rw [hchk, List.drop_length]
    rfl
set_option maxRecDepth 100000 in
set_option maxHeartbeats 8000000 in
theorem rcheck_con (h : Heap) (g : Gd h) (lv : Int) (cv sv : AV) (l : List Cw) (ss : List Sh) (hc : CyV h cv l) (hs : ShV h sv ss) :
    Con Tryz.prog Bs 76 [.agg [.int .i64 lv, cv, sv]] h [] (.int .i64 (chkW lv (cys l) ss)) [] := by
  refine Con.start rfl Tryz.func76 rfl rfl Tryz.ntmps76 rfl rfl g ?_
  (refine WK.seq ?_; refine WK.region ?_; refine St.box fun _ _ => ?_; refine St.assign ?_; refine WO.nil ?_; refine WK.seq ?_; refine WK.region ?_; refine St.fieldAddr ?_; refine St.load ?_)
  rename_i p hp
  refine St.call (v := .bool (inB lv 4000)) (fun _ => rfl) (fun h2 hh => rwithin_con h2 hh.gd lv (-4000) 4000) ?_
  (refine St.assign ?_; refine WO.nil ?_; refine WK.seq ?_; refine WK.seq ?_; refine WK.region ?_; refine St.move ?_; refine St.un ?_; refine WO.nil ?_)
  refine St.splitC (fun h1 => ?_) (fun h1 => ?_)
  · (refine WK.seq ?_; refine WK.region ?_; refine St.assign ?_; refine WO.nil ?_)
    refine St.ret (by first | exact .tmp .nil | exact .cell .nil | exact .cell (.tmp .nil) | exact .tmp (.tmp .nil) | exact .cell (.cell .nil) | exact .tmp (.cell .nil) | exact .nil | exact .tmp (.cell (.tmp .nil)) | exact .cell (.tmp (.tmp .nil)) | exact .cell (.cell (.tmp .nil)) | exact .tmp (.tmp (.tmp .nil)) | exact .cell (.cell (.cell .nil))) ?_
    unfold chkW
    rw [if_pos (by simpa using h1)]; rfl
  (refine WK.skip ?_; refine WK.seq ?_; refine WK.seq ?_; refine WK.region ?_; refine St.fieldAddr ?_; refine St.load ?_)
  refine St.lenV rfl hc.len ?_
  (refine St.bin ?_; refine St.move ?_)
  have e1 : ¬ inB lv 4000 = false := by simpa using h1
  refine St.split (fun h2 => ?_) (fun h2 => ?_)
  · (refine St.skip ?_; refine St.skip ?_; refine St.skip ?_; refine St.skip ?_; refine St.pickT ?_; refine WO.nil ?_; refine WK.condT ?_; refine WK.seq ?_; refine WK.region ?_; refine St.assign ?_; refine WO.nil ?_)
    refine St.ret (by first | exact .tmp .nil | exact .cell .nil | exact .cell (.tmp .nil) | exact .tmp (.tmp .nil) | exact .cell (.cell .nil) | exact .tmp (.cell .nil) | exact .nil | exact .tmp (.cell (.tmp .nil)) | exact .cell (.tmp (.tmp .nil)) | exact .cell (.cell (.tmp .nil)) | exact .tmp (.tmp (.tmp .nil)) | exact .cell (.cell (.cell .nil))) ?_
    unfold chkW
    rw [if_neg e1, if_pos (by rw [cys_len]; simp at h2; omega)]; rfl
  (refine St.fieldAddr ?_; refine St.load ?_)
  refine St.lenV rfl hs.len ?_
  (refine St.bin ?_; refine St.pickF ?_; refine WO.nil ?_)
  refine St.splitC (fun h3 => ?_) (fun h3 => ?_)
  · (refine WK.seq ?_; refine WK.region ?_; refine St.assign ?_; refine WO.nil ?_)
    refine St.ret (by first | exact .tmp .nil | exact .cell .nil | exact .cell (.tmp .nil) | exact .tmp (.tmp .nil) | exact .cell (.cell .nil) | exact .tmp (.cell .nil) | exact .nil | exact .tmp (.cell (.tmp .nil)) | exact .cell (.tmp (.tmp .nil)) | exact .cell (.cell (.tmp .nil)) | exact .tmp (.tmp (.tmp .nil)) | exact .cell (.cell (.cell .nil))) ?_
    unfold chkW
    rw [if_neg e1, if_pos (by simp at h3; omega)]; rfl
  have hl1 : l.length ≤ 6 := by simp at h2; omega
  have hl2 : ss.length ≤ 20 := by simp at h3; omega
  have e2 : ¬ (6 < (cys l).length ∨ 20 < ss.length) := by rw [cys_len]; omega
  have eW : chkW lv (cys l) ss = if chkC [] (cys l) ≠ 0 then chkC [] (cys l) else chkS (-1) ss := by unfold chkW; rw [if_neg e1, if_neg e2]
  rw [eW]
  clear eW e1 e2 h1 h2 h3
  (refine WK.skip ?_; refine WK.seq ?_; refine WK.seq ?_; refine WK.region ?_; refine St.assign ?_; refine WO.nil ?_; refine WK.block ?_)
  by_cases hn : l.length = 0
  · have e1 : l = [] := List.length_eq_zero_iff.1 hn
    subst e1
    refine WK.unroll ?_
    (refine WK.seq ?_; refine WK.seq ?_; refine WK.region ?_; refine St.move ?_; refine St.fieldAddr ?_; refine St.load ?_)
    refine St.lenV rfl hc.len ?_
    (refine St.bin ?_; refine WO.nil ?_; refine WK.condF ?_; refine WK.exit ?_; refine WK.seq ?_; refine WK.region ?_; refine St.fieldAddr ?_; refine St.load ?_)
    refine St.call (fun _ => rfl) (fun h2 hh => shifted_con h2 hh.gd sv ss (hs.vw hh) (by omega)) ?_
    (refine St.assign ?_; refine WO.nil ?_)
    refine St.ret (by first | exact .tmp .nil | exact .cell .nil | exact .cell (.tmp .nil) | exact .tmp (.tmp .nil) | exact .cell (.cell .nil) | exact .tmp (.cell .nil) | exact .nil | exact .tmp (.cell (.tmp .nil)) | exact .cell (.tmp (.tmp .nil)) | exact .cell (.cell (.tmp .nil)) | exact .tmp (.tmp (.tmp .nil)) | exact .cell (.cell (.cell .nil))) ?_
    rfl
  obtain ⟨b, off, c, rfl, hk⟩ := hc.ne (by omega)
  refine WK.inv (ι := Nat) (fun z => [(1, .ptr p 0), (2, .int .i64 0), (4, .int .i64 z)]) (fun _ => [(p, .cells [.int .i64 lv, .slice b off l.length c, sv] 25)]) (fun z => z ≤ l.length ∧ chkC [] (cys l) = chkC (ids ((cys l).take z)) ((cys l).drop z)) (fun z => l.length - z) 0 ⟨by omega, rfl⟩ ⟨rfl, rfl, rfl, trivial⟩ (by (repeat (first | exact List.Sublist.refl _ | exact List.nil_sublist _ | apply List.Sublist.cons_cons | apply List.Sublist.cons))) ?_
  rintro k ⟨hkl, hchk⟩ ih
  (refine WK.seq ?_; refine WK.seq ?_; refine WK.region ?_; refine St.move ?_; refine St.fieldAddr ?_; refine St.load ?_; refine St.len ?_; refine St.bin ?_; refine WO.nil ?_)
  refine St.splitC (fun hcc => ?_) (fun hcc => ?_)
  · have hlt : k < l.length := by simp at hcc; omega
    have hit := (hk k hlt).2
    have hd := chkC_drop (seen := ids ((cys l).take k)) (cs := cys l) (k := k) (by rw [cys_len]; exact hlt)
    have hids := ids_succ (cs := cys l) (k := k) (by rw [cys_len]; exact hlt)
    rw [cys_nth hlt] at hd hids
    (refine WK.skip ?_; refine WK.seq ?_; refine WK.block ?_; refine WK.seq ?_; refine WK.region ?_; refine St.fieldAddr ?_; refine St.load ?_; refine St.move ?_)
    refine St.at ?_
    refine St.loadX (fun h hh => ((hk.vw hh).at_ (z := (k : Int)) (n := k) (by omega) hlt).agg (by simp) rfl rfl rfl) ?_
    skip
    refine St.call (fun _ => rfl) (fun h2 hh => right_con h2 hh.gd _ _ _ _ _ (hit.vw hh)) ?_
    (refine St.assign ?_; refine WO.nil ?_; refine WK.seq ?_; refine WK.seq ?_; refine WK.region ?_; refine St.move ?_; refine St.un ?_; refine WO.nil ?_)
    refine St.splitC (fun h2 => ?_) (fun h2 => ?_)
    · rw [if_pos (by simpa using h2)] at hd
      (refine WK.seq ?_; refine WK.region ?_; refine St.assign ?_; refine WO.nil ?_)
      refine St.ret (by first | exact .tmp .nil | exact .cell .nil | exact .cell (.tmp .nil) | exact .tmp (.tmp .nil) | exact .cell (.cell .nil) | exact .tmp (.cell .nil) | exact .nil | exact .tmp (.cell (.tmp .nil)) | exact .cell (.tmp (.tmp .nil)) | exact .cell (.cell (.tmp .nil)) | exact .tmp (.tmp (.tmp .nil)) | exact .cell (.cell (.cell .nil))) ?_
      rw [hchk, hd]; rfl
    rw [if_neg (by simpa using h2)] at hd
    (refine WK.skip ?_; refine WK.seq ?_; refine WK.region ?_; refine St.assign ?_; refine WO.nil ?_; refine WK.block ?_)
    have hmem : ∀ x, x ∈ ids ((cys l).take k) ↔ ∃ i, i < k ∧ (nthW l i).c.id = x := fun x => by
      unfold ids
      constructor
      · intro hx
        obtain ⟨y, hy, rfl⟩ := List.mem_map.1 hx
        obtain ⟨i, hi, rfl⟩ := List.getElem_of_mem hy
        have hik : i < k := by rw [List.length_take] at hi; omega
        exact ⟨i, hik, by rw [← cys_nth (by omega), nthC_eq (by rw [cys_len]; omega), List.getElem_take]⟩
      · rintro ⟨i, hik, rfl⟩
        refine List.mem_map.2 ⟨nthC (cys l) i, ?_, by rw [cys_nth (by omega)]⟩
        rw [nthC_eq (by rw [cys_len]; omega), List.mem_take_iff_getElem]
        exact ⟨i, by rw [cys_len]; omega, rfl⟩
    refine WK.inv (ι := Nat) (fun z => [(1, .ptr p 0), (2, .int .i64 0), (4, .int .i64 k), (6, .int .i64 z)]) (fun _ => [(p, .cells [.int .i64 lv, .slice b off l.length c, sv] 25)]) (fun z => z ≤ k ∧ ∀ i, i < z → (nthW l i).c.id ≠ (nthW l k).c.id) (fun z => k - z) 0 ⟨by omega, fun i hi => absurd hi (by omega)⟩ ⟨rfl, rfl, rfl, rfl, trivial⟩ (by (repeat (first | exact List.Sublist.refl _ | exact List.nil_sublist _ | apply List.Sublist.cons_cons | apply List.Sublist.cons))) ?_
    rintro z ⟨hzk, hne⟩ ih2
    (refine WK.seq ?_; refine WK.seq ?_; refine WK.region ?_; refine St.move ?_; refine St.move ?_; refine St.bin ?_; refine WO.nil ?_)
    refine St.splitC (fun h3 => ?_) (fun h3 => ?_)
    · have hz : z < k := by simp at h3; omega
      (refine WK.skip ?_; refine WK.seq ?_; refine WK.block ?_; refine WK.seq ?_; refine WK.regionD ?_; refine St.fieldAddr ?_; refine St.load ?_; refine St.move ?_)
      refine St.at ?_
      (refine St.fieldAddr ?_)
      refine St.loadX (fun h hh => ((hk.vw hh).id_ (z := (z : Int)) (n := z) (by omega) (by omega)).one rfl) ?_
      (refine St.fieldAddr ?_; refine St.load ?_; refine St.move ?_)
      refine St.at ?_
      (refine St.fieldAddr ?_)
      refine St.loadX (fun h hh => ((hk.vw hh).id_ (z := (k : Int)) (n := k) (by omega) hlt).one rfl) ?_
      (refine St.bin ?_; refine WO.nil ?_)
      refine St.splitC (fun h4 => ?_) (fun h4 => ?_)
      · rw [if_pos ((hmem _).2 ⟨z, hz, by simpa using h4⟩)] at hd
        (refine WK.seq ?_; refine WK.region ?_; refine St.assign ?_; refine WO.nil ?_)
        refine St.ret (by first | exact .tmp .nil | exact .cell .nil | exact .cell (.tmp .nil) | exact .tmp (.tmp .nil) | exact .cell (.cell .nil) | exact .tmp (.cell .nil) | exact .nil | exact .tmp (.cell (.tmp .nil)) | exact .cell (.tmp (.tmp .nil)) | exact .cell (.cell (.tmp .nil)) | exact .tmp (.tmp (.tmp .nil)) | exact .cell (.cell (.cell .nil))) ?_
        rw [hchk, hd]; rfl
      · (refine WK.skip ?_; refine WK.blk ?_; refine WK.region ?_; refine St.move ?_; refine St.binI ?_; refine St.assign ?_; refine WO.nil ?_)
        refine WK.le ?_ (by (repeat (first | exact List.Sublist.refl _ | exact List.nil_sublist _ | apply List.Sublist.cons_cons | apply List.Sublist.cons))) (ih2 (z + 1) ⟨hz, fun i hi => ?_⟩ (by omega))
        · exact ⟨rfl, rfl, rfl, rfl, trivial⟩
        · rcases Nat.lt_succ_iff_lt_or_eq.1 hi with h5 | rfl
          · exact hne i h5
          · simpa using h4
    · have hz : z = k := by simp at h3; omega
      subst hz
      rw [if_neg (fun q => by
        obtain ⟨i, hi, e⟩ := (hmem _).1 q
        exact hne i hi e)] at hd
      clear ih2
      (refine WK.exit ?_; refine WK.blk ?_; refine WK.region ?_; refine St.move ?_; refine St.binI ?_; refine St.assign ?_; refine WO.nil ?_)
      refine WK.le ?_ (by (repeat (first | exact List.Sublist.refl _ | exact List.nil_sublist _ | apply List.Sublist.cons_cons | apply List.Sublist.cons))) (ih (z + 1) ⟨hlt, by rw [hchk, hd, hids]⟩ (by omega))
      exact ⟨rfl, rfl, rfl, trivial⟩
  · have : k = l.length := by simp at hcc; omega
    subst this
    have h0 : chkC [] (cys l) = 0 := by
      rw [hchk, List.drop_eq_nil_of_le (by rw [cys_len]; omega)]
      rfl
    clear ih
    rw [if_neg (by simp [h0])]
    (refine WK.exit ?_; refine WK.seq ?_; refine WK.region ?_; refine St.fieldAddr ?_; refine St.load ?_)
    refine St.call (fun _ => rfl) (fun h2 hh => shifted_con h2 hh.gd sv ss (hs.vw hh) (by omega)) ?_
    (refine St.assign ?_; refine WO.nil ?_)
    refine St.ret (by first | exact .tmp .nil | exact .cell .nil | exact .cell (.tmp .nil) | exact .tmp (.tmp .nil) | exact .cell (.cell .nil) | exact .tmp (.cell .nil) | exact .nil | exact .tmp (.cell (.tmp .nil)) | exact .cell (.tmp (.tmp .nil)) | exact .cell (.cell (.tmp .nil)) | exact .tmp (.tmp (.tmp .nil)) | exact .cell (.cell (.cell .nil))) ?_
    rfl
end Go.Proofs.YtgjkfmcjalcefaaGreat
