/- Highest and Lowest; the reference's Extreme; the law TidePeaks. -/
import Derived.Test.YtekpffjcffeanaaWn
namespace Go.Proofs.Ytekpffjcffeanaa
open Go.Proofs.Ytekpffjcffeanaa.Ev

theorem exK_step (b : Bool) (f : Nat → Int) (k : Nat) : exK b f k = if bey b (f k) (f (exK b f (k - 1))) = true then k else exK b f (k - 1) := by
  cases k with
  | zero =>
    rw [show exK b f (0 - 1) = 0 from rfl, bey_self]
    rfl
  | succ k => rfl
set_option maxRecDepth 100000 in
set_option maxHeartbeats 16000000 in
theorem extreme_con (b : Bool) (h : Heap) (g : Gd h) (lv lo hi : Int) (cv sv : AV) (cl : List Cw) (ss : List Sh) (hc : CyV h cv cl) (hs : ShV h sv ss) :
    Con Try.prog Bs 42 [.agg [.int .i64 lv, cv, sv], .agg [.int .i64 lo, .int .i64 hi], .bool b] h [] (.agg [.int .i64 (pkR lv (cys cl) ss lo hi b).1, .int .i64 (pkR lv (cys cl) ss lo hi b).2.1, .int .i64 (pkR lv (cys cl) ss lo hi b).2.2]) [] := by
  refine Con.start rfl Try.func42 rfl rfl Try.ntmps42 rfl rfl g ?_
  (refine WK.seq ?_; refine WK.region ?_; refine St.box fun _ _ => ?_; refine St.box fun _ _ => ?_; refine St.alloc fun _ _ => ?_; refine WO.nil ?_; refine WK.seq ?_; refine WK.region ?_; refine St.load ?_; refine St.load ?_)
  rename_i p3 hp3 p4 hp4 p6 hp6
  refine St.call (fun _ => rfl) (fun h2 hh => watched_con h2 hh.gd lv lo hi cv sv cl ss (hc.vw hh) (hs.vw hh)) ?_
  (refine St.assign ?_; refine WO.nil ?_; refine WK.seq ?_; refine WK.seq ?_; refine WK.region ?_; refine St.move ?_; refine St.bin ?_; refine WO.nil ?_)
  refine St.splitC (fun h1 => ?_) (fun h1 => ?_)
  · (refine WK.seq ?_; refine WK.region ?_; refine St.move ?_; refine St.build ?_; refine St.store0 ?_; refine WO.nil ?_)
    refine St.ret (by first | exact .tmp .nil | exact .cell .nil | exact .cell (.tmp .nil) | exact .tmp (.tmp .nil) | exact .cell (.cell .nil) | exact .tmp (.cell .nil) | exact .nil | exact .tmp (.cell (.tmp .nil)) | exact .cell (.tmp (.tmp .nil)) | exact .cell (.cell (.tmp .nil)) | exact .tmp (.tmp (.tmp .nil)) | exact .cell (.cell (.cell .nil))) ?_
    unfold pkR
    rw [if_pos (by simpa using h1)]
    rfl
  have e1 : minR lv (cys cl) ss lo hi = 0 := by simpa using h1
  have m := minR_ok e1
  have m1 := m.l1
  have m2 := m.le
  have m3 := m.h2
  have m4 := m.n
  have ep : pkR lv (cys cl) ss lo hi b = (hgt lv (cys cl) ss lo (exK b (hgt lv (cys cl) ss lo) (hi - lo).toNat), lo + (exK b (hgt lv (cys cl) ss lo) (hi - lo).toNat : Int), 0) := by
    unfold pkR
    rw [if_neg (by simp [e1])]
  rw [ep]
  clear ep
  have hfe : ∀ k : Nat, lv + bareV (cys cl) ss (lo + (k : Int)) = hgt lv (cys cl) ss lo k := fun _ => rfl
  have hf0 : lv + bareV (cys cl) ss lo = hgt lv (cys cl) ss lo 0 := by rw [← hfe]; simp
  (refine WK.skip ?_; refine WK.seq ?_; refine WK.regionD ?_; refine St.load ?_; refine St.fieldAddr ?_; refine St.load ?_)
  refine St.call (fun _ => rfl) (fun h2 hh => rat_con h2 hh.gd lv lo cv sv cl ss (hc.vw hh) (hs.vw hh) m.w m1 (by omega)) ?_
  rw [hf0]
  (refine St.fieldAddr ?_; refine St.load ?_; refine St.build ?_; refine StD.alloc fun _ _ => ?_; refine StD.storeT ?_; refine WO.nil1 ?_; refine WK.seq ?_; refine WK.seq ?_; refine WK.region ?_; refine St.fieldAddr ?_; refine St.load ?_; refine St.assign ?_; refine WO.nil ?_; refine WK.block ?_)
  rename_i p8 hp8
  refine WK.inv (ι := Nat) (fun k => [(2, .bool b), (3, .ptr p3 0), (4, .ptr p4 0), (6, .ptr p6 0), (8, .ptr p8 0), (9, .int .i64 (lo + (k : Int)))]) (fun k => [(p8, .cells [.int .i64 (hgt lv (cys cl) ss lo (exK b (hgt lv (cys cl) ss lo) (k - 1))), .int .i64 (lo + (exK b (hgt lv (cys cl) ss lo) (k - 1) : Int)), .int .i64 0] 77), (p6, .cells [.int .i64 0, .int .i64 0, .int .i64 0] 77), (p4, .cells [.int .i64 lo, .int .i64 hi] 37), (p3, .cells [.int .i64 lv, cv, sv] 25)]) (fun k => k ≤ (hi - lo + 1).toNat) (fun k => (hi - lo + 1).toNat - k) 0 (Nat.zero_le _) ⟨rfl, rfl, rfl, rfl, rfl, congrArg (fun z => some (AV.int .i64 z)) (by simp), trivial⟩ ?_ ?_
  · rw [show (exK b (hgt lv (cys cl) ss lo) (0 - 1) : Int) = 0 from rfl, Int.add_zero]
    exact List.Sublist.refl _
  intro k hkl ih
  (refine WK.seq ?_; refine WK.seq ?_; refine WK.region ?_; refine St.move ?_; refine St.fieldAddr ?_; refine St.load ?_; refine St.bin ?_; refine WO.nil ?_)
  refine St.splitC (fun hcc => ?_) (fun hcc => ?_)
  rotate_left
  · have : k - 1 = (hi - lo).toNat := by simp at hcc; omega
    rw [this]
    (refine WK.exit ?_; refine WK.seq ?_; refine WK.region ?_; refine St.load ?_; refine St.store1 ?_; refine WO.nil ?_)
    refine St.ret (by first | exact .tmp .nil | exact .cell .nil | exact .cell (.tmp .nil) | exact .tmp (.tmp .nil) | exact .cell (.cell .nil) | exact .tmp (.cell .nil) | exact .nil | exact .tmp (.cell (.tmp .nil)) | exact .cell (.tmp (.tmp .nil)) | exact .cell (.cell (.tmp .nil)) | exact .tmp (.tmp (.tmp .nil)) | exact .cell (.cell (.cell .nil))) ?_
    rfl
  have hlt : k < (hi - lo + 1).toNat := by simp at hcc; omega
  have ht0 : 0 ≤ lo + (k : Int) := by omega
  have ht1 : lo + (k : Int) ≤ 1048576 := by simp at hcc; omega
  have ih2 := ih (k + 1) hlt (by omega)
  clear ih
  rw [show k + 1 - 1 = k by omega] at ih2
  have hst := exK_step b (hgt lv (cys cl) ss lo) k
  (refine WK.skip ?_; refine WK.seq ?_; refine WK.block ?_; refine WK.seq ?_; refine WK.region ?_; refine St.load ?_; refine St.move ?_)
  refine St.call (fun _ => rfl) (fun h2 hh => rat_con h2 hh.gd lv (lo + (k : Int)) cv sv cl ss (hc.vw hh) (hs.vw hh) m.w ht0 ht1) ?_
  rw [hfe]
  generalize hgt lv (cys cl) ss lo = f at *
  generalize hE : exK b f (k - 1) = E at *
  (refine St.assign ?_; refine WO.nil ?_; refine WK.seq ?_; refine WK.region ?_; refine St.move ?_; refine St.move ?_)
  cases b with
  | true =>
    (refine St.move ?_; refine St.fieldAddr ?_; refine St.load ?_; refine St.bin ?_; refine St.pickT ?_; refine St.move ?_)
    refine St.split (fun h2 => ?_) (fun h2 => ?_)
    · rw [if_pos (show bey true (f k) (f E) = true from h2)] at hst
      rw [hst] at ih2
      (refine St.skip ?_; refine St.skip ?_; refine St.skip ?_; refine St.skip ?_; refine St.skip ?_; refine St.skip ?_; refine St.skip ?_; refine St.skip ?_; refine St.pickT ?_; refine WO.nil ?_; refine WK.condT ?_; refine WK.region ?_; refine St.move ?_; refine St.move ?_; refine St.build ?_; refine St.store0 ?_; refine WO.nil ?_; refine WK.blk ?_; refine WK.region ?_; refine St.move ?_; refine St.binI ?_; refine St.assign ?_; refine WO.nil ?_)
      refine WK.le ?_ (by (repeat (first | exact List.Sublist.refl _ | exact List.nil_sublist _ | apply List.Sublist.cons_cons | apply List.Sublist.cons))) ih2
      exact ⟨rfl, rfl, rfl, rfl, rfl, congrArg (fun z => some (AV.int .i64 z)) (by omega), trivial⟩
    · rw [if_neg (show ¬ bey true (f k) (f E) = true from fun q => by rw [show bey true (f k) (f E) = false from h2] at q; cases q)] at hst
      rw [hst] at ih2
      (refine St.move ?_; refine St.un ?_; refine St.move ?_; refine St.skip ?_; refine St.skip ?_; refine St.skip ?_; refine St.skip ?_; refine St.pickF ?_; refine St.pickF ?_; refine WO.nil ?_; refine WK.condF ?_; refine WK.skip ?_; refine WK.blk ?_; refine WK.region ?_; refine St.move ?_; refine St.binI ?_; refine St.assign ?_; refine WO.nil ?_)
      refine WK.le ?_ (by (repeat (first | exact List.Sublist.refl _ | exact List.nil_sublist _ | apply List.Sublist.cons_cons | apply List.Sublist.cons))) ih2
      exact ⟨rfl, rfl, rfl, rfl, rfl, congrArg (fun z => some (AV.int .i64 z)) (by omega), trivial⟩
  | false =>
    (refine St.skip ?_; refine St.skip ?_; refine St.skip ?_; refine St.skip ?_; refine St.pickF ?_; refine St.move ?_; refine St.move ?_; refine St.un ?_; refine St.move ?_; refine St.move ?_; refine St.fieldAddr ?_; refine St.load ?_; refine St.bin ?_; refine St.pickT ?_; refine St.pickF ?_; refine WO.nil ?_)
    refine St.splitC (fun h2 => ?_) (fun h2 => ?_)
    · rw [if_pos (show bey false (f k) (f E) = true from h2)] at hst
      rw [hst] at ih2
      (refine WK.region ?_; refine St.move ?_; refine St.move ?_; refine St.build ?_; refine St.store0 ?_; refine WO.nil ?_; refine WK.blk ?_; refine WK.region ?_; refine St.move ?_; refine St.binI ?_; refine St.assign ?_; refine WO.nil ?_)
      refine WK.le ?_ (by (repeat (first | exact List.Sublist.refl _ | exact List.nil_sublist _ | apply List.Sublist.cons_cons | apply List.Sublist.cons))) ih2
      exact ⟨rfl, rfl, rfl, rfl, rfl, congrArg (fun z => some (AV.int .i64 z)) (by omega), trivial⟩
    · rw [if_neg (show ¬ bey false (f k) (f E) = true from fun q => by rw [show bey false (f k) (f E) = false from h2] at q; cases q)] at hst
      rw [hst] at ih2
      (refine WK.skip ?_; refine WK.blk ?_; refine WK.region ?_; refine St.move ?_; refine St.binI ?_; refine St.assign ?_; refine WO.nil ?_)
      refine WK.le ?_ (by (repeat (first | exact List.Sublist.refl _ | exact List.nil_sublist _ | apply List.Sublist.cons_cons | apply List.Sublist.cons))) ih2
      exact ⟨rfl, rfl, rfl, rfl, rfl, congrArg (fun z => some (AV.int .i64 z)) (by omega), trivial⟩
end Go.Proofs.Ytekpffjcffeanaa
