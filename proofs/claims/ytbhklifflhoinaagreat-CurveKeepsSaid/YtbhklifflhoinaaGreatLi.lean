/- Lists of curves over the calculator's memory: check, covers, checkOn, checkAt. -/
import Derived.Test.YtbhklifflhoinaaGreatVa
namespace Go.Proofs.YtbhklifflhoinaaGreat
open Go.Proofs.YtbhklifflhoinaaGreat.Ev

structure Cv where
  kv : AV
  ks : List (Int × Int)
  err : Int
def Cv.av (c : Cv) : AV := .agg [c.kv, .int .i64 c.err]
def Cv.c (c : Cv) : Cur := ⟨none, 0, c.ks, c.err⟩
/-- curves in memory -/
def CvH (h : Heap) (b off : Nat) (l : List Cv) : Prop := ∀ i (hi : i < l.length), Rds h b (off + i * 2) [l[i].kv, .int .i64 l[i].err] ∧ KnV h l[i].kv l[i].ks ∧ l[i].ks.length ≤ 1000000000000
theorem CvH.vw {h0 h : Heap} {V : Ob} {b off l} (k : CvH h0 b off l) (hh : Vw h0 [] V h) : CvH h b off l := fun i hi => ⟨hh.rds (by simp) (k i hi).1, (k i hi).2.1.vw hh, (k i hi).2.2⟩
theorem KnV.ok {h : Heap} {kv ks} (k : KnV h kv ks) : okCell kv = true := by
  rcases k with ⟨rfl | rfl, _⟩ | ⟨b, off, c, rfl, _⟩ <;> rfl
theorem store2 {P : Program} {t t' : TypeId} {a b x y : AV} (hs : sizeT P t = some 2) (ha : okCell a = true) (hb : okCell b = true) : (AObj.cells [x, y] t').store P t 0 (.agg [a, b]) = some (.cells [a, b] t') := by
  simp [AObj.store, hs, AV.cells, ha, hb, AObj.put, overN]
/-- one curve in a list that a call lays -/
theorem Ev.Vw.cv1 {h0 h : Heap} {W : List Nat} {V : Ob} {j : Nat} {kv : AV} {ks : List (Int × Int)} {err : Int} {l : List AV} {t : TypeId} (k : Vw h0 W V h) (hm : (j, .cells l t) ∈ V) (hl : l = [kv, .int .i64 err]) (hk : KnV h kv ks) (hl2 : ks.length ≤ 1000000000000) : CvH h j 0 [⟨kv, ks, err⟩] := fun i hi => by
  obtain rfl : i = 0 := by simp at hi; omega
  exact ⟨k.rdsO hm hl, hk, hl2⟩
theorem Ev.Vw.cv2 {h0 h : Heap} {W : List Nat} {V : Ob} {j : Nat} {kv kv2 : AV} {ks ks2 : List (Int × Int)} {err err2 : Int} {l : List AV} {t : TypeId} (k : Vw h0 W V h) (hm : (j, .cells l t) ∈ V) (hl : l = [kv, .int .i64 err, kv2, .int .i64 err2]) (hk : KnV h kv ks) (hk2 : KnV h kv2 ks2) (hl2 : ks.length ≤ 1000000000000) (hl3 : ks2.length ≤ 1000000000000) : CvH h j 0 [⟨kv, ks, err⟩, ⟨kv2, ks2, err2⟩] := fun i hi => by
  subst hl
  match i, hi with
  | 0, _ => exact ⟨⟨k.rdO hm rfl, k.rdO hm rfl, trivial⟩, hk, hl2⟩
  | 1, _ => exact ⟨⟨k.rdO hm rfl, k.rdO hm rfl, trivial⟩, hk2, hl3⟩
theorem CvH.at_ {h : Heap} {b off l} (k : CvH h b off l) {z : Int} {n : Nat} (e : z.toNat = n) (hi : n < l.length) : Rds h b (off + z.toNat * 2) [l[n].kv, .int .i64 l[n].err] := by subst e; exact (k _ hi).1

set_option maxRecDepth 100000 in
set_option maxHeartbeats 4000000 in
theorem checkL_con (h : Heap) (g : Gd h) (b off : Nat) (c : ACap) (l : List Cv) (hl : l.length ≤ 1000000) (hk : CvH h b off l) : Con Tryz.prog Bs 53 [.slice b off l.length c] h [] (.int .i64 (chkL (l.map Cv.c))) [] := by
  refine Con.start rfl Tryz.func53 rfl rfl Tryz.ntmps53 rfl rfl g ?_
  (refine WK.seq ?_; refine WK.region ?_; refine St.assign ?_; refine WO.nil ?_; refine WK.seq ?_; refine WK.seq ?_; refine WK.region ?_; refine St.move ?_; refine St.len ?_; refine St.move ?_; refine WO.nil ?_; refine WK.block ?_)
  refine WK.inv (ι := Nat) (fun k => [(6, .slice b off l.length c), (7, .int .i64 l.length), (8, .int .i64 k)]) (fun _ => []) (fun k => k ≤ l.length ∧ chkL (l.map Cv.c) = chkL ((l.map Cv.c).drop k)) (fun k => l.length - k) 0 ⟨by omega, rfl⟩ ⟨rfl, rfl, rfl, trivial⟩ (by (repeat (first | exact List.Sublist.refl _ | exact List.nil_sublist _ | apply List.Sublist.cons_cons | apply List.Sublist.cons))) ?_
  intro k ⟨hkl, he⟩ ih
  (refine WK.seq ?_; refine WK.region ?_; refine St.bin ?_; refine WO.nil ?_; refine WK.seq ?_)
  refine St.splitC (fun hc => ?_) (fun hc => ?_)
  · have hlt : k < l.length := by simp at hc; omega
    have hd := chkL_drop (l := l.map Cv.c) (k := k) (by simpa using hlt)
    simp only [List.getElem_map] at hd
    (refine WK.skip ?_; refine WK.seq ?_; refine WK.block ?_; refine WK.seq ?_; refine WK.region ?_)
    refine St.at ?_
    skip
    refine St.loadX (fun h hh => ((hk.vw hh).at_ (z := (k : Int)) (n := k) (by omega) hlt).agg (by simp) rfl rfl rfl) ?_
    (refine St.alloc fun _ _ => ?_)
    refine St.store0 (hv := store2 rfl (hk k hlt).2.1.ok rfl) ?_
    (refine WO.nil ?_; refine WK.seq ?_; refine WK.region ?_; refine St.load ?_)
    refine St.call (v := .int .i64 (chk (l[k]'hlt).ks (l[k]'hlt).err)) (fun _ => rfl) (fun h hh => check_con h hh.gd (l[k]'hlt).kv (l[k]'hlt).ks (l[k]'hlt).err ((hk.vw hh) k hlt).2.1 (hk k hlt).2.2) ?_
    (refine St.assign ?_; refine WO.nil ?_; refine WK.seq ?_; refine WK.region ?_; refine St.move ?_; refine St.bin ?_; refine WO.nil ?_)
    refine St.splitC (fun hc2 => ?_) (fun hc2 => ?_)
    · (refine WK.seq ?_; refine WK.region ?_; refine St.move ?_; refine St.assign ?_; refine WO.nil ?_)
      refine St.ret (by first | exact .tmp .nil | exact .cell .nil | exact .cell (.tmp .nil) | exact .tmp (.tmp .nil) | exact .cell (.cell .nil) | exact .tmp (.cell .nil) | exact .nil | exact .tmp (.cell (.tmp .nil)) | exact .cell (.tmp (.tmp .nil)) | exact .cell (.cell (.tmp .nil)) | exact .tmp (.tmp (.tmp .nil)) | exact .cell (.cell (.cell .nil))) ?_
      have hne : chk l[k].ks l[k].err ≠ 0 := by simpa using hc2
      rw [he, hd, if_neg (show ¬ chk (Cv.c l[k]).ks (Cv.c l[k]).err = 0 from hne)]
      rfl
    · (refine WK.skip ?_; refine WK.blk ?_; refine WK.region ?_; refine St.binI ?_; refine St.move ?_; refine WO.nil ?_)
      have h0 : chk l[k].ks l[k].err = 0 := by simpa using hc2
      refine WK.le ?_ (by (repeat (first | exact List.Sublist.refl _ | exact List.nil_sublist _ | apply List.Sublist.cons_cons | apply List.Sublist.cons))) (ih (k + 1) ⟨hlt, ?_⟩ (by omega))
      · exact ⟨rfl, rfl, rfl, trivial⟩
      · rw [he, hd, if_pos (show chk (Cv.c l[k]).ks (Cv.c l[k]).err = 0 from h0)]
  · have : k = l.length := by simp at hc; omega
    subst this
    (refine WK.exit ?_; refine WK.seq ?_; refine WK.region ?_; refine St.assign ?_; refine WO.nil ?_)
    refine St.ret (by first | exact .tmp .nil | exact .cell .nil | exact .cell (.tmp .nil) | exact .tmp (.tmp .nil) | exact .cell (.cell .nil) | exact .tmp (.cell .nil) | exact .nil | exact .tmp (.cell (.tmp .nil)) | exact .cell (.tmp (.tmp .nil)) | exact .cell (.cell (.tmp .nil)) | exact .tmp (.tmp (.tmp .nil)) | exact .cell (.cell (.cell .nil))) ?_
    rw [he, List.drop_eq_nil_of_le (by simp)]
    rfl

set_option maxRecDepth 100000 in
set_option maxHeartbeats 4000000 in
theorem domain_con (h : Heap) (g : Gd h) (b off : Nat) (c : ACap) (ks : List (Int × Int)) (err : Int) (hk : KnH h b off ks) (hne : ks ≠ []) (hl : ks.length ≤ 1000000000000) : Con Tryz.prog Bs 70 [.agg [.slice b off ks.length c, .int .i64 err]] h [] (.agg [.int .i64 (dLo ks), .int .i64 (dHi ks)]) [] := by
  have hp : 0 < ks.length := List.length_pos_iff.2 hne
  refine Con.start rfl Tryz.func70 rfl rfl Tryz.ntmps70 rfl rfl g ?_
  (refine WK.seq ?_; refine WK.region ?_; refine St.box fun _ _ => ?_; refine St.alloc fun _ _ => ?_; refine WO.nil ?_; refine WK.seq ?_; refine WK.regionD ?_; refine St.fieldAddr ?_; refine St.load ?_)
  refine St.at ?_
  (refine St.fieldAddr ?_)
  refine St.loadX (fun h hh => ((hk.vw hh).xAt (n := 0) rfl hp).one rfl) ?_
  (refine St.fieldAddr ?_; refine St.load ?_; refine St.fieldAddr ?_; refine St.load ?_; refine St.len ?_; refine St.binI ?_)
  refine St.at ?_
  (refine St.fieldAddr ?_)
  refine St.loadX (fun h hh => ((hk.vw hh).xAt (z := (ks.length : Int) - 1) (n := ks.length - 1) (by omega) (by omega)).one rfl) ?_
  (refine St.build ?_; refine StD.store0 ?_; refine WO.nil ?_)
  refine St.ret (by first | exact .tmp .nil | exact .cell .nil | exact .cell (.tmp .nil) | exact .tmp (.tmp .nil) | exact .cell (.cell .nil) | exact .tmp (.cell .nil) | exact .nil | exact .tmp (.cell (.tmp .nil)) | exact .cell (.tmp (.tmp .nil)) | exact .cell (.cell (.tmp .nil)) | exact .tmp (.tmp (.tmp .nil)) | exact .cell (.cell (.cell .nil))) ?_
  rfl
set_option maxRecDepth 100000 in
set_option maxHeartbeats 4000000 in
theorem covers_con (h : Heap) (g : Gd h) (b off : Nat) (c : ACap) (ks : List (Int × Int)) (err lo hi : Int) (hk : KnH h b off ks) (hne : ks ≠ []) (hl : ks.length ≤ 1000000000000) : Con Tryz.prog Bs 94 [.agg [.slice b off ks.length c, .int .i64 err], .agg [.int .i64 lo, .int .i64 hi]] h [] (.bool (inDom ks lo hi)) [] := by
  refine Con.start rfl Tryz.func94 rfl rfl Tryz.ntmps94 rfl rfl g ?_
  (refine WK.seq ?_; refine WK.region ?_; refine St.box fun _ _ => ?_; refine St.box fun _ _ => ?_; refine St.assign ?_; refine WO.nil ?_; refine WK.seq ?_; refine WK.region ?_; refine St.load ?_)
  refine St.call (fun _ => rfl) (fun h hh => domain_con h hh.gd b off c ks err (hk.vw hh) hne hl) ?_
  (refine St.alloc fun _ _ => ?_; refine St.store0 ?_; refine WO.nil ?_; refine WK.seq ?_; refine WK.region ?_; refine St.fieldAddr ?_; refine St.load ?_; refine St.fieldAddr ?_; refine St.load ?_; refine St.bin ?_; refine St.move ?_)
  refine St.split (fun hc => ?_) (fun hc => ?_)
  · (refine St.fieldAddr ?_; refine St.load ?_; refine St.fieldAddr ?_; refine St.load ?_; refine St.bin ?_; refine St.pickT ?_; refine St.assign ?_; refine WO.nil ?_)
    refine St.ret (by first | exact .tmp .nil | exact .cell .nil | exact .cell (.tmp .nil) | exact .tmp (.tmp .nil) | exact .cell (.cell .nil) | exact .tmp (.cell .nil) | exact .nil | exact .tmp (.cell (.tmp .nil)) | exact .cell (.tmp (.tmp .nil)) | exact .cell (.cell (.tmp .nil)) | exact .tmp (.tmp (.tmp .nil)) | exact .cell (.cell (.cell .nil))) ?_
    have hc' : dLo ks ≤ lo := of_decide_eq_true hc
    show AV.bool (decide (hi ≤ dHi ks)) = _
    unfold inDom
    rw [decide_eq_true hc', Bool.true_and]
  · (refine St.skip ?_; refine St.skip ?_; refine St.skip ?_; refine St.skip ?_; refine St.skip ?_; refine St.pickF ?_; refine St.assign ?_; refine WO.nil ?_)
    refine St.ret (by first | exact .tmp .nil | exact .cell .nil | exact .cell (.tmp .nil) | exact .tmp (.tmp .nil) | exact .cell (.cell .nil) | exact .tmp (.cell .nil) | exact .nil | exact .tmp (.cell (.tmp .nil)) | exact .cell (.tmp (.tmp .nil)) | exact .cell (.cell (.tmp .nil)) | exact .tmp (.tmp (.tmp .nil)) | exact .cell (.cell (.cell .nil))) ?_
    have hc' : ¬ dLo ks ≤ lo := of_decide_eq_false hc
    show AV.bool false = _
    unfold inDom
    rw [decide_eq_false hc', Bool.false_and]
set_option maxRecDepth 100000 in
set_option maxHeartbeats 4000000 in
theorem checkOn_con (h : Heap) (g : Gd h) (b off : Nat) (c : ACap) (l : List Cv) (lo hi : Int) (hl : l.length ≤ 1000000) (hk : CvH h b off l) (hv : ∀ i (hi : i < l.length), Vd l[i].ks l[i].err) : Con Tryz.prog Bs 48 [.agg [.int .i64 lo, .int .i64 hi], .slice b off l.length c] h [] (.int .i64 (chkOn (l.map Cv.c) lo hi)) [] := by
  refine Con.start rfl Tryz.func48 rfl rfl Tryz.ntmps48 rfl rfl g ?_
  (refine WK.seq ?_; refine WK.region ?_; refine St.box fun _ _ => ?_; refine St.assign ?_; refine WO.nil ?_; refine WK.seq ?_; refine WK.seq ?_; refine WK.region ?_; refine St.load ?_)
  refine St.call (fun _ => rfl) (fun h hh => isSpan_con h hh.gd lo hi) ?_
  (refine St.un ?_; refine WO.nil ?_)
  refine St.splitC (fun hc => ?_) (fun hc => ?_)
  · (refine WK.seq ?_; refine WK.region ?_; refine St.assign ?_; refine WO.nil ?_)
    refine St.ret (by first | exact .tmp .nil | exact .cell .nil | exact .cell (.tmp .nil) | exact .tmp (.tmp .nil) | exact .cell (.cell .nil) | exact .tmp (.cell .nil) | exact .nil | exact .tmp (.cell (.tmp .nil)) | exact .cell (.tmp (.tmp .nil)) | exact .cell (.cell (.tmp .nil)) | exact .tmp (.tmp (.tmp .nil)) | exact .cell (.cell (.cell .nil))) ?_
    have : hi < lo := by simp at hc; omega
    simp [oneOf, chkOn, this]
  have hlh : ¬ hi < lo := by simp at hc; omega
  (refine WK.skip ?_; refine WK.seq ?_; refine WK.seq ?_; refine WK.region ?_; refine St.move ?_; refine St.len ?_; refine St.move ?_; refine WO.nil ?_; refine WK.block ?_)
  rename_i p hp
  refine WK.inv (ι := Nat) (fun k => [(2, .ptr p 0), (10, .slice b off l.length c), (11, .int .i64 l.length), (12, .int .i64 k)]) (fun _ => [(p, .cells [.int .i64 lo, .int .i64 hi] 27)]) (fun k => k ≤ l.length ∧ covL (l.map Cv.c) lo hi = covL ((l.map Cv.c).drop k) lo hi) (fun k => l.length - k) 0 ⟨by omega, rfl⟩ ⟨rfl, rfl, rfl, rfl, trivial⟩ (by (repeat (first | exact List.Sublist.refl _ | exact List.nil_sublist _ | apply List.Sublist.cons_cons | apply List.Sublist.cons))) ?_
  intro k ⟨hkl, he⟩ ih
  (refine WK.seq ?_; refine WK.region ?_; refine St.bin ?_; refine WO.nil ?_; refine WK.seq ?_)
  refine St.splitC (fun hc => ?_) (fun hc => ?_)
  · have hlt : k < l.length := by simp at hc; omega
    have hd := covL_drop (l := l.map Cv.c) (lo := lo) (hi := hi) (k := k) (by simpa using hlt)
    simp only [List.getElem_map] at hd
    obtain ⟨b2, off2, c2, e2, hk2⟩ := (hk k hlt).2.1.ne (hv k hlt).ne
    (refine WK.skip ?_; refine WK.seq ?_; refine WK.block ?_; refine WK.seq ?_; refine WK.region ?_)
    refine St.at ?_
    skip
    refine St.loadX (fun h hh => ((hk.vw hh).at_ (z := (k : Int)) (n := k) (by omega) hlt).agg (by simp) rfl rfl rfl) ?_
    (refine St.alloc fun _ _ => ?_)
    refine St.store0 (hv := store2 rfl (hk k hlt).2.1.ok rfl) ?_
    (refine WO.nil ?_; refine WK.seq ?_; refine WK.region ?_; refine St.load ?_; refine St.load ?_)
    refine St.call (v := .bool (inDom (l[k]'hlt).ks lo hi)) (fun _ => rfl) (fun h hh => by
      have := covers_con h hh.gd b2 off2 c2 (l[k]'hlt).ks (l[k]'hlt).err lo hi (hk2.vw hh) (hv k hlt).ne (hk k hlt).2.2
      rw [← e2] at this
      exact this) ?_
    (refine St.un ?_; refine WO.nil ?_)
    refine St.splitC (fun hc2 => ?_) (fun hc2 => ?_)
    · (refine WK.seq ?_; refine WK.region ?_; refine St.assign ?_; refine WO.nil ?_)
      refine St.ret (by first | exact .tmp .nil | exact .cell .nil | exact .cell (.tmp .nil) | exact .tmp (.tmp .nil) | exact .cell (.cell .nil) | exact .tmp (.cell .nil) | exact .nil | exact .tmp (.cell (.tmp .nil)) | exact .cell (.tmp (.tmp .nil)) | exact .cell (.cell (.tmp .nil)) | exact .tmp (.tmp (.tmp .nil)) | exact .cell (.cell (.cell .nil))) ?_
      have hne : inDom l[k].ks lo hi = false := by simpa using hc2
      have e3 : covL (l.map Cv.c) lo hi = false := by
        rw [he, hd]
        show (inDom l[k].ks lo hi && _) = false
        rw [hne, Bool.false_and]
      simp [oneOf, chkOn, hlh, e3]
    · (refine WK.skip ?_; refine WK.blk ?_; refine WK.region ?_; refine St.binI ?_; refine St.move ?_; refine WO.nil ?_)
      have h0 : inDom l[k].ks lo hi = true := by simpa using hc2
      refine WK.le ?_ (by (repeat (first | exact List.Sublist.refl _ | exact List.nil_sublist _ | apply List.Sublist.cons_cons | apply List.Sublist.cons))) (ih (k + 1) ⟨hlt, ?_⟩ (by omega))
      · exact ⟨rfl, rfl, rfl, rfl, trivial⟩
      · rw [he, hd]
        show (inDom l[k].ks lo hi && _) = _
        rw [h0, Bool.true_and]
  · have : k = l.length := by simp at hc; omega
    subst this
    (refine WK.exit ?_; refine WK.seq ?_; refine WK.region ?_; refine St.assign ?_; refine WO.nil ?_)
    refine St.ret (by first | exact .tmp .nil | exact .cell .nil | exact .cell (.tmp .nil) | exact .tmp (.tmp .nil) | exact .cell (.cell .nil) | exact .tmp (.cell .nil) | exact .nil | exact .tmp (.cell (.tmp .nil)) | exact .cell (.tmp (.tmp .nil)) | exact .cell (.cell (.tmp .nil)) | exact .tmp (.tmp (.tmp .nil)) | exact .cell (.cell (.cell .nil))) ?_
    rw [List.drop_eq_nil_of_le (by simp)] at he
    simp [oneOf, chkOn, hlh, he]
    rfl
set_option maxRecDepth 100000 in
set_option maxHeartbeats 4000000 in
theorem checkAt_con (h : Heap) (g : Gd h) (b off : Nat) (c : ACap) (l : List Cv) (x : Int) (hl : l.length ≤ 1000000) (hk : CvH h b off l) (hv : ∀ i (hi : i < l.length), Vd l[i].ks l[i].err) : Con Tryz.prog Bs 72 [.int .i64 x, .slice b off l.length c] h [] (.int .i64 (chkOn (l.map Cv.c) x x)) [] := by
  refine Con.start rfl Tryz.func72 rfl rfl Tryz.ntmps72 rfl rfl g ?_
  (refine WK.seq ?_; refine WK.region ?_; refine St.assign ?_; refine WO.nil ?_; refine WK.seq ?_; refine WK.region ?_; refine St.move ?_; refine St.move ?_; refine St.build ?_; refine St.move ?_)
  refine St.call (fun _ => rfl) (fun h hh => checkOn_con h hh.gd b off c l x x hl (hk.vw hh) hv) ?_
  (refine St.assign ?_; refine WO.nil ?_)
  refine St.ret (by first | exact .tmp .nil | exact .cell .nil | exact .cell (.tmp .nil) | exact .tmp (.tmp .nil) | exact .cell (.cell .nil) | exact .tmp (.cell .nil) | exact .nil | exact .tmp (.cell (.tmp .nil)) | exact .cell (.tmp (.tmp .nil)) | exact .cell (.cell (.tmp .nil)) | exact .tmp (.tmp (.tmp .nil)) | exact .cell (.cell (.cell .nil))) ?_
  rfl
end Go.Proofs.YtbhklifflhoinaaGreat
