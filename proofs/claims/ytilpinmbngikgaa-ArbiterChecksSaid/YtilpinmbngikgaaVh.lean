/- Layer 9: the law ArbiterChecks. -/
import Derived.Test.YtilpinmbngikgaaVc
import Derived.Test.YtilpinmbngikgaaEvX
import Derived.Test.YtilpinmbngikgaaMd
/- Layer 9: the reference's votesFor, CheckRuling. -/
namespace Go.Proofs.Ytilpinmbngikgaa
open Go.Proofs.Ytilpinmbngikgaa.Ev

set_option maxRecDepth 100000 in
set_option maxHeartbeats 4000000 in
theorem rfor_con (h : Heap) (g : Gd h) (y : Le) (r : Rl3) : Con Try.prog Bs 33 [.agg (leC y), .agg (rlC r)] h [] (.bool (forB r y)) [] := by
  have hf : forB r y = (decide (y.kd = 4) && (decide (y.cs = r.1) && (decide (y.rd = r.2.1) && decide (y.fi = r.2.2)))) := by
    obtain ⟨a, b, c⟩ := r
    unfold forB rlOf
    congr 1
    rw [Bool.eq_iff_iff]
    simp
  rw [hf]
  refine Con.start rfl Try.func33 rfl rfl Try.ntmps33 rfl rfl g ?_
  (refine WK.seq ?_; refine WK.region ?_; refine St.box fun _ _ => ?_; refine St.box fun _ _ => ?_; refine St.assign ?_; refine WO.nil ?_; refine WK.seq ?_; refine WK.region ?_; refine St.fieldAddr ?_; refine St.load ?_; refine St.bin ?_; refine St.move ?_)
  refine St.split (fun q => ?_) (fun q => ?_)
  rotate_left
  · have e1 : ¬ y.kd = 4 := by simpa using q
    (refine St.skip ?_; refine St.skip ?_; refine St.skip ?_; refine St.skip ?_; refine St.skip ?_; refine St.pickF ?_; refine St.move ?_; refine St.skip ?_; refine St.skip ?_; refine St.skip ?_; refine St.skip ?_; refine St.skip ?_; refine St.pickF ?_; refine St.move ?_; refine St.skip ?_; refine St.skip ?_; refine St.skip ?_; refine St.skip ?_; refine St.skip ?_; refine St.pickF ?_; refine St.assign ?_; refine WO.nil ?_)
    refine St.ret (by first | exact .tmp .nil | exact .cell .nil | exact .cell (.tmp .nil) | exact .tmp (.tmp .nil) | exact .cell (.cell .nil) | exact .tmp (.cell .nil) | exact .nil | exact .tmp (.cell (.tmp .nil)) | exact .cell (.tmp (.tmp .nil)) | exact .cell (.cell (.tmp .nil)) | exact .tmp (.tmp (.tmp .nil)) | exact .tmp (.tmp (.tmp (.tmp .nil))) | exact .cell (.cell (.cell .nil))) ?_
    simp [oneOf, e1]
  have e1 : y.kd = 4 := by simpa using q
  (refine St.fieldAddr ?_; refine St.load ?_; refine St.fieldAddr ?_; refine St.load ?_; refine St.bin ?_; refine St.pickT ?_; refine St.move ?_)
  refine St.split (fun q => ?_) (fun q => ?_)
  rotate_left
  · have e2 : ¬ y.cs = r.1 := by simpa using q
    (refine St.skip ?_; refine St.skip ?_; refine St.skip ?_; refine St.skip ?_; refine St.skip ?_; refine St.pickF ?_; refine St.move ?_; refine St.skip ?_; refine St.skip ?_; refine St.skip ?_; refine St.skip ?_; refine St.skip ?_; refine St.pickF ?_; refine St.assign ?_; refine WO.nil ?_)
    refine St.ret (by first | exact .tmp .nil | exact .cell .nil | exact .cell (.tmp .nil) | exact .tmp (.tmp .nil) | exact .cell (.cell .nil) | exact .tmp (.cell .nil) | exact .nil | exact .tmp (.cell (.tmp .nil)) | exact .cell (.tmp (.tmp .nil)) | exact .cell (.cell (.tmp .nil)) | exact .tmp (.tmp (.tmp .nil)) | exact .tmp (.tmp (.tmp (.tmp .nil))) | exact .cell (.cell (.cell .nil))) ?_
    simp [oneOf, e2]
  have e2 : y.cs = r.1 := by simpa using q
  (refine St.fieldAddr ?_; refine St.load ?_; refine St.fieldAddr ?_; refine St.load ?_; refine St.bin ?_; refine St.pickT ?_; refine St.move ?_)
  refine St.split (fun q => ?_) (fun q => ?_)
  rotate_left
  · have e3 : ¬ y.rd = r.2.1 := by simpa using q
    (refine St.skip ?_; refine St.skip ?_; refine St.skip ?_; refine St.skip ?_; refine St.skip ?_; refine St.pickF ?_; refine St.assign ?_; refine WO.nil ?_)
    refine St.ret (by first | exact .tmp .nil | exact .cell .nil | exact .cell (.tmp .nil) | exact .tmp (.tmp .nil) | exact .cell (.cell .nil) | exact .tmp (.cell .nil) | exact .nil | exact .tmp (.cell (.tmp .nil)) | exact .cell (.tmp (.tmp .nil)) | exact .cell (.cell (.tmp .nil)) | exact .tmp (.tmp (.tmp .nil)) | exact .tmp (.tmp (.tmp (.tmp .nil))) | exact .cell (.cell (.cell .nil))) ?_
    simp [oneOf, e3]
  have e3 : y.rd = r.2.1 := by simpa using q
  (refine St.fieldAddr ?_; refine St.load ?_; refine St.fieldAddr ?_; refine St.load ?_; refine St.bin ?_; refine St.pickT ?_; refine St.assign ?_; refine WO.nil ?_)
  refine St.ret (by first | exact .tmp .nil | exact .cell .nil | exact .cell (.tmp .nil) | exact .tmp (.tmp .nil) | exact .cell (.cell .nil) | exact .tmp (.cell .nil) | exact .nil | exact .tmp (.cell (.tmp .nil)) | exact .cell (.tmp (.tmp .nil)) | exact .cell (.cell (.tmp .nil)) | exact .tmp (.tmp (.tmp .nil)) | exact .tmp (.tmp (.tmp (.tmp .nil))) | exact .cell (.cell (.cell .nil))) ?_
  simp [oneOf, e1, e2, e3]
  rw [Bool.eq_iff_iff]
  simp
set_option maxRecDepth 100000 in
set_option maxHeartbeats 16000000 in
theorem rcheckR_con (h : Heap) (g : Gd h) (c : Int) (v : AV) (l : List Le) (hv : LeV h v l) (hl : l.length ≤ 1000000) : Con Try.prog Bs 14 [.agg [.int .i64 c], v] h [] (.tup [.agg (rlC (rchR c l)), .int .i64 (rchE c l)]) [] := by
  refine Con.start rfl Try.func14 rfl rfl Try.ntmps14 rfl rfl g ?_
  (refine WK.seq ?_; refine WK.region ?_; refine St.box fun _ _ => ?_; refine St.alloc fun _ _ => ?_; refine St.assign ?_; refine WO.nil ?_; refine WK.seq ?_; refine WK.region ?_; refine St.load ?_; refine St.move ?_)
  rename_i p2 hp2 p4 hp4
  refine St.call (fun _ => rfl) (fun h2 hh => listed_con h2 hh.gd c v l (hv.vw hh)) ?_
  (refine St.assign ?_; refine WO.nil ?_; refine WK.seq ?_; refine WK.seq ?_; refine WK.region ?_; refine St.move ?_; refine St.bin ?_; refine WO.nil ?_)
  refine St.splitC (fun q => ?_) (fun q => ?_)
  · have hne : errL c l ≠ 0 := by simpa using q
    have e1 : rchE c l = errL c l := by unfold rchE; rw [if_pos hne]
    have e2 : rchR c l = (0, 0, 0) := by unfold rchR; rw [e1, if_neg hne]
    (refine WK.seq ?_; refine WK.region ?_; refine St.build ?_; refine St.move ?_; refine St.store0 ?_; refine St.assign ?_; refine WO.nil ?_)
    refine St.ret (by first | exact .tmp .nil | exact .cell .nil | exact .cell (.tmp .nil) | exact .tmp (.tmp .nil) | exact .cell (.cell .nil) | exact .tmp (.cell .nil) | exact .nil | exact .tmp (.cell (.tmp .nil)) | exact .cell (.tmp (.tmp .nil)) | exact .cell (.cell (.tmp .nil)) | exact .tmp (.tmp (.tmp .nil)) | exact .tmp (.tmp (.tmp (.tmp .nil))) | exact .cell (.cell (.cell .nil))) ?_
    rw [e1, e2]
    rfl
  have he : errL c l = 0 := by simpa using q
  have hm := maj_pos (crt_bd (errL_ok he).1)
  (refine WK.skip ?_; refine WK.seq ?_; refine WK.seq ?_; refine WK.region ?_; refine St.move ?_)
  refine St.lenG rfl hv.llen ?_
  (refine St.load ?_)
  refine St.call (fun _ => rfl) (fun h2 hh => rmajority_con h2 hh.gd c) ?_
  (refine St.bin ?_; refine WO.nil ?_)
  refine St.splitC (fun q => ?_) (fun q => ?_)
  · have hlt : (l.length : Int) < maj c := by simpa using q
    have e1 : rchE c l = 8 := by unfold rchE; rw [if_neg (by simp [he]), if_pos hlt]
    have e2 : rchR c l = (0, 0, 0) := by unfold rchR; rw [e1, if_neg (by omega)]
    (refine WK.seq ?_; refine WK.region ?_; refine St.build ?_; refine St.store0 ?_; refine St.assign ?_; refine WO.nil ?_)
    refine St.ret (by first | exact .tmp .nil | exact .cell .nil | exact .cell (.tmp .nil) | exact .tmp (.tmp .nil) | exact .cell (.cell .nil) | exact .tmp (.cell .nil) | exact .nil | exact .tmp (.cell (.tmp .nil)) | exact .cell (.tmp (.tmp .nil)) | exact .cell (.cell (.tmp .nil)) | exact .tmp (.tmp (.tmp .nil)) | exact .tmp (.tmp (.tmp (.tmp .nil))) | exact .cell (.cell (.cell .nil))) ?_
    rw [e1, e2]
    rfl
  have hle : ¬ (l.length : Int) < maj c := by simpa using q
  have hE : rchE c l = if okVB (rlOf (nthE l 0)) l = true then 0 else 8 := by
    unfold rchE
    rw [if_neg (by simp [he]), if_neg hle]
    rfl
  have hR : rchR c l = if rchE c l = 0 then rlOf (nthE l 0) else (0, 0, 0) := rfl
  generalize rchR c l = cR at hR ⊢
  generalize rchE c l = cE at hE hR ⊢
  have h0 : 0 < l.length := by omega
  have hv' := hv
  obtain ⟨b, off, mm, rfl, hk⟩ := hv'.ne h0
  have hr1 : ∀ {V : Ob} {h2 : Heap}, Vw h [] V h2 → Rds h2 b (off + (0 : Int).toNat * 8) (leC (nthE l 0)) := fun hh => (hk.vw hh).at_ (z := 0) (n := 0) rfl h0
  (refine WK.skip ?_; refine WK.seq ?_; refine WK.regionD ?_; refine St.move ?_)
  refine St.at ?_
  (refine St.fieldAddr ?_)
  refine St.loadX (fun h2 hh => (Rds.headG (hr1 hh).2).one rfl) ?_
  (refine St.move ?_)
  refine St.at ?_
  (refine St.fieldAddr ?_)
  refine St.loadX (fun h2 hh => (Rds.headG (hr1 hh).2.2.2).one rfl) ?_
  (refine St.move ?_)
  refine St.at ?_
  (refine St.fieldAddr ?_)
  refine St.loadX (fun h2 hh => (Rds.headG (hr1 hh).2.2.2.2.2.2.2).one rfl) ?_
  (refine St.build ?_; refine StD.alloc fun _ _ => ?_; refine StD.storeT ?_; refine WO.nil1 ?_; refine WK.seq ?_; refine WK.seq ?_; refine WK.region ?_; refine St.assign ?_; refine WO.nil ?_; refine WK.block ?_)
  rename_i p7 hp7
  generalize hr0 : rlOf (nthE l 0) = r0 at hE hR
  have hcell : (AObj.cells [.int .i64 (nthE l 0).cs, .int .i64 (nthE l 0).rd, .int .i64 (nthE l 0).fi] 32) = .cells (rlC r0) 32 := by rw [← hr0]; rfl
  refine WK.inv (ι := Nat) (fun k => [(1, .slice b off l.length mm), (4, .ptr p4 0), (7, .ptr p7 0), (8, .int .i64 k)]) (fun _ => [(p7, .cells (rlC r0) 32), (p4, .cells [.int .i64 0, .int .i64 0, .int .i64 0] 32)]) (fun k => k ≤ l.length ∧ ∀ i, i < k → okV r0 l i = true) (fun k => l.length - k) 0 ⟨Nat.zero_le _, fun i hi => absurd hi (by omega)⟩ ⟨rfl, rfl, rfl, rfl, trivial⟩ (by rw [← hcell]; (repeat (first | exact List.Sublist.refl _ | exact List.nil_sublist _ | apply List.Sublist.cons_cons | apply List.Sublist.cons))) ?_
  rintro k ⟨hkl, hgood⟩ ih
  (refine WK.seq ?_; refine WK.seq ?_; refine WK.region ?_; refine St.move ?_; refine St.move ?_; refine St.len ?_; refine St.bin ?_; refine WO.nil ?_)
  refine St.splitC (fun q2 => ?_) (fun q2 => ?_)
  rotate_left
  · have e : k = l.length := by simp at q2; omega
    subst e
    rw [if_pos (okVB_yes hgood)] at hE
    subst hE
    rw [if_pos rfl] at hR
    subst hR
    (refine WK.exit ?_; refine WK.seq ?_; refine WK.region ?_; refine St.load ?_; refine St.store1 ?_; refine St.assign ?_; refine WO.nil ?_)
    refine St.ret (by first | exact .tmp .nil | exact .cell .nil | exact .cell (.tmp .nil) | exact .tmp (.tmp .nil) | exact .cell (.cell .nil) | exact .tmp (.cell .nil) | exact .nil | exact .tmp (.cell (.tmp .nil)) | exact .cell (.tmp (.tmp .nil)) | exact .cell (.cell (.tmp .nil)) | exact .tmp (.tmp (.tmp .nil)) | exact .tmp (.tmp (.tmp (.tmp .nil))) | exact .cell (.cell (.cell .nil))) ?_
    rfl
  have hlt : k < l.length := by simp at q2; omega
  have hbad : okV r0 l k = false → cE = 8 ∧ cR = (0, 0, 0) := fun hb => by
    rw [if_neg (by rw [okVB_no hlt hb]; simp)] at hE
    subst hE
    rw [if_neg (by omega)] at hR
    exact ⟨rfl, hR⟩
  have hok : okV r0 l k = (forB r0 (nthE l k) && !(l.take k).any (byB (nthE l k).fr)) := rfl
  (refine WK.skip ?_; refine WK.seq ?_; refine WK.block ?_; refine WK.seq ?_; refine WK.regionD ?_; refine St.move ?_; refine St.move ?_)
  refine St.at ?_
  refine St.loadX (fun h2 hh => ((hk.vw hh).at_ (z := (k : Int)) (n := k) (by omega) hlt).agg (by simp [leC]) rfl rfl rfl) ?_
  (refine St.load ?_)
  refine St.call (fun _ => rfl) (fun h2 hh => rfor_con h2 hh.gd (nthE l k) r0) ?_
  (refine St.assign ?_; refine WO.nil ?_; refine WK.seq ?_; refine WK.seq ?_; refine WK.region ?_; refine St.assign ?_; refine WO.nil ?_; refine WK.block ?_)
  refine WK.inv (ι := Nat) (fun j => [(1, .slice b off l.length mm), (4, .ptr p4 0), (7, .ptr p7 0), (8, .int .i64 k), (9, .bool (forB r0 (nthE l k) && !(l.take j).any (byB (nthE l k).fr))), (10, .int .i64 j)]) (fun _ => [(p7, .cells (rlC r0) 32), (p4, .cells [.int .i64 0, .int .i64 0, .int .i64 0] 32)]) (fun j => j ≤ k) (fun j => k - j) 0 (Nat.zero_le _) ⟨rfl, rfl, rfl, rfl, congrArg (fun z => some (AV.bool z)) (Bool.and_true _).symm, rfl, trivial⟩ (by (repeat (first | exact List.Sublist.refl _ | exact List.nil_sublist _ | apply List.Sublist.cons_cons | apply List.Sublist.cons))) ?_
  intro j hjk ih2
  (refine WK.seq ?_; refine WK.seq ?_; refine WK.region ?_; refine St.move ?_; refine St.move ?_; refine St.bin ?_; refine WO.nil ?_)
  refine St.splitC (fun q3 => ?_) (fun q3 => ?_)
  · have hjlt : j < k := by simp at q3; omega
    have hta : (l.take (j + 1)).any (byB (nthE l k).fr) = ((l.take j).any (byB (nthE l k).fr) || byB (nthE l k).fr (nthE l j)) := by
      rw [take_succE (by omega), List.any_append]
      simp
    have ih3 := ih2 (j + 1) hjlt (by omega)
    rw [hta, show (forB r0 (nthE l k) && !((l.take j).any (byB (nthE l k).fr) || byB (nthE l k).fr (nthE l j))) = ((forB r0 (nthE l k) && !(l.take j).any (byB (nthE l k).fr)) && !byB (nthE l k).fr (nthE l j)) by rw [Bool.not_or, Bool.and_assoc]] at ih3
    generalize (forB r0 (nthE l k) && !(l.take j).any (byB (nthE l k).fr)) = fl at ih3 ⊢
    cases fl
    · (refine WK.skip ?_; refine WK.seq ?_; refine WK.block ?_; refine WK.regionD ?_; refine St.move ?_; refine St.move ?_; refine St.skip ?_; refine St.skip ?_; refine St.skip ?_; refine St.skip ?_; refine St.skip ?_; refine St.skip ?_; refine St.skip ?_; refine St.skip ?_; refine St.skip ?_; refine St.skip ?_; refine St.skip ?_; refine St.pickF ?_; refine St.assign ?_; refine WO.nil ?_; refine WK.blk ?_; refine WK.region ?_; refine St.move ?_; refine St.binI ?_; refine St.assign ?_; refine WO.nil ?_)
      refine WK.le ?_ (by (repeat (first | exact List.Sublist.refl _ | exact List.nil_sublist _ | apply List.Sublist.cons_cons | apply List.Sublist.cons))) ih3
      exact ⟨rfl, rfl, rfl, rfl, rfl, rfl, trivial⟩
    · (refine WK.skip ?_; refine WK.seq ?_; refine WK.block ?_; refine WK.regionD ?_; refine St.move ?_; refine St.move ?_; refine St.move ?_; refine St.move ?_)
      refine St.at ?_
      (refine St.fieldAddr ?_)
      refine St.loadX (fun h2 hh => (Rds.headG ((hk.vw hh).at_ (z := (j : Int)) (n := j) (by omega) (by omega)).2.2.2.2).one rfl) ?_
      (refine St.move ?_; refine St.move ?_)
      refine St.at ?_
      (refine St.fieldAddr ?_)
      refine St.loadX (fun h2 hh => (Rds.headG ((hk.vw hh).at_ (z := (k : Int)) (n := k) (by omega) hlt).2.2.2.2).one rfl) ?_
      (refine St.bin ?_; refine St.pickT ?_; refine St.assign ?_; refine WO.nil ?_; refine WK.blk ?_; refine WK.region ?_; refine St.move ?_; refine St.binI ?_; refine St.assign ?_; refine WO.nil ?_)
      refine WK.le ?_ (by (repeat (first | exact List.Sublist.refl _ | exact List.nil_sublist _ | apply List.Sublist.cons_cons | apply List.Sublist.cons))) ih3
      exact ⟨rfl, rfl, rfl, rfl, congrArg (fun z => some (AV.bool z)) (by unfold byB; rw [Bool.eq_iff_iff]; simp), rfl, trivial⟩
  · have e : j = k := by simp at q3; omega
    subst e
    rw [← hok]
    cases ho : okV r0 l j
    · obtain ⟨rfl, rfl⟩ := hbad ho
      (refine WK.exit ?_; refine WK.seq ?_; refine WK.region ?_; refine St.move ?_; refine St.un ?_; refine WO.nil ?_; refine WK.condT ?_; refine WK.seq ?_; refine WK.region ?_; refine St.build ?_; refine St.store1 ?_; refine St.assign ?_; refine WO.nil ?_)
      refine St.ret (by first | exact .tmp .nil | exact .cell .nil | exact .cell (.tmp .nil) | exact .tmp (.tmp .nil) | exact .cell (.cell .nil) | exact .tmp (.cell .nil) | exact .nil | exact .tmp (.cell (.tmp .nil)) | exact .cell (.tmp (.tmp .nil)) | exact .cell (.cell (.tmp .nil)) | exact .tmp (.tmp (.tmp .nil)) | exact .tmp (.tmp (.tmp (.tmp .nil))) | exact .cell (.cell (.cell .nil))) ?_
      rfl
    · (refine WK.exit ?_; refine WK.seq ?_; refine WK.region ?_; refine St.move ?_; refine St.un ?_; refine WO.nil ?_; refine WK.condF ?_; refine WK.skip ?_; refine WK.blk ?_; refine WK.region ?_; refine St.move ?_; refine St.binI ?_; refine St.assign ?_; refine WO.nil ?_)
      refine WK.le ?_ (by (repeat (first | exact List.Sublist.refl _ | exact List.nil_sublist _ | apply List.Sublist.cons_cons | apply List.Sublist.cons))) (ih (j + 1) ⟨hlt, less_succ' hgood ho⟩ (by omega))
      exact ⟨rfl, rfl, rfl, rfl, trivial⟩
end Go.Proofs.Ytilpinmbngikgaa

/- An operation that hands back a value and writes into an object that is held (an append in place). -/
namespace Go.Proofs.Ytilpinmbngikgaa.Ev
section
variable {P : Program} {B : Base} {Q : Post} {h0 : Heap} {W : List Nat} {N : Nat} {D : List Nat} {K : List Fr} {s : Sl} {L : Ob} {T : Tg} {md : Bool} {ops : Array Oper} {l : List Oper} {o : Oper}
theorem WO.setV {A C : Ob} {i : Nat} {obj obj' : AObj} {v : AV} (hw : wantS ops s N o = some true) (hd : okD N o.dst = true) (h2 : md = true → kindAt ops (o :: l) = 2) (hL : L = A ++ (i, obj) :: C) (he : ∀ h, Vw h0 W L h → h.set i obj' = some { h with t := h.t.set i obj' } → evOp P h (evS s) o = some (.value v, { h with t := h.t.set i obj' })) (k : WO P B Q h0 W N D K md ops l (putS s o.dst v) (A ++ (i, obj') :: C) T) : WO P B Q h0 W N D K md ops (o :: l) s L T := by
  subst hL
  constructor
  · rintro rfl a h ha hh
    obtain ⟨h1, h3⟩ := hh.store (o' := obj')
    obtain ⟨a', h4, h5⟩ := ha.put hd v
    exact KRun.op (wantS_eq ha hw) (ROp.value (g := { h with t := h.t.set i obj' }) ha (he h hh.vw h1) (Nat.le_refl _)) h4 (k.seq rfl a' _ h5 h3)
  · rintro rfl a h recs ha hh ht hl hst hW
    obtain ⟨q1, q2, q3⟩ := drop_next hl
    have h2' : (kindsR ops).getD recs.length 0 = 2 := by have := h2 rfl; unfold kindAt at this; rw [q3] at this; exact this
    obtain ⟨h1, h3⟩ := hh.stored (o' := obj') (r := ⟨(kindsR ops).getD recs.length 0, blkOf a.eval o.op, h.next, h.next⟩) rfl rfl
    obtain ⟨a', h4, h5⟩ := ha.put hd v
    refine KRun.dop (v := v) (g := { h with t := h.t.set i obj' }) (wantS_eq ha hw) ?_ ?_ h4 ?_
    · rw [h2']
      exact ROp.value ha (he h (hh.ss.sub (List.sublist_append_right _ _)).vw h1) (Nat.le_refl _)
    · exact staticAll_free hst q1 ht rfl
    · exact k.drawn rfl a' _ _ h5 h3 ⟨.inl rfl, ht⟩ q2 hst hW
end
end Go.Proofs.Ytilpinmbngikgaa.Ev

/- Layer 9: a list of letters that is changed in place: a part taken out, a field written. -/
namespace Go.Proofs.Ytilpinmbngikgaa
open Go.Proofs.Ytilpinmbngikgaa.Ev

theorem slM8_from {h2 : Heap} {j n k : Nat} {cs : List AV} {e : TypeId} (hg : h2.get j = some (.row cs e 8)) (hc : cs.length = n * 8) (hk : k + 1 ≤ n) : evSlice Try.prog h2 24 (.slice j 0 n (.m 0)) (some (.int .i64 ((k + 1 : Nat) : Int))) none none = some (if k + 1 < n then .slice j ((k + 1) * 8) (n - (k + 1)) (.m (k + 1)) else .sliceE j ((k + 1) * 8) (k + 1)) := by
  have hs : sizeT Try.prog 38 = some 8 := by kernel_rfl
  have hkn : knownN h2 j 8 = n := by
    unfold knownN
    simp [hg, hc]
  unfold evSlice
  rw [if_neg (by simp), Try.underlying24]
  simp only [hs, hkn, evSliceM, optB, boundIn]
  rw [if_pos (by omega)]
  by_cases h : k + 1 < n
  · simp [h]
  · have : n = k + 1 := by omega
    subst this
    simp
theorem storeN_row {h g : Heap} {i off : Nat} {xs l l' : List AV} {e : TypeId} {sz : Nat} (hg : h.get i = some (.row l e sz)) (hs : h.set i (.row l' e sz) = some g) (ho : overN off xs l = some l') : h.storeN i off xs = some g := by
  have hrow : h.row i = some l := by unfold Heap.row; rw [hg]
  simp only [Heap.storeN, Option.bind_eq_bind, hrow, Option.bind_some, ho, Heap.setRow, hg, hs]
theorem leC_inj_set {l : List Le} : ∀ {k : Nat} {f : Nat} {z : AV} {y : Le}, k < l.length → f < 8 → leC y = (leC (nthE l k)).set f z → (enF leC l).set (k * 8 + f) z = enF leC (l.set k y) := by
  induction l with
  | nil => intro k f z y hk; simp at hk
  | cons x r ih =>
    intro k f z y hk hf hy
    cases k with
    | zero =>
      show (leC x ++ enF leC r).set (0 * 8 + f) z = leC y ++ enF leC r
      rw [Nat.zero_mul, Nat.zero_add, List.set_append, if_pos (by rw [leC_len]; omega), hy]
      rfl
    | succ k =>
      show (leC x ++ enF leC r).set ((k + 1) * 8 + f) z = leC x ++ enF leC (r.set k y)
      rw [List.set_append, if_neg (by rw [leC_len]; omega), leC_len, show (k + 1) * 8 + f - 8 = k * 8 + f by omega]
      rw [ih (by simpa using hk) hf (by rw [nthE_cons] at hy; exact hy)]
theorem enF_takeE {l : List Le} {k : Nat} (h : k ≤ l.length) : (enF leC l).take (k * 8) = enF leC (l.take k) := by
  have e : enF leC l = enF leC (l.take k) ++ enF leC (l.drop k) := by rw [← enF_app, List.take_append_drop]
  rw [e, List.take_append, enF_len leC_len, List.length_take, Nat.min_eq_left h, Nat.sub_self, List.take_zero, List.append_nil, List.take_of_length_le (by rw [enF_len leC_len, List.length_take]; omega)]
/-- a part is moved to the front -/
theorem over_cut {l : List Le} {k : Nat} (hk : k < l.length) : overN (k * 8) (enF leC (l.drop (k + 1))) (enF leC l) = some (enF leC (l.take k ++ l.drop (k + 1)) ++ (enF leC l).drop ((l.length - 1) * 8)) := by
  rw [overN_mk (by rw [enF_len leC_len, enF_len leC_len, List.length_drop]; omega), enF_takeE (by omega), enF_app, enF_len leC_len, List.length_drop, show k * 8 + (l.length - (k + 1)) * 8 = (l.length - 1) * 8 by omega]
/-- the calculator's list after a change: its letters, and what lies behind them in the row -/
structure ChgM (m : List Le) (r : List AV) : Prop where
  le : m.length ≤ 1000
  sz : ∃ N, (enF leC m ++ r).length = N * 8
theorem ChgM.s {m : List Le} {r : List AV} (q : ChgM m r) {h0 h : Heap} {V : Ob} {j : Nat} (k : Vw h0 [] V h) (hm : (j, AObj.row (enF leC m ++ r) 38 8) ∈ V) : LeS h (.slice j 0 m.length (.m 0)) m := by
  obtain ⟨N, hN⟩ := q.sz
  have hle : m.length ≤ N := by rw [List.length_append, enF_len leC_len] at hN; omega
  have hE : EH leC 8 h j 0 m := fun i hi => by
    rw [Nat.zero_add]
    refine k.rdsEn hm (L := enF leC m ++ r) (.inr ⟨[], _, _, by rw [List.append_nil]⟩) (leC (nthE m i)) (enF leC (m.drop (i + 1)) ++ r) (i * 8) ?_
    rw [List.drop_append_of_le_length (by rw [enF_len leC_len]; omega), enF_drop leC_len m i hi, List.append_assoc]
  have hg := k.own _ hm
  refine ⟨.inr ⟨j, 0, _, rfl, hE⟩, fun i hi => ⟨.slice j 0 i (.m 0), fun {V2 h2} hh => ⟨slM8_to (N := N) (e := 38) (cs := enF leC m ++ r) ?_ hN hle (by omega), (hE.vw hh).takV (by omega)⟩⟩⟩
  rw [hh.old j hg.2 (by simp)]
  exact hg.1
end Go.Proofs.Ytilpinmbngikgaa

/- Layer 9, plain: a proof shows the first ruling of its case; votes of a list show one of its rulings. -/
namespace Go.Proofs.Ytilpinmbngikgaa
open Go.Proofs.Ytilpinmbngikgaa.Ev

theorem maj_le {c : Int} (hc : crt c = true) : maj c ≤ 4 := by
  have := crt_bd hc
  unfold maj
  rw [hc]
  simp only [cond_true]
  rw [Int.tdiv_eq_ediv_of_nonneg (by omega)]
  omega
theorem rls_case {c : Int} {l : List Le} (he : errL c l = 0) {r : Rl3} (hr : r ∈ rlsOf c l) : inB r.1 1 1099511627776 = true := by
  have hm := maj_pos (crt_bd (errL_ok he).1)
  obtain ⟨S, k⟩ := rls_ruled (fun x hx => (frm_fr he x hx).1) hr
  obtain ⟨a, ha⟩ : ∃ a, a ∈ S := by
    cases S with
    | nil => have := k.big; simp at this; omega
    | cons a S => exact ⟨a, List.mem_cons_self ..⟩
  obtain ⟨v, v1, _, v3, _⟩ := k.is a ha
  have := frm_case he v v1
  rw [v3] at this
  simp only [Bool.and_eq_true] at this
  exact this.1
/-- there is a proof exactly if there is a ruling -/
theorem pr_any {c : Int} {l : List Le} {id : Int} (he : errL c l = 0) : prE c l id = 0 ↔ (rlsOf c l).any (fun r => decide (r.1 = id)) = true := by
  unfold prE
  rw [if_neg (by simp [he])]
  constructor
  · intro h
    split at h
    · split at h
      · rename_i h2; exact h2
      · omega
    · omega
  · intro h
    obtain ⟨r, h1, h2⟩ := List.any_eq_true.1 h
    have h3 := rls_case he h1
    have h4 : r.1 = id := by simpa using h2
    rw [h4] at h3
    rw [if_pos h3, if_pos h]
end Go.Proofs.Ytilpinmbngikgaa

/- Layer 9: the law ArbiterChecks. -/
namespace Go.Proofs.Ytilpinmbngikgaa
open Go.Proofs.Ytilpinmbngikgaa.Ev

theorem evRem {P : Program} {t : TypeId} {a b q : Int} (hb : b ≠ 0) (e : a.tmod b = q) : evBin P .rem t (.int .i64 a) (.int .i64 b) = some (.int .i64 q) := by
  subst e
  unfold evBin evInt
  simp [hb]
theorem rl_eql (x r : Rl3) : evBin Try.prog .eql 32 (.agg (rlC x)) (.agg (rlC r)) = some (.bool (decide (x = r))) := by
  obtain ⟨a, b, c⟩ := x
  obtain ⟨d, f, g⟩ := r
  simp [rlC, evBin, evEq, guardOk, eqT, eqFs, partE, isAggT, nthN]
  by_cases h1 : a = d <;> by_cases h2 : b = f <;> by_cases h3 : c = g <;> simp [h1, h2, h3]
theorem few_le {c : Int} {l : List Le} {m : Int} (hm : m ≤ 1000) (h : fewL l.length m = true) : errL c l = 0 → l.length ≤ 1000 := fun he => by
  have := (errL_ok he).2.1
  unfold fewL at h
  simp at h
  omega
set_option maxRecDepth 100000 in
set_option maxHeartbeats 64000000 in
theorem checksLaw_con (h : Heap) (g : Gd h) (c : Int) (v : AV) (l : List Le) (id what : Int) (n4 : Nat) (hn4 : n4 ≤ 255) (by_ : Int) (hv : LeA h v l) : Con Try.prog Bs 4 [.agg [.int .i64 c], v, .int .i64 id, .int .i64 what, .int .u8 n4, .int .i64 by_] h [] (.bool true) [] := by
  have hvV : LeV h v l := hv.eV
  have hw4 : IntKind.wrap .i64 (n4 : Int) = n4 := wrap_ok (by omega)
  refine Con.start rfl Try.func4 rfl rfl Try.ntmps4 rfl rfl g ?_
  (refine WK.seq ?_; refine WK.region ?_; refine St.box fun _ _ => ?_; refine St.assign ?_; refine WO.nil ?_; refine WK.seq ?_; refine WK.seq ?_; refine WK.region ?_; refine St.move ?_)
  rename_i p6 hp6
  refine St.call (fun _ => rfl) (fun h2 hh => few_con h2 hh.gd v l 60 (hv.eV.vw hh)) ?_
  cases hfew : fewL l.length 60
  · (refine St.un ?_; refine WO.nil ?_; refine WK.condT ?_; refine WK.seq ?_; refine WK.region ?_)
    refine St.call (fun _ => rfl) (fun h2 hh => sanity_con h2 hh.gd) ?_
    (refine St.assign ?_; refine WO.nil ?_)
    refine St.ret (by first | exact .tmp .nil | exact .cell .nil | exact .cell (.tmp .nil) | exact .tmp (.tmp .nil) | exact .cell (.cell .nil) | exact .tmp (.cell .nil) | exact .nil | exact .tmp (.cell (.tmp .nil)) | exact .cell (.tmp (.tmp .nil)) | exact .cell (.cell (.tmp .nil)) | exact .tmp (.tmp (.tmp .nil)) | exact .tmp (.tmp (.tmp (.tmp .nil))) | exact .cell (.cell (.cell .nil))) ?_
    rfl
  have hl := few_le (c := c) (by omega) hfew
  obtain ⟨e1, e2⟩ := chk_eq c l
  (refine St.un ?_; refine WO.nil ?_; refine WK.condF ?_; refine WK.skip ?_; refine WK.seq ?_; refine WK.region ?_; refine St.load ?_; refine St.move ?_)
  refine St.call (fun _ => rfl) (fun h2 hh => checkR_con h2 hh.gd c v l (LeA.s (hv.vw hh)) hl) ?_
  (refine St.move ?_; refine St.extract ?_; refine St.extract ?_; refine St.alloc fun _ _ => ?_; refine St.store0 ?_; refine St.assign ?_; refine WO.nil ?_; refine WK.seq ?_; refine WK.region ?_; refine St.load ?_; refine St.move ?_)
  refine St.call (v := .tup [.agg (rlC (chkR c l)), .int .i64 (chkE c l)]) (fun _ => rfl) (fun h2 hh => by
    have := rcheckR_con h2 hh.gd c v l (hv.eV.vw hh) (by unfold fewL at hfew; simp at hfew; omega)
    rwa [← e1, ← e2] at this) ?_
  generalize chkR c l = cR
  generalize chkE c l = cE
  (refine St.move ?_; refine St.extract ?_; refine St.extract ?_; refine St.alloc fun _ _ => ?_; refine St.store0 ?_; refine St.assign ?_; refine WO.nil ?_; refine WK.seq ?_; refine WK.seq ?_; refine WK.region ?_; refine St.load ?_; refine St.load ?_)
  refine St.binX (r := .bool false) (rl_eq _) rfl rfl ?_
  (refine St.move ?_; refine St.move ?_; refine St.move ?_; refine St.bin ?_; refine St.pickF ?_; refine WO.nil ?_)
  refine St.splitC (fun q => ?_) (fun q => ?_)
  · simp at q
  (refine WK.skip ?_; refine WK.seq ?_; refine WK.region ?_; refine St.load ?_; refine St.move ?_; refine St.move ?_)
  rename_i p13 hp13 p15 hp15
  refine St.callR (R := prR9 c l id) (fun _ => rfl) (fun h2 hh => proof_con h2 hh.gd c v l id (hv.eV.vw hh) hl) (fun u L2 hR => ?_)
  refine WO.permF List.perm_append_comm ?_
  have hP : ∃ w2 pl F, u = .tup [w2, .int .i64 F] ∧ ((w2 = .slice0 ∧ pl = []) ∨ (0 < pl.length ∧ pl.length ≤ 10 ∧ IsL 38 8 pl.length (enF leC pl) w2 L2)) := by
    rcases hR with ⟨hne, rfl⟩ | ⟨h0, w, rfl, hw⟩
    · exact ⟨.slice0, [], _, rfl, .inl ⟨rfl, rfl⟩⟩
    · have he : errL c l = 0 := by
        apply Classical.byContradiction
        intro hne
        unfold prE at h0
        rw [if_pos hne] at h0
        exact hne h0
      have hc := (errL_ok he).1
      have hm := maj_pos (crt_bd hc)
      have hany := (pr_any he).1 h0
      have hin : fstR (rlsOf c l) id ∈ rlsOf c l := by
        unfold fstR
        cases hf : (rlsOf c l).find? (fun r => decide (r.1 = id)) with
        | none =>
          obtain ⟨r, h1, h2⟩ := List.any_eq_true.1 hany
          exact absurd h2 (List.find?_eq_none.1 hf r h1)
        | some r => exact List.mem_of_find?_eq_some hf
      have hfull := vfN_full hm (fr7 he) hin
      have hm4 := maj_le hc
      refine ⟨w, prL c l id, 0, rfl, .inr ⟨?_, ?_, hw⟩⟩
      · unfold prL; omega
      · unfold prL; omega
  obtain ⟨w2, pl, F, rfl, hw2⟩ := hP
  clear hR
  (refine St.move ?_; refine St.extract ?_; refine St.extract ?_; refine St.assign ?_; refine St.assign ?_; refine WO.nil ?_; refine WK.seq ?_; refine WK.region ?_; refine St.mkS fun _ _ => ?_; refine St.move ?_)
  rename_i j55 hj55
  rcases hw2 with ⟨rfl, rfl⟩ | ⟨hp0, hp10, hw2⟩
  · refine St.appG (e := 38) (sz := 8) (len := 0) (old := []) (n := 0) (new := []) (Lv := [(j55, .cells [] 38)]) (.cells j55 0 [] 38 (by simp) (by simp) (Nat.le_refl _)) (List.Perm.refl _) ⟨rfl, rfl, rfl, rfl, rfl, rfl, rfl, rfl⟩ (.inl ⟨rfl, rfl, rfl, fun _ _ => rfl⟩) (by omega) (fun v' Lv' hv' => ?_)
    (refine St.assign ?_; refine WO.nil ?_; refine WK.seq ?_; refine WK.seq ?_; refine WK.region ?_; refine St.move ?_)
    refine St.lenG rfl (hv'.lenG (q := 38) (by kernel_rfl)) ?_
    (refine St.bin ?_; refine WO.nil ?_; refine WK.condT ?_; refine WK.seq ?_; refine WK.region ?_)
    refine St.call (fun _ => rfl) (fun h2 hh => sanity_con h2 hh.gd) ?_
    (refine St.assign ?_; refine WO.nil ?_)
    refine St.ret (by first | exact .tmp .nil | exact .cell .nil | exact .cell (.tmp .nil) | exact .tmp (.tmp .nil) | exact .cell (.cell .nil) | exact .tmp (.cell .nil) | exact .nil | exact .tmp (.cell (.tmp .nil)) | exact .cell (.tmp (.tmp .nil)) | exact .cell (.cell (.tmp .nil)) | exact .tmp (.tmp (.tmp .nil)) | exact .tmp (.tmp (.tmp (.tmp .nil))) | exact .cell (.cell (.cell .nil))) ?_
    rfl
  obtain ⟨i2, cc, o2, rfl, hL2, ho2, hln⟩ := hw2.ne hp0
  refine St.appC (e := 38) (sz := 8) (n := pl.length) (new := enF leC pl) (t0 := 38) (l0 := []) (fun j hj => ?_) ⟨rfl, rfl, rfl, rfl, rfl, rfl, rfl, rfl, rfl, Nat.ble_eq_true_of_le (by omega), by simp [hln], enF_ok fun x _ => rfl⟩ (List.mem_cons_self ..) (fun h2 hh => by
    rcases en_v leC_len hw2 rfl hh (fun x hx => by simp only [List.mem_cons, List.mem_append, hx, or_true]) with ⟨h3 | h3, _⟩ | ⟨b, off, c2, e, k⟩
    · cases h3
    · cases h3
    · cases e
      exact k.loadN leC_len (by omega) hp0) hp0 (by omega)
  have hchg0 : ∀ m : List Le, m.length ≤ 1000 → ChgM m [] := fun m hm => ⟨hm, m.length, by rw [List.append_nil, enF_len leC_len]⟩
  (refine St.assign ?_; refine WO.nil ?_; refine WK.seq ?_; refine WK.seq ?_; refine WK.region ?_; refine St.move ?_; refine St.len ?_; refine St.bin ?_; refine WO.nil ?_)
  refine St.splitC (fun q => ?_) (fun q => ?_)
  · simp at q
    rw [q] at hp0
    simp at hp0
  (refine WK.skip ?_; refine WK.seq ?_; refine WK.region ?_; refine St.move ?_; refine St.conv ?_; refine St.move ?_; refine St.len ?_)
  rw [hw4]
  have hkm : ((n4 : Int).tmod (pl.length : Int)) = ((n4 % pl.length : Nat) : Int) := by rw [Int.tmod_eq_emod_of_nonneg (by omega)]; rfl
  refine St.binX (u := .int .i64 n4) (v := .int .i64 pl.length) (r := .int .i64 ((n4 % pl.length : Nat) : Int)) (evRem (by omega) hkm) rfl rfl ?_
  have hkl := Nat.mod_lt n4 hp0
  generalize n4 % pl.length = k at hkl ⊢
  (refine St.assign ?_; refine WO.nil ?_; refine WK.seq ?_; refine WK.seq ?_; refine WK.region ?_; refine St.move ?_; refine WO.nil ?_; refine WK.block ?_; refine WK.seq ?_; refine WK.region ?_; refine St.bin ?_; refine St.assign ?_; refine WO.nil ?_)
  have hmv : ∀ {V : Ob} {h2 : Heap}, Vw h [] V h2 → (j, AObj.row (enF leC pl) 38 8) ∈ V → EH leC 8 h2 j 0 pl := fun hh hm => by
    rcases en_v leC_len (IsL.row (e := 38) j (enF_len leC_len pl)) rfl hh (fun x hx => by rw [List.mem_singleton.1 hx]; exact hm) with ⟨h3 | h3, _⟩ | ⟨b, off, c2, e, k⟩
    · cases h3
    · cases h3
    · cases e
      exact k
  have hset : ∀ (y : Le) (f : Nat) (z : AV), f < 8 → z.cells = [z] → okCell z = true → leC y = (leC (nthE pl k)).set f z → ∀ t, sizeT Try.prog t = some 1 → (AObj.row (enF leC pl) 38 8).store Try.prog t (k * 8 + f) z = some (.row (enF leC (pl.set k y) ++ []) 38 8) := fun y f z hf hz hz2 hy t ht => by
    rw [store_row ht hz hz2 (by rw [enF_len leC_len]; omega), leC_inj_set hkl hf hy, List.append_nil]
  have hki : ∀ f : Nat, 0 + (k : Int).toNat * 8 + f = k * 8 + f := fun f => by omega
  refine WK.joinG (X := Nat × List Le × List AV) (fun x => ChgM x.2.1 x.2.2) (fun x => [(6, .ptr p6 0), (17, .slice x.1 0 x.2.1.length (.m 0))]) (fun x => [(x.1, .row (enF leC x.2.1 ++ x.2.2) 38 8), (p6, .cells [.int .i64 c] 23)]) (fun kont => ?_) (fun x hx => ?_)
  · refine St.splitC (fun q1 => ?_) (fun q1 => ?_)
    · have hgr : ∀ {V : Ob} {h2 : Heap}, Vw h [] V h2 → (j, AObj.row (enF leC pl) 38 8) ∈ V → h2.get j = some (.row (enF leC pl) 38 8) := fun hh hm => hh.getO hm
      have hcut := over_cut hkl
      have hml : (pl.take k ++ pl.drop (k + 1)).length = k + (pl.length - (k + 1)) := by rw [List.length_append, List.length_take, List.length_drop]; omega
      have hq : ChgM (pl.take k ++ pl.drop (k + 1)) ((enF leC pl).drop ((pl.length - 1) * 8)) := ⟨by omega, pl.length, by rw [List.length_append, List.length_drop, enF_len leC_len, enF_len leC_len, hml]; omega⟩
      refine WK.regionD ?_
      refine St.move ?_
      refine St.move ?_
      refine St.sliceG (v := .slice j 0 k (.m 0)) (fun h2 hh => ?_) ?_
      · show plainV (evSlice Try.prog h2 24 (.slice j 0 pl.length (.m 0)) none (some (.int .i64 (k : Int))) none) h2 = _
        rw [slM8_to (N := pl.length) (hgr hh (List.mem_cons_self ..)) (enF_len leC_len pl) (Nat.le_refl _) (by omega)]
        rfl
      refine St.move ?_
      refine St.move ?_
      refine St.binI ?_
      refine St.sliceG (v := if k + 1 < pl.length then .slice j ((k + 1) * 8) (pl.length - (k + 1)) (.m (k + 1)) else .sliceE j ((k + 1) * 8) (k + 1)) (fun h2 hh => ?_) ?_
      · show plainV (evSlice Try.prog h2 24 (.slice j 0 pl.length (.m 0)) (some (.int .i64 ((k : Int) + 1))) none none) h2 = _
        rw [show (k : Int) + 1 = ((k + 1 : Nat) : Int) from rfl, slM8_from (hgr hh (List.mem_cons_self ..)) (enF_len leC_len pl) (by omega)]
        rfl
      refine WO.setV (A := []) (i := j) (obj := .row (enF leC pl) 38 8) (obj' := .row (enF leC (pl.take k ++ pl.drop (k + 1)) ++ (enF leC pl).drop ((pl.length - 1) * 8)) 38 8) (v := .slice j 0 (k + (pl.length - (k + 1))) (.m 0)) rfl rfl (fun _ => by decide +kernel) rfl (fun h2 hh hs => ?_) ?_
      · have hg := hgr hh (List.mem_cons_self ..)
        have hkn : knownN h2 j 8 = pl.length := by
          unfold knownN
          simp [hg, enF_len leC_len]
        by_cases hlt : k + 1 < pl.length
        · rw [if_pos hlt]
          have hld : h2.loadN j ((k + 1) * 8) ((pl.length - (k + 1)) * 8) = some (enF leC (pl.drop (k + 1))) := by
            have := EH.loadN leC_len (by omega) (EH.drp (k := k + 1) (hmv hh (List.mem_cons_self ..))) (by rw [List.length_drop]; omega)
            rwa [List.length_drop, Nat.zero_add] at this
          rw [AppQ.ev (e := 38) (sz := 8) (n := pl.length - (k + 1)) (new := enF leC (pl.drop (k + 1))) ⟨rfl, rfl, rfl, rfl, rfl, rfl, rfl, rfl, rfl, Nat.ble_eq_true_of_le (by omega), by simp [enF_len leC_len], enF_ok fun x _ => rfl⟩ rfl hld]
          simp only [evOnto, hkn, Nat.add_zero, Nat.zero_add]
          rw [if_pos (by omega), storeN_row hg hs hcut]
          rfl
        · have hke : k + 1 = pl.length := by omega
          rw [if_neg hlt]
          rw [App0.ev (e := 38) (sz := 8) ⟨rfl, rfl, rfl, rfl, rfl, rfl, rfl, rfl, rfl⟩ rfl rfl]
          have hd0 : pl.drop (k + 1) = [] := List.drop_eq_nil_of_le (by omega)
          rw [hd0] at hcut hs
          rw [hd0]
          simp only [evOnto, hkn, Nat.add_zero, Nat.zero_add]
          rw [if_pos (by omega), show h2.storeN j (k * 8) [] = _ from storeN_row (xs := []) hg hs hcut, show pl.length - (k + 1) = 0 by omega]
          rfl
      refine St.assign ?_
      refine WO.nil ?_
      refine WK.le ?_ ?_ (kont (j, _, _) hq)
      · simp only [hml]
        exact ⟨rfl, rfl, trivial⟩
      · (repeat (first | exact List.Sublist.refl _ | exact List.nil_sublist _ | apply List.Sublist.cons_cons | apply List.Sublist.cons))
    refine WK.seq ?_
    refine WK.region ?_
    refine St.bin ?_
    refine St.assign ?_
    refine WO.nil ?_
    refine St.splitC (fun q1 => ?_) (fun q1 => ?_)
    · refine WK.region ?_
      refine St.move ?_
      refine St.move ?_
      refine St.move ?_
      refine St.at ?_
      refine St.fieldAddr ?_
      refine St.store0 (v := .int .i64 by_) (obj' := .row (enF leC (pl.set k { nthE pl k with fr := by_ }) ++ []) 38 8) (hv := by
        show AObj.store Try.prog (AObj.row (enF leC pl) 38 8) 3 (0 + (k : Int).toNat * 8 + 4) _ = _
        rw [hki]
        exact hset { nthE pl k with fr := by_ } 4 (.int .i64 by_) (by omega) rfl rfl rfl _ (by kernel_rfl)) ?_
      refine WO.nil ?_
      have hln2 : (pl.set k { nthE pl k with fr := by_ }).length = pl.length := List.length_set
      have hq := hchg0 (pl.set k { nthE pl k with fr := by_ }) (by omega)
      refine WK.le ?_ ?_ (kont (j, _, []) hq)
      · simp only [hln2]
        exact ⟨rfl, rfl, trivial⟩
      · (repeat (first | exact List.Sublist.refl _ | exact List.nil_sublist _ | apply List.Sublist.cons_cons | apply List.Sublist.cons))
    refine WK.seq ?_
    refine WK.region ?_
    refine St.bin ?_
    refine St.assign ?_
    refine WO.nil ?_
    refine St.splitC (fun q1 => ?_) (fun q1 => ?_)
    · refine WK.region ?_
      refine St.move ?_
      refine St.move ?_
      refine St.move ?_
      refine St.at ?_
      refine St.fieldAddr ?_
      refine St.store0 (v := .int .i64 by_) (obj' := .row (enF leC (pl.set k { nthE pl k with rd := by_ }) ++ []) 38 8) (hv := by
        show AObj.store Try.prog (AObj.row (enF leC pl) 38 8) 3 (0 + (k : Int).toNat * 8 + 3) _ = _
        rw [hki]
        exact hset { nthE pl k with rd := by_ } 3 (.int .i64 by_) (by omega) rfl rfl rfl _ (by kernel_rfl)) ?_
      refine WO.nil ?_
      have hln2 : (pl.set k { nthE pl k with rd := by_ }).length = pl.length := List.length_set
      have hq := hchg0 (pl.set k { nthE pl k with rd := by_ }) (by omega)
      refine WK.le ?_ ?_ (kont (j, _, []) hq)
      · simp only [hln2]
        exact ⟨rfl, rfl, trivial⟩
      · (repeat (first | exact List.Sublist.refl _ | exact List.nil_sublist _ | apply List.Sublist.cons_cons | apply List.Sublist.cons))
    refine WK.seq ?_
    refine WK.region ?_
    refine St.bin ?_
    refine St.assign ?_
    refine WO.nil ?_
    refine St.splitC (fun q1 => ?_) (fun q1 => ?_)
    · refine WK.region ?_
      refine St.move ?_
      refine St.move ?_
      refine St.move ?_
      refine St.at ?_
      refine St.fieldAddr ?_
      refine St.store0 (v := .int .i64 by_) (obj' := .row (enF leC (pl.set k { nthE pl k with fi := by_ }) ++ []) 38 8) (hv := by
        show AObj.store Try.prog (AObj.row (enF leC pl) 38 8) 3 (0 + (k : Int).toNat * 8 + 7) _ = _
        rw [hki]
        exact hset { nthE pl k with fi := by_ } 7 (.int .i64 by_) (by omega) rfl rfl rfl _ (by kernel_rfl)) ?_
      refine WO.nil ?_
      have hln2 : (pl.set k { nthE pl k with fi := by_ }).length = pl.length := List.length_set
      have hq := hchg0 (pl.set k { nthE pl k with fi := by_ }) (by omega)
      refine WK.le ?_ ?_ (kont (j, _, []) hq)
      · simp only [hln2]
        exact ⟨rfl, rfl, trivial⟩
      · (repeat (first | exact List.Sublist.refl _ | exact List.nil_sublist _ | apply List.Sublist.cons_cons | apply List.Sublist.cons))
    refine WK.seq ?_
    refine WK.region ?_
    refine St.bin ?_
    refine St.assign ?_
    refine WO.nil ?_
    refine St.splitC (fun q1 => ?_) (fun q1 => ?_)
    · refine WK.region ?_
      refine St.move ?_
      refine St.move ?_
      refine St.move ?_
      refine St.at ?_
      refine St.loadX (fun h2 hh => ((hmv hh (List.mem_cons_self ..)).at_ (z := (k : Int)) (n := k) (by omega) hkl).agg (by simp [leC]) rfl rfl rfl) ?_
      refine St.mkS (fun j106 hj106 => ?_)
      refine St.appR (A := [_]) (i := j) (old := enF leC pl) (len := pl.length) (new := leC (nthE pl k)) rfl (fun j2 hj2 => ?_) ⟨rfl, rfl, rfl, rfl, rfl, rfl, rfl, rfl, rfl, rfl, rfl, rfl⟩ (List.mem_cons_self ..) rfl (enF_len leC_len pl) (by omega) (by omega)
      refine St.assign ?_
      refine WO.nil ?_
      have hq := hchg0 (pl ++ [nthE pl k]) (by rw [List.length_append, List.length_singleton]; omega)
      have hrw : enF leC pl ++ leC (nthE pl k) = enF leC (pl ++ [nthE pl k]) := by rw [enF_app, enF_one]
      have hln2 : (pl ++ [nthE pl k]).length = pl.length + 1 := by simp
      rw [hrw]
      refine WK.le ?_ ?_ (kont (j2, _, []) hq)
      · simp only [hln2]
        exact ⟨rfl, rfl, trivial⟩
      · rw [List.append_nil]
        (repeat (first | exact List.Sublist.refl _ | exact List.nil_sublist _ | apply List.Sublist.cons_cons | apply List.Sublist.cons))
    · refine WK.skip ?_
      refine WK.le ?_ ?_ (kont (j, pl, []) (hchg0 pl (by omega)))
      · exact ⟨rfl, rfl, trivial⟩
      · rw [List.append_nil]
        (repeat (first | exact List.Sublist.refl _ | exact List.nil_sublist _ | apply List.Sublist.cons_cons | apply List.Sublist.cons))
  obtain ⟨j', m, r⟩ := x
  simp only at hx ⊢
  obtain ⟨e1, e2⟩ := chk_eq c m
  (refine WK.blk ?_; refine WK.seq ?_; refine WK.region ?_; refine St.load ?_; refine St.move ?_)
  refine St.call (fun _ => rfl) (fun h2 hh => checkR_con h2 hh.gd c _ m (hx.s hh (List.mem_cons_self ..)) (fun _ => hx.le)) ?_
  (refine St.move ?_; refine St.extract ?_; refine St.extract ?_; refine St.alloc fun _ _ => ?_; refine St.store0 ?_; refine St.assign ?_; refine WO.nil ?_; refine WK.seq ?_; refine WK.region ?_; refine St.load ?_; refine St.move ?_)
  refine St.call (v := .tup [.agg (rlC (chkR c m)), .int .i64 (chkE c m)]) (fun _ => rfl) (fun h2 hh => by
    have := rcheckR_con h2 hh.gd c _ m (hx.s hh (List.mem_cons_of_mem _ (List.mem_cons_self ..))).1 (by have := hx.le; omega)
    rwa [← e1, ← e2] at this) ?_
  generalize chkR c m = cR2
  generalize chkE c m = cE2
  (refine St.move ?_; refine St.extract ?_; refine St.extract ?_; refine St.alloc fun _ _ => ?_; refine St.store0 ?_; refine St.assign ?_; refine WO.nil ?_; refine WK.seq ?_; refine WK.region ?_)
  refine St.call (fun _ => rfl) (fun h2 hh => sanity_con h2 hh.gd) ?_
  (refine St.move ?_; refine St.load ?_; refine St.load ?_)
  refine St.binX (r := .bool true) ((rl_eql _ _).trans (by simp)) rfl rfl ?_
  (refine St.pickT ?_; refine St.move ?_; refine St.move ?_; refine St.move ?_; refine St.bin ?_; refine St.pickT ?_; refine St.assign ?_; refine WO.nil ?_)
  refine St.ret (by first | exact .tmp .nil | exact .cell .nil | exact .cell (.tmp .nil) | exact .tmp (.tmp .nil) | exact .cell (.cell .nil) | exact .tmp (.cell .nil) | exact .nil | exact .tmp (.cell (.tmp .nil)) | exact .cell (.tmp (.tmp .nil)) | exact .cell (.cell (.tmp .nil)) | exact .tmp (.tmp (.tmp .nil)) | exact .tmp (.tmp (.tmp (.tmp .nil))) | exact .cell (.cell (.cell .nil))) ?_
  simp [oneOf]
end Go.Proofs.Ytilpinmbngikgaa
