/- Layer 9: the specification's lawful, Lawful. -/
import Derived.Test.YtehmkhlcejcniaaKg
namespace Go.Proofs.Ytehmkhlcejcniaa
open Go.Proofs.Ytehmkhlcejcniaa.Ev

set_option maxRecDepth 100000 in
set_option maxHeartbeats 64000000 in
theorem rlawful_con (h : Heap) (g : Gd h) (c : Int) (v : AV) (l : List Le) (x : Le) (hv : LeV h v l) (hl : l.length ≤ 1000000) (hc : 3 ≤ c ∧ c ≤ 7) (hkd : x.kd = 1 ∨ x.kd = 2 ∨ x.kd = 3 ∨ x.kd = 4) : Con Try.prog Bs 26 [.agg [.int .i64 c], v, .agg (leC x)] h [] (.bool (lawR c l x)) [] := by
  refine Con.start rfl Try.func26 rfl rfl Try.ntmps26 rfl rfl g ?_
  (refine WK.seq ?_; refine WK.region ?_; refine St.box fun _ _ => ?_; refine St.box fun _ _ => ?_; refine St.assign ?_; refine WO.nil ?_; refine WK.seq ?_; refine WK.seq ?_; refine WK.region ?_; refine St.assign ?_; refine WO.nil ?_; refine WK.block ?_)
  rename_i p3 hp3 p5 hp5
  refine WK.inv (ι := Nat) (fun z => [(1, v), (3, .ptr p3 0), (5, .ptr p5 0), (7, .int .i64 z)]) (fun _ => [(p5, .cells (leC x) 38), (p3, .cells [.int .i64 c] 23)]) (fun z => z ≤ l.length ∧ ∀ i, i < z → alikeB (nthE l i) x = false) (fun z => l.length - z) 0 ⟨Nat.zero_le _, fun i hi => absurd hi (by omega)⟩ ⟨rfl, rfl, rfl, rfl, trivial⟩ (by (repeat (first | exact List.Sublist.refl _ | exact List.nil_sublist _ | apply List.Sublist.cons_cons | apply List.Sublist.cons))) ?_
  rintro k ⟨hkl, hno⟩ ih
  (refine WK.seq ?_; refine WK.seq ?_; refine WK.region ?_; refine St.move ?_; refine St.move ?_)
  refine St.lenG rfl hv.llen ?_
  (refine St.bin ?_; refine WO.nil ?_)
  refine St.splitC (fun hc1 => ?_) (fun hc1 => ?_)
  · have hlt : k < l.length := by simp at hc1; omega
    have hv' := hv
    obtain ⟨b, off, m, rfl, hk⟩ := hv'.ne (by omega)
    (refine WK.skip ?_; refine WK.seq ?_; refine WK.block ?_; refine WK.seq ?_; refine WK.regionD ?_; refine St.move ?_; refine St.move ?_)
    refine St.at ?_
    refine St.loadX (fun h2 hh => ((hk.vw hh).at_ (z := (k : Int)) (n := k) (by omega) hlt).agg (by simp [leC]) rfl rfl rfl) ?_
    (refine St.load ?_)
    refine St.call (fun _ => rfl) (fun h2 hh => ralike_con h2 hh.gd (nthE l k) x) ?_
    cases ha : alikeB (nthE l k) x
    · (refine St.assign ?_; refine WO.nil ?_; refine WK.seq ?_; refine WK.region ?_; refine St.move ?_; refine WO.nil ?_; refine WK.condF ?_; refine WK.skip ?_; refine WK.blk ?_; refine WK.region ?_; refine St.move ?_; refine St.binI ?_; refine St.assign ?_; refine WO.nil ?_)
      refine WK.le ?_ (by (repeat (first | exact List.Sublist.refl _ | exact List.nil_sublist _ | apply List.Sublist.cons_cons | apply List.Sublist.cons))) (ih (k + 1) ⟨hlt, less_succ' hno ha⟩ (by omega))
      exact ⟨rfl, rfl, rfl, rfl, trivial⟩
    · (refine St.assign ?_; refine WO.nil ?_; refine WK.seq ?_; refine WK.region ?_; refine St.move ?_; refine WO.nil ?_; refine WK.condT ?_; refine WK.seq ?_; refine WK.region ?_; refine St.assign ?_; refine WO.nil ?_)
      refine St.ret (by first | exact .tmp .nil | exact .cell .nil | exact .cell (.tmp .nil) | exact .tmp (.tmp .nil) | exact .cell (.cell .nil) | exact .tmp (.cell .nil) | exact .nil | exact .tmp (.cell (.tmp .nil)) | exact .cell (.tmp (.tmp .nil)) | exact .cell (.cell (.tmp .nil)) | exact .tmp (.tmp (.tmp .nil)) | exact .cell (.cell (.cell .nil))) ?_
      unfold lawR
      rw [if_pos (List.any_eq_true.2 ⟨nthE l k, nthE_mem hlt, ha⟩)]
      rfl
  have : k = l.length := by simp at hc1; omega
  subst this
  clear ih
  have hno2 : l.any (fun y => alikeB y x) = false := by
    have := any_take_none (t := fun y => alikeB y x) (Nat.le_refl l.length) hno
    rwa [List.take_length] at this
  have hl0 : lawR c l x = if x.kd = 1 then true else if x.kd = 2 then canPr l x else if x.kd = 3 then (if thereB l 3 x.cs x.rd = true then false else propR c (prR l x.cs x.rd c.toNat) x.fi) else prB l x.cs x.rd && (decide (prF l x.cs x.rd = x.fi) && (decide (wR l x.fr x.cs ≤ x.rd) && decide (vR l x.fr x.cs < x.rd))) := by
    unfold lawR
    rw [if_neg (by rw [hno2]; simp)]
  rw [hl0]
  clear hl0
  (refine WK.exit ?_; refine WK.seq ?_; refine WK.seq ?_; refine WK.region ?_; refine St.fieldAddr ?_; refine St.load ?_; refine St.bin ?_; refine WO.nil ?_)
  refine St.splitC (fun q1 => ?_) (fun q1 => ?_)
  · have k1 : x.kd = 1 := by simpa using q1
    (refine WK.seq ?_; refine WK.region ?_; refine St.assign ?_; refine WO.nil ?_)
    refine St.ret (by first | exact .tmp .nil | exact .cell .nil | exact .cell (.tmp .nil) | exact .tmp (.tmp .nil) | exact .cell (.cell .nil) | exact .tmp (.cell .nil) | exact .nil | exact .tmp (.cell (.tmp .nil)) | exact .cell (.tmp (.tmp .nil)) | exact .cell (.cell (.tmp .nil)) | exact .tmp (.tmp (.tmp .nil)) | exact .cell (.cell (.cell .nil))) ?_
    rw [if_pos k1]
    rfl
  have k1 : ¬ x.kd = 1 := by simpa using q1
  rw [if_neg k1]
  (refine WK.skip ?_; refine WK.seq ?_; refine WK.region ?_; refine St.move ?_; refine St.fieldAddr ?_; refine St.load ?_; refine St.fieldAddr ?_; refine St.load ?_)
  refine St.call (fun _ => rfl) (fun h2 hh => last_con h2 hh.gd v l x.fr x.cs (hv.vw hh) hl) ?_
  (refine St.move ?_; refine St.extract ?_; refine St.extract ?_; refine St.assign ?_; refine St.assign ?_; refine WO.nil ?_; refine WK.seq ?_; refine WK.seq ?_; refine WK.region ?_; refine St.fieldAddr ?_; refine St.load ?_; refine St.bin ?_; refine WO.nil ?_)
  refine St.splitC (fun q2 => ?_) (fun q2 => ?_)
  · have k2 : x.kd = 2 := by simpa using q2
    rw [if_pos k2]
    (refine WK.seq ?_; refine WK.region ?_; refine St.move ?_; refine St.fieldAddr ?_; refine St.load ?_; refine St.fieldAddr ?_; refine St.load ?_)
    refine St.call (fun _ => rfl) (fun h2 hh => there_con h2 hh.gd v l 1 x.cs x.rd (hv.vw hh) hl) ?_
    cases ht2 : thereB l 1 x.cs x.rd
    · (refine St.assign ?_; refine WO.nil ?_; refine WK.seq ?_; refine WK.regionD ?_; refine St.move ?_; refine St.move ?_; refine St.skip ?_; refine St.skip ?_; refine St.skip ?_; refine St.skip ?_; refine St.skip ?_; refine St.skip ?_; refine St.skip ?_; refine St.skip ?_; refine St.skip ?_; refine St.pickF ?_; refine St.move ?_; refine St.skip ?_; refine St.skip ?_; refine St.skip ?_; refine St.skip ?_; refine St.pickF ?_; refine St.move ?_; refine St.skip ?_; refine St.skip ?_; refine St.skip ?_; refine St.skip ?_; refine St.pickF ?_; refine St.assign ?_; refine WO.nil ?_)
      refine St.ret (by first | exact .tmp .nil | exact .cell .nil | exact .cell (.tmp .nil) | exact .tmp (.tmp .nil) | exact .cell (.cell .nil) | exact .tmp (.cell .nil) | exact .nil | exact .tmp (.cell (.tmp .nil)) | exact .cell (.tmp (.tmp .nil)) | exact .cell (.cell (.tmp .nil)) | exact .tmp (.tmp (.tmp .nil)) | exact .cell (.cell (.cell .nil))) ?_
      simp [oneOf, canPr, ht2]
    (refine St.assign ?_; refine WO.nil ?_; refine WK.seq ?_; refine WK.regionD ?_; refine St.move ?_; refine St.move ?_; refine St.move ?_; refine St.fieldAddr ?_; refine St.load ?_; refine St.fieldAddr ?_; refine St.load ?_)
    refine St.call (fun _ => rfl) (fun h2 hh => spoken_con h2 hh.gd v l x.fr x.cs (hv.vw hh) hl) ?_
    (refine St.fieldAddr ?_; refine St.load ?_; refine St.bin ?_; refine St.pickT ?_; refine St.move ?_)
    refine St.split (fun q => ?_) (fun q => ?_)
    rotate_left
    · have e1 : ¬ wR l x.fr x.cs < x.rd := by simp at q; omega
      (refine St.skip ?_; refine St.skip ?_; refine St.skip ?_; refine St.skip ?_; refine St.pickF ?_; refine St.move ?_; refine St.skip ?_; refine St.skip ?_; refine St.skip ?_; refine St.skip ?_; refine St.pickF ?_; refine St.assign ?_; refine WO.nil ?_)
      refine St.ret (by first | exact .tmp .nil | exact .cell .nil | exact .cell (.tmp .nil) | exact .tmp (.tmp .nil) | exact .cell (.cell .nil) | exact .tmp (.cell .nil) | exact .nil | exact .tmp (.cell (.tmp .nil)) | exact .cell (.tmp (.tmp .nil)) | exact .cell (.cell (.tmp .nil)) | exact .tmp (.tmp (.tmp .nil)) | exact .cell (.cell (.cell .nil))) ?_
      simp [oneOf, canPr, e1]
    have e1 : wR l x.fr x.cs < x.rd := by simpa using q
    (refine St.fieldAddr ?_; refine St.load ?_; refine St.move ?_; refine St.bin ?_; refine St.pickT ?_; refine St.move ?_)
    refine St.split (fun q => ?_) (fun q => ?_)
    rotate_left
    · have e2 : ¬ x.vo = vR l x.fr x.cs := by simpa using q
      (refine St.skip ?_; refine St.skip ?_; refine St.skip ?_; refine St.skip ?_; refine St.pickF ?_; refine St.assign ?_; refine WO.nil ?_)
      refine St.ret (by first | exact .tmp .nil | exact .cell .nil | exact .cell (.tmp .nil) | exact .tmp (.tmp .nil) | exact .cell (.cell .nil) | exact .tmp (.cell .nil) | exact .nil | exact .tmp (.cell (.tmp .nil)) | exact .cell (.tmp (.tmp .nil)) | exact .cell (.cell (.tmp .nil)) | exact .tmp (.tmp (.tmp .nil)) | exact .cell (.cell (.cell .nil))) ?_
      simp [oneOf, canPr, e2]
    have e2 : x.vo = vR l x.fr x.cs := by simpa using q
    (refine St.fieldAddr ?_; refine St.load ?_; refine St.move ?_; refine St.bin ?_; refine St.pickT ?_; refine St.assign ?_; refine WO.nil ?_)
    refine St.ret (by first | exact .tmp .nil | exact .cell .nil | exact .cell (.tmp .nil) | exact .tmp (.tmp .nil) | exact .cell (.cell .nil) | exact .tmp (.cell .nil) | exact .nil | exact .tmp (.cell (.tmp .nil)) | exact .cell (.tmp (.tmp .nil)) | exact .cell (.cell (.tmp .nil)) | exact .tmp (.tmp (.tmp .nil)) | exact .cell (.cell (.cell .nil))) ?_
    simp [oneOf, canPr, ht2, e1, e2]
    rw [Bool.eq_iff_iff]
    simp
  have k2 : ¬ x.kd = 2 := by simpa using q2
  rw [if_neg k2]
  (refine WK.skip ?_; refine WK.seq ?_; refine WK.seq ?_; refine WK.region ?_; refine St.fieldAddr ?_; refine St.load ?_; refine St.bin ?_; refine WO.nil ?_)
  refine St.splitC (fun q3 => ?_) (fun q3 => ?_)
  · have k3 : x.kd = 3 := by simpa using q3
    rw [if_pos k3]
    (refine WK.seq ?_; refine WK.region ?_; refine St.move ?_; refine St.fieldAddr ?_; refine St.load ?_; refine St.fieldAddr ?_; refine St.load ?_)
    refine St.call (fun _ => rfl) (fun h2 hh => there_con h2 hh.gd v l 3 x.cs x.rd (hv.vw hh) hl) ?_
    cases ht3 : thereB l 3 x.cs x.rd
    rotate_left
    · (refine St.assign ?_; refine WO.nil ?_; refine WK.seq ?_; refine WK.regionD ?_; refine St.move ?_; refine St.un ?_; refine St.move ?_; refine St.skip ?_; refine St.skip ?_; refine St.skip ?_; refine St.skip ?_; refine St.skip ?_; refine St.skip ?_; refine St.skip ?_; refine St.skip ?_; refine St.skip ?_; refine St.skip ?_; refine St.skip ?_; refine St.pickF ?_; refine St.assign ?_; refine WO.nil ?_)
      refine St.ret (by first | exact .tmp .nil | exact .cell .nil | exact .cell (.tmp .nil) | exact .tmp (.tmp .nil) | exact .cell (.cell .nil) | exact .tmp (.cell .nil) | exact .nil | exact .tmp (.cell (.tmp .nil)) | exact .cell (.tmp (.tmp .nil)) | exact .cell (.cell (.tmp .nil)) | exact .tmp (.tmp (.tmp .nil)) | exact .cell (.cell (.cell .nil))) ?_
      rfl
    rw [if_neg (by simp)]
    (refine St.assign ?_; refine WO.nil ?_; refine WK.seq ?_; refine WK.regionD ?_; refine St.move ?_; refine St.un ?_; refine St.move ?_; refine St.load ?_; refine St.load ?_; refine St.move ?_; refine St.fieldAddr ?_; refine St.load ?_; refine St.fieldAddr ?_; refine St.load ?_)
    have hpl := prR_len (l := l) (cs := x.cs) (rd := x.rd) (k := c.toNat)
    refine StD.callR (fun _ => rfl) (fun h2 hh2 => rpromises_con h2 hh2.gd c v l x.cs x.rd (hv.vw hh2) hl hc) ?_
    intro u L hu
    (refine St.fieldAddr ?_; refine St.load ?_)
    refine StD.callV (L.map (fun q => (10, q))) (v := .bool (propR c (prR l x.cs x.rd c.toNat) x.fi)) (fun _ => rfl) (fun y hy => ?_) (fun h2 hh2 => ?_) ?_
    · refine ⟨List.mem_append_left _ hy, ?_⟩
      obtain ⟨q, _, rfl⟩ := List.mem_map.1 hy
      exact show maskAt _ _ 10 = true by decide +kernel
    · exact proposable_con h2 hh2.gd c u (prR l x.cs x.rd c.toNat) x.fi (en_v leC_len hu rfl hh2 (fun y hy => List.mem_append_left _ (by rw [List.map_map]; exact List.mem_map.2 ⟨y, hy, rfl⟩))) (by omega)
    generalize propR c (prR l x.cs x.rd c.toNat) x.fi = pr
    (refine St.pickT ?_; refine St.assign ?_)
    refine WO.nilG ?_
    skip
    refine St.ret (by first | exact .tmp .nil | exact .cell .nil | exact .cell (.tmp .nil) | exact .tmp (.tmp .nil) | exact .cell (.cell .nil) | exact .tmp (.cell .nil) | exact .nil | exact .tmp (.cell (.tmp .nil)) | exact .cell (.tmp (.tmp .nil)) | exact .cell (.cell (.tmp .nil)) | exact .tmp (.tmp (.tmp .nil)) | exact .cell (.cell (.cell .nil))) ?_
    simp [oneOf]
  have k3 : ¬ x.kd = 3 := by simpa using q3
  rw [if_neg k3]
  (refine WK.skip ?_; refine WK.seq ?_; refine WK.region ?_; refine St.move ?_; refine St.fieldAddr ?_; refine St.load ?_; refine St.fieldAddr ?_; refine St.load ?_)
  refine St.call (fun _ => rfl) (fun h2 hh => proposal_con h2 hh.gd v l x.cs x.rd (hv.vw hh) hl) ?_
  cases hb : prB l x.cs x.rd
  · (refine St.move ?_; refine St.extract ?_; refine St.extract ?_; refine St.assign ?_; refine St.assign ?_; refine WO.nil ?_; refine WK.seq ?_; refine WK.regionD ?_; refine St.move ?_; refine St.move ?_; refine St.skip ?_; refine St.skip ?_; refine St.skip ?_; refine St.skip ?_; refine St.pickF ?_; refine St.move ?_; refine St.skip ?_; refine St.skip ?_; refine St.skip ?_; refine St.skip ?_; refine St.skip ?_; refine St.skip ?_; refine St.skip ?_; refine St.skip ?_; refine St.skip ?_; refine St.pickF ?_; refine St.move ?_; refine St.skip ?_; refine St.skip ?_; refine St.skip ?_; refine St.skip ?_; refine St.pickF ?_; refine St.assign ?_; refine WO.nil ?_)
    refine St.ret (by first | exact .tmp .nil | exact .cell .nil | exact .cell (.tmp .nil) | exact .tmp (.tmp .nil) | exact .cell (.cell .nil) | exact .tmp (.cell .nil) | exact .nil | exact .tmp (.cell (.tmp .nil)) | exact .cell (.tmp (.tmp .nil)) | exact .cell (.cell (.tmp .nil)) | exact .tmp (.tmp (.tmp .nil)) | exact .cell (.cell (.cell .nil))) ?_
    rfl
  (refine St.move ?_; refine St.extract ?_; refine St.extract ?_; refine St.assign ?_; refine St.assign ?_; refine WO.nil ?_; refine WK.seq ?_; refine WK.regionD ?_; refine St.move ?_; refine St.move ?_; refine St.move ?_; refine St.fieldAddr ?_; refine St.load ?_; refine St.bin ?_; refine St.pickT ?_; refine St.move ?_)
  refine St.split (fun q => ?_) (fun q => ?_)
  rotate_left
  · have e1 : ¬ prF l x.cs x.rd = x.fi := by simpa using q
    (refine St.skip ?_; refine St.skip ?_; refine St.skip ?_; refine St.skip ?_; refine St.skip ?_; refine St.skip ?_; refine St.skip ?_; refine St.skip ?_; refine St.skip ?_; refine St.pickF ?_; refine St.move ?_; refine St.skip ?_; refine St.skip ?_; refine St.skip ?_; refine St.skip ?_; refine St.pickF ?_; refine St.assign ?_; refine WO.nil ?_)
    refine St.ret (by first | exact .tmp .nil | exact .cell .nil | exact .cell (.tmp .nil) | exact .tmp (.tmp .nil) | exact .cell (.cell .nil) | exact .tmp (.cell .nil) | exact .nil | exact .tmp (.cell (.tmp .nil)) | exact .cell (.tmp (.tmp .nil)) | exact .cell (.cell (.tmp .nil)) | exact .tmp (.tmp (.tmp .nil)) | exact .cell (.cell (.cell .nil))) ?_
    simp [oneOf, e1]
  have e1 : prF l x.cs x.rd = x.fi := by simpa using q
  (refine St.move ?_; refine St.fieldAddr ?_; refine St.load ?_; refine St.fieldAddr ?_; refine St.load ?_)
  refine St.call (fun _ => rfl) (fun h2 hh => spoken_con h2 hh.gd v l x.fr x.cs (hv.vw hh) hl) ?_
  (refine St.fieldAddr ?_; refine St.load ?_; refine St.bin ?_; refine St.pickT ?_; refine St.move ?_)
  refine St.split (fun q => ?_) (fun q => ?_)
  rotate_left
  · have e2 : ¬ wR l x.fr x.cs ≤ x.rd := by simp at q; omega
    (refine St.skip ?_; refine St.skip ?_; refine St.skip ?_; refine St.skip ?_; refine St.pickF ?_; refine St.assign ?_; refine WO.nil ?_)
    refine St.ret (by first | exact .tmp .nil | exact .cell .nil | exact .cell (.tmp .nil) | exact .tmp (.tmp .nil) | exact .cell (.cell .nil) | exact .tmp (.cell .nil) | exact .nil | exact .tmp (.cell (.tmp .nil)) | exact .cell (.tmp (.tmp .nil)) | exact .cell (.cell (.tmp .nil)) | exact .tmp (.tmp (.tmp .nil)) | exact .cell (.cell (.cell .nil))) ?_
    simp [oneOf, e2]
  have e2 : wR l x.fr x.cs ≤ x.rd := by simpa using q
  (refine St.move ?_; refine St.fieldAddr ?_; refine St.load ?_; refine St.bin ?_; refine St.pickT ?_; refine St.assign ?_; refine WO.nil ?_)
  refine St.ret (by first | exact .tmp .nil | exact .cell .nil | exact .cell (.tmp .nil) | exact .tmp (.tmp .nil) | exact .cell (.cell .nil) | exact .tmp (.cell .nil) | exact .nil | exact .tmp (.cell (.tmp .nil)) | exact .cell (.tmp (.tmp .nil)) | exact .cell (.cell (.tmp .nil)) | exact .tmp (.tmp (.tmp .nil)) | exact .cell (.cell (.cell .nil))) ?_
  simp [oneOf, e1, e2]
/-- letter i is not lawful behind those before it -/
def badS (c : Int) (l : List Le) (i : Nat) : Bool := !lawR c (l.take i) (atL l i)
set_option maxRecDepth 100000 in
set_option maxHeartbeats 16000000 in
theorem rLawful_con (h : Heap) (g : Gd h) (c : Int) (v : AV) (l : List Le) (hv : LeA h v l) : Con Try.prog Bs 12 [.agg [.int .i64 c], v] h [] (.tup [.int .i64 (if errL c l ≠ 0 then 0 else fstN (badS c l) l.length 0), .bool (if errL c l ≠ 0 then false else decide (fstN (badS c l) l.length 0 < 0)), .int .i64 (errL c l)]) [] := by
  refine Con.start rfl Try.func12 rfl rfl Try.ntmps12 rfl rfl g ?_
  (refine WK.seq ?_; refine WK.region ?_; refine St.box fun _ _ => ?_; refine St.assign ?_; refine St.assign ?_; refine St.assign ?_; refine WO.nil ?_; refine WK.seq ?_; refine WK.region ?_; refine St.load ?_; refine St.move ?_)
  rename_i p2 hp2
  refine St.call (fun _ => rfl) (fun h2 hh => listed_con h2 hh.gd c v l (hv.eV.vw hh)) ?_
  (refine St.assign ?_; refine WO.nil ?_; refine WK.seq ?_; refine WK.seq ?_; refine WK.region ?_; refine St.move ?_; refine St.bin ?_; refine WO.nil ?_)
  refine St.splitC (fun q => ?_) (fun q => ?_)
  · have hne : errL c l ≠ 0 := by simpa using q
    (refine WK.seq ?_; refine WK.region ?_; refine St.move ?_; refine St.assign ?_; refine St.assign ?_; refine St.assign ?_; refine WO.nil ?_)
    refine St.ret (by first | exact .tmp .nil | exact .cell .nil | exact .cell (.tmp .nil) | exact .tmp (.tmp .nil) | exact .cell (.cell .nil) | exact .tmp (.cell .nil) | exact .nil | exact .tmp (.cell (.tmp .nil)) | exact .cell (.tmp (.tmp .nil)) | exact .cell (.cell (.tmp .nil)) | exact .tmp (.tmp (.tmp .nil)) | exact .cell (.cell (.cell .nil))) ?_
    rw [if_pos hne, if_pos hne]
    rfl
  have he : errL c l = 0 := by simpa using q
  obtain ⟨hcr, hl, hfm⟩ := errL_ok he
  have hcb := crt_bd hcr
  rw [if_neg (by simp [he]), if_neg (by simp [he]), he]
  (refine WK.skip ?_; refine WK.seq ?_; refine WK.seq ?_; refine WK.region ?_; refine St.assign ?_; refine WO.nil ?_; refine WK.block ?_)
  refine WK.inv (ι := Nat) (fun z => [(1, v), (2, .ptr p2 0), (8, .int .i64 z)]) (fun _ => [(p2, .cells [.int .i64 c] 23)]) (fun z => z ≤ l.length ∧ ∀ i, i < z → badS c l i = false) (fun z => l.length - z) 0 ⟨Nat.zero_le _, fun i hi => absurd hi (by omega)⟩ ⟨rfl, rfl, rfl, trivial⟩ (by (repeat (first | exact List.Sublist.refl _ | exact List.nil_sublist _ | apply List.Sublist.cons_cons | apply List.Sublist.cons))) ?_
  rintro k ⟨hkl, hgood⟩ ih
  (refine WK.seq ?_; refine WK.seq ?_; refine WK.region ?_; refine St.move ?_; refine St.move ?_)
  refine St.lenG rfl (LeV.llen (EA.eV hv)) ?_
  (refine St.bin ?_; refine WO.nil ?_)
  refine St.splitC (fun hc => ?_) (fun hc => ?_)
  · have hlt : k < l.length := by simp at hc; omega
    have hv' := hv
    obtain ⟨b, off, m, rfl, hm, hk⟩ := hv'.ne (by omega)
    have hkd : (nthE l k).kd = 1 ∨ (nthE l k).kd = 2 ∨ (nthE l k).kd = 3 ∨ (nthE l k).kd = 4 := by
      have := hfm _ (nthE_mem hlt)
      unfold frmB kindB at this
      by_cases a1 : (nthE l k).kd = 1
      · exact .inl a1
      · by_cases a2 : (nthE l k).kd = 2
        · exact .inr (.inl a2)
        · by_cases a3 : (nthE l k).kd = 3
          · exact .inr (.inr (.inl a3))
          · simp [a1, a2, a3] at this
            exact .inr (.inr (.inr this.2.1))
    (refine WK.skip ?_; refine WK.seq ?_; refine WK.block ?_; refine WK.seq ?_; refine WK.regionD ?_; refine St.load ?_; refine St.move ?_; refine St.move ?_)
    refine St.sliceG (v := .slice b off k (.k m)) (fun h2 hh => ?_) ?_
    · show plainV (evSlice Try.prog h2 24 (.slice b off l.length (.k m)) none (some (.int .i64 (k : Int))) none) h2 = _
      rw [slK_to (sz := 8) Try.underlying24 (by kernel_rfl) (by omega) hm]
      rfl
    (refine St.move ?_; refine St.move ?_)
    refine St.at ?_
    refine St.loadX (fun h2 hh => ((hk.vw hh).at_ (z := (k : Int)) (n := k) (by omega) hlt).agg (by simp [leC]) rfl rfl rfl) ?_
    refine St.call (fun _ => rfl) (fun h2 hh => rlawful_con h2 hh.gd c (.slice b off k (.k m)) (l.take k) (nthE l k) ((hk.vw hh).takV hkl) (by rw [List.length_take]; omega) hcb hkd) ?_
    have hb : badS c l k = !lawR c (l.take k) (nthE l k) := rfl
    cases hla : lawR c (l.take k) (nthE l k)
    · rw [hla] at hb
      (refine St.assign ?_; refine WO.nil ?_; refine WK.seq ?_; refine WK.region ?_; refine St.move ?_; refine St.un ?_; refine WO.nil ?_; refine WK.condT ?_; refine WK.seq ?_; refine WK.region ?_; refine St.move ?_; refine St.assign ?_; refine St.assign ?_; refine St.assign ?_; refine WO.nil ?_)
      refine St.ret (by first | exact .tmp .nil | exact .cell .nil | exact .cell (.tmp .nil) | exact .tmp (.tmp .nil) | exact .cell (.cell .nil) | exact .tmp (.cell .nil) | exact .nil | exact .tmp (.cell (.tmp .nil)) | exact .cell (.tmp (.tmp .nil)) | exact .cell (.cell (.tmp .nil)) | exact .tmp (.tmp (.tmp .nil)) | exact .cell (.cell (.cell .nil))) ?_
      rw [fstN_yes hlt hgood hb]
      simp [oneOf]
    · rw [hla] at hb
      (refine St.assign ?_; refine WO.nil ?_; refine WK.seq ?_; refine WK.region ?_; refine St.move ?_; refine St.un ?_; refine WO.nil ?_; refine WK.condF ?_; refine WK.skip ?_; refine WK.blk ?_; refine WK.region ?_; refine St.move ?_; refine St.binI ?_; refine St.assign ?_; refine WO.nil ?_)
      refine WK.le ?_ (by (repeat (first | exact List.Sublist.refl _ | exact List.nil_sublist _ | apply List.Sublist.cons_cons | apply List.Sublist.cons))) (ih (k + 1) ⟨hlt, less_succ' hgood hb⟩ (by omega))
      exact ⟨rfl, rfl, rfl, trivial⟩
  · have : k = l.length := by simp at hc; omega
    subst this
    (refine WK.exit ?_; refine WK.seq ?_; refine WK.region ?_; refine St.assign ?_; refine St.assign ?_; refine St.assign ?_; refine WO.nil ?_)
    refine St.ret (by first | exact .tmp .nil | exact .cell .nil | exact .cell (.tmp .nil) | exact .tmp (.tmp .nil) | exact .cell (.cell .nil) | exact .tmp (.cell .nil) | exact .nil | exact .tmp (.cell (.tmp .nil)) | exact .cell (.tmp (.tmp .nil)) | exact .cell (.cell (.tmp .nil)) | exact .tmp (.tmp (.tmp .nil)) | exact .cell (.cell (.cell .nil))) ?_
    rw [fstN_no hgood]
    rfl
end Go.Proofs.Ytehmkhlcejcniaa
