/- Layer 9: CheckRuling. -/
import Derived.Test.YtilpinmbngikgaaGreatRx
import Derived.Test.YtilpinmbngikgaaGreatPv
/- Layer 9: checkAsked; Can. -/
namespace Go.Proofs.YtilpinmbngikgaaGreat
open Go.Proofs.YtilpinmbngikgaaGreat.Ev

def boC (b : Bool) : List AV := [.bool b]
set_option maxRecDepth 100000 in
set_option maxHeartbeats 4000000 in
theorem index2_con (h : Heap) (g : Gd h) (j : Nat) (a b : Bool) (c : ACap) (hv : EH boC 1 h j 0 [a, b]) : Con Tryz.prog Bs 81 [.slice j 0 2 c, .bool false] h [] (.int .i64 (if a = false then 0 else if b = false then 1 else -1)) [] := by
  have h0 := hv 0 (by simp)
  have h1 := hv 1 (by simp)
  refine Con.start rfl Tryz.func81 rfl rfl Tryz.ntmps81 rfl rfl g ?_
  (refine WK.seq ?_; refine WK.region ?_; refine St.assign ?_; refine WO.nil ?_; refine WK.seq ?_; refine WK.seq ?_; refine WK.region ?_; refine St.move ?_; refine St.len ?_; refine St.move ?_; refine WO.nil ?_; refine WK.block ?_)
  refine WK.unroll ?_
  (refine WK.seq ?_; refine WK.region ?_; refine St.bin ?_; refine WO.nil ?_; refine WK.seq ?_; refine WK.condT ?_; refine WK.skip ?_; refine WK.seq ?_; refine WK.block ?_; refine WK.seq ?_; refine WK.region ?_; refine St.move ?_; refine St.assign ?_; refine WO.nil ?_; refine WK.seq ?_; refine WK.region ?_; refine St.move ?_; refine St.move ?_; refine St.move ?_)
  refine St.at ?_
  refine St.loadX (fun h2 hh => (hh.rds (by simp) h0).1.one rfl) ?_
  cases a
  · (refine St.bin ?_; refine WO.nil ?_; refine WK.condT ?_; refine WK.seq ?_; refine WK.region ?_; refine St.move ?_; refine St.assign ?_; refine WO.nil ?_)
    refine St.ret (by first | exact .tmp .nil | exact .cell .nil | exact .cell (.tmp .nil) | exact .tmp (.tmp .nil) | exact .cell (.cell .nil) | exact .tmp (.cell .nil) | exact .nil | exact .tmp (.cell (.tmp .nil)) | exact .cell (.tmp (.tmp .nil)) | exact .cell (.cell (.tmp .nil)) | exact .tmp (.tmp (.tmp .nil)) | exact .tmp (.tmp (.tmp (.tmp .nil))) | exact .cell (.cell (.cell .nil))) ?_
    rfl
  (refine St.bin ?_; refine WO.nil ?_; refine WK.condF ?_; refine WK.skip ?_; refine WK.blk ?_; refine WK.region ?_; refine St.binI ?_; refine St.move ?_; refine WO.nil ?_)
  refine WK.unroll ?_
  (refine WK.seq ?_; refine WK.region ?_; refine St.bin ?_; refine WO.nil ?_; refine WK.seq ?_; refine WK.condT ?_; refine WK.skip ?_; refine WK.seq ?_; refine WK.block ?_; refine WK.seq ?_; refine WK.region ?_; refine St.move ?_; refine St.assign ?_; refine WO.nil ?_; refine WK.seq ?_; refine WK.region ?_; refine St.move ?_; refine St.move ?_; refine St.move ?_)
  refine St.at ?_
  refine St.loadX (fun h2 hh => (hh.rds (by simp) h1).1.one rfl) ?_
  cases b
  · (refine St.bin ?_; refine WO.nil ?_; refine WK.condT ?_; refine WK.seq ?_; refine WK.region ?_; refine St.move ?_; refine St.assign ?_; refine WO.nil ?_)
    refine St.ret (by first | exact .tmp .nil | exact .cell .nil | exact .cell (.tmp .nil) | exact .tmp (.tmp .nil) | exact .cell (.cell .nil) | exact .tmp (.cell .nil) | exact .nil | exact .tmp (.cell (.tmp .nil)) | exact .cell (.tmp (.tmp .nil)) | exact .cell (.cell (.tmp .nil)) | exact .tmp (.tmp (.tmp .nil)) | exact .tmp (.tmp (.tmp (.tmp .nil))) | exact .cell (.cell (.cell .nil))) ?_
    rfl
  (refine St.bin ?_; refine WO.nil ?_; refine WK.condF ?_; refine WK.skip ?_; refine WK.blk ?_; refine WK.region ?_; refine St.binI ?_; refine St.move ?_; refine WO.nil ?_)
  refine WK.unroll ?_
  (refine WK.seq ?_; refine WK.region ?_; refine St.bin ?_; refine WO.nil ?_; refine WK.seq ?_; refine WK.condF ?_; refine WK.exit ?_; refine WK.seq ?_; refine WK.region ?_; refine St.assign ?_; refine WO.nil ?_)
  refine St.ret (by first | exact .tmp .nil | exact .cell .nil | exact .cell (.tmp .nil) | exact .tmp (.tmp .nil) | exact .cell (.cell .nil) | exact .tmp (.cell .nil) | exact .nil | exact .tmp (.cell (.tmp .nil)) | exact .cell (.tmp (.tmp .nil)) | exact .cell (.cell (.tmp .nil)) | exact .tmp (.tmp (.tmp .nil)) | exact .tmp (.tmp (.tmp (.tmp .nil))) | exact .cell (.cell (.cell .nil))) ?_
  rfl
set_option maxRecDepth 100000 in
set_option maxHeartbeats 4000000 in
theorem checkAsked_con (h : Heap) (g : Gd h) (c : Int) (v : AV) (l : List Le) (hv : LeV h v l) (j : Nat) (a b : Bool) (k : ACap) (hb : EH boC 1 h j 0 [a, b]) : Con Tryz.prog Bs 27 [.agg [.int .i64 c], v, .slice j 0 2 k] h [] (.int .i64 (if errL c l ≠ 0 then errL c l else if (a && b) = true then 0 else 1)) [] := by
  refine Con.start rfl Tryz.func27 rfl rfl Tryz.ntmps27 rfl rfl g ?_
  (refine WK.seq ?_; refine WK.region ?_; refine St.box fun _ _ => ?_; refine St.assign ?_; refine WO.nil ?_; refine WK.seq ?_; refine WK.seq ?_; refine WK.region ?_; refine St.load ?_; refine St.move ?_)
  refine St.call (fun _ => rfl) (fun h2 hh => checkLetters_con h2 hh.gd c v l (hv.vw hh)) ?_
  (refine St.assign ?_; refine WO.nil ?_; refine WK.seq ?_; refine WK.region ?_; refine St.move ?_; refine St.bin ?_; refine WO.nil ?_)
  refine St.splitC (fun q => ?_) (fun q => ?_)
  · have hne : errL c l ≠ 0 := by simpa using q
    (refine WK.seq ?_; refine WK.region ?_; refine St.move ?_; refine St.assign ?_; refine WO.nil ?_)
    refine St.ret (by first | exact .tmp .nil | exact .cell .nil | exact .cell (.tmp .nil) | exact .tmp (.tmp .nil) | exact .cell (.cell .nil) | exact .tmp (.cell .nil) | exact .nil | exact .tmp (.cell (.tmp .nil)) | exact .cell (.tmp (.tmp .nil)) | exact .cell (.cell (.tmp .nil)) | exact .tmp (.tmp (.tmp .nil)) | exact .tmp (.tmp (.tmp (.tmp .nil))) | exact .cell (.cell (.cell .nil))) ?_
    rw [if_pos hne]
    rfl
  have he : errL c l = 0 := by simpa using q
  (refine WK.skip ?_; refine WK.seq ?_; refine WK.seq ?_; refine WK.region ?_; refine St.move ?_)
  refine St.call (v := .bool (!(a && b))) (fun _ => rfl) (fun h2 hh => ?_) ?_
  · refine Con.start rfl Tryz.func63 rfl rfl Tryz.ntmps63 rfl rfl hh.gd ?_
    (refine WK.seq ?_; refine WK.region ?_; refine St.assign ?_; refine WO.nil ?_; refine WK.seq ?_; refine WK.region ?_; refine St.move ?_; refine St.move ?_)
    refine St.call (fun _ => rfl) (fun h3 hh3 => index2_con h3 hh3.gd j a b k ((hb.vw hh).vw hh3)) ?_
    cases a <;> cases b
    · (refine St.bin ?_; refine St.assign ?_; refine WO.nil ?_)
      refine St.ret (by first | exact .tmp .nil | exact .cell .nil | exact .cell (.tmp .nil) | exact .tmp (.tmp .nil) | exact .cell (.cell .nil) | exact .tmp (.cell .nil) | exact .nil | exact .tmp (.cell (.tmp .nil)) | exact .cell (.tmp (.tmp .nil)) | exact .cell (.cell (.tmp .nil)) | exact .tmp (.tmp (.tmp .nil)) | exact .tmp (.tmp (.tmp (.tmp .nil))) | exact .cell (.cell (.cell .nil))) ?_
      rfl
    · (refine St.bin ?_; refine St.assign ?_; refine WO.nil ?_)
      refine St.ret (by first | exact .tmp .nil | exact .cell .nil | exact .cell (.tmp .nil) | exact .tmp (.tmp .nil) | exact .cell (.cell .nil) | exact .tmp (.cell .nil) | exact .nil | exact .tmp (.cell (.tmp .nil)) | exact .cell (.tmp (.tmp .nil)) | exact .cell (.cell (.tmp .nil)) | exact .tmp (.tmp (.tmp .nil)) | exact .tmp (.tmp (.tmp (.tmp .nil))) | exact .cell (.cell (.cell .nil))) ?_
      rfl
    · (refine St.bin ?_; refine St.assign ?_; refine WO.nil ?_)
      refine St.ret (by first | exact .tmp .nil | exact .cell .nil | exact .cell (.tmp .nil) | exact .tmp (.tmp .nil) | exact .cell (.cell .nil) | exact .tmp (.cell .nil) | exact .nil | exact .tmp (.cell (.tmp .nil)) | exact .cell (.tmp (.tmp .nil)) | exact .cell (.cell (.tmp .nil)) | exact .tmp (.tmp (.tmp .nil)) | exact .tmp (.tmp (.tmp (.tmp .nil))) | exact .cell (.cell (.cell .nil))) ?_
      rfl
    · (refine St.bin ?_; refine St.assign ?_; refine WO.nil ?_)
      refine St.ret (by first | exact .tmp .nil | exact .cell .nil | exact .cell (.tmp .nil) | exact .tmp (.tmp .nil) | exact .cell (.cell .nil) | exact .tmp (.cell .nil) | exact .nil | exact .tmp (.cell (.tmp .nil)) | exact .cell (.tmp (.tmp .nil)) | exact .cell (.cell (.tmp .nil)) | exact .tmp (.tmp (.tmp .nil)) | exact .tmp (.tmp (.tmp (.tmp .nil))) | exact .cell (.cell (.cell .nil))) ?_
      rfl
  rw [if_neg (by simp [he])]
  cases a <;> cases b
  · (refine WO.nil ?_; refine WK.condT ?_; refine WK.seq ?_; refine WK.region ?_; refine St.assign ?_; refine WO.nil ?_)
    refine St.ret (by first | exact .tmp .nil | exact .cell .nil | exact .cell (.tmp .nil) | exact .tmp (.tmp .nil) | exact .cell (.cell .nil) | exact .tmp (.cell .nil) | exact .nil | exact .tmp (.cell (.tmp .nil)) | exact .cell (.tmp (.tmp .nil)) | exact .cell (.cell (.tmp .nil)) | exact .tmp (.tmp (.tmp .nil)) | exact .tmp (.tmp (.tmp (.tmp .nil))) | exact .cell (.cell (.cell .nil))) ?_
    rfl
  · (refine WO.nil ?_; refine WK.condT ?_; refine WK.seq ?_; refine WK.region ?_; refine St.assign ?_; refine WO.nil ?_)
    refine St.ret (by first | exact .tmp .nil | exact .cell .nil | exact .cell (.tmp .nil) | exact .tmp (.tmp .nil) | exact .cell (.cell .nil) | exact .tmp (.cell .nil) | exact .nil | exact .tmp (.cell (.tmp .nil)) | exact .cell (.tmp (.tmp .nil)) | exact .cell (.cell (.tmp .nil)) | exact .tmp (.tmp (.tmp .nil)) | exact .tmp (.tmp (.tmp (.tmp .nil))) | exact .cell (.cell (.cell .nil))) ?_
    rfl
  · (refine WO.nil ?_; refine WK.condT ?_; refine WK.seq ?_; refine WK.region ?_; refine St.assign ?_; refine WO.nil ?_)
    refine St.ret (by first | exact .tmp .nil | exact .cell .nil | exact .cell (.tmp .nil) | exact .tmp (.tmp .nil) | exact .cell (.cell .nil) | exact .tmp (.cell .nil) | exact .nil | exact .tmp (.cell (.tmp .nil)) | exact .cell (.tmp (.tmp .nil)) | exact .cell (.cell (.tmp .nil)) | exact .tmp (.tmp (.tmp .nil)) | exact .tmp (.tmp (.tmp (.tmp .nil))) | exact .cell (.cell (.cell .nil))) ?_
    rfl
  · (refine WO.nil ?_; refine WK.condF ?_; refine WK.skip ?_; refine WK.seq ?_; refine WK.region ?_; refine St.assign ?_; refine WO.nil ?_)
    refine St.ret (by first | exact .tmp .nil | exact .cell .nil | exact .cell (.tmp .nil) | exact .tmp (.tmp .nil) | exact .cell (.cell .nil) | exact .tmp (.cell .nil) | exact .nil | exact .tmp (.cell (.tmp .nil)) | exact .cell (.tmp (.tmp .nil)) | exact .cell (.cell (.tmp .nil)) | exact .tmp (.tmp (.tmp .nil)) | exact .tmp (.tmp (.tmp (.tmp .nil))) | exact .cell (.cell (.cell .nil))) ?_
    rfl
theorem or2_key : (List.range 128).all (fun b => (List.range 128).all fun a => decide (IntKind.u64.wrap ((BitVec.ofInt IntKind.u64.bits ((b : Nat) : Int) ||| BitVec.ofInt IntKind.u64.bits ((a : Nat) : Int)).toNat : Int) = ((b ||| a : Nat) : Int))) = true := by decide +kernel
theorem or2_at {b a : Nat} (hb : b < 128) (ha : a < 128) : IntKind.u64.wrap ((BitVec.ofInt IntKind.u64.bits ((b : Nat) : Int) ||| BitVec.ofInt IntKind.u64.bits ((a : Nat) : Int)).toNat : Int) = ((b ||| a : Nat) : Int) :=
  of_decide_eq_true (List.all_eq_true.1 (List.all_eq_true.1 or2_key b (List.mem_range.2 hb)) a (List.mem_range.2 ha))
theorem or_lt2 {a b : Nat} (ha : a < 128) (hb : b < 128) : a ||| b < 128 := Nat.or_lt_two_pow (n := 7) ha hb
theorem bo_eh {h : Heap} {W : List Nat} {h0 : Heap} {V : Ob} {j : Nat} {a b : Bool} {t : TypeId} (hh : Vw h0 W V h) (hm : (j, AObj.cells [.bool a, .bool b] t) ∈ V) : EH boC 1 h j 0 [a, b] := fun i hi => by
  match i, hi with
  | 0, _ => exact hh.rdsEn hm (AObj.has_cells _ _) [.bool a] [.bool b] 0 rfl
  | 1, _ => exact hh.rdsEn hm (AObj.has_cells _ _) [.bool b] [] 1 rfl
set_option maxRecDepth 100000 in
set_option maxHeartbeats 16000000 in
theorem can_con (h : Heap) (g : Gd h) (c : Int) (v : AV) (l : List Le) (id rd : Int) (hv : LeV h v l) (hl : l.length ≤ 1000) : Con Tryz.prog Bs 12 [.agg [.int .i64 c], v, .int .i64 id, .int .i64 rd] h [] (.tup [.int .i64 (canF c l id rd), .bool (canO c l id rd), .bool (canA c l id rd), .int .i64 (canE c l id rd)]) [] := by
  refine Con.start rfl Tryz.func12 rfl rfl Tryz.ntmps12 rfl rfl g ?_
  (refine WK.seq ?_; refine WK.region ?_; refine St.box fun _ _ => ?_; refine St.assign ?_; refine St.assign ?_; refine St.assign ?_; refine St.assign ?_; refine WO.nil ?_; refine WK.seq ?_; refine WK.seq ?_; refine WK.regionD ?_; refine St.load ?_; refine St.move ?_; refine St.move ?_)
  rename_i p4 hp4
  refine St.call (fun _ => rfl) (fun h2 hh => isCase_con h2 hh.gd id) ?_
  (refine St.move ?_)
  refine St.call (fun _ => rfl) (fun h2 hh => isRound_con h2 hh.gd rd) ?_
  (refine StD.mkS fun _ _ => ?_)
  rename_i j hj
  refine StD.callV (v := .int .i64 (canE c l id rd)) [(6, j, .cells [.bool (inB id 1 1099511627776), .bool (rdB rd)] 4)] (fun _ => rfl) (fun x hx => by obtain rfl := List.mem_singleton.1 hx; exact ⟨List.Mem.head _, show maskAt _ _ 6 = true by decide +kernel⟩) (fun h2 hh => checkAsked_con h2 hh.gd c v l (hv.vw hh) j _ _ _ (bo_eh hh (List.mem_cons_self ..))) ?_
  (refine St.assign ?_; refine WO.nil1 ?_; refine WK.seq ?_; refine WK.region ?_; refine St.move ?_; refine St.bin ?_; refine WO.nil ?_)
  refine St.splitC (fun q => ?_) (fun q => ?_)
  · have hne : canE c l id rd ≠ 0 := by simpa using q
    (refine WK.seq ?_; refine WK.region ?_; refine St.move ?_; refine St.assign ?_; refine St.assign ?_; refine St.assign ?_; refine St.assign ?_; refine WO.nil ?_)
    refine St.ret (by first | exact .tmp .nil | exact .cell .nil | exact .cell (.tmp .nil) | exact .tmp (.tmp .nil) | exact .cell (.cell .nil) | exact .tmp (.cell .nil) | exact .nil | exact .tmp (.cell (.tmp .nil)) | exact .cell (.tmp (.tmp .nil)) | exact .cell (.cell (.tmp .nil)) | exact .tmp (.tmp (.tmp .nil)) | exact .tmp (.tmp (.tmp (.tmp .nil))) | exact .cell (.cell (.cell .nil))) ?_
    simp [oneOf, canF, canO, canA, hne]
  have he : canE c l id rd = 0 := by simpa using q
  have heL : errL c l = 0 := by
    unfold canE at he
    by_cases e : errL c l = 0
    · exact e
    · rw [if_pos e] at he; exact absurd he e
  have hcb := crt_bd (errL_ok heL).1
  have hfr := frm_fr heL
  (refine WK.skip ?_; refine WK.seq ?_; refine WK.region ?_; refine St.assign ?_; refine WO.nil ?_; refine WK.seq ?_; refine WK.seq ?_; refine WK.region ?_; refine St.fieldAddr ?_; refine St.load ?_; refine St.move ?_; refine WO.nil ?_; refine WK.block ?_)
  refine WK.inv (ι := Nat) (fun k => [(1, v), (2, .int .i64 id), (3, .int .i64 rd), (4, .ptr p4 0), (13, .int .u64 ((opN l id rd k : Nat) : Int)), (29, .int .i64 c), (30, .int .i64 k)]) (fun _ => [(p4, .cells [.int .i64 c] 23)]) (fun k => k ≤ c.toNat) (fun k => c.toNat - k) 0 (Nat.zero_le _) ⟨rfl, rfl, rfl, rfl, rfl, rfl, rfl, trivial⟩ (by (repeat (first | exact List.Sublist.refl _ | exact List.nil_sublist _ | apply List.Sublist.cons_cons | apply List.Sublist.cons))) ?_
  intro k hk ih
  have hb := opN_lt (l := l) (cs := id) (rd := rd) (k := k) (by omega)
  have hs : opN l id rd (k + 1) = if openB l (k : Int) id rd = true then opN l id rd k ||| 2 ^ k else opN l id rd k := rfl
  (refine WK.seq ?_; refine WK.region ?_; refine St.bin ?_; refine WO.nil ?_; refine WK.seq ?_)
  refine St.splitC (fun q => ?_) (fun q => ?_)
  · have hlt : (k : Int) < c := by simpa using q
    (refine WK.skip ?_; refine WK.seq ?_; refine WK.block ?_; refine WK.seq ?_; refine WK.region ?_; refine St.move ?_; refine St.assign ?_; refine WO.nil ?_; refine WK.seq ?_; refine WK.region ?_; refine St.move ?_; refine St.move ?_; refine St.move ?_; refine St.move ?_)
    refine St.call (fun _ => rfl) (fun h2 hh => isOpen_con h2 hh.gd v l k id rd (hv.vw hh) (by omega)) ?_
    cases ho : openB l (k : Int) id rd
    · rw [ho, if_neg (by simp)] at hs
      (refine WO.nil ?_; refine WK.condF ?_; refine WK.skip ?_; refine WK.blk ?_; refine WK.region ?_; refine St.binI ?_; refine St.move ?_; refine WO.nil ?_)
      refine WK.le ?_ (by (repeat (first | exact List.Sublist.refl _ | exact List.nil_sublist _ | apply List.Sublist.cons_cons | apply List.Sublist.cons))) (ih (k + 1) (by omega) (by omega))
      exact ⟨rfl, rfl, rfl, rfl, congrArg (fun z : Nat => some (AV.int .u64 (z : Int))) hs.symm, rfl, rfl, trivial⟩
    · rw [ho, if_pos rfl] at hs
      (refine WO.nil ?_; refine WK.condT ?_; refine WK.region ?_; refine St.move ?_; refine St.move ?_)
      refine St.call (fun _ => rfl) (fun h2 hh => with_con h2 hh.gd (opN l id rd k) k hb (by omega)) ?_
      (refine St.assign ?_; refine WO.nil ?_; refine WK.blk ?_; refine WK.region ?_; refine St.binI ?_; refine St.move ?_; refine WO.nil ?_)
      refine WK.le ?_ (by (repeat (first | exact List.Sublist.refl _ | exact List.nil_sublist _ | apply List.Sublist.cons_cons | apply List.Sublist.cons))) (ih (k + 1) (by omega) (by omega))
      exact ⟨rfl, rfl, rfl, rfl, congrArg (fun z : Nat => some (AV.int .u64 (z : Int))) hs.symm, rfl, rfl, trivial⟩
  have hkc : k = c.toNat := by simp at q; omega
  rw [hkc] at hb ⊢
  (refine WK.exit ?_; refine WK.seq ?_; refine WK.region ?_; refine St.move ?_; refine St.move ?_; refine St.move ?_)
  refine St.call (fun _ => rfl) (fun h2 hh => proposed_con h2 hh.gd v l id rd (hv.vw hh) (by omega)) ?_
  cases hB : prB l id rd
  · (refine St.move ?_; refine St.extract ?_; refine St.extract ?_; refine St.assign ?_; refine St.assign ?_; refine WO.nil ?_; refine WK.seq ?_; refine WK.seq ?_; refine WK.region ?_; refine St.move ?_; refine St.un ?_; refine WO.nil ?_; refine WK.condT ?_; refine WK.seq ?_; refine WK.region ?_; refine St.move ?_; refine St.load ?_)
    refine St.call (fun _ => rfl) (fun h2 hh => isMajority_con h2 hh.gd c (opN l id rd c.toNat) hb) ?_
    (refine St.assign ?_; refine St.assign ?_; refine St.assign ?_; refine St.assign ?_; refine WO.nil ?_)
    refine St.ret (by first | exact .tmp .nil | exact .cell .nil | exact .cell (.tmp .nil) | exact .tmp (.tmp .nil) | exact .cell (.cell .nil) | exact .tmp (.cell .nil) | exact .nil | exact .tmp (.cell (.tmp .nil)) | exact .cell (.tmp (.tmp .nil)) | exact .cell (.cell (.tmp .nil)) | exact .tmp (.tmp (.tmp .nil)) | exact .tmp (.tmp (.tmp (.tmp .nil))) | exact .cell (.cell (.cell .nil))) ?_
    simp [oneOf, canF, canO, canA, he, hB]
  have hTl := tlN_lt (l := l) (fun x hx => by have := hfr x hx; omega) l.length (Nat.le_refl _)
  have hk2 := lkT_lt (r := (id, rd, prF l id rd)) hTl
  have hab : ableN c l id rd < 128 := or_lt2 hb hk2
  (refine St.move ?_; refine St.extract ?_; refine St.extract ?_; refine St.assign ?_; refine St.assign ?_; refine WO.nil ?_; refine WK.seq ?_; refine WK.seq ?_; refine WK.region ?_; refine St.move ?_; refine St.un ?_; refine WO.nil ?_; refine WK.condF ?_; refine WK.skip ?_; refine WK.seq ?_; refine WK.region ?_; refine St.move ?_; refine St.move ?_)
  refine St.callR (R := fun u L => ∃ m, u = .map m ∧ L = [(m, .map (tlE (tlN l l.length) 0) (tlN l l.length).length)]) (fun _ => rfl) (fun h2 hh => tallyOf_con h2 hh.gd v l (hv.vw hh) (by omega) (fun x hx => by have := hfr x hx; omega)) (fun u L' hR => ?_)
  obtain ⟨m, rfl, rfl⟩ := hR
  (refine St.move ?_; refine St.move ?_; refine St.move ?_; refine St.build ?_)
  refine St.lookupV (v := .int .u64 ((lkT (tlN l l.length) (id, rd, prF l id rd) : Nat) : Int)) (fun h2 hh => ?_) ?_
  · show plainV (evLookup Tryz.prog h2 60 (.map m) (.agg (rlC (id, rd, prF l id rd))) false) h2 = _
    have hg := hh.getO (j := m) (o := .map (tlE (tlN l l.length) 0) (tlN l l.length).length) (by simp)
    rcases te_split (id, rd, prF l id rd) (tlN l l.length) with hno | ⟨A, n, B, hT, hno⟩
    · rw [lookT_no hg hno, lkT_no hno]
      rfl
    · rw [hT] at hg ⊢
      rw [lookT_yes hg hno, lkT_yes hno]
      rfl
  refine St.binX (u := .int .u64 ((opN l id rd c.toNat : Nat) : Int)) (v := .int .u64 ((lkT (tlN l l.length) (id, rd, prF l id rd) : Nat) : Int)) (r := .int .u64 ((ableN c l id rd : Nat) : Int)) (congrArg (fun z => some (AV.int .u64 z)) (or2_at hb hk2)) rfl rfl ?_
  (refine St.assign ?_; refine WO.nil ?_; refine WK.seq ?_; refine WK.seq ?_; refine WK.region ?_; refine St.move ?_; refine St.load ?_)
  refine St.call (fun _ => rfl) (fun h2 hh => isMajority_con h2 hh.gd c (ableN c l id rd) hab) ?_
  have hO : canO c l id rd = decide ((popN (ableN c l id rd) : Int) ≥ maj c) := by simp [canO, he, hB]
  have hA : canA c l id rd = false := by simp [canA, hB]
  cases hm : decide ((popN (ableN c l id rd) : Int) ≥ maj c)
  · rw [hm] at hO
    (refine St.un ?_; refine WO.nil ?_; refine WK.condT ?_; refine WK.seq ?_; refine WK.region ?_; refine St.assign ?_; refine St.assign ?_; refine St.assign ?_; refine St.assign ?_; refine WO.nil ?_)
    refine St.ret (by first | exact .tmp .nil | exact .cell .nil | exact .cell (.tmp .nil) | exact .tmp (.tmp .nil) | exact .cell (.cell .nil) | exact .tmp (.cell .nil) | exact .nil | exact .tmp (.cell (.tmp .nil)) | exact .cell (.tmp (.tmp .nil)) | exact .cell (.cell (.tmp .nil)) | exact .tmp (.tmp (.tmp .nil)) | exact .tmp (.tmp (.tmp (.tmp .nil))) | exact .cell (.cell (.cell .nil))) ?_
    simp [oneOf, canF, hO, hA, he]
  · rw [hm] at hO
    (refine St.un ?_; refine WO.nil ?_; refine WK.condF ?_; refine WK.skip ?_; refine WK.seq ?_; refine WK.region ?_; refine St.move ?_; refine St.assign ?_; refine St.assign ?_; refine St.assign ?_; refine St.assign ?_; refine WO.nil ?_)
    refine St.ret (by first | exact .tmp .nil | exact .cell .nil | exact .cell (.tmp .nil) | exact .tmp (.tmp .nil) | exact .cell (.cell .nil) | exact .tmp (.cell .nil) | exact .nil | exact .tmp (.cell (.tmp .nil)) | exact .cell (.tmp (.tmp .nil)) | exact .cell (.cell (.tmp .nil)) | exact .tmp (.tmp (.tmp .nil)) | exact .tmp (.tmp (.tmp (.tmp .nil))) | exact .cell (.cell (.cell .nil))) ?_
    simp [oneOf, canF, hO, hA, he]
end Go.Proofs.YtilpinmbngikgaaGreat

/- Layer 9: SameRulings of the same rulings. -/
namespace Go.Proofs.YtilpinmbngikgaaGreat
open Go.Proofs.YtilpinmbngikgaaGreat.Ev

theorem rlC_len (x : Rl3) : (rlC x).length = 3 := rfl
theorem EV.rlen {h : Heap} {v : AV} {l : List Rl3} (k : EV rlC 3 h v l) : ∀ h2, lenA Tryz.prog 27 h2 v = some (.int .i64 (l.length : Int)) := EV.len k Tryz.underlying27
theorem isR_v {l : List Rl3} {w : AV} {L : Ob} {n : Nat} (hw : IsR 52 3 n (enF rlC l) w L) (hn : l.length = n) {h0 h : Heap} {W : List Nat} {V : Ob} (k : Vw h0 W V h) (hm : ∀ x ∈ L, x ∈ V) : EV rlC 3 h w l := en_v rlC_len hw.isL hn k hm
set_option maxRecDepth 100000 in
set_option maxHeartbeats 8000000 in
theorem sameR_con (h : Heap) (g : Gd h) (v1 v2 : AV) (l : List Rl3) (h1 : EV rlC 3 h v1 l) (h2 : EV rlC 3 h v2 l) (hl : l.length ≤ 1000000) : Con Tryz.prog Bs 14 [v1, v2] h [] (.bool true) [] := by
  refine Con.start rfl Tryz.func14 rfl rfl Tryz.ntmps14 rfl rfl g ?_
  (refine WK.seq ?_; refine WK.region ?_; refine St.assign ?_; refine WO.nil ?_; refine WK.seq ?_; refine WK.seq ?_; refine WK.region ?_; refine St.move ?_)
  refine St.lenG rfl (EV.rlen h1) ?_
  (refine St.move ?_)
  refine St.lenG rfl (EV.rlen h2) ?_
  (refine St.bin ?_; refine WO.nil ?_)
  refine St.splitC (fun q => ?_) (fun q => ?_)
  · simp at q
  (refine WK.skip ?_; refine WK.seq ?_; refine WK.seq ?_; refine WK.region ?_; refine St.assign ?_; refine WO.nil ?_; refine WK.block ?_)
  refine WK.inv (ι := Nat) (fun k => [(0, v1), (1, v2), (5, .int .i64 k)]) (fun _ => []) (fun k => k ≤ l.length) (fun k => l.length - k) 0 (Nat.zero_le _) ⟨rfl, rfl, rfl, trivial⟩ (by (repeat (first | exact List.Sublist.refl _ | exact List.nil_sublist _ | apply List.Sublist.cons_cons | apply List.Sublist.cons))) ?_
  intro k hk ih
  (refine WK.seq ?_; refine WK.seq ?_; refine WK.region ?_; refine St.move ?_; refine St.move ?_)
  refine St.lenG rfl (EV.rlen h1) ?_
  (refine St.bin ?_; refine WO.nil ?_)
  refine St.splitC (fun q => ?_) (fun q => ?_)
  · have hlt : k < l.length := by simp at q; omega
    obtain ⟨b1, o1, c1, rfl, k1⟩ := EV.ne h1 (by omega)
    obtain ⟨b2, o2, c2, rfl, k2⟩ := EV.ne h2 (by omega)
    (refine WK.skip ?_; refine WK.seq ?_; refine WK.block ?_; refine WK.seq ?_; refine WK.regionD ?_; refine St.move ?_; refine St.move ?_)
    refine St.at ?_
    refine St.loadX (fun h2 hh => ((k1.vw hh).at_ (z := (k : Int)) (n := k) (by omega) hlt).agg (by simp [rlC]) rfl rfl rfl) ?_
    (refine St.move ?_; refine St.move ?_)
    refine St.at ?_
    refine St.loadX (fun h2 hh => ((k2.vw hh).at_ (z := (k : Int)) (n := k) (by omega) hlt).agg (by simp [rlC]) rfl rfl rfl) ?_
    refine St.binX (r := .bool false) (by simp [rlC, evBin, evEq, guardOk, eqT, eqFs, partE, isAggT, nthN]) rfl rfl ?_
    (refine WO.nil ?_; refine WK.condF ?_; refine WK.skip ?_; refine WK.blk ?_; refine WK.region ?_; refine St.move ?_; refine St.binI ?_; refine St.assign ?_; refine WO.nil ?_)
    refine WK.le ?_ (by (repeat (first | exact List.Sublist.refl _ | exact List.nil_sublist _ | apply List.Sublist.cons_cons | apply List.Sublist.cons))) (ih (k + 1) hlt (by omega))
    exact ⟨rfl, rfl, rfl, trivial⟩
  · (refine WK.exit ?_; refine WK.seq ?_; refine WK.region ?_; refine St.assign ?_; refine WO.nil ?_)
    refine St.ret (by first | exact .tmp .nil | exact .cell .nil | exact .cell (.tmp .nil) | exact .tmp (.tmp .nil) | exact .cell (.cell .nil) | exact .tmp (.cell .nil) | exact .nil | exact .tmp (.cell (.tmp .nil)) | exact .cell (.tmp (.tmp .nil)) | exact .cell (.cell (.tmp .nil)) | exact .tmp (.tmp (.tmp .nil)) | exact .tmp (.tmp (.tmp (.tmp .nil))) | exact .cell (.cell (.cell .nil))) ?_
    rfl
end Go.Proofs.YtilpinmbngikgaaGreat

/- Layer 9: isBy; IndexFunc of rulings; checkAsked with one question; votesFor, Proof. -/
namespace Go.Proofs.YtilpinmbngikgaaGreat
open Go.Proofs.YtilpinmbngikgaaGreat.Ev

theorem rl_ne {x r : Rl3} (e : ¬ x = r) : evBin Tryz.prog .neq 52 (.agg (rlC x)) (.agg (rlC r)) = some (.bool true) := by
  obtain ⟨a, b, c⟩ := x
  obtain ⟨d, f, g⟩ := r
  simp only [Prod.mk.injEq] at e
  simp [rlC, evBin, evEq, guardOk, eqT, eqFs, partE, isAggT, takeN, dropN, nthN]
  by_cases h1 : a = d <;> by_cases h2 : b = f <;> by_cases h3 : c = g <;> simp [h1, h2, h3]
  exact e ⟨h1, h2, h3⟩
theorem rl_eq (r : Rl3) : evBin Tryz.prog .neq 52 (.agg (rlC r)) (.agg (rlC r)) = some (.bool false) := by
  simp [rlC, evBin, evEq, guardOk, eqT, eqFs, partE, isAggT, takeN, dropN, nthN]
set_option maxRecDepth 100000 in
theorem isBy_con (h : Heap) (g : Gd h) (a : Int) : ∃ u L, Con Tryz.prog Bs 49 [.int .i64 a] h [] u L ∧ ∃ p, u = .fn (.func 74) [] [.ptr p 0] ∧ L = [(p, .cells [.int .i64 a] 3)] := by
  refine Con.startR rfl Tryz.func49 rfl rfl Tryz.ntmps49 rfl rfl (SS.init g) ?_
  (refine WK.seq ?_; refine WK.region ?_; refine St.box fun _ _ => ?_; refine St.assign ?_; refine WO.nil ?_; refine WK.seq ?_; refine WK.region ?_; refine St.fn ?_; refine St.assign ?_; refine WO.nil ?_)
  refine St.ret (by first | exact .tmp .nil | exact .cell .nil | exact .cell (.tmp .nil) | exact .tmp (.tmp .nil) | exact .cell (.cell .nil) | exact .tmp (.cell .nil) | exact .nil | exact .tmp (.cell (.tmp .nil)) | exact .cell (.tmp (.tmp .nil)) | exact .cell (.cell (.tmp .nil)) | exact .tmp (.tmp (.tmp .nil)) | exact .tmp (.tmp (.tmp (.tmp .nil))) | exact .cell (.cell (.cell .nil))) ?_
  exact ⟨_, rfl, rfl⟩
set_option maxRecDepth 100000 in
theorem isBy1_con (h : Heap) (g : Gd h) (x : Le) (a : Int) (p : Nat) (hp : Rd h p 0 (.int .i64 a)) : Con Tryz.prog Bs 74 [.agg (leC x), .ptr p 0] h [] (.bool (byB a x)) [] := by
  refine Con.start rfl Tryz.func74 rfl rfl Tryz.ntmps74 rfl rfl g ?_
  (refine WK.seq ?_; refine WK.region ?_; refine St.box fun _ _ => ?_; refine St.assign ?_; refine WO.nil ?_; refine WK.seq ?_; refine WK.region ?_; refine St.fieldAddr ?_; refine St.load ?_)
  refine St.loadX (fun h2 hh => (hh.rd (by simp) hp).one rfl) ?_
  (refine St.bin ?_; refine St.assign ?_; refine WO.nil ?_)
  refine St.ret (by first | exact .tmp .nil | exact .cell .nil | exact .cell (.tmp .nil) | exact .tmp (.tmp .nil) | exact .cell (.cell .nil) | exact .tmp (.cell .nil) | exact .nil | exact .tmp (.cell (.tmp .nil)) | exact .cell (.tmp (.tmp .nil)) | exact .cell (.cell (.tmp .nil)) | exact .tmp (.tmp (.tmp .nil)) | exact .tmp (.tmp (.tmp (.tmp .nil))) | exact .cell (.cell (.cell .nil))) ?_
  rfl
/-- whether a letter of a list is by an arbiter -/
theorem contBy_con (h : Heap) (g : Gd h) (v : AV) (l : List Le) (a : Int) (p : Nat) (hv : LeV h v l) (hl : l.length ≤ 1000000) (hp : Rd h p 0 (.int .i64 a)) : Con Tryz.prog Bs 48 [v, .fn (.func 74) [] [.ptr p 0]] h [] (.bool (l.any (byB a))) [] :=
  contF_con h g v l _ _ (byB a) hv hl fun h2 V hh x _ => isBy1_con h2 hh.gd x a p (hh.rd (by simp) hp)
/-! the first that passes a test -/
def idxP {α : Type} (t : α → Bool) : List α → Nat → Int
  | [], _ => -1
  | x :: r, k => if t x = true then (k : Int) else idxP t r (k + 1)
theorem idxP_any {α : Type} {t : α → Bool} : ∀ {l : List α} {k : Nat}, decide (idxP t l k ≥ 0) = l.any t
  | [], _ => by simp [idxP]
  | x :: r, k => by
    rw [idxP, List.any_cons]
    cases h : t x
    · simpa using idxP_any
    · simp
theorem idxP_get {α : Type} [Inhabited α] {t : α → Bool} : ∀ {l : List α} {k : Nat}, 0 ≤ idxP t l k → ∃ i, i < l.length ∧ idxP t l k = ((k + i : Nat) : Int) ∧ l.find? t = some (nthE l i)
  | [], _, h => by simp [idxP] at h
  | x :: r, k, h => by
    rw [idxP] at h ⊢
    split at h
    · rename_i hx
      rw [if_pos hx]
      exact ⟨0, by simp, by simp, by simp [hx, nthE]⟩
    · rename_i hx
      rw [if_neg hx]
      obtain ⟨i, h1, h2, h3⟩ := idxP_get h
      refine ⟨i + 1, by simpa using h1, by rw [h2]; congr 1; omega, ?_⟩
      rw [List.find?_cons, show t x = false by simpa using hx]
      simp only
      rw [h3, nthE_cons]
set_option maxRecDepth 100000 in
set_option maxHeartbeats 4000000 in
theorem indexR_con (h : Heap) (g : Gd h) (v : AV) (l : List Rl3) (F : Nat) (cs : List AV) (t : Rl3 → Bool) (hv : EV rlC 3 h v l) (hl : l.length ≤ 1000000) (hf : ∀ (h2 : Heap) (V : Ob), Vw h [] V h2 → ∀ x ∈ l, Con Tryz.prog Bs F (.agg (rlC x) :: cs) h2 [] (.bool (t x)) []) :
    Con Tryz.prog Bs 33 [v, .fn (.func F) [] cs] h [] (.int .i64 (idxP t l 0)) [] := by
  refine Con.start rfl Tryz.func33 rfl rfl Tryz.ntmps33 rfl rfl g ?_
  (refine WK.seq ?_; refine WK.region ?_; refine St.assign ?_; refine WO.nil ?_; refine WK.seq ?_; refine WK.seq ?_; refine WK.region ?_; refine St.move ?_)
  refine St.lenG rfl (EV.rlen hv) ?_
  (refine St.move ?_; refine WO.nil ?_; refine WK.block ?_)
  by_cases hn : l.length = 0
  · have e1 : l = [] := List.length_eq_zero_iff.1 hn
    subst e1
    refine WK.unroll ?_
    (refine WK.seq ?_; refine WK.region ?_; refine St.bin ?_; refine WO.nil ?_; refine WK.seq ?_; refine WK.condF ?_; refine WK.exit ?_; refine WK.seq ?_; refine WK.region ?_; refine St.assign ?_; refine WO.nil ?_)
    refine St.ret (by first | exact .tmp .nil | exact .cell .nil | exact .cell (.tmp .nil) | exact .tmp (.tmp .nil) | exact .cell (.cell .nil) | exact .tmp (.cell .nil) | exact .nil | exact .tmp (.cell (.tmp .nil)) | exact .cell (.tmp (.tmp .nil)) | exact .cell (.cell (.tmp .nil)) | exact .tmp (.tmp (.tmp .nil)) | exact .tmp (.tmp (.tmp (.tmp .nil))) | exact .cell (.cell (.cell .nil))) ?_
    rfl
  obtain ⟨b, off, c, rfl, hk⟩ := EV.ne hv (by omega)
  refine WK.inv (ι := Nat) (fun z => [(0, .slice b off l.length c), (1, .fn (.func F) [] cs), (7, .int .i64 l.length), (8, .int .i64 z)]) (fun _ => []) (fun z => z ≤ l.length ∧ idxP t l 0 = idxP t (l.drop z) z) (fun z => l.length - z) 0 ⟨by omega, rfl⟩ ⟨rfl, rfl, rfl, rfl, trivial⟩ (by (repeat (first | exact List.Sublist.refl _ | exact List.nil_sublist _ | apply List.Sublist.cons_cons | apply List.Sublist.cons))) ?_
  rintro k ⟨hkl, hno⟩ ih
  (refine WK.seq ?_; refine WK.region ?_; refine St.bin ?_; refine WO.nil ?_; refine WK.seq ?_)
  refine St.splitC (fun hc => ?_) (fun hc => ?_)
  · have hlt : k < l.length := by simp at hc; omega
    rw [drop_consE hlt, idxP] at hno
    (refine WK.skip ?_; refine WK.seq ?_; refine WK.block ?_; refine WK.seq ?_; refine WK.region ?_; refine St.move ?_; refine St.assign ?_; refine WO.nil ?_; refine WK.seq ?_; refine WK.region ?_; refine St.move ?_; refine St.move ?_; refine St.move ?_)
    refine St.at ?_
    refine St.loadX (fun h2 hh => ((hk.vw hh).at_ (z := (k : Int)) (n := k) (by omega) hlt).agg (by simp [rlC]) rfl rfl rfl) ?_
    skip
    refine St.call (fun _ => rfl) (fun h2 hh => hf h2 _ hh (nthE l k) (nthE_mem hlt)) ?_
    cases ht : t (nthE l k)
    · rw [if_neg (by rw [ht]; simp)] at hno
      (refine WO.nil ?_; refine WK.condF ?_; refine WK.skip ?_; refine WK.blk ?_; refine WK.region ?_; refine St.binI ?_; refine St.move ?_; refine WO.nil ?_)
      refine WK.le ?_ (by (repeat (first | exact List.Sublist.refl _ | exact List.nil_sublist _ | apply List.Sublist.cons_cons | apply List.Sublist.cons))) (ih (k + 1) ⟨hlt, hno⟩ (by omega))
      exact ⟨rfl, rfl, rfl, rfl, trivial⟩
    · rw [if_pos ht] at hno
      (refine WO.nil ?_; refine WK.condT ?_; refine WK.seq ?_; refine WK.region ?_; refine St.move ?_; refine St.assign ?_; refine WO.nil ?_)
      refine St.ret (by first | exact .tmp .nil | exact .cell .nil | exact .cell (.tmp .nil) | exact .tmp (.tmp .nil) | exact .cell (.cell .nil) | exact .tmp (.cell .nil) | exact .nil | exact .tmp (.cell (.tmp .nil)) | exact .cell (.tmp (.tmp .nil)) | exact .cell (.cell (.tmp .nil)) | exact .tmp (.tmp (.tmp .nil)) | exact .tmp (.tmp (.tmp (.tmp .nil))) | exact .cell (.cell (.cell .nil))) ?_
      rw [hno]
      rfl
  · have : k = l.length := by simp at hc; omega
    subst this
    rw [List.drop_length] at hno
    (refine WK.exit ?_; refine WK.seq ?_; refine WK.region ?_; refine St.assign ?_; refine WO.nil ?_)
    refine St.ret (by first | exact .tmp .nil | exact .cell .nil | exact .cell (.tmp .nil) | exact .tmp (.tmp .nil) | exact .cell (.cell .nil) | exact .tmp (.cell .nil) | exact .nil | exact .tmp (.cell (.tmp .nil)) | exact .cell (.tmp (.tmp .nil)) | exact .cell (.cell (.tmp .nil)) | exact .tmp (.tmp (.tmp .nil)) | exact .tmp (.tmp (.tmp (.tmp .nil))) | exact .cell (.cell (.cell .nil))) ?_
    rw [hno]
    rfl
set_option maxRecDepth 100000 in
set_option maxHeartbeats 4000000 in
theorem checkAsked1_con (h : Heap) (g : Gd h) (c : Int) (v : AV) (l : List Le) (hv : LeV h v l) (j : Nat) (a : Bool) (k : ACap) (hb : Rds h j 0 [.bool a]) : Con Tryz.prog Bs 27 [.agg [.int .i64 c], v, .slice j 0 1 k] h [] (.int .i64 (if errL c l ≠ 0 then errL c l else if a = true then 0 else 1)) [] := by
  refine Con.start rfl Tryz.func27 rfl rfl Tryz.ntmps27 rfl rfl g ?_
  (refine WK.seq ?_; refine WK.region ?_; refine St.box fun _ _ => ?_; refine St.assign ?_; refine WO.nil ?_; refine WK.seq ?_; refine WK.seq ?_; refine WK.region ?_; refine St.load ?_; refine St.move ?_)
  refine St.call (fun _ => rfl) (fun h2 hh => checkLetters_con h2 hh.gd c v l (hv.vw hh)) ?_
  (refine St.assign ?_; refine WO.nil ?_; refine WK.seq ?_; refine WK.region ?_; refine St.move ?_; refine St.bin ?_; refine WO.nil ?_)
  refine St.splitC (fun q => ?_) (fun q => ?_)
  · have hne : errL c l ≠ 0 := by simpa using q
    (refine WK.seq ?_; refine WK.region ?_; refine St.move ?_; refine St.assign ?_; refine WO.nil ?_)
    refine St.ret (by first | exact .tmp .nil | exact .cell .nil | exact .cell (.tmp .nil) | exact .tmp (.tmp .nil) | exact .cell (.cell .nil) | exact .tmp (.cell .nil) | exact .nil | exact .tmp (.cell (.tmp .nil)) | exact .cell (.tmp (.tmp .nil)) | exact .cell (.cell (.tmp .nil)) | exact .tmp (.tmp (.tmp .nil)) | exact .tmp (.tmp (.tmp (.tmp .nil))) | exact .cell (.cell (.cell .nil))) ?_
    rw [if_pos hne]
    rfl
  have he : errL c l = 0 := by simpa using q
  (refine WK.skip ?_; refine WK.seq ?_; refine WK.seq ?_; refine WK.region ?_; refine St.move ?_)
  refine St.call (v := .bool (!a)) (fun _ => rfl) (fun h2 hh => ?_) ?_
  · refine Con.start rfl Tryz.func63 rfl rfl Tryz.ntmps63 rfl rfl hh.gd ?_
    (refine WK.seq ?_; refine WK.region ?_; refine St.assign ?_; refine WO.nil ?_; refine WK.seq ?_; refine WK.region ?_; refine St.move ?_; refine St.move ?_)
    refine St.call (v := .int .i64 (if a = false then 0 else -1)) (fun _ => rfl) (fun h3 hh3 => ?_) ?_
    · refine Con.start rfl Tryz.func81 rfl rfl Tryz.ntmps81 rfl rfl hh3.gd ?_
      (refine WK.seq ?_; refine WK.region ?_; refine St.assign ?_; refine WO.nil ?_; refine WK.seq ?_; refine WK.seq ?_; refine WK.region ?_; refine St.move ?_; refine St.len ?_; refine St.move ?_; refine WO.nil ?_; refine WK.block ?_)
      refine WK.unroll ?_
      (refine WK.seq ?_; refine WK.region ?_; refine St.bin ?_; refine WO.nil ?_; refine WK.seq ?_; refine WK.condT ?_; refine WK.skip ?_; refine WK.seq ?_; refine WK.block ?_; refine WK.seq ?_; refine WK.region ?_; refine St.move ?_; refine St.assign ?_; refine WO.nil ?_; refine WK.seq ?_; refine WK.region ?_; refine St.move ?_; refine St.move ?_; refine St.move ?_)
      refine St.at ?_
      refine St.loadX (fun h4 hh4 => ((hh4.rds (by simp) (hh3.rds (by simp) (hh.rds (by simp) hb))).1).one rfl) ?_
      cases a
      · (refine St.bin ?_; refine WO.nil ?_; refine WK.condT ?_; refine WK.seq ?_; refine WK.region ?_; refine St.move ?_; refine St.assign ?_; refine WO.nil ?_)
        refine St.ret (by first | exact .tmp .nil | exact .cell .nil | exact .cell (.tmp .nil) | exact .tmp (.tmp .nil) | exact .cell (.cell .nil) | exact .tmp (.cell .nil) | exact .nil | exact .tmp (.cell (.tmp .nil)) | exact .cell (.tmp (.tmp .nil)) | exact .cell (.cell (.tmp .nil)) | exact .tmp (.tmp (.tmp .nil)) | exact .tmp (.tmp (.tmp (.tmp .nil))) | exact .cell (.cell (.cell .nil))) ?_
        rfl
      (refine St.bin ?_; refine WO.nil ?_; refine WK.condF ?_; refine WK.skip ?_; refine WK.blk ?_; refine WK.region ?_; refine St.binI ?_; refine St.move ?_; refine WO.nil ?_)
      refine WK.unroll ?_
      (refine WK.seq ?_; refine WK.region ?_; refine St.bin ?_; refine WO.nil ?_; refine WK.seq ?_; refine WK.condF ?_; refine WK.exit ?_; refine WK.seq ?_; refine WK.region ?_; refine St.assign ?_; refine WO.nil ?_)
      refine St.ret (by first | exact .tmp .nil | exact .cell .nil | exact .cell (.tmp .nil) | exact .tmp (.tmp .nil) | exact .cell (.cell .nil) | exact .tmp (.cell .nil) | exact .nil | exact .tmp (.cell (.tmp .nil)) | exact .cell (.tmp (.tmp .nil)) | exact .cell (.cell (.tmp .nil)) | exact .tmp (.tmp (.tmp .nil)) | exact .tmp (.tmp (.tmp (.tmp .nil))) | exact .cell (.cell (.cell .nil))) ?_
      rfl
    cases a
    · (refine St.bin ?_; refine St.assign ?_; refine WO.nil ?_)
      refine St.ret (by first | exact .tmp .nil | exact .cell .nil | exact .cell (.tmp .nil) | exact .tmp (.tmp .nil) | exact .cell (.cell .nil) | exact .tmp (.cell .nil) | exact .nil | exact .tmp (.cell (.tmp .nil)) | exact .cell (.tmp (.tmp .nil)) | exact .cell (.cell (.tmp .nil)) | exact .tmp (.tmp (.tmp .nil)) | exact .tmp (.tmp (.tmp (.tmp .nil))) | exact .cell (.cell (.cell .nil))) ?_
      rfl
    · (refine St.bin ?_; refine St.assign ?_; refine WO.nil ?_)
      refine St.ret (by first | exact .tmp .nil | exact .cell .nil | exact .cell (.tmp .nil) | exact .tmp (.tmp .nil) | exact .cell (.cell .nil) | exact .tmp (.cell .nil) | exact .nil | exact .tmp (.cell (.tmp .nil)) | exact .cell (.tmp (.tmp .nil)) | exact .cell (.cell (.tmp .nil)) | exact .tmp (.tmp (.tmp .nil)) | exact .tmp (.tmp (.tmp (.tmp .nil))) | exact .cell (.cell (.cell .nil))) ?_
      rfl
  rw [if_neg (by simp [he])]
  cases a
  · (refine WO.nil ?_; refine WK.condT ?_; refine WK.seq ?_; refine WK.region ?_; refine St.assign ?_; refine WO.nil ?_)
    refine St.ret (by first | exact .tmp .nil | exact .cell .nil | exact .cell (.tmp .nil) | exact .tmp (.tmp .nil) | exact .cell (.cell .nil) | exact .tmp (.cell .nil) | exact .nil | exact .tmp (.cell (.tmp .nil)) | exact .cell (.tmp (.tmp .nil)) | exact .cell (.cell (.tmp .nil)) | exact .tmp (.tmp (.tmp .nil)) | exact .tmp (.tmp (.tmp (.tmp .nil))) | exact .cell (.cell (.cell .nil))) ?_
    rfl
  · (refine WO.nil ?_; refine WK.condF ?_; refine WK.skip ?_; refine WK.seq ?_; refine WK.region ?_; refine St.assign ?_; refine WO.nil ?_)
    refine St.ret (by first | exact .tmp .nil | exact .cell .nil | exact .cell (.tmp .nil) | exact .tmp (.tmp .nil) | exact .cell (.cell .nil) | exact .tmp (.cell .nil) | exact .nil | exact .tmp (.cell (.tmp .nil)) | exact .cell (.tmp (.tmp .nil)) | exact .cell (.cell (.tmp .nil)) | exact .tmp (.tmp (.tmp .nil)) | exact .tmp (.tmp (.tmp (.tmp .nil))) | exact .cell (.cell (.cell .nil))) ?_
    rfl
set_option maxRecDepth 100000 in
set_option maxHeartbeats 16000000 in
theorem vf_con (h : Heap) (g : Gd h) (c : Int) (v : AV) (l : List Le) (r : Rl3) (hv : LeV h v l) (hl : l.length ≤ 1000) (hm : 0 < maj c) : ∃ u L, Con Tryz.prog Bs 35 [.agg [.int .i64 c], v, .agg (rlC r)] h [] u L ∧ IsL 50 8 (vfN c l r l.length).length (enF leC (vfN c l r l.length)) u L := by
  refine Con.subG (Con.startR rfl Tryz.func35 rfl rfl Tryz.ntmps35 rfl rfl (SS.init g) ?_)
  (refine WK.seq ?_; refine WK.region ?_; refine St.box fun _ _ => ?_; refine St.box fun _ _ => ?_; refine St.assign ?_; refine WO.nil ?_; refine WK.seq ?_; refine WK.region ?_; refine St.assign ?_; refine WO.nil ?_; refine WK.seq ?_; refine WK.seq ?_; refine WK.region ?_; refine St.move ?_)
  rename_i p3 hp3 p5 hp5
  refine St.lenG rfl hv.llen ?_
  (refine St.move ?_; refine WO.nil ?_; refine WK.block ?_)
  refine WK.inv (ι := Nat × AV × Ob) (fun z => [(7, z.2.1), (3, .ptr p3 0), (5, .ptr p5 0), (10, v), (11, .int .i64 l.length), (12, .int .i64 z.1)]) (fun z => (p5, .cells (rlC r) 52) :: (p3, .cells [.int .i64 c] 23) :: z.2.2) (fun z => z.1 ≤ l.length ∧ IsL 50 8 (vfN c l r z.1).length (enF leC (vfN c l r z.1)) z.2.1 z.2.2 ∧ ((vfN c l r z.1).length : Int) ≠ maj c) (fun z => l.length - z.1) (0, .slice0, []) ⟨Nat.zero_le _, .nil rfl rfl, by simp [vfN]; omega⟩ ⟨rfl, rfl, rfl, rfl, rfl, rfl, trivial⟩ (by (repeat (first | exact List.Sublist.refl _ | exact List.nil_sublist _ | apply List.Sublist.cons_cons | apply List.Sublist.cons))) ?_
  rintro ⟨k, w, Lw⟩ ⟨hkl, hw, hne⟩ ih
  simp only at hkl hw hne ih ⊢
  (refine WK.seq ?_; refine WK.region ?_; refine St.bin ?_; refine WO.nil ?_; refine WK.seq ?_)
  refine St.splitC (fun q => ?_) (fun q => ?_)
  rotate_left
  · have e : k = l.length := by simp at q; omega
    subst e
    (refine WK.exit ?_; refine WK.seq ?_; refine WK.region ?_; refine St.move ?_; refine St.assign ?_; refine WO.nil ?_)
    refine St.ret (by first | exact .tmp .nil | exact .cell .nil | exact .cell (.tmp .nil) | exact .tmp (.tmp .nil) | exact .cell (.cell .nil) | exact .tmp (.cell .nil) | exact .nil | exact .tmp (.cell (.tmp .nil)) | exact .cell (.tmp (.tmp .nil)) | exact .cell (.cell (.tmp .nil)) | exact .tmp (.tmp (.tmp .nil)) | exact .tmp (.tmp (.tmp (.tmp .nil))) | exact .cell (.cell (.cell .nil))) ?_
    exact ⟨Lw, .cons _ (.cons _ (List.Sublist.refl _)), hw⟩
  have hlt : k < l.length := by simp at q; omega
  have hv' := hv
  obtain ⟨b, off, m, rfl, hk⟩ := hv'.ne (by omega)
  have hs : vfN c l r (k + 1) = if forB r (nthE l k) = true ∧ (vfN c l r k).any (byB (nthE l k).fr) = false then vfN c l r k ++ [nthE l k] else vfN c l r k := by
    rw [vfN, if_neg hne]
    rfl
  have hvl := (vfN_len (l := l) (r := r) hm k).2
  have hkeep : ¬ (forB r (nthE l k) = true ∧ (vfN c l r k).any (byB (nthE l k).fr) = false) → (k + 1 ≤ l.length ∧ IsL 50 8 (vfN c l r (k + 1)).length (enF leC (vfN c l r (k + 1))) w Lw ∧ ((vfN c l r (k + 1)).length : Int) ≠ maj c) := fun hn => by
    rw [hs, if_neg hn]
    exact ⟨hlt, hw, hne⟩
  (refine WK.skip ?_; refine WK.seq ?_; refine WK.block ?_; refine WK.seq ?_; refine WK.region ?_)
  refine St.at ?_
  refine St.loadX (fun h2 hh => ((hk.vw hh).at_ (z := (k : Int)) (n := k) (by omega) hlt).agg (by simp [leC]) rfl rfl rfl) ?_
  (refine St.alloc fun _ _ => ?_; refine St.store0 ?_; refine WO.nil ?_; refine WK.seq ?_; refine WK.seq ?_; refine WK.regionD ?_; refine St.fieldAddr ?_; refine St.load ?_; refine St.bin ?_; refine St.move ?_)
  rename_i p9 hp9
  refine St.split (fun q4 => ?_) (fun q4 => ?_)
  · have h4 : ¬ (nthE l k).kd = 4 := by simpa using q4
    (refine St.skip ?_; refine St.skip ?_; refine St.skip ?_; refine St.skip ?_; refine St.pickT ?_; refine St.move ?_; refine St.skip ?_; refine St.skip ?_; refine St.skip ?_; refine St.skip ?_; refine St.skip ?_; refine St.pickT ?_; refine WO.nil ?_; refine WK.condT ?_; refine WK.exit ?_; refine WK.region ?_; refine St.binI ?_; refine St.move ?_; refine WO.nil ?_)
    refine WK.le ?_ (by exact List.sublist_cons_self _ _) (ih (k + 1, w, Lw) (hkeep fun hn => h4 (forB_iff.1 hn.1).1) (by simp only; omega))
    exact ⟨rfl, rfl, rfl, rfl, rfl, rfl, trivial⟩
  have h4 : (nthE l k).kd = 4 := by simpa using q4
  refine St.load ?_
  refine St.call (fun _ => rfl) (fun h2 hh => rulingOf_con h2 hh.gd (nthE l k)) ?_
  refine St.load ?_
  by_cases hr : rlOf (nthE l k) = r
  rotate_left
  · refine St.binX (r := .bool true) (rl_ne hr) rfl rfl ?_
    (refine St.pickF ?_; refine St.move ?_; refine St.skip ?_; refine St.skip ?_; refine St.skip ?_; refine St.skip ?_; refine St.skip ?_; refine St.pickT ?_; refine WO.nil ?_; refine WK.condT ?_; refine WK.exit ?_; refine WK.region ?_; refine St.binI ?_; refine St.move ?_; refine WO.nil ?_)
    refine WK.le ?_ (by exact List.sublist_cons_self _ _) (ih (k + 1, w, Lw) (hkeep fun hn => hr (forB_iff.1 hn.1).2) (by simp only; omega))
    exact ⟨rfl, rfl, rfl, rfl, rfl, rfl, trivial⟩
  have hfor : forB r (nthE l k) = true := forB_iff.2 ⟨h4, hr⟩
  refine St.binX (r := .bool false) (by rw [hr]; exact rl_eq r) rfl rfl ?_
  (refine St.pickF ?_; refine St.move ?_; refine St.move ?_; refine St.fieldAddr ?_; refine St.load ?_)
  refine StD.callR (R := fun u L => ∃ p, u = .fn (.func 74) [] [.ptr p 0] ∧ L = [(p, .cells [.int .i64 (nthE l k).fr] 3)]) (fun _ => rfl) (fun h2 hh => isBy_con h2 hh.gd (nthE l k).fr) (fun u L' hR => ?_)
  obtain ⟨p, rfl, rfl⟩ := hR
  refine StD.callV (v := .bool ((vfN c l r k).any (byB (nthE l k).fr))) [(13, p, .cells [.int .i64 (nthE l k).fr] 3)] (fun _ => rfl) (fun x hx => by obtain rfl := List.mem_singleton.1 hx; exact ⟨List.Mem.head _, show maskAt _ _ 13 = true by decide +kernel⟩) (fun h2 hh => contBy_con h2 hh.gd w (vfN c l r k) (nthE l k).fr p (en_v leC_len hw rfl hh (fun x hx => by simp only [List.map_cons, List.map_nil, List.mem_cons, List.mem_append, hx, or_true])) (by omega) (hh.rdG (List.mem_cons_self ..) rfl)) ?_
  cases ha : (vfN c l r k).any (byB (nthE l k).fr)
  rotate_left
  · (refine St.pickF ?_; refine WO.nil1 ?_; refine WK.condT ?_; refine WK.exit ?_; refine WK.region ?_; refine St.binI ?_; refine St.move ?_; refine WO.nil ?_)
    refine WK.le ?_ (by exact .cons _ (.cons _ (List.Sublist.refl _))) (ih (k + 1, w, Lw) (hkeep fun hn => by rw [ha] at hn; simp at hn) (by simp only; omega))
    exact ⟨rfl, rfl, rfl, rfl, rfl, rfl, trivial⟩
  rw [if_pos ⟨hfor, ha⟩] at hs
  (refine St.pickF ?_; refine WO.nil1 ?_; refine WK.condF ?_; refine WK.skip ?_; refine WK.seq ?_; refine WK.region ?_; refine St.move ?_; refine St.load ?_; refine St.mkS fun _ _ => ?_)
  rename_i j34 hj34
  refine St.appG (e := 50) (sz := 8) (len := (vfN c l r k).length) (old := enF leC (vfN c l r k)) (n := 1) (new := leC (nthE l k)) (Lk := [(j34, .cells (leC (nthE l k)) 50), (p, .cells [.int .i64 (nthE l k).fr] 3), (p9, .cells (leC (nthE l k)) 50), (p5, .cells (rlC r) 52), (p3, .cells [.int .i64 c] 23)]) hw (List.perm_append_comm (l₁ := Lw) (l₂ := [(j34, .cells (leC (nthE l k)) 50), (p, .cells [.int .i64 (nthE l k).fr] 3), (p9, .cells (leC (nthE l k)) 50), (p5, .cells (rlC r) 52), (p3, .cells [.int .i64 c] 23)])) ⟨rfl, rfl, rfl, rfl, rfl, rfl, rfl, rfl⟩ (.inr ⟨by omega, j34, 0, .k 1, rfl, by omega, rfl, rfl, fun h2 hh => readN_load (hh.getO (j := j34) (o := .cells (leC (nthE l k)) 50) (List.mem_cons_self ..)) rfl⟩) (by omega) (fun w2 Lw2 hw2 => ?_)
  refine WO.permF List.perm_append_comm ?_
  have hw3 : IsL 50 8 (vfN c l r (k + 1)).length (enF leC (vfN c l r (k + 1))) w2 Lw2 := by
    rw [hs, List.length_append, List.length_singleton, enF_app, enF_one]
    exact hw2
  have hln : (vfN c l r (k + 1)).length = (vfN c l r k).length + 1 := by rw [hs, List.length_append, List.length_singleton]
  (refine St.assign ?_; refine WO.nil ?_; refine WK.seq ?_; refine WK.region ?_; refine St.move ?_)
  refine St.lenG rfl (hw3.lenG (q := 50) (by kernel_rfl)) ?_
  (refine St.load ?_)
  refine St.call (fun _ => rfl) (fun h2 hh => majority_con h2 hh.gd c) ?_
  (refine St.bin ?_; refine WO.nil ?_)
  refine St.splitC (fun q => ?_) (fun q => ?_)
  · have hfull : ((vfN c l r (k + 1)).length : Int) = maj c := by simpa using q
    (refine WK.exit ?_; refine WK.seq ?_; refine WK.region ?_; refine St.move ?_; refine St.assign ?_; refine WO.nil ?_)
    refine St.ret (by first | exact .tmp .nil | exact .cell .nil | exact .cell (.tmp .nil) | exact .tmp (.tmp .nil) | exact .cell (.cell .nil) | exact .tmp (.cell .nil) | exact .nil | exact .tmp (.cell (.tmp .nil)) | exact .cell (.tmp (.tmp .nil)) | exact .cell (.cell (.tmp .nil)) | exact .tmp (.tmp (.tmp .nil)) | exact .tmp (.tmp (.tmp (.tmp .nil))) | exact .cell (.cell (.cell .nil))) ?_
    rw [vfN_at hfull hlt]
    exact ⟨Lw2, .cons _ (.cons _ (.cons _ (.cons _ (.cons _ (List.Sublist.refl _))))), hw3⟩
  · have hfull : ¬ ((vfN c l r (k + 1)).length : Int) = maj c := by simpa using q
    (refine WK.skip ?_; refine WK.blk ?_; refine WK.region ?_; refine St.binI ?_; refine St.move ?_; refine WO.nil ?_)
    refine WK.le ?_ (by exact .cons _ (.cons _ (.cons _ (List.Sublist.refl _)))) (ih (k + 1, w2, Lw2) ⟨hlt, hw3, hfull⟩ (by simp only; omega))
    exact ⟨rfl, rfl, rfl, rfl, rfl, rfl, trivial⟩
end Go.Proofs.YtilpinmbngikgaaGreat

/- Layer 9: Proof. -/
namespace Go.Proofs.YtilpinmbngikgaaGreat
open Go.Proofs.YtilpinmbngikgaaGreat.Ev

set_option maxRecDepth 100000 in
theorem case1_con (h : Heap) (g : Gd h) (r : Rl3) (id : Int) (p : Nat) (hp : Rd h p 0 (.int .i64 id)) : Con Tryz.prog Bs 34 [.agg (rlC r), .ptr p 0] h [] (.bool (decide (r.1 = id))) [] := by
  refine Con.start rfl Tryz.func34 rfl rfl Tryz.ntmps34 rfl rfl g ?_
  (refine WK.seq ?_; refine WK.region ?_; refine St.box fun _ _ => ?_; refine St.assign ?_; refine WO.nil ?_; refine WK.seq ?_; refine WK.region ?_; refine St.fieldAddr ?_; refine St.load ?_)
  refine St.loadX (fun h2 hh => (hh.rd (by simp) hp).one rfl) ?_
  (refine St.bin ?_; refine St.assign ?_; refine WO.nil ?_)
  refine St.ret (by first | exact .tmp .nil | exact .cell .nil | exact .cell (.tmp .nil) | exact .tmp (.tmp .nil) | exact .cell (.cell .nil) | exact .tmp (.cell .nil) | exact .nil | exact .tmp (.cell (.tmp .nil)) | exact .cell (.tmp (.tmp .nil)) | exact .cell (.cell (.tmp .nil)) | exact .tmp (.tmp (.tmp .nil)) | exact .tmp (.tmp (.tmp (.tmp .nil))) | exact .cell (.cell (.cell .nil))) ?_
  exact congrArg AV.bool (by rw [Bool.eq_iff_iff]; simp)
def fstR (rs : List Rl3) (id : Int) : Rl3 := (rs.find? fun r => decide (r.1 = id)).getD (0, 0, 0)
def prE (c : Int) (l : List Le) (id : Int) : Int := if errL c l ≠ 0 then errL c l else if inB id 1 1099511627776 = true then (if (rlsOf c l).any (fun r => decide (r.1 = id)) = true then 0 else 5) else 1
def prL (c : Int) (l : List Le) (id : Int) : List Le := vfN c l (fstR (rlsOf c l) id) l.length
def prR9 (c : Int) (l : List Le) (id : Int) (u : AV) (L : Ob) : Prop := (prE c l id ≠ 0 ∧ u = .tup [.slice0, .int .i64 (prE c l id)]) ∨ (prE c l id = 0 ∧ ∃ w, u = .tup [w, .int .i64 0] ∧ IsL 50 8 (prL c l id).length (enF leC (prL c l id)) w L)
theorem rls_len {c : Int} {l : List Le} : (rlsOf c l).length ≤ l.length := by
  have h1 := (srtT_perm (ofT c (tlN l l.length))).length_eq
  have h2 : (ofT c (tlN l l.length)).length ≤ (tlN l l.length).length := by unfold ofT; rw [List.length_map]; exact List.length_filter_le _ _
  have h3 := tlN_len (l := l) l.length
  unfold rlsOf
  omega
set_option maxRecDepth 100000 in
set_option maxHeartbeats 16000000 in
theorem proof_con (h : Heap) (g : Gd h) (c : Int) (v : AV) (l : List Le) (id : Int) (hv : LeV h v l) (hl : errL c l = 0 → l.length ≤ 1000) : ∃ u L, Con Tryz.prog Bs 10 [.agg [.int .i64 c], v, .int .i64 id] h [] u L ∧ prR9 c l id u L := by
  refine Con.subG (Con.startR rfl Tryz.func10 rfl rfl Tryz.ntmps10 rfl rfl (SS.init g) ?_)
  (refine WK.seq ?_; refine WK.region ?_; refine St.box fun _ _ => ?_; refine St.box fun _ _ => ?_; refine St.assign ?_; refine St.assign ?_; refine WO.nil ?_; refine WK.seq ?_; refine WK.seq ?_; refine WK.regionD ?_; refine St.load ?_; refine St.move ?_; refine St.load ?_)
  rename_i p3 hp3 p5 hp5
  refine St.call (fun _ => rfl) (fun h2 hh => isCase_con h2 hh.gd id) ?_
  (refine StD.mkS fun _ _ => ?_)
  rename_i j hj
  refine StD.callV (v := .int .i64 (if errL c l ≠ 0 then errL c l else if inB id 1 1099511627776 = true then 0 else 1)) [(4, j, .cells [.bool (inB id 1 1099511627776)] 4)] (fun _ => rfl) (fun x hx => by obtain rfl := List.mem_singleton.1 hx; exact ⟨List.Mem.head _, show maskAt _ _ 4 = true by decide +kernel⟩) (fun h2 hh => checkAsked1_con h2 hh.gd c v l (hv.vw hh) j _ _ (hh.rdsEn (List.mem_cons_self ..) (AObj.has_cells _ _) [.bool _] [] 0 rfl)) ?_
  by_cases he : errL c l = 0
  rotate_left
  · have hE : prE c l id = errL c l := by unfold prE; rw [if_pos he]
    rw [if_pos he]
    (refine St.assign ?_; refine WO.nil1 ?_; refine WK.seq ?_; refine WK.region ?_; refine St.move ?_; refine St.bin ?_; refine WO.nil ?_)
    refine St.splitC (fun q => ?_) (fun q => ?_)
    rotate_left
    · exact absurd (by simpa using q) he
    (refine WK.seq ?_; refine WK.region ?_; refine St.move ?_; refine St.assign ?_; refine St.assign ?_; refine WO.nil ?_)
    refine St.ret (by first | exact .tmp .nil | exact .cell .nil | exact .cell (.tmp .nil) | exact .tmp (.tmp .nil) | exact .cell (.cell .nil) | exact .tmp (.cell .nil) | exact .nil | exact .tmp (.cell (.tmp .nil)) | exact .cell (.tmp (.tmp .nil)) | exact .cell (.cell (.tmp .nil)) | exact .tmp (.tmp (.tmp .nil)) | exact .tmp (.tmp (.tmp (.tmp .nil))) | exact .cell (.cell (.cell .nil))) ?_
    exact ⟨[], List.nil_sublist _, .inl ⟨by rw [hE]; exact he, by rw [hE]; rfl⟩⟩
  rw [if_neg (by simp [he])]
  have hl := hl he
  cases hc : inB id 1 1099511627776
  · have hE : prE c l id = 1 := by unfold prE; rw [if_neg (by simp [he]), if_neg (by simp [hc])]
    (refine St.assign ?_; refine WO.nil1 ?_; refine WK.seq ?_; refine WK.region ?_; refine St.move ?_; refine St.bin ?_; refine WO.nil ?_; refine WK.condT ?_; refine WK.seq ?_; refine WK.region ?_; refine St.move ?_; refine St.assign ?_; refine St.assign ?_; refine WO.nil ?_)
    refine St.ret (by first | exact .tmp .nil | exact .cell .nil | exact .cell (.tmp .nil) | exact .tmp (.tmp .nil) | exact .cell (.cell .nil) | exact .tmp (.cell .nil) | exact .nil | exact .tmp (.cell (.tmp .nil)) | exact .cell (.tmp (.tmp .nil)) | exact .cell (.cell (.tmp .nil)) | exact .tmp (.tmp (.tmp .nil)) | exact .tmp (.tmp (.tmp (.tmp .nil))) | exact .cell (.cell (.cell .nil))) ?_
    exact ⟨[], List.nil_sublist _, .inl ⟨by rw [hE]; omega, by rw [hE]; rfl⟩⟩
  have hfr := frm_fr he
  have hm := maj_pos (crt_bd (errL_ok he).1)
  (refine St.assign ?_; refine WO.nil1 ?_; refine WK.seq ?_; refine WK.region ?_; refine St.move ?_; refine St.bin ?_; refine WO.nil ?_; refine WK.condF ?_; refine WK.skip ?_; refine WK.seq ?_; refine WK.regionD ?_; refine St.move ?_)
  refine StD.callR (R := fun u L => ∃ m, u = .map m ∧ L = [(m, .map (tlE (tlN l l.length) 0) (tlN l l.length).length)]) (fun _ => rfl) (fun h2 hh => tallyOf_con h2 hh.gd v l (hv.vw hh) (by omega) (fun x hx => by have := hfr x hx; omega)) (fun u L' hR => ?_)
  obtain ⟨m, rfl, rfl⟩ := hR
  (refine St.load ?_)
  have hTl := tlN_lt (l := l) (fun x hx => by have := hfr x hx; omega) l.length (Nat.le_refl _)
  have hTn := tlN_len (l := l) l.length
  refine StD.callRT (R := fun w L => IsR 52 3 (rlsOf c l).length (enF rlC (rlsOf c l)) w L) [(1, m, .map (tlE (tlN l l.length) 0) (tlN l l.length).length)] (fun _ => rfl) (fun x hx => by obtain rfl := List.mem_singleton.1 hx; exact ⟨List.Mem.head _, show maskAt _ _ 1 = true by decide +kernel⟩) (fun h2 hh => rul_con hh.gd c (hh.getO (List.mem_cons_self ..)) hTl (by omega)) (fun w L hw => ?_)
  have hE : prE c l id = if (rlsOf c l).any (fun r => decide (r.1 = id)) = true then 0 else 5 := by unfold prE; rw [if_neg (by simp [he]), if_pos hc]
  have hrl := rls_len (c := c) (l := l)
  have hL : prL c l id = vfN c l (fstR (rlsOf c l) id) l.length := rfl
  unfold prR9
  generalize prL c l id = pl at hL ⊢
  generalize rlsOf c l = rs at hw hE hrl hL
  cases hw with
  | nil h1 _ =>
    have e1 : rs = [] := List.length_eq_zero_iff.1 h1
    subst e1
    (refine St.assign ?_; refine WO.nil1 ?_; refine WK.seq ?_; refine WK.region ?_; refine St.move ?_; refine St.fn ?_)
    refine St.call (fun _ => rfl) (fun h2 hh => indexR_con h2 hh.gd .slice0 [] 34 [.ptr p5 0] (fun r => decide (r.1 = id)) (.inl ⟨.inl rfl, rfl⟩) (Nat.zero_le _) (fun h3 V hh3 x hx => by cases hx)) ?_
    (refine St.assign ?_; refine WO.nil ?_; refine WK.seq ?_; refine WK.seq ?_; refine WK.region ?_; refine St.move ?_; refine St.bin ?_; refine WO.nil ?_; refine WK.condT ?_; refine WK.seq ?_; refine WK.region ?_; refine St.assign ?_; refine St.assign ?_; refine WO.nil ?_)
    refine St.ret (by first | exact .tmp .nil | exact .cell .nil | exact .cell (.tmp .nil) | exact .tmp (.tmp .nil) | exact .cell (.cell .nil) | exact .tmp (.cell .nil) | exact .nil | exact .tmp (.cell (.tmp .nil)) | exact .cell (.tmp (.tmp .nil)) | exact .cell (.cell (.tmp .nil)) | exact .tmp (.tmp (.tmp .nil)) | exact .tmp (.tmp (.tmp (.tmp .nil))) | exact .cell (.cell (.cell .nil))) ?_
    exact ⟨[], List.nil_sublist _, .inl ⟨by rw [hE]; simp, by rw [hE]; rfl⟩⟩
  | row jr h1 =>
    have hk : ∀ {V : Ob} {h2 : Heap}, Vw h [] V h2 → (jr, AObj.row (enF rlC rs) 52 3) ∈ V → EV rlC 3 h2 (.slice jr 0 rs.length (.m 0)) rs := fun hh hm2 => en_v (enc := rlC) (fun _ => rfl) (IsL.row jr h1) rfl hh (fun x hx => by rw [List.mem_singleton.1 hx]; exact hm2)
    (refine St.assign ?_; refine WO.nil2 ?_; refine WK.seq ?_; refine WK.region ?_; refine St.move ?_; refine St.fn ?_)
    cases ha : rs.any (fun r => decide (r.1 = id))
    · rw [ha] at hE
      have hix : idxP (fun r => decide (r.1 = id)) rs 0 < 0 := by
        have := idxP_any (t := fun r : Rl3 => decide (r.1 = id)) (l := rs) (k := 0)
        rw [ha] at this
        simpa using this
      refine St.call (fun _ => rfl) (fun h2 hh => indexR_con h2 hh.gd _ rs 34 [.ptr p5 0] (fun r => decide (r.1 = id)) (hk hh (by simp)) (by omega) (fun h3 V hh3 r _ => case1_con h3 hh3.gd r id p5 (hh3.rd (by simp) (hh.rdG (j := p5) (l := [.int .i64 id]) (t := 3) (by repeat (first | exact List.Mem.head _ | apply List.Mem.tail)) rfl)))) ?_
      (refine St.assign ?_; refine WO.nil ?_; refine WK.seq ?_; refine WK.seq ?_; refine WK.region ?_; refine St.move ?_; refine St.bin ?_; refine WO.nil ?_)
      refine St.splitC (fun q => ?_) (fun q => ?_)
      rotate_left
      · exact absurd hix (by simpa using q)
      (refine WK.seq ?_; refine WK.region ?_; refine St.assign ?_; refine St.assign ?_; refine WO.nil ?_)
      refine St.ret (by first | exact .tmp .nil | exact .cell .nil | exact .cell (.tmp .nil) | exact .tmp (.tmp .nil) | exact .cell (.cell .nil) | exact .tmp (.cell .nil) | exact .nil | exact .tmp (.cell (.tmp .nil)) | exact .cell (.tmp (.tmp .nil)) | exact .cell (.cell (.tmp .nil)) | exact .tmp (.tmp (.tmp .nil)) | exact .tmp (.tmp (.tmp (.tmp .nil))) | exact .cell (.cell (.cell .nil))) ?_
      exact ⟨[], List.nil_sublist _, .inl ⟨by rw [hE]; simp, by rw [hE]; rfl⟩⟩
    · rw [ha, if_pos rfl] at hE
      obtain ⟨i, hi, hix, hfi⟩ := idxP_get (t := fun r : Rl3 => decide (r.1 = id)) (l := rs) (k := 0) (by
        have := idxP_any (t := fun r : Rl3 => decide (r.1 = id)) (l := rs) (k := 0)
        rw [ha] at this
        simpa using this)
      rw [Nat.zero_add] at hix
      have hfst : fstR rs id = nthE rs i := by unfold fstR; rw [hfi]; rfl
      refine St.call (v := .int .i64 (i : Int)) (fun _ => rfl) (fun h2 hh => by
        have := indexR_con h2 hh.gd _ rs 34 [.ptr p5 0] (fun r => decide (r.1 = id)) (hk hh (by simp)) (by omega) (fun h3 V hh3 r _ => case1_con h3 hh3.gd r id p5 (hh3.rd (by simp) (hh.rdG (j := p5) (l := [.int .i64 id]) (t := 3) (by repeat (first | exact List.Mem.head _ | apply List.Mem.tail)) rfl)))
        rwa [hix] at this) ?_
      (refine St.assign ?_; refine WO.nil ?_; refine WK.seq ?_; refine WK.seq ?_; refine WK.region ?_; refine St.move ?_; refine St.bin ?_; refine WO.nil ?_; refine WK.condF ?_; refine WK.skip ?_; refine WK.seq ?_; refine WK.regionD ?_; refine St.load ?_; refine St.move ?_; refine St.move ?_; refine St.move ?_)
      refine St.at ?_
      refine St.loadX (fun h2 hh => by
        rcases hk hh (by simp) with ⟨h3 | h3, _⟩ | ⟨b, off, c2, e, k⟩
        · cases h3
        · cases h3
        · cases e
          exact (k.at_ (z := (i : Int)) (n := i) (by omega) hi).agg (by simp [rlC]) rfl rfl rfl) ?_
      refine StD.callR (R := fun w L => IsL 50 8 pl.length (enF leC pl) w L) (fun _ => rfl) (fun h2 hh => by
        rw [hL, hfst]
        exact vf_con h2 hh.gd c v l (nthE rs i) (hv.vw hh) hl hm) (fun w L2 hw2 => ?_)
      (refine St.assign ?_; refine St.assign ?_)
      refine WO.nilG ?_
      skip
      refine St.ret (by first | exact .tmp .nil | exact .cell .nil | exact .cell (.tmp .nil) | exact .tmp (.tmp .nil) | exact .cell (.cell .nil) | exact .tmp (.cell .nil) | exact .nil | exact .tmp (.cell (.tmp .nil)) | exact .cell (.tmp (.tmp .nil)) | exact .cell (.cell (.tmp .nil)) | exact .tmp (.tmp (.tmp .nil)) | exact .tmp (.tmp (.tmp (.tmp .nil))) | exact .cell (.cell (.cell .nil))) ?_
      exact ⟨L2, by simp [Function.comp_def], .inr ⟨hE, w, rfl, hw2⟩⟩
end Go.Proofs.YtilpinmbngikgaaGreat

/- Layer 9: CheckRuling. -/
namespace Go.Proofs.YtilpinmbngikgaaGreat
open Go.Proofs.YtilpinmbngikgaaGreat.Ev

/-- a list of which beginnings can be taken -/
def LeS (h : Heap) (v : AV) (l : List Le) : Prop := LeV h v l ∧ ∀ i, i < l.length → ∃ u, ∀ {V : Ob} {h2 : Heap}, Vw h [] V h2 → evSlice Tryz.prog h2 24 v none (some (.int .i64 (i : Int))) none = some u ∧ LeV h2 u (l.take i)
theorem LeA.s {h : Heap} {v : AV} {l : List Le} (k : LeA h v l) : LeS h v l := by
  refine ⟨k.eV, fun i hi => ?_⟩
  obtain ⟨b, off, m, rfl, hm, hk⟩ := k.ne (by omega)
  exact ⟨.slice b off i (.k m), fun hh => ⟨slK_to (e := 50) (sz := 8) Tryz.underlying24 (by kernel_rfl) (by omega) hm, (hk.vw hh).takV (by omega)⟩⟩
theorem slM8_to {h2 : Heap} {j n N i : Nat} {cs : List AV} {e : TypeId} (hg : h2.get j = some (.row cs e 8)) (hc : cs.length = N * 8) (hn : n ≤ N) (hi : i ≤ n) : evSlice Tryz.prog h2 24 (.slice j 0 n (.m 0)) none (some (.int .i64 (i : Int))) none = some (.slice j 0 i (.m 0)) := by
  have hs : sizeT Tryz.prog 50 = some 8 := by kernel_rfl
  have hk : knownN h2 j 8 = N := by
    unfold knownN
    simp [hg, hc]
  unfold evSlice
  rw [if_neg (by simp), Tryz.underlying24]
  simp only [hs, hk, evSliceM, optB, boundIn]
  rw [if_pos (by omega)]
  simp
/-- of a list that was made -/
theorem IsL.s {h0 h : Heap} {W : List Nat} {V : Ob} {n : Nat} {l : List Le} {w : AV} {L : Ob} (hw : IsL 50 8 n (enF leC l) w L) (hn : l.length = n) (k : Vw h0 W V h) (hm : ∀ x ∈ L, x ∈ V) : LeS h w l := by
  subst hn
  refine ⟨en_v leC_len hw rfl k hm, fun i hi => ?_⟩
  cases hw with
  | nil h1 _ => omega
  | cells j c rest t h1 h2 h3 =>
    have hv := en_v leC_len (IsL.cells (e := 50) j c rest t h1 h2 h3) rfl k hm
    rcases hv with ⟨h4 | h4, _⟩ | ⟨b, off, c2, e, hk⟩
    · cases h4
    · cases h4
    · cases e
      exact ⟨.slice j 0 i (.k c), fun hh => ⟨slK_to (e := 50) (sz := 8) Tryz.underlying24 (by kernel_rfl) (by omega) h3, (hk.vw hh).takV (by omega)⟩⟩
  | row j h1 =>
    have hv := en_v leC_len (IsL.row (e := 50) j h1) rfl k hm
    have hg := k.own _ (hm _ (List.mem_cons_self ..))
    rcases hv with ⟨h4 | h4, _⟩ | ⟨b, off, c2, e, hk⟩
    · cases h4
    · cases h4
    · cases e
      refine ⟨.slice j 0 i (.m 0), fun {V2 h2} hh => ⟨slM8_to (N := l.length) (e := 50) (cs := enF leC l) ?_ h1 (Nat.le_refl _) (by omega), (hk.vw hh).takV (by omega)⟩⟩
      rw [hh.old j hg.2 (by simp)]
      exact hg.1
end Go.Proofs.YtilpinmbngikgaaGreat
