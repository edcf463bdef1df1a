/- Layer 9: checkAsked; Can. -/
import Derived.Test.YtilpinmbngikgaaRx
import Derived.Test.YtilpinmbngikgaaPz
namespace Go.Proofs.Ytilpinmbngikgaa
open Go.Proofs.Ytilpinmbngikgaa.Ev

def boC (b : Bool) : List AV := [.bool b]
set_option maxRecDepth 100000 in
set_option maxHeartbeats 4000000 in
theorem index2_con (h : Heap) (g : Gd h) (j : Nat) (a b : Bool) (c : ACap) (hv : EH boC 1 h j 0 [a, b]) : Con Try.prog Bs 87 [.slice j 0 2 c, .bool false] h [] (.int .i64 (if a = false then 0 else if b = false then 1 else -1)) [] := by
  have h0 := hv 0 (by simp)
  have h1 := hv 1 (by simp)
  refine Con.start rfl Try.func87 rfl rfl Try.ntmps87 rfl rfl g ?_
  (refine WK.seq ?_; refine WK.region ?_; refine St.assign ?_; refine WO.nil ?_; refine WK.seq ?_; refine WK.seq ?_; refine WK.region ?_; refine St.move ?_; refine St.len ?_; refine St.move ?_; refine WO.nil ?_; refine WK.block ?_)
  refine WK.unroll ?_
  (refine WK.seq ?_; refine WK.region ?_; refine St.bin ?_; refine WO.nil ?_; refine WK.seq ?_; refine WK.condT ?_; refine WK.skip ?_; refine WK.seq ?_; refine WK.block ?_; refine WK.seq ?_; refine WK.region ?_; refine St.move ?_; refine St.assign ?_; refine WO.nil ?_; refine WK.seq ?_; refine WK.region ?_; refine St.move ?_; refine St.move ?_; refine St.move ?_)
  refine St.at ?_
  refine St.loadX (fun h2 hh => (hh.rds (by simp) h0).1.one rfl) ?_
  cases a
  · (refine St.bin ?_; refine WO.nil ?_; refine WK.condT ?_; refine WK.seq ?_; refine WK.region ?_; refine St.move ?_; refine St.assign ?_; refine WO.nil ?_)
    refine St.ret (by first | exact .tmp .nil | exact .cell .nil | exact .cell (.tmp .nil) | exact .tmp (.tmp .nil) | exact .cell (.cell .nil) | exact .tmp (.cell .nil) | exact .nil | exact .tmp (.cell (.tmp .nil)) | exact .cell (.tmp (.tmp .nil)) | exact .cell (.cell (.tmp .nil)) | exact .tmp (.tmp (.tmp .nil)) | exact .tmp (.tmp (.tmp (.tmp .nil))) | exact .cell (.cell (.cell .nil))) ?_
    rfl
  (refine St.bin ?_; refine WO.nil ?_; refine WK.condF ?_; refine WK.skip ?_; refine WK.blk ?_; refine WK.region ?_; refine St.binI ?_; refine St.move ?_; refine WO.nil ?_)
  refine WK.unroll ?_
  (refine WK.seq ?_; refine WK.region ?_; refine St.bin ?_; refine WO.nil ?_; refine WK.seq ?_; refine WK.condT ?_; refine WK.skip ?_; refine WK.seq ?_; refine WK.block ?_; refine WK.seq ?_; refine WK.region ?_; refine St.move ?_; refine St.assign ?_; refine WO.nil ?_; refine WK.seq ?_; refine WK.region ?_; refine St.move ?_; refine St.move ?_; refine St.move ?_)
  refine St.at ?_
  refine St.loadX (fun h2 hh => (hh.rds (by simp) h1).1.one rfl) ?_
  cases b
  · (refine St.bin ?_; refine WO.nil ?_; refine WK.condT ?_; refine WK.seq ?_; refine WK.region ?_; refine St.move ?_; refine St.assign ?_; refine WO.nil ?_)
    refine St.ret (by first | exact .tmp .nil | exact .cell .nil | exact .cell (.tmp .nil) | exact .tmp (.tmp .nil) | exact .cell (.cell .nil) | exact .tmp (.cell .nil) | exact .nil | exact .tmp (.cell (.tmp .nil)) | exact .cell (.tmp (.tmp .nil)) | exact .cell (.cell (.tmp .nil)) | exact .tmp (.tmp (.tmp .nil)) | exact .tmp (.tmp (.tmp (.tmp .nil))) | exact .cell (.cell (.cell .nil))) ?_
    rfl
  (refine St.bin ?_; refine WO.nil ?_; refine WK.condF ?_; refine WK.skip ?_; refine WK.blk ?_; refine WK.region ?_; refine St.binI ?_; refine St.move ?_; refine WO.nil ?_)
  refine WK.unroll ?_
  (refine WK.seq ?_; refine WK.region ?_; refine St.bin ?_; refine WO.nil ?_; refine WK.seq ?_; refine WK.condF ?_; refine WK.exit ?_; refine WK.seq ?_; refine WK.region ?_; refine St.assign ?_; refine WO.nil ?_)
  refine St.ret (by first | exact .tmp .nil | exact .cell .nil | exact .cell (.tmp .nil) | exact .tmp (.tmp .nil) | exact .cell (.cell .nil) | exact .tmp (.cell .nil) | exact .nil | exact .tmp (.cell (.tmp .nil)) | exact .cell (.tmp (.tmp .nil)) | exact .cell (.cell (.tmp .nil)) | exact .tmp (.tmp (.tmp .nil)) | exact .tmp (.tmp (.tmp (.tmp .nil))) | exact .cell (.cell (.cell .nil))) ?_
  rfl
set_option maxRecDepth 100000 in
set_option maxHeartbeats 4000000 in
theorem checkAsked_con (h : Heap) (g : Gd h) (c : Int) (v : AV) (l : List Le) (hv : LeV h v l) (j : Nat) (a b : Bool) (k : ACap) (hb : EH boC 1 h j 0 [a, b]) : Con Try.prog Bs 34 [.agg [.int .i64 c], v, .slice j 0 2 k] h [] (.int .i64 (if errL c l ≠ 0 then errL c l else if (a && b) = true then 0 else 1)) [] := by
  refine Con.start rfl Try.func34 rfl rfl Try.ntmps34 rfl rfl g ?_
  (refine WK.seq ?_; refine WK.region ?_; refine St.box fun _ _ => ?_; refine St.assign ?_; refine WO.nil ?_; refine WK.seq ?_; refine WK.seq ?_; refine WK.region ?_; refine St.load ?_; refine St.move ?_)
  refine St.call (fun _ => rfl) (fun h2 hh => checkLetters_con h2 hh.gd c v l (hv.vw hh)) ?_
  (refine St.assign ?_; refine WO.nil ?_; refine WK.seq ?_; refine WK.region ?_; refine St.move ?_; refine St.bin ?_; refine WO.nil ?_)
  refine St.splitC (fun q => ?_) (fun q => ?_)
  · have hne : errL c l ≠ 0 := by simpa using q
    (refine WK.seq ?_; refine WK.region ?_; refine St.move ?_; refine St.assign ?_; refine WO.nil ?_)
    refine St.ret (by first | exact .tmp .nil | exact .cell .nil | exact .cell (.tmp .nil) | exact .tmp (.tmp .nil) | exact .cell (.cell .nil) | exact .tmp (.cell .nil) | exact .nil | exact .tmp (.cell (.tmp .nil)) | exact .cell (.tmp (.tmp .nil)) | exact .cell (.cell (.tmp .nil)) | exact .tmp (.tmp (.tmp .nil)) | exact .tmp (.tmp (.tmp (.tmp .nil))) | exact .cell (.cell (.cell .nil))) ?_
    rw [if_pos hne]
    rfl
  have he : errL c l = 0 := by simpa using q
  (refine WK.skip ?_; refine WK.seq ?_; refine WK.seq ?_; refine WK.region ?_; refine St.move ?_)
  refine St.call (v := .bool (!(a && b))) (fun _ => rfl) (fun h2 hh => ?_) ?_
  · refine Con.start rfl Try.func69 rfl rfl Try.ntmps69 rfl rfl hh.gd ?_
    (refine WK.seq ?_; refine WK.region ?_; refine St.assign ?_; refine WO.nil ?_; refine WK.seq ?_; refine WK.region ?_; refine St.move ?_; refine St.move ?_)
    refine St.call (fun _ => rfl) (fun h3 hh3 => index2_con h3 hh3.gd j a b k ((hb.vw hh).vw hh3)) ?_
    cases a <;> cases b
    · (refine St.bin ?_; refine St.assign ?_; refine WO.nil ?_)
      refine St.ret (by first | exact .tmp .nil | exact .cell .nil | exact .cell (.tmp .nil) | exact .tmp (.tmp .nil) | exact .cell (.cell .nil) | exact .tmp (.cell .nil) | exact .nil | exact .tmp (.cell (.tmp .nil)) | exact .cell (.tmp (.tmp .nil)) | exact .cell (.cell (.tmp .nil)) | exact .tmp (.tmp (.tmp .nil)) | exact .tmp (.tmp (.tmp (.tmp .nil))) | exact .cell (.cell (.cell .nil))) ?_
      rfl
    · (refine St.bin ?_; refine St.assign ?_; refine WO.nil ?_)
      refine St.ret (by first | exact .tmp .nil | exact .cell .nil | exact .cell (.tmp .nil) | exact .tmp (.tmp .nil) | exact .cell (.cell .nil) | exact .tmp (.cell .nil) | exact .nil | exact .tmp (.cell (.tmp .nil)) | exact .cell (.tmp (.tmp .nil)) | exact .cell (.cell (.tmp .nil)) | exact .tmp (.tmp (.tmp .nil)) | exact .tmp (.tmp (.tmp (.tmp .nil))) | exact .cell (.cell (.cell .nil))) ?_
      rfl
    · (refine St.bin ?_; refine St.assign ?_; refine WO.nil ?_)
      refine St.ret (by first | exact .tmp .nil | exact .cell .nil | exact .cell (.tmp .nil) | exact .tmp (.tmp .nil) | exact .cell (.cell .nil) | exact .tmp (.cell .nil) | exact .nil | exact .tmp (.cell (.tmp .nil)) | exact .cell (.tmp (.tmp .nil)) | exact .cell (.cell (.tmp .nil)) | exact .tmp (.tmp (.tmp .nil)) | exact .tmp (.tmp (.tmp (.tmp .nil))) | exact .cell (.cell (.cell .nil))) ?_
      rfl
    · (refine St.bin ?_; refine St.assign ?_; refine WO.nil ?_)
      refine St.ret (by first | exact .tmp .nil | exact .cell .nil | exact .cell (.tmp .nil) | exact .tmp (.tmp .nil) | exact .cell (.cell .nil) | exact .tmp (.cell .nil) | exact .nil | exact .tmp (.cell (.tmp .nil)) | exact .cell (.tmp (.tmp .nil)) | exact .cell (.cell (.tmp .nil)) | exact .tmp (.tmp (.tmp .nil)) | exact .tmp (.tmp (.tmp (.tmp .nil))) | exact .cell (.cell (.cell .nil))) ?_
      rfl
  rw [if_neg (by simp [he])]
  cases a <;> cases b
  · (refine WO.nil ?_; refine WK.condT ?_; refine WK.seq ?_; refine WK.region ?_; refine St.assign ?_; refine WO.nil ?_)
    refine St.ret (by first | exact .tmp .nil | exact .cell .nil | exact .cell (.tmp .nil) | exact .tmp (.tmp .nil) | exact .cell (.cell .nil) | exact .tmp (.cell .nil) | exact .nil | exact .tmp (.cell (.tmp .nil)) | exact .cell (.tmp (.tmp .nil)) | exact .cell (.cell (.tmp .nil)) | exact .tmp (.tmp (.tmp .nil)) | exact .tmp (.tmp (.tmp (.tmp .nil))) | exact .cell (.cell (.cell .nil))) ?_
    rfl
  · (refine WO.nil ?_; refine WK.condT ?_; refine WK.seq ?_; refine WK.region ?_; refine St.assign ?_; refine WO.nil ?_)
    refine St.ret (by first | exact .tmp .nil | exact .cell .nil | exact .cell (.tmp .nil) | exact .tmp (.tmp .nil) | exact .cell (.cell .nil) | exact .tmp (.cell .nil) | exact .nil | exact .tmp (.cell (.tmp .nil)) | exact .cell (.tmp (.tmp .nil)) | exact .cell (.cell (.tmp .nil)) | exact .tmp (.tmp (.tmp .nil)) | exact .tmp (.tmp (.tmp (.tmp .nil))) | exact .cell (.cell (.cell .nil))) ?_
    rfl
  · (refine WO.nil ?_; refine WK.condT ?_; refine WK.seq ?_; refine WK.region ?_; refine St.assign ?_; refine WO.nil ?_)
    refine St.ret (by first | exact .tmp .nil | exact .cell .nil | exact .cell (.tmp .nil) | exact .tmp (.tmp .nil) | exact .cell (.cell .nil) | exact .tmp (.cell .nil) | exact .nil | exact .tmp (.cell (.tmp .nil)) | exact .cell (.tmp (.tmp .nil)) | exact .cell (.cell (.tmp .nil)) | exact .tmp (.tmp (.tmp .nil)) | exact .tmp (.tmp (.tmp (.tmp .nil))) | exact .cell (.cell (.cell .nil))) ?_
    rfl
  · (refine WO.nil ?_; refine WK.condF ?_; refine WK.skip ?_; refine WK.seq ?_; refine WK.region ?_; refine St.assign ?_; refine WO.nil ?_)
    refine St.ret (by first | exact .tmp .nil | exact .cell .nil | exact .cell (.tmp .nil) | exact .tmp (.tmp .nil) | exact .cell (.cell .nil) | exact .tmp (.cell .nil) | exact .nil | exact .tmp (.cell (.tmp .nil)) | exact .cell (.tmp (.tmp .nil)) | exact .cell (.cell (.tmp .nil)) | exact .tmp (.tmp (.tmp .nil)) | exact .tmp (.tmp (.tmp (.tmp .nil))) | exact .cell (.cell (.cell .nil))) ?_
    rfl
theorem or2_key : (List.range 128).all (fun b => (List.range 128).all fun a => decide (IntKind.u64.wrap ((BitVec.ofInt IntKind.u64.bits ((b : Nat) : Int) ||| BitVec.ofInt IntKind.u64.bits ((a : Nat) : Int)).toNat : Int) = ((b ||| a : Nat) : Int))) = true := by decide +kernel
theorem or2_at {b a : Nat} (hb : b < 128) (ha : a < 128) : IntKind.u64.wrap ((BitVec.ofInt IntKind.u64.bits ((b : Nat) : Int) ||| BitVec.ofInt IntKind.u64.bits ((a : Nat) : Int)).toNat : Int) = ((b ||| a : Nat) : Int) :=
  of_decide_eq_true (List.all_eq_true.1 (List.all_eq_true.1 or2_key b (List.mem_range.2 hb)) a (List.mem_range.2 ha))
theorem or_lt2 {a b : Nat} (ha : a < 128) (hb : b < 128) : a ||| b < 128 := Nat.or_lt_two_pow (n := 7) ha hb
theorem bo_eh {h : Heap} {W : List Nat} {h0 : Heap} {V : Ob} {j : Nat} {a b : Bool} {t : TypeId} (hh : Vw h0 W V h) (hm : (j, AObj.cells [.bool a, .bool b] t) ∈ V) : EH boC 1 h j 0 [a, b] := fun i hi => by
  match i, hi with
  | 0, _ => exact hh.rdsEn hm (AObj.has_cells _ _) [.bool a] [.bool b] 0 rfl
  | 1, _ => exact hh.rdsEn hm (AObj.has_cells _ _) [.bool b] [] 1 rfl
set_option maxRecDepth 100000 in
set_option maxHeartbeats 16000000 in
theorem can_con (h : Heap) (g : Gd h) (c : Int) (v : AV) (l : List Le) (id rd : Int) (hv : LeV h v l) (hl : l.length ≤ 1000) : Con Try.prog Bs 17 [.agg [.int .i64 c], v, .int .i64 id, .int .i64 rd] h [] (.tup [.int .i64 (canF c l id rd), .bool (canO c l id rd), .bool (canA c l id rd), .int .i64 (canE c l id rd)]) [] := by
  refine Con.start rfl Try.func17 rfl rfl Try.ntmps17 rfl rfl g ?_
  (refine WK.seq ?_; refine WK.region ?_; refine St.box fun _ _ => ?_; refine St.assign ?_; refine St.assign ?_; refine St.assign ?_; refine St.assign ?_; refine WO.nil ?_; refine WK.seq ?_; refine WK.seq ?_; refine WK.regionD ?_; refine St.load ?_; refine St.move ?_; refine St.move ?_)
  rename_i p4 hp4
  refine St.call (fun _ => rfl) (fun h2 hh => isCase_con h2 hh.gd id) ?_
  (refine St.move ?_)
  refine St.call (fun _ => rfl) (fun h2 hh => isRound_con h2 hh.gd rd) ?_
  (refine StD.mkS fun _ _ => ?_)
  rename_i j hj
  refine StD.callV (v := .int .i64 (canE c l id rd)) [(6, j, .cells [.bool (inB id 1 1099511627776), .bool (rdB rd)] 4)] (fun _ => rfl) (fun x hx => by obtain rfl := List.mem_singleton.1 hx; exact ⟨List.Mem.head _, show maskAt _ _ 6 = true by decide +kernel⟩) (fun h2 hh => checkAsked_con h2 hh.gd c v l (hv.vw hh) j _ _ _ (bo_eh hh (List.mem_cons_self ..))) ?_
  (refine St.assign ?_; refine WO.nil1 ?_; refine WK.seq ?_; refine WK.region ?_; refine St.move ?_; refine St.bin ?_; refine WO.nil ?_)
  refine St.splitC (fun q => ?_) (fun q => ?_)
  · have hne : canE c l id rd ≠ 0 := by simpa using q
    (refine WK.seq ?_; refine WK.region ?_; refine St.move ?_; refine St.assign ?_; refine St.assign ?_; refine St.assign ?_; refine St.assign ?_; refine WO.nil ?_)
    refine St.ret (by first | exact .tmp .nil | exact .cell .nil | exact .cell (.tmp .nil) | exact .tmp (.tmp .nil) | exact .cell (.cell .nil) | exact .tmp (.cell .nil) | exact .nil | exact .tmp (.cell (.tmp .nil)) | exact .cell (.tmp (.tmp .nil)) | exact .cell (.cell (.tmp .nil)) | exact .tmp (.tmp (.tmp .nil)) | exact .tmp (.tmp (.tmp (.tmp .nil))) | exact .cell (.cell (.cell .nil))) ?_
    simp [oneOf, canF, canO, canA, hne]
  have he : canE c l id rd = 0 := by simpa using q
  have heL : errL c l = 0 := by
    unfold canE at he
    by_cases e : errL c l = 0
    · exact e
    · rw [if_pos e] at he; exact absurd he e
  have hcb := crt_bd (errL_ok heL).1
  have hfr := frm_fr heL
  (refine WK.skip ?_; refine WK.seq ?_; refine WK.region ?_; refine St.assign ?_; refine WO.nil ?_; refine WK.seq ?_; refine WK.seq ?_; refine WK.region ?_; refine St.fieldAddr ?_; refine St.load ?_; refine St.move ?_; refine WO.nil ?_; refine WK.block ?_)
  refine WK.inv (ι := Nat) (fun k => [(1, v), (2, .int .i64 id), (3, .int .i64 rd), (4, .ptr p4 0), (13, .int .u64 ((opN l id rd k : Nat) : Int)), (29, .int .i64 c), (30, .int .i64 k)]) (fun _ => [(p4, .cells [.int .i64 c] 23)]) (fun k => k ≤ c.toNat) (fun k => c.toNat - k) 0 (Nat.zero_le _) ⟨rfl, rfl, rfl, rfl, rfl, rfl, rfl, trivial⟩ (by (repeat (first | exact List.Sublist.refl _ | exact List.nil_sublist _ | apply List.Sublist.cons_cons | apply List.Sublist.cons))) ?_
  intro k hk ih
  have hb := opN_lt (l := l) (cs := id) (rd := rd) (k := k) (by omega)
  have hs : opN l id rd (k + 1) = if openB l (k : Int) id rd = true then opN l id rd k ||| 2 ^ k else opN l id rd k := rfl
  (refine WK.seq ?_; refine WK.region ?_; refine St.bin ?_; refine WO.nil ?_; refine WK.seq ?_)
  refine St.splitC (fun q => ?_) (fun q => ?_)
  · have hlt : (k : Int) < c := by simpa using q
    (refine WK.skip ?_; refine WK.seq ?_; refine WK.block ?_; refine WK.seq ?_; refine WK.region ?_; refine St.move ?_; refine St.assign ?_; refine WO.nil ?_; refine WK.seq ?_; refine WK.region ?_; refine St.move ?_; refine St.move ?_; refine St.move ?_; refine St.move ?_)
    refine St.call (fun _ => rfl) (fun h2 hh => isOpen_con h2 hh.gd v l k id rd (hv.vw hh) (by omega)) ?_
    cases ho : openB l (k : Int) id rd
    · rw [ho, if_neg (by simp)] at hs
      (refine WO.nil ?_; refine WK.condF ?_; refine WK.skip ?_; refine WK.blk ?_; refine WK.region ?_; refine St.binI ?_; refine St.move ?_; refine WO.nil ?_)
      refine WK.le ?_ (by (repeat (first | exact List.Sublist.refl _ | exact List.nil_sublist _ | apply List.Sublist.cons_cons | apply List.Sublist.cons))) (ih (k + 1) (by omega) (by omega))
      exact ⟨rfl, rfl, rfl, rfl, congrArg (fun z : Nat => some (AV.int .u64 (z : Int))) hs.symm, rfl, rfl, trivial⟩
    · rw [ho, if_pos rfl] at hs
      (refine WO.nil ?_; refine WK.condT ?_; refine WK.region ?_; refine St.move ?_; refine St.move ?_)
      refine St.call (fun _ => rfl) (fun h2 hh => with_con h2 hh.gd (opN l id rd k) k hb (by omega)) ?_
      (refine St.assign ?_; refine WO.nil ?_; refine WK.blk ?_; refine WK.region ?_; refine St.binI ?_; refine St.move ?_; refine WO.nil ?_)
      refine WK.le ?_ (by (repeat (first | exact List.Sublist.refl _ | exact List.nil_sublist _ | apply List.Sublist.cons_cons | apply List.Sublist.cons))) (ih (k + 1) (by omega) (by omega))
      exact ⟨rfl, rfl, rfl, rfl, congrArg (fun z : Nat => some (AV.int .u64 (z : Int))) hs.symm, rfl, rfl, trivial⟩
  have hkc : k = c.toNat := by simp at q; omega
  rw [hkc] at hb ⊢
  (refine WK.exit ?_; refine WK.seq ?_; refine WK.region ?_; refine St.move ?_; refine St.move ?_; refine St.move ?_)
  refine St.call (fun _ => rfl) (fun h2 hh => proposed_con h2 hh.gd v l id rd (hv.vw hh) (by omega)) ?_
  cases hB : prB l id rd
  · (refine St.move ?_; refine St.extract ?_; refine St.extract ?_; refine St.assign ?_; refine St.assign ?_; refine WO.nil ?_; refine WK.seq ?_; refine WK.seq ?_; refine WK.region ?_; refine St.move ?_; refine St.un ?_; refine WO.nil ?_; refine WK.condT ?_; refine WK.seq ?_; refine WK.region ?_; refine St.move ?_; refine St.load ?_)
    refine St.call (fun _ => rfl) (fun h2 hh => isMajority_con h2 hh.gd c (opN l id rd c.toNat) hb) ?_
    (refine St.assign ?_; refine St.assign ?_; refine St.assign ?_; refine St.assign ?_; refine WO.nil ?_)
    refine St.ret (by first | exact .tmp .nil | exact .cell .nil | exact .cell (.tmp .nil) | exact .tmp (.tmp .nil) | exact .cell (.cell .nil) | exact .tmp (.cell .nil) | exact .nil | exact .tmp (.cell (.tmp .nil)) | exact .cell (.tmp (.tmp .nil)) | exact .cell (.cell (.tmp .nil)) | exact .tmp (.tmp (.tmp .nil)) | exact .tmp (.tmp (.tmp (.tmp .nil))) | exact .cell (.cell (.cell .nil))) ?_
    simp [oneOf, canF, canO, canA, he, hB]
  have hTl := tlN_lt (l := l) (fun x hx => by have := hfr x hx; omega) l.length (Nat.le_refl _)
  have hk2 := lkT_lt (r := (id, rd, prF l id rd)) hTl
  have hab : ableN c l id rd < 128 := or_lt2 hb hk2
  (refine St.move ?_; refine St.extract ?_; refine St.extract ?_; refine St.assign ?_; refine St.assign ?_; refine WO.nil ?_; refine WK.seq ?_; refine WK.seq ?_; refine WK.region ?_; refine St.move ?_; refine St.un ?_; refine WO.nil ?_; refine WK.condF ?_; refine WK.skip ?_; refine WK.seq ?_; refine WK.region ?_; refine St.move ?_; refine St.move ?_)
  refine St.callR (R := fun u L => ∃ m, u = .map m ∧ L = [(m, .map (tlE (tlN l l.length) 0) (tlN l l.length).length)]) (fun _ => rfl) (fun h2 hh => tallyOf_con h2 hh.gd v l (hv.vw hh) (by omega) (fun x hx => by have := hfr x hx; omega)) (fun u L' hR => ?_)
  obtain ⟨m, rfl, rfl⟩ := hR
  (refine St.move ?_; refine St.move ?_; refine St.move ?_; refine St.build ?_)
  refine St.lookupV (v := .int .u64 ((lkT (tlN l l.length) (id, rd, prF l id rd) : Nat) : Int)) (fun h2 hh => ?_) ?_
  · show plainV (evLookup Try.prog h2 57 (.map m) (.agg (rlC (id, rd, prF l id rd))) false) h2 = _
    have hg := hh.getO (j := m) (o := .map (tlE (tlN l l.length) 0) (tlN l l.length).length) (by simp)
    rcases te_split (id, rd, prF l id rd) (tlN l l.length) with hno | ⟨A, n, B, hT, hno⟩
    · rw [lookT_no hg hno, lkT_no hno]
      rfl
    · rw [hT] at hg ⊢
      rw [lookT_yes hg hno, lkT_yes hno]
      rfl
  refine St.binX (u := .int .u64 ((opN l id rd c.toNat : Nat) : Int)) (v := .int .u64 ((lkT (tlN l l.length) (id, rd, prF l id rd) : Nat) : Int)) (r := .int .u64 ((ableN c l id rd : Nat) : Int)) (congrArg (fun z => some (AV.int .u64 z)) (or2_at hb hk2)) rfl rfl ?_
  (refine St.assign ?_; refine WO.nil ?_; refine WK.seq ?_; refine WK.seq ?_; refine WK.region ?_; refine St.move ?_; refine St.load ?_)
  refine St.call (fun _ => rfl) (fun h2 hh => isMajority_con h2 hh.gd c (ableN c l id rd) hab) ?_
  have hO : canO c l id rd = decide ((popN (ableN c l id rd) : Int) ≥ maj c) := by simp [canO, he, hB]
  have hA : canA c l id rd = false := by simp [canA, hB]
  cases hm : decide ((popN (ableN c l id rd) : Int) ≥ maj c)
  · rw [hm] at hO
    (refine St.un ?_; refine WO.nil ?_; refine WK.condT ?_; refine WK.seq ?_; refine WK.region ?_; refine St.assign ?_; refine St.assign ?_; refine St.assign ?_; refine St.assign ?_; refine WO.nil ?_)
    refine St.ret (by first | exact .tmp .nil | exact .cell .nil | exact .cell (.tmp .nil) | exact .tmp (.tmp .nil) | exact .cell (.cell .nil) | exact .tmp (.cell .nil) | exact .nil | exact .tmp (.cell (.tmp .nil)) | exact .cell (.tmp (.tmp .nil)) | exact .cell (.cell (.tmp .nil)) | exact .tmp (.tmp (.tmp .nil)) | exact .tmp (.tmp (.tmp (.tmp .nil))) | exact .cell (.cell (.cell .nil))) ?_
    simp [oneOf, canF, hO, hA, he]
  · rw [hm] at hO
    (refine St.un ?_; refine WO.nil ?_; refine WK.condF ?_; refine WK.skip ?_; refine WK.seq ?_; refine WK.region ?_; refine St.move ?_; refine St.assign ?_; refine St.assign ?_; refine St.assign ?_; refine St.assign ?_; refine WO.nil ?_)
    refine St.ret (by first | exact .tmp .nil | exact .cell .nil | exact .cell (.tmp .nil) | exact .tmp (.tmp .nil) | exact .cell (.cell .nil) | exact .tmp (.cell .nil) | exact .nil | exact .tmp (.cell (.tmp .nil)) | exact .cell (.tmp (.tmp .nil)) | exact .cell (.cell (.tmp .nil)) | exact .tmp (.tmp (.tmp .nil)) | exact .tmp (.tmp (.tmp (.tmp .nil))) | exact .cell (.cell (.cell .nil))) ?_
    simp [oneOf, canF, hO, hA, he]
end Go.Proofs.Ytilpinmbngikgaa
