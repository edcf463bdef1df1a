/- Layer 9: groups of arbiters as bits; the promises of a round, one after the other; votedUpTo. -/
import Derived.Test.YtilpinmbngikgaaGreatIt
import Derived.Test.YtilpinmbngikgaaGreatKt
namespace Go.Proofs.YtilpinmbngikgaaGreat
open Go.Proofs.YtilpinmbngikgaaGreat.Ev

theorem or_key : (List.range 128).all (fun b => (List.range 7).all fun a => decide (IntKind.u64.wrap ((BitVec.ofInt IntKind.u64.bits (b : Int) ||| BitVec.ofInt IntKind.u64.bits (IntKind.u64.wrap (1 * 2 ^ min ((a : Nat) : Int).toNat IntKind.u64.bits))).toNat : Int) = ((b ||| 2 ^ a : Nat) : Int))) = true := by decide +kernel
theorem or_at {b a : Nat} (hb : b < 128) (ha : a < 7) : IntKind.u64.wrap ((BitVec.ofInt IntKind.u64.bits (b : Int) ||| BitVec.ofInt IntKind.u64.bits (IntKind.u64.wrap (1 * 2 ^ min ((a : Nat) : Int).toNat IntKind.u64.bits))).toNat : Int) = ((b ||| 2 ^ a : Nat) : Int) :=
  of_decide_eq_true (List.all_eq_true.1 (List.all_eq_true.1 or_key b (List.mem_range.2 hb)) a (List.mem_range.2 ha))
set_option maxRecDepth 100000 in
theorem with_con (h : Heap) (g : Gd h) (b a : Nat) (hb : b < 128) (ha : a < 7) : Con Tryz.prog Bs 40 [.int .u64 b, .int .i64 a] h [] (.int .u64 ((b ||| 2 ^ a : Nat) : Int)) [] := by
  refine Con.start rfl Tryz.func40 rfl rfl Tryz.ntmps40 rfl rfl g ?_
  (repeat (first | refine St.move ?_ | refine St.assign ?_ | refine St.binI ?_ | refine St.bin ?_ | refine St.load ?_ | refine St.fieldAddr ?_ | refine St.field ?_ | refine St.extract ?_ | refine St.pickT ?_ | refine St.pickF ?_ | refine St.pick ?_ | refine WO.nil ?_ | refine WK.seq ?_ | refine WK.region ?_ | refine St.len ?_ | refine St.unI ?_ | refine St.un ?_ | refine St.box fun _ _ => ?_ | refine St.alloc fun _ _ => ?_ | refine St.store0 ?_ | refine St.store1 ?_ | refine St.store2 ?_ | refine St.store3 ?_ | refine St.store4 ?_ | refine St.store5 ?_ | refine St.build ?_ | refine St.skip ?_ | refine St.skipN ?_ | refine WK.skip ?_ | refine WK.block ?_ | refine WK.blk ?_ | refine WK.scope ?_ | refine WK.label ?_ | refine WK.exit ?_ | refine WK.condT ?_ | refine WK.condF ?_ | refine St.conv ?_ | refine St.fn ?_ | refine St.nilF ?_ | refine St.nilP ?_ | refine St.len0 ?_ | refine St.maxI ?_ | refine St.minI ?_ | refine St.max ?_ | refine St.min ?_ | refine WK.regionD ?_ | refine StD.box fun _ _ => ?_ | refine StD.alloc fun _ _ => ?_ | refine StD.store0 ?_ | refine StD.store1 ?_ | refine WO.nil1 ?_ | refine WO.nil2 ?_ | refine WO.nil3 ?_ | refine St.mkS fun _ _ => ?_ | refine StD.mkS fun _ _ => ?_ | refine StD.store2 ?_ | refine StD.store3 ?_ | refine StD.store4 ?_ | refine StD.store5 ?_ | refine St.store6 ?_ | refine St.store7 ?_ | refine StD.storeT ?_ | refine St.atA ?_ | refine St.lenZ ?_))
  refine St.ret (by first | exact .tmp .nil | exact .cell .nil | exact .cell (.tmp .nil) | exact .tmp (.tmp .nil) | exact .cell (.cell .nil) | exact .tmp (.cell .nil) | exact .nil | exact .tmp (.cell (.tmp .nil)) | exact .cell (.tmp (.tmp .nil)) | exact .cell (.cell (.tmp .nil)) | exact .tmp (.tmp (.tmp .nil)) | exact .tmp (.tmp (.tmp (.tmp .nil))) | exact .cell (.cell (.cell .nil))) ?_
  exact congrArg (AV.int .u64) (or_at hb ha)
set_option maxRecDepth 100000 in
set_option maxHeartbeats 8000000 in
theorem ones_ex : ∃ f : Int → Int, (∀ (h : Heap) (_ : Gd h) (n : Int), Con Tryz.prog Bs 83 [.int .u64 n] h [] (.int .i64 (f n)) []) ∧ ∀ n : Nat, n < 128 → f n = (popN n : Int) := by
  apply Exists.intro
  constructor
  · intro h g n
    refine Con.start rfl Tryz.func83 rfl rfl Tryz.ntmps83 rfl rfl g ?_
    (repeat (first | refine St.move ?_ | refine St.assign ?_ | refine St.binI ?_ | refine St.bin ?_ | refine St.load ?_ | refine St.fieldAddr ?_ | refine St.field ?_ | refine St.extract ?_ | refine St.pickT ?_ | refine St.pickF ?_ | refine St.pick ?_ | refine WO.nil ?_ | refine WK.seq ?_ | refine WK.region ?_ | refine St.len ?_ | refine St.unI ?_ | refine St.un ?_ | refine St.box fun _ _ => ?_ | refine St.alloc fun _ _ => ?_ | refine St.store0 ?_ | refine St.store1 ?_ | refine St.store2 ?_ | refine St.store3 ?_ | refine St.store4 ?_ | refine St.store5 ?_ | refine St.build ?_ | refine St.skip ?_ | refine St.skipN ?_ | refine WK.skip ?_ | refine WK.block ?_ | refine WK.blk ?_ | refine WK.scope ?_ | refine WK.label ?_ | refine WK.exit ?_ | refine WK.condT ?_ | refine WK.condF ?_ | refine St.conv ?_ | refine St.fn ?_ | refine St.nilF ?_ | refine St.nilP ?_ | refine St.len0 ?_ | refine St.maxI ?_ | refine St.minI ?_ | refine St.max ?_ | refine St.min ?_ | refine WK.regionD ?_ | refine StD.box fun _ _ => ?_ | refine StD.alloc fun _ _ => ?_ | refine StD.store0 ?_ | refine StD.store1 ?_ | refine WO.nil1 ?_ | refine WO.nil2 ?_ | refine WO.nil3 ?_ | refine St.mkS fun _ _ => ?_ | refine StD.mkS fun _ _ => ?_ | refine StD.store2 ?_ | refine StD.store3 ?_ | refine StD.store4 ?_ | refine StD.store5 ?_ | refine St.store6 ?_ | refine St.store7 ?_ | refine StD.storeT ?_ | refine St.atA ?_ | refine St.lenZ ?_))
    refine St.ret (by first | exact .tmp .nil | exact .cell .nil | exact .cell (.tmp .nil) | exact .tmp (.tmp .nil) | exact .cell (.cell .nil) | exact .tmp (.cell .nil) | exact .nil | exact .tmp (.cell (.tmp .nil)) | exact .cell (.tmp (.tmp .nil)) | exact .cell (.cell (.tmp .nil)) | exact .tmp (.tmp (.tmp .nil)) | exact .tmp (.tmp (.tmp (.tmp .nil))) | exact .cell (.cell (.cell .nil))) ?_
    rfl
  · decide +kernel
end Go.Proofs.YtilpinmbngikgaaGreat
