/- The law TideMoreGauges over the calculator's memory. -/
import Derived.Test.YtgjkfmcjalcefaaGreatQc
import Derived.Test.YtgjkfmcjalcefaaGreatQq
import Derived.Test.YtgjkfmcjalcefaaGreatOg
import Derived.Test.YtgjkfmcjalcefaaGreatEv8
/- agrees, against, Rests of the program. -/
namespace Go.Proofs.YtgjkfmcjalcefaaGreat
open Go.Proofs.YtgjkfmcjalcefaaGreat.Ev

set_option maxRecDepth 100000 in
theorem agrees_con (h : Heap) (g : Gd h) (a b c d x y t : Int) : Con Tryz.prog Bs 78 [.agg [.int .i64 a, .int .i64 b, .int .i64 c, .int .i64 d, .int .i64 x, .int .i64 y], .int .i64 t] h [] (.bool (decide (x ≤ t) && decide (t ≤ y))) [] := by
  refine Con.start rfl Tryz.func78 rfl rfl Tryz.ntmps78 rfl rfl g ?_
  (refine WK.seq ?_; refine WK.region ?_; refine St.box fun _ _ => ?_; refine St.assign ?_; refine WO.nil ?_; refine WK.seq ?_; refine WK.region ?_; refine St.fieldAddr ?_; refine St.fieldAddr ?_; refine St.load ?_; refine St.move ?_; refine St.bin ?_; refine St.move ?_)
  refine St.split (fun hc => ?_) (fun hc => ?_)
  · (refine St.move ?_; refine St.fieldAddr ?_; refine St.fieldAddr ?_; refine St.load ?_; refine St.bin ?_; refine St.pickT ?_; refine St.assign ?_; refine WO.nil ?_)
    refine St.ret (by first | exact .tmp .nil | exact .cell .nil | exact .cell (.tmp .nil) | exact .tmp (.tmp .nil) | exact .cell (.cell .nil) | exact .tmp (.cell .nil) | exact .nil | exact .tmp (.cell (.tmp .nil)) | exact .cell (.tmp (.tmp .nil)) | exact .cell (.cell (.tmp .nil)) | exact .tmp (.tmp (.tmp .nil)) | exact .cell (.cell (.cell .nil))) ?_
    simp [oneOf, hc]
  · (refine St.skip ?_; refine St.skip ?_; refine St.skip ?_; refine St.skip ?_; refine St.skip ?_; refine St.pickF ?_; refine St.assign ?_; refine WO.nil ?_)
    refine St.ret (by first | exact .tmp .nil | exact .cell .nil | exact .cell (.tmp .nil) | exact .tmp (.tmp .nil) | exact .cell (.cell .nil) | exact .tmp (.cell .nil) | exact .nil | exact .tmp (.cell (.tmp .nil)) | exact .cell (.tmp (.tmp .nil)) | exact .cell (.cell (.tmp .nil)) | exact .tmp (.tmp (.tmp .nil)) | exact .cell (.cell (.cell .nil))) ?_
    simp [oneOf, hc]
set_option maxRecDepth 100000 in
set_option maxHeartbeats 8000000 in
theorem against_con (h : Heap) (g : Gd h) (v : AV) (cs : List Cy) (ss : List Sh) (l : List Ga) (t : Int) (hv : SeV h v cs ss l) (hl : l.length ≤ 1000000) :
    Con Tryz.prog Bs 39 [v, .int .i64 t] h [] (.int .i64 (agsR cs ss l t)) [] := by
  refine Con.start rfl Tryz.func39 rfl rfl Tryz.ntmps39 rfl rfl g ?_
  (refine WK.seq ?_; refine WK.region ?_; refine St.assign ?_; refine WO.nil ?_; refine WK.seq ?_; refine WK.seq ?_; refine WK.region ?_; refine St.move ?_)
  refine St.call (fun _ => rfl) (fun h2 hh => within_con h2 hh.gd t) ?_
  by_cases ht : inB t 4000 = true
  rotate_left
  · have : inB t 4000 = false := by simpa using ht
    rw [this]
    (refine St.un ?_; refine WO.nil ?_; refine WK.condT ?_; refine WK.seq ?_; refine WK.region ?_; refine St.assign ?_; refine WO.nil ?_)
    refine St.ret (by first | exact .tmp .nil | exact .cell .nil | exact .cell (.tmp .nil) | exact .tmp (.tmp .nil) | exact .cell (.cell .nil) | exact .tmp (.cell .nil) | exact .nil | exact .tmp (.cell (.tmp .nil)) | exact .cell (.tmp (.tmp .nil)) | exact .cell (.cell (.tmp .nil)) | exact .tmp (.tmp (.tmp .nil)) | exact .cell (.cell (.cell .nil))) ?_
    simp [oneOf, agsR, this]
  have e : agsR cs ss l t = l.foldl (agF cs ss t) 1099511627776 := if_pos ht
  rw [ht, e]
  (refine St.un ?_; refine WO.nil ?_; refine WK.condF ?_; refine WK.skip ?_; refine WK.seq ?_; refine WK.region ?_; refine St.assign ?_; refine WO.nil ?_; refine WK.seq ?_; refine WK.seq ?_; refine WK.region ?_; refine St.move ?_)
  refine St.lenV rfl hv.len ?_
  (refine St.move ?_; refine WO.nil ?_; refine WK.block ?_)
  by_cases hn : l.length = 0
  · have e1 : l = [] := List.length_eq_zero_iff.1 hn
    subst e1
    refine WK.unroll ?_
    (refine WK.seq ?_; refine WK.region ?_; refine St.bin ?_; refine WO.nil ?_; refine WK.seq ?_; refine WK.condF ?_; refine WK.exit ?_; refine WK.seq ?_; refine WK.region ?_; refine St.move ?_; refine St.assign ?_; refine WO.nil ?_)
    refine St.ret (by first | exact .tmp .nil | exact .cell .nil | exact .cell (.tmp .nil) | exact .tmp (.tmp .nil) | exact .cell (.cell .nil) | exact .tmp (.cell .nil) | exact .nil | exact .tmp (.cell (.tmp .nil)) | exact .cell (.tmp (.tmp .nil)) | exact .cell (.cell (.tmp .nil)) | exact .tmp (.tmp (.tmp .nil)) | exact .cell (.cell (.cell .nil))) ?_
    rfl
  obtain ⟨b, off, c, rfl, hk⟩ := hv.ne (by omega)
  refine WK.inv (ι := Nat) (fun z => [(1, .int .i64 t), (4, .int .i64 0), (5, .int .i64 ((l.take z).foldl (agF cs ss t) 1099511627776)), (11, .slice b off l.length c), (12, .int .i64 l.length), (13, .int .i64 z)]) (fun _ => []) (fun z => z ≤ l.length) (fun z => l.length - z) 0 (by omega) ⟨rfl, rfl, rfl, rfl, rfl, rfl, trivial⟩ (by (repeat (first | exact List.Sublist.refl _ | exact List.nil_sublist _ | apply List.Sublist.cons_cons | apply List.Sublist.cons))) ?_
  rintro k hkl ih
  (refine WK.seq ?_; refine WK.region ?_; refine St.bin ?_; refine WO.nil ?_; refine WK.seq ?_)
  refine St.splitC (fun hc => ?_) (fun hc => ?_)
  · have hlt : k < l.length := by simp at hc; omega
    have hs := ags_succ (cs := cs) (ss := ss) (v := t) hlt
    have ih2 := ih (k + 1) hlt (by omega)
    rw [hs] at ih2
    (refine WK.skip ?_; refine WK.seq ?_; refine WK.block ?_; refine WK.seq ?_; refine WK.region ?_)
    refine St.at ?_
    refine St.loadX (fun h hh => ((hk.vw hh).at_ (z := (k : Int)) (n := k) (by omega) hlt).agg (by simp) rfl rfl rfl) ?_
    (refine St.alloc fun _ _ => ?_; refine St.store0 ?_; refine WO.nil ?_; refine WK.seq ?_; refine WK.region ?_; refine St.load ?_; refine St.move ?_)
    refine St.call (fun _ => rfl) (fun h2 hh => agrees_con h2 hh.gd (nthG l k).id (nthG l k).tk (nthG l k).lo (nthG l k).hi (lvG cs ss (nthG l k)).1 (lvG cs ss (nthG l k)).2 t) ?_
    (refine St.un ?_; refine WO.nil ?_)
    refine St.splitC (fun hq => ?_) (fun hq => ?_)
    · have ha : agG cs ss (nthG l k) t = false := by unfold agG; simp at hq ⊢; omega
      have e2 : agF cs ss t ((l.take k).foldl (agF cs ss t) 1099511627776) (nthG l k) = min ((l.take k).foldl (agF cs ss t) 1099511627776) (nthG l k).id := if_neg (by simp [ha])
      rw [e2] at ih2
      (refine WK.region ?_; refine St.move ?_; refine St.fieldAddr ?_; refine St.fieldAddr ?_; refine St.load ?_; refine St.mkS fun _ _ => ?_)
      refine St.call (fun _ => rfl) (fun h2 hh => least_con h2 hh.gd ((l.take k).foldl (agF cs ss t) 1099511627776) _ [(nthG l k).id] (.inr ⟨_, 0, _, rfl, hh.ins (List.Mem.head _) (AObj.has_cells _ _)⟩) (by simp)) ?_
      (refine St.assign ?_; refine WO.nil ?_; refine WK.blk ?_; refine WK.region ?_; refine St.binI ?_; refine St.move ?_; refine WO.nil ?_)
      refine WK.le ?_ (by (repeat (first | exact List.Sublist.refl _ | exact List.nil_sublist _ | apply List.Sublist.cons_cons | apply List.Sublist.cons))) ih2
      exact ⟨rfl, rfl, rfl, rfl, rfl, rfl, trivial⟩
    · have ha : agG cs ss (nthG l k) t = true := by unfold agG; simpa using hq
      have e2 : agF cs ss t ((l.take k).foldl (agF cs ss t) 1099511627776) (nthG l k) = (l.take k).foldl (agF cs ss t) 1099511627776 := if_pos ha
      rw [e2] at ih2
      (refine WK.skip ?_; refine WK.blk ?_; refine WK.region ?_; refine St.binI ?_; refine St.move ?_; refine WO.nil ?_)
      refine WK.le ?_ (by (repeat (first | exact List.Sublist.refl _ | exact List.nil_sublist _ | apply List.Sublist.cons_cons | apply List.Sublist.cons))) ih2
      exact ⟨rfl, rfl, rfl, rfl, rfl, rfl, trivial⟩
  · have : k = l.length := by simp at hc; omega
    subst this
    rw [List.take_length]
    (refine WK.exit ?_; refine WK.seq ?_; refine WK.region ?_; refine St.move ?_; refine St.assign ?_; refine WO.nil ?_)
    refine St.ret (by first | exact .tmp .nil | exact .cell .nil | exact .cell (.tmp .nil) | exact .tmp (.tmp .nil) | exact .cell (.cell .nil) | exact .tmp (.cell .nil) | exact .nil | exact .tmp (.cell (.tmp .nil)) | exact .cell (.tmp (.tmp .nil)) | exact .cell (.cell (.tmp .nil)) | exact .tmp (.tmp (.tmp .nil)) | exact .cell (.cell (.cell .nil))) ?_
    rfl
end Go.Proofs.YtgjkfmcjalcefaaGreat

/- Rests of the program; gauges that are an argument. -/
namespace Go.Proofs.YtgjkfmcjalcefaaGreat
open Go.ChangeShapes Go.WideShapes Go.ChangeAt Go.RowKit Go.Deep Go.Proofs.YtgjkfmcjalcefaaGreat.Ev

set_option maxRecDepth 100000 in
set_option maxHeartbeats 8000000 in
theorem rests_con (h : Heap) (g : Gd h) (lv : Int) (cv sv v : AV) (cl : List Cw) (ss : List Sh) (l : List Ga) (hc : CyV h cv cl) (hs : ShV h sv ss) (hv : GaV h v l) (hl : l.length ≤ 1000000) :
    Con Tryz.prog Bs 9 [.agg [.int .i64 lv, cv, sv], v] h [] (.tup [.int .i64 (restsR lv (cys cl) ss l).1, .int .i64 (restsR lv (cys cl) ss l).2.1, .int .i64 (restsR lv (cys cl) ss l).2.2]) [] := by
  have hL : ∀ (h2 : Heap) {V : Ob}, Vw h [] V h2 → Con Tryz.prog Bs 7 [.agg [.int .i64 lv, cv, sv], v] h2 [] (.tup [.agg [.int .i64 (levelsR lv (cys cl) ss l).1.1, .int .i64 (levelsR lv (cys cl) ss l).1.2], .int .i64 (levelsR lv (cys cl) ss l).2]) [] := fun h2 V hh => levels_con h2 hh.gd lv cv sv v cl ss l (hc.vw hh) (hs.vw hh) (hv.vw hh) hl
  by_cases h0 : (levelsR lv (cys cl) ss l).2 = 0
  rotate_left
  · have e : restsR lv (cys cl) ss l = (0, 0, (levelsR lv (cys cl) ss l).2) := if_pos h0
    rw [e]
    refine Con.start rfl Tryz.func9 rfl rfl Tryz.ntmps9 rfl rfl g ?_
    (repeat (first | refine St.move ?_ | refine St.assign ?_ | refine St.binI ?_ | refine St.bin ?_ | refine St.load ?_ | refine St.fieldAddr ?_ | refine St.field ?_ | refine St.extract ?_ | refine St.pickT ?_ | refine St.pickF ?_ | refine St.pick ?_ | refine WO.nil ?_ | refine WK.seq ?_ | refine WK.region ?_ | refine St.len ?_ | refine St.unI ?_ | refine St.un ?_ | refine St.box fun _ _ => ?_ | refine St.alloc fun _ _ => ?_ | refine St.store0 ?_ | refine St.store1 ?_ | refine St.store2 ?_ | refine St.store3 ?_ | refine St.store4 ?_ | refine St.store5 ?_ | refine St.build ?_ | refine St.skip ?_ | refine St.skipN ?_ | refine WK.skip ?_ | refine WK.block ?_ | refine WK.blk ?_ | refine WK.scope ?_ | refine WK.label ?_ | refine WK.exit ?_ | refine WK.condT ?_ | refine WK.condF ?_ | refine St.conv ?_ | refine St.fn ?_ | refine St.nilF ?_ | refine St.nilP ?_ | refine St.len0 ?_ | refine St.maxI ?_ | refine St.minI ?_ | refine St.max ?_ | refine St.min ?_ | refine WK.regionD ?_ | refine StD.box fun _ _ => ?_ | refine StD.alloc fun _ _ => ?_ | refine StD.store0 ?_ | refine StD.store1 ?_ | refine WO.nil1 ?_ | refine WO.nil2 ?_ | refine WO.nil3 ?_ | refine St.mkS fun _ _ => ?_ | refine StD.mkS fun _ _ => ?_ | refine StD.store2 ?_ | refine StD.store3 ?_ | refine StD.store4 ?_ | refine StD.store5 ?_ | refine St.store6 ?_ | refine St.store7 ?_ | refine StD.storeT ?_ | refine St.atA ?_ | refine St.lenZ ?_))
    refine St.call (fun _ => rfl) (fun h2 hh => hL h2 hh) ?_
    (repeat (first | refine St.move ?_ | refine St.assign ?_ | refine St.binI ?_ | refine St.bin ?_ | refine St.load ?_ | refine St.fieldAddr ?_ | refine St.field ?_ | refine St.extract ?_ | refine St.pickT ?_ | refine St.pickF ?_ | refine St.pick ?_ | refine WO.nil ?_ | refine WK.seq ?_ | refine WK.region ?_ | refine St.len ?_ | refine St.unI ?_ | refine St.un ?_ | refine St.box fun _ _ => ?_ | refine St.alloc fun _ _ => ?_ | refine St.store0 ?_ | refine St.store1 ?_ | refine St.store2 ?_ | refine St.store3 ?_ | refine St.store4 ?_ | refine St.store5 ?_ | refine St.build ?_ | refine St.skip ?_ | refine St.skipN ?_ | refine WK.skip ?_ | refine WK.block ?_ | refine WK.blk ?_ | refine WK.scope ?_ | refine WK.label ?_ | refine WK.exit ?_ | refine WK.condT ?_ | refine WK.condF ?_ | refine St.conv ?_ | refine St.fn ?_ | refine St.nilF ?_ | refine St.nilP ?_ | refine St.len0 ?_ | refine St.maxI ?_ | refine St.minI ?_ | refine St.max ?_ | refine St.min ?_ | refine WK.regionD ?_ | refine StD.box fun _ _ => ?_ | refine StD.alloc fun _ _ => ?_ | refine StD.store0 ?_ | refine StD.store1 ?_ | refine WO.nil1 ?_ | refine WO.nil2 ?_ | refine WO.nil3 ?_ | refine St.mkS fun _ _ => ?_ | refine StD.mkS fun _ _ => ?_ | refine StD.store2 ?_ | refine StD.store3 ?_ | refine StD.store4 ?_ | refine StD.store5 ?_ | refine St.store6 ?_ | refine St.store7 ?_ | refine StD.storeT ?_ | refine St.atA ?_ | refine St.lenZ ?_))
    refine St.splitC (fun q => ?_) (fun q => ?_)
    · (repeat (first | refine St.move ?_ | refine St.assign ?_ | refine St.binI ?_ | refine St.bin ?_ | refine St.load ?_ | refine St.fieldAddr ?_ | refine St.field ?_ | refine St.extract ?_ | refine St.pickT ?_ | refine St.pickF ?_ | refine St.pick ?_ | refine WO.nil ?_ | refine WK.seq ?_ | refine WK.region ?_ | refine St.len ?_ | refine St.unI ?_ | refine St.un ?_ | refine St.box fun _ _ => ?_ | refine St.alloc fun _ _ => ?_ | refine St.store0 ?_ | refine St.store1 ?_ | refine St.store2 ?_ | refine St.store3 ?_ | refine St.store4 ?_ | refine St.store5 ?_ | refine St.build ?_ | refine St.skip ?_ | refine St.skipN ?_ | refine WK.skip ?_ | refine WK.block ?_ | refine WK.blk ?_ | refine WK.scope ?_ | refine WK.label ?_ | refine WK.exit ?_ | refine WK.condT ?_ | refine WK.condF ?_ | refine St.conv ?_ | refine St.fn ?_ | refine St.nilF ?_ | refine St.nilP ?_ | refine St.len0 ?_ | refine St.maxI ?_ | refine St.minI ?_ | refine St.max ?_ | refine St.min ?_ | refine WK.regionD ?_ | refine StD.box fun _ _ => ?_ | refine StD.alloc fun _ _ => ?_ | refine StD.store0 ?_ | refine StD.store1 ?_ | refine WO.nil1 ?_ | refine WO.nil2 ?_ | refine WO.nil3 ?_ | refine St.mkS fun _ _ => ?_ | refine StD.mkS fun _ _ => ?_ | refine StD.store2 ?_ | refine StD.store3 ?_ | refine StD.store4 ?_ | refine StD.store5 ?_ | refine St.store6 ?_ | refine St.store7 ?_ | refine StD.storeT ?_ | refine St.atA ?_ | refine St.lenZ ?_))
      refine St.ret (by first | exact .tmp .nil | exact .cell .nil | exact .cell (.tmp .nil) | exact .tmp (.tmp .nil) | exact .cell (.cell .nil) | exact .tmp (.cell .nil) | exact .nil | exact .tmp (.cell (.tmp .nil)) | exact .cell (.tmp (.tmp .nil)) | exact .cell (.cell (.tmp .nil)) | exact .tmp (.tmp (.tmp .nil)) | exact .cell (.cell (.cell .nil))) ?_
      rfl
    · simp at q; exact absurd q h0
  have e : restsR lv (cys cl) ss l = _ := if_neg (by simp [h0])
  obtain ⟨k0, k1, k2⟩ := levels_ok h0
  obtain ⟨w, h40, hga⟩ := chkGs_w k0
  have n1 := (com_iff (cys cl) ss l (comG (cys cl) ss l).1).1 ⟨by omega, by omega⟩
  have n2 := (com_iff (cys cl) ss l (comG (cys cl) ss l).2).1 ⟨by omega, by omega⟩
  rw [k1] at e hL
  rw [h0] at hL
  rw [e]
  refine Con.start rfl Tryz.func9 rfl rfl Tryz.ntmps9 rfl rfl g ?_
  (repeat (first | refine St.move ?_ | refine St.assign ?_ | refine St.binI ?_ | refine St.bin ?_ | refine St.load ?_ | refine St.fieldAddr ?_ | refine St.field ?_ | refine St.extract ?_ | refine St.pickT ?_ | refine St.pickF ?_ | refine St.pick ?_ | refine WO.nil ?_ | refine WK.seq ?_ | refine WK.region ?_ | refine St.len ?_ | refine St.unI ?_ | refine St.un ?_ | refine St.box fun _ _ => ?_ | refine St.alloc fun _ _ => ?_ | refine St.store0 ?_ | refine St.store1 ?_ | refine St.store2 ?_ | refine St.store3 ?_ | refine St.store4 ?_ | refine St.store5 ?_ | refine St.build ?_ | refine St.skip ?_ | refine St.skipN ?_ | refine WK.skip ?_ | refine WK.block ?_ | refine WK.blk ?_ | refine WK.scope ?_ | refine WK.label ?_ | refine WK.exit ?_ | refine WK.condT ?_ | refine WK.condF ?_ | refine St.conv ?_ | refine St.fn ?_ | refine St.nilF ?_ | refine St.nilP ?_ | refine St.len0 ?_ | refine St.maxI ?_ | refine St.minI ?_ | refine St.max ?_ | refine St.min ?_ | refine WK.regionD ?_ | refine StD.box fun _ _ => ?_ | refine StD.alloc fun _ _ => ?_ | refine StD.store0 ?_ | refine StD.store1 ?_ | refine WO.nil1 ?_ | refine WO.nil2 ?_ | refine WO.nil3 ?_ | refine St.mkS fun _ _ => ?_ | refine StD.mkS fun _ _ => ?_ | refine StD.store2 ?_ | refine StD.store3 ?_ | refine StD.store4 ?_ | refine StD.store5 ?_ | refine St.store6 ?_ | refine St.store7 ?_ | refine StD.storeT ?_ | refine St.atA ?_ | refine St.lenZ ?_))
  rename_i p hp
  refine St.call (fun _ => rfl) (fun h2 hh => hL h2 hh) ?_
  (repeat (first | refine St.move ?_ | refine St.assign ?_ | refine St.binI ?_ | refine St.bin ?_ | refine St.load ?_ | refine St.fieldAddr ?_ | refine St.field ?_ | refine St.extract ?_ | refine St.pickT ?_ | refine St.pickF ?_ | refine St.pick ?_ | refine WO.nil ?_ | refine WK.seq ?_ | refine WK.region ?_ | refine St.len ?_ | refine St.unI ?_ | refine St.un ?_ | refine St.box fun _ _ => ?_ | refine St.alloc fun _ _ => ?_ | refine St.store0 ?_ | refine St.store1 ?_ | refine St.store2 ?_ | refine St.store3 ?_ | refine St.store4 ?_ | refine St.store5 ?_ | refine St.build ?_ | refine St.skip ?_ | refine St.skipN ?_ | refine WK.skip ?_ | refine WK.block ?_ | refine WK.blk ?_ | refine WK.scope ?_ | refine WK.label ?_ | refine WK.exit ?_ | refine WK.condT ?_ | refine WK.condF ?_ | refine St.conv ?_ | refine St.fn ?_ | refine St.nilF ?_ | refine St.nilP ?_ | refine St.len0 ?_ | refine St.maxI ?_ | refine St.minI ?_ | refine St.max ?_ | refine St.min ?_ | refine WK.regionD ?_ | refine StD.box fun _ _ => ?_ | refine StD.alloc fun _ _ => ?_ | refine StD.store0 ?_ | refine StD.store1 ?_ | refine WO.nil1 ?_ | refine WO.nil2 ?_ | refine WO.nil3 ?_ | refine St.mkS fun _ _ => ?_ | refine StD.mkS fun _ _ => ?_ | refine StD.store2 ?_ | refine StD.store3 ?_ | refine StD.store4 ?_ | refine StD.store5 ?_ | refine St.store6 ?_ | refine St.store7 ?_ | refine StD.storeT ?_ | refine St.atA ?_ | refine St.lenZ ?_))
  rename_i q hq
  refine St.callR (fun _ => rfl) (fun h2 hh => see_con h2 hh.gd lv cv sv v cl ss l (hc.vw hh) (hs.vw hh) (hv.vw hh) (by omega) w hga) ?_
  rintro u L1 hu
  refine WO.permF (L' := [(q, .cells [.int .i64 (comG (cys cl) ss l).1, .int .i64 (comG (cys cl) ss l).2] 30), (p, .cells [.int .i64 lv, cv, sv] 25)] ++ L1) List.perm_append_comm ?_
  (repeat (first | refine St.move ?_ | refine St.assign ?_ | refine St.binI ?_ | refine St.bin ?_ | refine St.load ?_ | refine St.fieldAddr ?_ | refine St.field ?_ | refine St.extract ?_ | refine St.pickT ?_ | refine St.pickF ?_ | refine St.pick ?_ | refine WO.nil ?_ | refine WK.seq ?_ | refine WK.region ?_ | refine St.len ?_ | refine St.unI ?_ | refine St.un ?_ | refine St.box fun _ _ => ?_ | refine St.alloc fun _ _ => ?_ | refine St.store0 ?_ | refine St.store1 ?_ | refine St.store2 ?_ | refine St.store3 ?_ | refine St.store4 ?_ | refine St.store5 ?_ | refine St.build ?_ | refine St.skip ?_ | refine St.skipN ?_ | refine WK.skip ?_ | refine WK.block ?_ | refine WK.blk ?_ | refine WK.scope ?_ | refine WK.label ?_ | refine WK.exit ?_ | refine WK.condT ?_ | refine WK.condF ?_ | refine St.conv ?_ | refine St.fn ?_ | refine St.nilF ?_ | refine St.nilP ?_ | refine St.len0 ?_ | refine St.maxI ?_ | refine St.minI ?_ | refine St.max ?_ | refine St.min ?_ | refine WK.regionD ?_ | refine StD.box fun _ _ => ?_ | refine StD.alloc fun _ _ => ?_ | refine StD.store0 ?_ | refine StD.store1 ?_ | refine WO.nil1 ?_ | refine WO.nil2 ?_ | refine WO.nil3 ?_ | refine St.mkS fun _ _ => ?_ | refine StD.mkS fun _ _ => ?_ | refine StD.store2 ?_ | refine StD.store3 ?_ | refine StD.store4 ?_ | refine StD.store5 ?_ | refine St.store6 ?_ | refine St.store7 ?_ | refine StD.storeT ?_ | refine St.atA ?_ | refine St.lenZ ?_))
  refine St.call (fun _ => rfl) (fun h2 hh => against_con h2 hh.gd u (cys cl) ss l ((comG (cys cl) ss l).1 - 1) (see_v hu hh (fun x hx => List.mem_append_right _ hx)) hl) ?_
  (repeat (first | refine St.move ?_ | refine St.assign ?_ | refine St.binI ?_ | refine St.bin ?_ | refine St.load ?_ | refine St.fieldAddr ?_ | refine St.field ?_ | refine St.extract ?_ | refine St.pickT ?_ | refine St.pickF ?_ | refine St.pick ?_ | refine WO.nil ?_ | refine WK.seq ?_ | refine WK.region ?_ | refine St.len ?_ | refine St.unI ?_ | refine St.un ?_ | refine St.box fun _ _ => ?_ | refine St.alloc fun _ _ => ?_ | refine St.store0 ?_ | refine St.store1 ?_ | refine St.store2 ?_ | refine St.store3 ?_ | refine St.store4 ?_ | refine St.store5 ?_ | refine St.build ?_ | refine St.skip ?_ | refine St.skipN ?_ | refine WK.skip ?_ | refine WK.block ?_ | refine WK.blk ?_ | refine WK.scope ?_ | refine WK.label ?_ | refine WK.exit ?_ | refine WK.condT ?_ | refine WK.condF ?_ | refine St.conv ?_ | refine St.fn ?_ | refine St.nilF ?_ | refine St.nilP ?_ | refine St.len0 ?_ | refine St.maxI ?_ | refine St.minI ?_ | refine St.max ?_ | refine St.min ?_ | refine WK.regionD ?_ | refine StD.box fun _ _ => ?_ | refine StD.alloc fun _ _ => ?_ | refine StD.store0 ?_ | refine StD.store1 ?_ | refine WO.nil1 ?_ | refine WO.nil2 ?_ | refine WO.nil3 ?_ | refine St.mkS fun _ _ => ?_ | refine StD.mkS fun _ _ => ?_ | refine StD.store2 ?_ | refine StD.store3 ?_ | refine StD.store4 ?_ | refine StD.store5 ?_ | refine St.store6 ?_ | refine St.store7 ?_ | refine StD.storeT ?_ | refine St.atA ?_ | refine St.lenZ ?_))
  refine St.call (fun _ => rfl) (fun h2 hh => against_con h2 hh.gd u (cys cl) ss l ((comG (cys cl) ss l).2 + 1) (see_v hu hh (fun x hx => List.mem_append_right _ hx)) hl) ?_
  (repeat (first | refine St.move ?_ | refine St.assign ?_ | refine St.binI ?_ | refine St.bin ?_ | refine St.load ?_ | refine St.fieldAddr ?_ | refine St.field ?_ | refine St.extract ?_ | refine St.pickT ?_ | refine St.pickF ?_ | refine St.pick ?_ | refine WO.nil ?_ | refine WK.seq ?_ | refine WK.region ?_ | refine St.len ?_ | refine St.unI ?_ | refine St.un ?_ | refine St.box fun _ _ => ?_ | refine St.alloc fun _ _ => ?_ | refine St.store0 ?_ | refine St.store1 ?_ | refine St.store2 ?_ | refine St.store3 ?_ | refine St.store4 ?_ | refine St.store5 ?_ | refine St.build ?_ | refine St.skip ?_ | refine St.skipN ?_ | refine WK.skip ?_ | refine WK.block ?_ | refine WK.blk ?_ | refine WK.scope ?_ | refine WK.label ?_ | refine WK.exit ?_ | refine WK.condT ?_ | refine WK.condF ?_ | refine St.conv ?_ | refine St.fn ?_ | refine St.nilF ?_ | refine St.nilP ?_ | refine St.len0 ?_ | refine St.maxI ?_ | refine St.minI ?_ | refine St.max ?_ | refine St.min ?_ | refine WK.regionD ?_ | refine StD.box fun _ _ => ?_ | refine StD.alloc fun _ _ => ?_ | refine StD.store0 ?_ | refine StD.store1 ?_ | refine WO.nil1 ?_ | refine WO.nil2 ?_ | refine WO.nil3 ?_ | refine St.mkS fun _ _ => ?_ | refine StD.mkS fun _ _ => ?_ | refine StD.store2 ?_ | refine StD.store3 ?_ | refine StD.store4 ?_ | refine StD.store5 ?_ | refine St.store6 ?_ | refine St.store7 ?_ | refine StD.storeT ?_ | refine St.atA ?_ | refine St.lenZ ?_))
  refine St.ret (by first | exact .tmp .nil | exact .cell .nil | exact .cell (.tmp .nil) | exact .tmp (.tmp .nil) | exact .cell (.cell .nil) | exact .tmp (.cell .nil) | exact .nil | exact .tmp (.cell (.tmp .nil)) | exact .cell (.tmp (.tmp .nil)) | exact .cell (.cell (.tmp .nil)) | exact .tmp (.tmp (.tmp .nil)) | exact .cell (.cell (.cell .nil))) ?_
  rfl
end Go.Proofs.YtgjkfmcjalcefaaGreat

/- The calculator's way through appends of a region that draws its order, at this seat. -/


/- The law TideMoreGauges over the calculator's memory. -/
namespace Go.Proofs.YtgjkfmcjalcefaaGreat
open Go.Proofs.YtgjkfmcjalcefaaGreat.Ev

/-- gauges that may be sliced -/
def GaA (h : Heap) (v : AV) (l : List Ga) : Prop := ((v = .slice0 ∨ v = .sliceZ) ∧ l = []) ∨ ∃ b off m, v = .slice b off l.length (.k m) ∧ l.length ≤ m ∧ GaH h b off l
theorem GaA.gaV {h : Heap} {v : AV} {l : List Ga} (k : GaA h v l) : GaV h v l := by
  rcases k with k | ⟨b, off, m, rfl, _, k⟩
  · exact .inl k
  · exact .inr ⟨b, off, _, rfl, k⟩
theorem slG_to {h : Heap} {i off k n m : Nat} (hk : k ≤ n) (hm : n ≤ m) : evSlice Tryz.prog h 26 (.slice i off n (.k m)) none (some (.int .i64 k)) none = some (.slice i off k (.k m)) := by
  have e : sizeT Tryz.prog 75 = some 4 := by kernel_rfl
  unfold evSlice
  rw [if_neg (by simp), Tryz.underlying26]
  simp only [e, evSliceK, optB, boundIn, Option.bind_some]
  rw [if_pos (by omega)]
  simp
theorem slG_from {h : Heap} {i off k n m : Nat} (hk : k ≤ n) (hm : n ≤ m) : evSlice Tryz.prog h 26 (.slice i off n (.k m)) (some (.int .i64 k)) none none = some (.slice i (if m - k = 0 then off else off + k * 4) (n - k) (.k (m - k))) := by
  have e : sizeT Tryz.prog 75 = some 4 := by kernel_rfl
  unfold evSlice
  rw [if_neg (by simp), Tryz.underlying26]
  simp only [e, evSliceK, optB, boundIn, Option.bind_some]
  rw [if_pos (by omega)]
  by_cases hc : m - k = 0
  · simp [hc]; omega
  · simp [hc]; omega
def gaF (l : List Ga) : List AV := (l.map gaC).flatten
theorem gaF_len : ∀ l : List Ga, (gaF l).length = l.length * 4
  | [] => rfl
  | g :: r => by
    have := gaF_len r
    show (gaC g ++ gaF r).length = _
    rw [List.length_append, this, List.length_cons]
    show 4 + _ = _
    omega
theorem gaF_app (l m : List Ga) : gaF (l ++ m) = gaF l ++ gaF m := by simp [gaF]
theorem gaF_ok : ∀ l : List Ga, (gaF l).all okCell = true
  | [] => rfl
  | g :: r => by
    show (gaC g ++ gaF r).all okCell = true
    rw [List.all_append, gaF_ok r]
    rfl
theorem gaF_drop : ∀ (l : List Ga) (i : Nat), i < l.length → (gaF l).drop (i * 4) = gaC (nthG l i) ++ gaF (l.drop (i + 1))
  | [], _, h => by simp at h
  | g :: r, 0, _ => rfl
  | g :: r, i + 1, h => by
    have := gaF_drop r i (by simpa using h)
    show (gaC g ++ gaF r).drop ((i + 1) * 4) = _
    rw [show (i + 1) * 4 = (gaC g).length + i * 4 from by show _ = 4 + _; omega, List.drop_append, List.drop_eq_nil_of_le (by omega), Nat.add_sub_cancel_left, List.nil_append, this]
    rfl
theorem Rds.app {h : Heap} {b : Nat} : ∀ {l m : List AV} {off : Nat}, Rds h b off l → Rds h b (off + l.length) m → Rds h b off (l ++ m)
  | [], m, off, _, r => by simpa using r
  | v :: l, m, off, r1, r2 => ⟨r1.1, Rds.app r1.2 (by rw [List.length_cons] at r2; rw [show off + 1 + l.length = off + (l.length + 1) by omega]; exact r2)⟩
theorem ga_rds {h : Heap} {b : Nat} : ∀ {l : List Ga} {off : Nat}, GaH h b off l → Rds h b off (gaF l)
  | [], _, _ => trivial
  | g :: r, off, k => by
    have h0 := k 0 (by simp)
    rw [Nat.zero_mul, Nat.add_zero] at h0
    refine Rds.app h0 (ga_rds (l := r) fun i hi => ?_)
    have := k (i + 1) (by simpa using hi)
    rw [show off + (gaC g).length + i * 4 = off + (i + 1) * 4 from by show off + 4 + _ = _; omega]
    exact this
theorem GaH.tak {h : Heap} {b off k : Nat} {l : List Ga} (q : GaH h b off l) : GaH h b off (l.take k) := fun i hi => by
  have h1 : i < l.length := by rw [List.length_take] at hi; omega
  have h2 : i < k := by rw [List.length_take] at hi; omega
  have e : nthG (l.take k) i = nthG l i := by simp [nthG, List.getElem?_take, h2]
  rw [e]
  exact q i h1
theorem GaH.drp {h : Heap} {b off k : Nat} {l : List Ga} (q : GaH h b off l) : GaH h b (off + k * 4) (l.drop k) := fun i hi => by
  have h1 : k + i < l.length := by rw [List.length_drop] at hi; omega
  have e : nthG (l.drop k) i = nthG l (k + i) := by simp [nthG]
  rw [e, show off + k * 4 + i * 4 = off + (k + i) * 4 by rw [Nat.add_mul]; omega]
  exact q _ h1
/-- a list of gauges that was made, read afterwards -/
theorem ga_v {h0 h : Heap} {W : List Nat} {V : Ob} {l : List Ga} {v : AV} {Lv : Ob} {n : Nat} (hw : IsL 75 4 n (gaF l) v Lv) (hn : l.length = n) (k : Vw h0 W V h) (hm : ∀ x ∈ Lv, x ∈ V) : GaV h v l := by
  subst hn
  cases hw with
  | nil h1 h2 => exact .inl ⟨.inl rfl, List.length_eq_zero_iff.1 h1⟩
  | cells i c rest t h1 h2 h3 =>
    refine .inr ⟨i, 0, .k c, rfl, fun j hj => ?_⟩
    rw [Nat.zero_add]
    exact k.rdsD (hm _ (List.mem_cons_self ..)) (AObj.has_cells _ _).left _ _ _ (gaF_drop l j hj)
  | row i h1 =>
    refine .inr ⟨i, 0, .m 0, rfl, fun j hj => ?_⟩
    rw [Nat.zero_add]
    exact k.rdsD (hm _ (List.mem_cons_self ..)) (AObj.has_row _ _ _) _ _ _ (gaF_drop l j hj)
theorem GaH.id_ {h : Heap} {b off l} (k : GaH h b off l) {z : Int} {n : Nat} (e : z.toNat = n) (hi : n < l.length) : Rd h b (off + z.toNat * 4 + 0) (.int .i64 (nthG l n).id) := by
  subst e; exact (k _ hi).1
theorem ga_none {h : Heap} {b off : Nat} {l : List Ga} (hk : GaH h b off l) (hn : 0 < l.length) (off2 : Nat) : h.loadN b off2 0 = some [] := by
  have h1 := (hk 0 hn).1.at_
  unfold Heap.at1 at h1
  unfold Heap.loadN
  split at h1
  · simp [takeN]
  · simp [takeN]
  · rfl
  · cases h1
theorem comes_to {h : Heap} {b off k : Nat} {c : ACap} {l : List Ga} {L : Ob} (hk : GaH h b off l) (hn : 0 < l.length) (h1 : k ≤ l.length) (h2 : l.length ≤ 60) : ComesA h [] L (.slice b off k c) 4 k (gaF (l.take k)) := by
  rcases Nat.eq_zero_or_pos k with rfl | h3
  · exact .inl ⟨rfl, rfl, rfl, fun h2 hh => ga_none (hk.vw hh) hn _⟩
  · have e : (gaF (l.take k)).length = k * 4 := by rw [gaF_len, List.length_take]; omega
    refine .inr ⟨h3, b, off, c, rfl, by omega, e, gaF_ok _, fun h2 hh => (ga_rds (hk.vw hh).tak).loadN (fun q => ?_) e⟩
    rw [q] at e
    simp at e
    omega
theorem comes_from {h : Heap} {b off k m : Nat} {c : ACap} {l : List Ga} {L : Ob} (hk : GaH h b off l) (hn : 0 < l.length) (h1 : k ≤ l.length) (h2 : l.length ≤ 60) (hm : l.length ≤ m) : ComesA h [] L (.slice b (if m - k = 0 then off else off + k * 4) (l.length - k) c) 4 (l.length - k) (gaF (l.drop k)) := by
  have e : (gaF (l.drop k)).length = (l.length - k) * 4 := by rw [gaF_len, List.length_drop]
  rcases Nat.eq_zero_or_pos (l.length - k) with h3 | h3
  · refine .inl ⟨h3, List.length_eq_zero_iff.1 (by rw [e, h3]), by rw [h3]; rfl, fun h2 hh => ga_none (hk.vw hh) hn _⟩
  · rw [if_neg (by omega)]
    refine .inr ⟨h3, b, _, c, rfl, by omega, e, gaF_ok _, fun h2 hh => (ga_rds (hk.vw hh).drp).loadN (fun q => ?_) e⟩
    rw [q] at e
    simp at e
    omega
end Go.Proofs.YtgjkfmcjalcefaaGreat
