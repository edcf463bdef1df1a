/- The reference's sums, SameCurve, over the calculator's memory. -/
import Derived.Test.YtbhklifflhoinaaGreatSu
namespace Go.Proofs.YtbhklifflhoinaaGreat
open Go.Proofs.YtbhklifflhoinaaGreat.Ev

theorem store3 {P : Program} {t t' : TypeId} {a b c x y z : AV} (hs : sizeT P t = some 3) (ha : okCell a = true) (hb : okCell b = true) (hc : okCell c = true) : (AObj.cells [x, y, z] t').store P t 0 (.agg [a, b, c]) = some (.cells [a, b, c] t') := by
  simp [AObj.store, hs, AV.cells, ha, hb, hc, AObj.put, overN]
def MixOut (r : List (Int × Int) × Int × Int) (v : AV) (L : Ob) : Prop := ∃ kv, IsCv r.1 kv L ∧ v = .agg [kv, .int .i64 r.2.1, .int .i64 r.2.2]
set_option maxRecDepth 100000 in
theorem sameKn_con (h : Heap) (g : Gd h) (b off : Nat) (c : ACap) (b2 off2 : Nat) (c2 : ACap) (ks : List (Int × Int)) (hk : KnH h b off ks) (hk2 : KnH h b2 off2 ks) (hl : ks.length ≤ 1000000) : Con Tryz.prog Bs 52 [.slice b off ks.length c, .slice b2 off2 ks.length c2] h [] (.bool true) [] := by
  refine Con.start rfl Tryz.func52 rfl rfl Tryz.ntmps52 rfl rfl g ?_
  (refine WK.seq ?_; refine WK.region ?_; refine St.assign ?_; refine WO.nil ?_; refine WK.seq ?_; refine WK.seq ?_; refine WK.region ?_; refine St.move ?_; refine St.len ?_; refine St.move ?_; refine St.len ?_; refine St.bin ?_; refine WO.nil ?_)
  refine St.splitC (fun hc => ?_) (fun hc => ?_)
  · simp at hc
  (refine WK.skip ?_; refine WK.seq ?_; refine WK.seq ?_; refine WK.region ?_; refine St.assign ?_; refine WO.nil ?_; refine WK.block ?_)
  refine WK.inv (ι := Nat) (fun k => [(0, .slice b off ks.length c), (1, .slice b2 off2 ks.length c2), (5, .int .i64 k)]) (fun _ => []) (fun k => k ≤ ks.length) (fun k => ks.length - k) 0 (by omega) ⟨rfl, rfl, rfl, trivial⟩ (by (repeat (first | exact List.Sublist.refl _ | exact List.nil_sublist _ | apply List.Sublist.cons_cons | apply List.Sublist.cons))) ?_
  intro k hkl ih
  (refine WK.seq ?_; refine WK.seq ?_; refine WK.region ?_; refine St.move ?_; refine St.move ?_; refine St.len ?_; refine St.bin ?_; refine WO.nil ?_)
  refine St.splitC (fun hc => ?_) (fun hc => ?_)
  · have hlt : k < ks.length := by simp at hc; omega
    (refine WK.skip ?_; refine WK.seq ?_; refine WK.block ?_; refine WK.seq ?_; refine WK.regionD ?_; refine St.move ?_; refine St.move ?_)
    refine St.at ?_
    skip
    refine St.loadX (fun h hh => ((hk.vw hh).knot hlt).agg (by simp) rfl rfl rfl) ?_
    (refine St.move ?_; refine St.move ?_)
    refine St.at ?_
    skip
    refine St.loadX (fun h hh => ((hk2.vw hh).knot hlt).agg (by simp) rfl rfl rfl) ?_
    skip
    refine St.binX (r := .bool false) (by simp [evBin, evEq, guardOk, eqT, eqFs, partE, isAggT, takeN, dropN, nthN]) rfl rfl ?_
    (refine WO.nil ?_; refine WK.condF ?_; refine WK.skip ?_; refine WK.blk ?_; refine WK.region ?_; refine St.move ?_; refine St.binI ?_; refine St.assign ?_; refine WO.nil ?_)
    refine WK.le ?_ (by (repeat (first | exact List.Sublist.refl _ | exact List.nil_sublist _ | apply List.Sublist.cons_cons | apply List.Sublist.cons))) (ih (k + 1) hlt (by omega))
    exact ⟨rfl, rfl, rfl, trivial⟩
  · (refine WK.exit ?_; refine WK.seq ?_; refine WK.region ?_; refine St.assign ?_; refine WO.nil ?_)
    refine St.ret (by first | exact .tmp .nil | exact .cell .nil | exact .cell (.tmp .nil) | exact .tmp (.tmp .nil) | exact .cell (.cell .nil) | exact .tmp (.cell .nil) | exact .nil | exact .tmp (.cell (.tmp .nil)) | exact .cell (.tmp (.tmp .nil)) | exact .cell (.cell (.tmp .nil)) | exact .tmp (.tmp (.tmp .nil)) | exact .cell (.cell (.cell .nil))) ?_
    rfl
set_option maxRecDepth 100000 in
theorem sameKn0_con (h : Heap) (g : Gd h) : Con Tryz.prog Bs 52 [.slice0, .slice0] h [] (.bool true) [] := by
  refine Con.start rfl Tryz.func52 rfl rfl Tryz.ntmps52 rfl rfl g ?_
  (refine WK.seq ?_; refine WK.region ?_; refine St.assign ?_; refine WO.nil ?_; refine WK.seq ?_; refine WK.seq ?_; refine WK.region ?_; refine St.move ?_; refine St.len0 ?_; refine St.move ?_; refine St.len0 ?_; refine St.bin ?_; refine WO.nil ?_; refine WK.condF ?_; refine WK.skip ?_; refine WK.seq ?_; refine WK.seq ?_; refine WK.region ?_; refine St.assign ?_; refine WO.nil ?_; refine WK.block ?_)
  refine WK.unroll ?_
  (refine WK.seq ?_; refine WK.seq ?_; refine WK.region ?_; refine St.move ?_; refine St.move ?_; refine St.len0 ?_; refine St.bin ?_; refine WO.nil ?_; refine WK.condF ?_; refine WK.exit ?_; refine WK.seq ?_; refine WK.region ?_; refine St.assign ?_; refine WO.nil ?_)
  refine St.ret (by first | exact .tmp .nil | exact .cell .nil | exact .cell (.tmp .nil) | exact .tmp (.tmp .nil) | exact .cell (.cell .nil) | exact .tmp (.cell .nil) | exact .nil | exact .tmp (.cell (.tmp .nil)) | exact .cell (.tmp (.tmp .nil)) | exact .cell (.cell (.tmp .nil)) | exact .tmp (.tmp (.tmp .nil)) | exact .cell (.cell (.cell .nil))) ?_
  rfl
/-- two lists of the same knots -/
def TwoKn (h : Heap) (ks : List (Int × Int)) (v1 v2 : AV) : Prop := (v1 = .slice0 ∧ v2 = .slice0) ∨ ∃ b off c b2 off2 c2, v1 = .slice b off ks.length c ∧ v2 = .slice b2 off2 ks.length c2 ∧ KnH h b off ks ∧ KnH h b2 off2 ks
theorem TwoKn.vw {h0 h : Heap} {V : Ob} {ks v1 v2} (k : TwoKn h0 ks v1 v2) (hh : Vw h0 [] V h) : TwoKn h ks v1 v2 := by
  rcases k with h1 | ⟨b, off, c, b2, off2, c2, h1, h2, h3, h4⟩
  · exact .inl h1
  · exact .inr ⟨b, off, c, b2, off2, c2, h1, h2, h3.vw hh, h4.vw hh⟩
theorem Ev.Vw.twoKn {h0 h : Heap} {W : List Nat} {V L1 L2 : Ob} {ks : List (Int × Int)} {v1 v2 : AV} (hh : Vw h0 W V h) (k1 : IsCv ks v1 L1) (k2 : IsCv ks v2 L2) (s1 : L1.Sublist V) (s2 : L2.Sublist V) : TwoKn h ks v1 v2 := by
  rcases k1 with ⟨rfl, rfl, rfl⟩ | ⟨i, c, o, rfl, rfl, ho, hp⟩
  · rcases k2 with ⟨rfl, rfl, _⟩ | ⟨i, c, o, rfl, rfl, ho, hp⟩
    · exact .inl ⟨rfl, rfl⟩
    · simp at hp
  · rcases k2 with ⟨rfl, rfl, rfl⟩ | ⟨i2, c2, o2, rfl, rfl, ho2, hp2⟩
    · simp at hp
    · exact .inr ⟨i, 0, c, i2, 0, c2, rfl, rfl, hh.frs (s1.subset (List.mem_singleton.2 rfl)) ho, hh.frs (s2.subset (List.mem_singleton.2 rfl)) ho2⟩
theorem sameKnots_con (h : Heap) (g : Gd h) (v1 v2 : AV) (ks : List (Int × Int)) (k : TwoKn h ks v1 v2) (hl : ks.length ≤ 1000000) : Con Tryz.prog Bs 52 [v1, v2] h [] (.bool true) [] := by
  rcases k with ⟨rfl, rfl⟩ | ⟨b, off, c, b2, off2, c2, rfl, rfl, h3, h4⟩
  · exact sameKn0_con h g
  · exact sameKn_con h g b off c b2 off2 c2 ks h3 h4 hl
set_option maxRecDepth 100000 in
theorem sameCurve_con (h : Heap) (g : Gd h) (v1 v2 : AV) (ks : List (Int × Int)) (err : Int) (k : TwoKn h ks v1 v2) (hl : ks.length ≤ 1000000) : Con Tryz.prog Bs 14 [.agg [v1, .int .i64 err], .agg [v2, .int .i64 err]] h [] (.bool true) [] := by
  refine Con.start rfl Tryz.func14 rfl rfl Tryz.ntmps14 rfl rfl g ?_
  (refine WK.seq ?_; refine WK.region ?_; refine St.box fun _ _ => ?_; refine St.box fun _ _ => ?_; refine St.assign ?_; refine WO.nil ?_; refine WK.seq ?_; refine WK.region ?_; refine St.fieldAddr ?_; refine St.load ?_; refine St.fieldAddr ?_; refine St.load ?_; refine St.bin ?_; refine St.move ?_)
  refine St.split (fun _ => ?_) (fun hb => ?_)
  rotate_left
  · simp at hb
  (refine St.fieldAddr ?_; refine St.load ?_; refine St.fieldAddr ?_; refine St.load ?_)
  refine St.call (fun _ => rfl) (fun h2 hh => sameKnots_con h2 hh.gd v1 v2 ks (k.vw hh) hl) ?_
  (refine St.pickT ?_; refine St.assign ?_; refine WO.nil ?_)
  refine St.ret (by first | exact .tmp .nil | exact .cell .nil | exact .cell (.tmp .nil) | exact .tmp (.tmp .nil) | exact .cell (.cell .nil) | exact .tmp (.cell .nil) | exact .nil | exact .tmp (.cell (.tmp .nil)) | exact .cell (.tmp (.tmp .nil)) | exact .cell (.cell (.tmp .nil)) | exact .tmp (.tmp (.tmp .nil)) | exact .cell (.cell (.cell .nil))) ?_
  rfl
end Go.Proofs.YtbhklifflhoinaaGreat
