/- Pairs of ints in memory; the reference's SamePairs. -/
import Derived.Test.YtgjkfmcjalcefaaGreatZc
namespace Go.Proofs.YtgjkfmcjalcefaaGreat
open Go.Proofs.YtgjkfmcjalcefaaGreat.Ev

def nthQ (l : List (Int × Int)) (i : Nat) : Int × Int := l[i]?.getD (0, 0)
theorem nthQ_eq {l : List (Int × Int)} {i : Nat} (h : i < l.length) : nthQ l i = l[i] := by simp [nthQ, h]
/-- pairs in memory -/
def PrH (h : Heap) (b off : Nat) (ps : List (Int × Int)) : Prop := ∀ i, i < ps.length → Rds h b (off + i * 2) [.int .i64 (nthQ ps i).1, .int .i64 (nthQ ps i).2]
def PrV (h : Heap) (v : AV) (ps : List (Int × Int)) : Prop := ((v = .slice0 ∨ v = .sliceZ) ∧ ps = []) ∨ ∃ b off c, v = .slice b off ps.length c ∧ PrH h b off ps
theorem PrH.vw {h0 h : Heap} {V : Ob} {b off l} (k : PrH h0 b off l) (hh : Vw h0 [] V h) : PrH h b off l := fun i hi => hh.rds (by simp) (k i hi)
theorem PrH.at_ {h : Heap} {b off l} (k : PrH h b off l) {z : Int} {n : Nat} (e : z.toNat = n) (hi : n < l.length) : Rds h b (off + z.toNat * 2) [.int .i64 (nthQ l n).1, .int .i64 (nthQ l n).2] := by
  subst e; exact k _ hi
theorem PrV.vw {h0 h : Heap} {V : Ob} {v l} (k : PrV h0 v l) (hh : Vw h0 [] V h) : PrV h v l := by
  rcases k with k | ⟨b, off, c, e, k⟩
  · exact .inl k
  · exact .inr ⟨b, off, c, e, k.vw hh⟩
theorem PrV.ne {h : Heap} {v : AV} {l : List (Int × Int)} (k : PrV h v l) (hn : 0 < l.length) : ∃ b off c, v = .slice b off l.length c ∧ PrH h b off l := by
  rcases k with ⟨_, rfl⟩ | k
  · simp at hn
  · exact k
theorem PrV.len {h : Heap} {v : AV} {l : List (Int × Int)} (k : PrV h v l) : ∀ h2, lenA Tryz.prog 39 h2 v = some (.int .i64 (l.length : Int)) := by
  intro h2
  unfold lenA
  rw [Tryz.underlying39]
  rcases k with ⟨rfl | rfl, rfl⟩ | ⟨b, off, c, rfl, _⟩ <;> rfl
theorem flP_drop : ∀ (l : List (Int × Int)) (i : Nat), i < l.length → (flP l).drop (i * 2) = [.int .i64 (nthQ l i).1, .int .i64 (nthQ l i).2] ++ flP (l.drop (i + 1))
  | [], _, h => by simp at h
  | g :: r, 0, _ => rfl
  | g :: r, i + 1, h => by
    have := flP_drop r i (by simpa using h)
    show ([AV.int .i64 g.1, AV.int .i64 g.2] ++ flP r).drop ((i + 1) * 2) = _
    rw [show (i + 1) * 2 = [AV.int .i64 g.1, AV.int .i64 g.2].length + i * 2 from by show _ = 2 + _; omega, List.drop_append, List.drop_eq_nil_of_le (by omega), Nat.add_sub_cancel_left, List.nil_append, this]
    rfl
/-- pairs that were made, read afterwards -/
theorem pr_v {h0 h : Heap} {W : List Nat} {V : Ob} {l : List (Int × Int)} {v : AV} {Lv : Ob} {n : Nat} (hw : IsL 89 2 n (flP l) v Lv) (hn : l.length = n) (k : Vw h0 W V h) (hm : ∀ x ∈ Lv, x ∈ V) : PrV h v l := by
  subst hn
  cases hw with
  | nil h1 h2 => exact .inl ⟨.inl rfl, List.length_eq_zero_iff.1 h1⟩
  | cells i c rest t h1 h2 h3 =>
    refine .inr ⟨i, 0, .k c, rfl, fun j hj => ?_⟩
    rw [Nat.zero_add]
    exact k.rdsD (hm _ (List.mem_cons_self ..)) (AObj.has_cells _ _).left _ _ _ (flP_drop l j hj)
  | row i h1 =>
    refine .inr ⟨i, 0, .m 0, rfl, fun j hj => ?_⟩
    rw [Nat.zero_add]
    exact k.rdsD (hm _ (List.mem_cons_self ..)) (AObj.has_row _ _ _) _ _ _ (flP_drop l j hj)
set_option maxRecDepth 100000 in
theorem samePairs_con (h : Heap) (g : Gd h) (v v2 : AV) (l : List (Int × Int)) (hv : PrV h v l) (hv2 : PrV h v2 l) (hl : l.length ≤ 1000000) :
    Con Tryz.prog Bs 15 [v, v2] h [] (.bool true) [] := by
  refine Con.start rfl Tryz.func15 rfl rfl Tryz.ntmps15 rfl rfl g ?_
  (refine WK.seq ?_; refine WK.region ?_; refine St.assign ?_; refine WO.nil ?_; refine WK.seq ?_; refine WK.seq ?_; refine WK.region ?_; refine St.move ?_)
  refine St.lenV rfl hv.len ?_
  (refine St.move ?_)
  refine St.lenV rfl hv2.len ?_
  (refine St.bin ?_; refine WO.nil ?_)
  refine St.splitC (fun hc => ?_) (fun _ => ?_)
  · simp at hc
  (refine WK.skip ?_; refine WK.seq ?_; refine WK.seq ?_; refine WK.region ?_; refine St.assign ?_; refine WO.nil ?_; refine WK.block ?_)
  by_cases hn : l.length = 0
  · have e1 : l = [] := List.length_eq_zero_iff.1 hn
    subst e1
    refine WK.unroll ?_
    (refine WK.seq ?_; refine WK.seq ?_; refine WK.region ?_; refine St.move ?_; refine St.move ?_)
    refine St.lenV rfl hv.len ?_
    (refine St.bin ?_; refine WO.nil ?_; refine WK.condF ?_; refine WK.exit ?_; refine WK.seq ?_; refine WK.region ?_; refine St.assign ?_; refine WO.nil ?_)
    refine St.ret (by first | exact .tmp .nil | exact .cell .nil | exact .cell (.tmp .nil) | exact .tmp (.tmp .nil) | exact .cell (.cell .nil) | exact .tmp (.cell .nil) | exact .nil | exact .tmp (.cell (.tmp .nil)) | exact .cell (.tmp (.tmp .nil)) | exact .cell (.cell (.tmp .nil)) | exact .tmp (.tmp (.tmp .nil)) | exact .cell (.cell (.cell .nil))) ?_
    rfl
  obtain ⟨b, off, c, rfl, hk⟩ := hv.ne (by omega)
  obtain ⟨b2, off2, c2, rfl, hk2⟩ := hv2.ne (by omega)
  refine WK.inv (ι := Nat) (fun z => [(0, .slice b off l.length c), (1, .slice b2 off2 l.length c2), (5, .int .i64 z)]) (fun _ => []) (fun z => z ≤ l.length) (fun z => l.length - z) 0 (by omega) ⟨rfl, rfl, rfl, trivial⟩ (by (repeat (first | exact List.Sublist.refl _ | exact List.nil_sublist _ | apply List.Sublist.cons_cons | apply List.Sublist.cons))) ?_
  intro k hkl ih
  (refine WK.seq ?_; refine WK.seq ?_; refine WK.region ?_; refine St.move ?_; refine St.move ?_; refine St.len ?_; refine St.bin ?_; refine WO.nil ?_)
  refine St.splitC (fun hc => ?_) (fun hc => ?_)
  · have hlt : k < l.length := by simp at hc; omega
    (refine WK.skip ?_; refine WK.seq ?_; refine WK.block ?_; refine WK.seq ?_; refine WK.regionD ?_; refine St.move ?_; refine St.move ?_)
    refine St.at ?_
    skip
    refine St.loadX (fun h hh => ((hk.vw hh).at_ (z := (k : Int)) (n := k) (by omega) hlt).agg (by simp) rfl rfl rfl) ?_
    (refine St.move ?_; refine St.move ?_)
    refine St.at ?_
    skip
    refine St.loadX (fun h hh => ((hk2.vw hh).at_ (z := (k : Int)) (n := k) (by omega) hlt).agg (by simp) rfl rfl rfl) ?_
    (refine St.bin ?_; refine WO.nil ?_)
    refine St.splitC (fun q => ?_) (fun _ => ?_)
    · simp at q
    (refine WK.skip ?_; refine WK.blk ?_; refine WK.region ?_; refine St.move ?_; refine St.binI ?_; refine St.assign ?_; refine WO.nil ?_)
    refine WK.le ?_ (by (repeat (first | exact List.Sublist.refl _ | exact List.nil_sublist _ | apply List.Sublist.cons_cons | apply List.Sublist.cons))) (ih (k + 1) hlt (by omega))
    exact ⟨rfl, rfl, rfl, trivial⟩
  · (refine WK.exit ?_; refine WK.seq ?_; refine WK.region ?_; refine St.assign ?_; refine WO.nil ?_)
    refine St.ret (by first | exact .tmp .nil | exact .cell .nil | exact .cell (.tmp .nil) | exact .tmp (.tmp .nil) | exact .cell (.cell .nil) | exact .tmp (.cell .nil) | exact .nil | exact .tmp (.cell (.tmp .nil)) | exact .cell (.tmp (.tmp .nil)) | exact .cell (.cell (.tmp .nil)) | exact .tmp (.tmp (.tmp .nil)) | exact .cell (.cell (.cell .nil))) ?_
    rfl
end Go.Proofs.YtgjkfmcjalcefaaGreat
