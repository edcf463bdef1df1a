/- The least of two addends; cuts that lie right. -/
import Derived.Test.YtekpffjcffeanaaWd
import Derived.Test.YtekpffjcffeanaaYp
namespace Go.Proofs.Ytekpffjcffeanaa
open Go.Proofs.Ytekpffjcffeanaa.Ev

theorem low_set {x y : List Int} {n k : Nat} (hx : x.length = n) (hy : y.length = n) (hk : k < n) : ((lowR x y).take k ++ x.drop k).set k (min (nth x k) (nth y k)) = (lowR x y).take (k + 1) ++ x.drop (k + 1) := by
  have hl := lowR_len hx hy
  have e1 : ((lowR x y).take k).length = k := by rw [List.length_take]; omega
  rw [List.set_append_right _ _ (by omega), e1, Nat.sub_self, List.drop_eq_getElem_cons (show k < x.length by omega), List.set_cons_zero, List.take_succ_eq_append_getElem (show k < (lowR x y).length by omega), List.append_assoc]
  congr 1
  simp only [List.singleton_append]
  congr 1
  unfold lowR
  rw [List.getElem_zipWith, nth_eq (by omega), nth_eq (by omega)]
set_option maxRecDepth 100000 in
set_option maxHeartbeats 8000000 in
theorem lower_con (h : Heap) (g : Gd h) (x y : List Int) (hx : x.length = 7) (hy : y.length = 7) :
    Con Try.prog Bs 113 [.agg (x.map (AV.int .i64)), .agg (y.map (AV.int .i64))] h [] (.agg ((lowR x y).map (AV.int .i64))) [] := by
  have hl := lowR_len hx hy
  refine Con.start rfl Try.func113 rfl rfl Try.ntmps113 rfl rfl g ?_
  (refine WK.seq ?_; refine WK.region ?_; refine St.box fun _ _ => ?_; refine St.box fun _ _ => ?_; refine St.alloc fun _ _ => ?_; refine WO.nil ?_; refine WK.seq ?_; refine WK.seq ?_; refine WK.region ?_; refine St.move ?_; refine WO.nil ?_; refine WK.block ?_)
  rename_i p2 hp2 p3 hp3 p4 hp4
  refine WK.inv (ι := Nat) (fun k => [(2, .ptr p2 0), (3, .ptr p3 0), (4, .ptr p4 0), (6, .int .i64 k)]) (fun k => [(p4, .cells [.int .i64 0, .int .i64 0, .int .i64 0, .int .i64 0, .int .i64 0, .int .i64 0, .int .i64 0] 148), (p3, .cells (y.map (AV.int .i64)) 148), (p2, .cells (((lowR x y).take k ++ x.drop k).map (AV.int .i64)) 148)]) (fun k => k ≤ 7) (fun k => 7 - k) 0 (by omega) ⟨rfl, rfl, rfl, rfl, trivial⟩ (by (repeat (first | exact List.Sublist.refl _ | exact List.nil_sublist _ | apply List.Sublist.cons_cons | apply List.Sublist.cons))) ?_
  intro k hk ih
  have hlk : ((lowR x y).take k ++ x.drop k).length = 7 := by rw [List.length_append, List.length_take, List.length_drop]; omega
  (refine WK.seq ?_; refine WK.region ?_; refine St.bin ?_; refine WO.nil ?_; refine WK.seq ?_)
  refine St.splitC (fun hc => ?_) (fun hc => ?_)
  · have hlt : k < 7 := by simp at hc; omega
    have hset := low_set hx hy hlt
    have hnx : (((lowR x y).take k ++ x.drop k).map (AV.int .i64))[k]? = some (.int .i64 (nth x k)) := by
      rw [List.getElem?_map, List.getElem?_append_right (by rw [List.length_take]; omega), List.length_take, show k - min k (lowR x y).length = 0 by omega, List.getElem?_drop, List.getElem?_eq_getElem (by omega), nth_eq (by omega)]
      rfl
    have hny : (y.map (AV.int .i64))[k]? = some (.int .i64 (nth y k)) := by
      rw [List.getElem?_map, List.getElem?_eq_getElem (by omega), nth_eq (by omega)]
      rfl
    (refine WK.skip ?_; refine WK.seq ?_; refine WK.block ?_; refine WK.seq ?_; refine WK.region ?_; refine St.move ?_; refine St.assign ?_; refine WO.nil ?_; refine WK.regionD ?_; refine St.move ?_; refine St.move ?_; refine St.atA ?_)
    refine St.loadX (fun h2 hh => (hh.rdL (j := p2) (List.Mem.tail _ (List.Mem.tail _ (List.Mem.head _))) (AObj.has_cells _ _) (off := 0 + (k : Int).toNat * 1) (v := .int .i64 (nth x k)) ((congrArg (fun z => (((lowR x y).take k ++ x.drop k).map (AV.int .i64))[z]?) (show 0 + (k : Int).toNat * 1 = k by omega)).trans hnx)).one rfl) ?_
    (refine St.move ?_; refine St.atA ?_)
    refine St.loadX (fun h2 hh => (hh.rdL (j := p3) (List.Mem.tail _ (List.Mem.head _)) (AObj.has_cells _ _) (off := 0 + (k : Int).toNat * 1) (v := .int .i64 (nth y k)) ((congrArg (fun z => (y.map (AV.int .i64))[z]?) (show 0 + (k : Int).toNat * 1 = k by omega)).trans hny)).one rfl) ?_
    (refine StD.mkS fun _ _ => ?_)
    rename_i i2 hi2
    refine StD.callV [(7, i2, .cells [.int .i64 (nth y k)] 3)] (fun _ => rfl) (fun x hx => by cases List.mem_singleton.1 hx; exact ⟨List.Mem.head _, by show maskAt _ _ 7 = true; decide +kernel⟩) (fun h2 hh => least_con h2 hh.gd (nth x k) _ [nth y k] (.inr ⟨_, 0, _, rfl, hh.ins (List.Mem.head _) (AObj.has_cells _ _)⟩) (by simp)) ?_
    (refine St.atA ?_)
    refine StD.store2 (hv := store_int (off := 0 + (k : Int).toNat * 1) (n := k) (by omega) (by rw [List.length_map, hlk]; omega)) ?_
    rw [← List.map_set, show ([nth y k].foldl min (nth x k)) = min (nth x k) (nth y k) from rfl, hset]
    (refine WO.nil1 ?_; refine WK.blk ?_; refine WK.region ?_; refine St.binI ?_; refine St.move ?_; refine WO.nil ?_)
    refine WK.perm (L' := [(p4, .cells [.int .i64 0, .int .i64 0, .int .i64 0, .int .i64 0, .int .i64 0, .int .i64 0, .int .i64 0] 148), (p3, .cells (y.map (AV.int .i64)) 148), (p2, .cells (((lowR x y).take (k + 1) ++ x.drop (k + 1)).map (AV.int .i64)) 148), (i2, .cells [.int .i64 (nth y k)] 3)]) (by (refine perm_cnt fun _ _ => ?_; simp only [List.append_eq, List.cons_append, List.nil_append, List.count_append, List.count_cons, List.count_nil, Nat.add_zero, Nat.zero_add]; try ac_rfl)) ?_
    refine WK.le ?_ (by (repeat (first | exact List.Sublist.refl _ | exact List.nil_sublist _ | apply List.Sublist.cons_cons | apply List.Sublist.cons))) (ih (k + 1) hlt (by omega))
    exact ⟨rfl, rfl, rfl, rfl, trivial⟩
  · have : k = 7 := by simp at hc; omega
    subst this
    have e : (lowR x y).take 7 ++ x.drop 7 = lowR x y := by rw [List.take_of_length_le (by omega), List.drop_eq_nil_of_le (by omega), List.append_nil]
    rw [e]
    (refine WK.exit ?_; refine WK.seq ?_; refine WK.region ?_)
    refine St.load (hv := load_arr (by rw [List.length_map]; exact hl)) ?_
    skip
    refine St.store0 (hv := store_arr (by rw [List.length_map]; exact hl) rfl (by simp [okCell])) ?_
    (refine WO.nil ?_)
    refine St.ret (.cell (hv := load_arr (by rw [List.length_map]; exact hl)) .nil) ?_
    rfl
end Go.Proofs.Ytekpffjcffeanaa
