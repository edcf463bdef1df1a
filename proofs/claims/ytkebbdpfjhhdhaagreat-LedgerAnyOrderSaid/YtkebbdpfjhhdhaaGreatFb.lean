/- Layer 8: only and sums of postings over the calculator's memory. -/
import Derived.Test.YtkebbdpfjhhdhaaGreatDf
import Derived.Test.YtkebbdpfjhhdhaaGreatDv
/- Layer 8: only and sums of items over the calculator's memory. -/
namespace Go.Proofs.YtkebbdpfjhhdhaaGreat
open Go.Proofs.YtkebbdpfjhhdhaaGreat.Ev

set_option maxRecDepth 100000 in
theorem lookQ {h : Heap} {j n : Nat} {q : List (Int × Int)} {k : Int} {s : Sl} {x y : Operand} {d : Nat} {ty : TypeId} {pos : String} {af : Array Edge} {gd : Option (Nat × Bool)} (hm : h.get j = some (.map (mapQ q 0) n)) (hx : evS s x = some (.map j) := by exact rfl) (hy : evS s y = some (.int .i64 k) := by exact rfl) : evOp Tryz.prog h (evS s) ⟨some d, .lookup 116 x y false, ty, pos, af, gd⟩ = some (.value (.int .i64 (getQ q k)), h) := by
  have hz : zeroT Tryz.prog 3 = some (.int .i64 0) := by kernel_rfl
  have hf : keyFits Tryz.prog 3 (.int .i64 k) = true := by simp [keyFits, Tryz.underlying3]
  unfold evOp
  simp only [oLookup, hx, hy]
  unfold evLookup
  rw [Tryz.underlying116]
  simp only [hf, if_true, hm]
  rcases findE_mapQ (k := k) (l := q) (c := 0) (i := 0) with ⟨h1, h2⟩ | ⟨i, _, _, _, h2⟩
  · rw [h2]
    simp only [hz, Option.map_some, plainV, (accQ_new (d := 0) h1).2]
    rfl
  · rw [h2]
    rfl
set_option maxRecDepth 100000 in
theorem updQ {h g : Heap} {j : Nat} {q : List (Int × Int)} {k d : Int} {s : Sl} {x y z : Operand} {ty : TypeId} {pos : String} {af : Array Edge} {gd : Option (Nat × Bool)} (hm : h.get j = some (.map (mapQ q 0) q.length)) (hs : h.set j (.map (mapQ (accQ q k d) 0) (accQ q k d).length) = some g) (hx : evS s x = some (.map j) := by exact rfl) (hy : evS s y = some (.int .i64 k) := by exact rfl) (hz : evS s z = some (.int .i64 (getQ q k + d)) := by exact rfl) : evOp Tryz.prog h (evS s) ⟨none, .mapUpdate 116 x y z, ty, pos, af, gd⟩ = some (.skip, g) := by
  have hf : keyFits Tryz.prog 3 (.int .i64 k) = true := by simp [keyFits, Tryz.underlying3]
  unfold evOp
  simp only [oUpdate, hx, hy, hz]
  unfold evUpdate
  rw [Tryz.underlying116]
  simp only [hf, if_true, hm]
  rcases findE_mapQ (k := k) (l := q) (c := 0) (i := 0) with ⟨h1, h2⟩ | ⟨i, hi, h1, _, h2⟩
  · rw [h2]
    simp only [accQ_new (d := d) h1, mapQ_snoc, Nat.zero_add, List.length_append, List.length_cons, List.length_nil] at hs
    simp only [(accQ_new (d := d) h1).2, Int.zero_add, hs]
    rfl
  · rw [h2]
    rw [h1 d, List.length_set] at hs
    simp only [Nat.zero_add, setE_mapQ _ _ _ _ _ hi, hs]
    rfl
set_option maxRecDepth 100000 in
set_option maxHeartbeats 8000000 in
theorem onlyI_con (h : Heap) (g : Gd h) (v : AV) (l : List Im) (F : Nat) (cs : List AV) (t : Im → Bool) (hv : ImV h v l) (hl : l.length ≤ 100000) (hf : ∀ (h2 : Heap) (V : Ob), Vw h [] V h2 → ∀ x ∈ l, Con Tryz.prog Bs F (.agg (imC x) :: cs) h2 [] (.bool (t x)) []) :
    ∃ u L, Con Tryz.prog Bs 107 [v, .fn (.func F) [] cs] h [] u L ∧ IsR 114 7 (l.filter t).length (enF imC (l.filter t)) u L := by
  refine Con.subG (Con.startR rfl Tryz.func107 rfl rfl Tryz.ntmps107 rfl rfl (SS.init g) ?_)
  (refine WK.seq ?_; refine WK.region ?_; refine St.assign ?_; refine WO.nil ?_; refine WK.seq ?_; refine WK.region ?_; refine St.assign ?_; refine WO.nil ?_; refine WK.seq ?_; refine WK.seq ?_; refine WK.region ?_; refine St.move ?_)
  refine St.lenG rfl hv.llen ?_
  (refine St.move ?_; refine WO.nil ?_; refine WK.block ?_)
  refine WK.inv (ι := Nat × AV × Ob) (fun z => [(0, v), (1, .fn (.func F) [] cs), (5, z.2.1), (8, v), (9, .int .i64 l.length), (10, .int .i64 z.1)]) (fun z => z.2.2) (fun z => z.1 ≤ l.length ∧ IsR 114 7 ((l.take z.1).filter t).length (enF imC ((l.take z.1).filter t)) z.2.1 z.2.2) (fun z => l.length - z.1) (0, .slice0, []) ⟨Nat.zero_le _, .nil rfl rfl⟩ ⟨rfl, rfl, rfl, rfl, rfl, rfl, trivial⟩ (by (repeat (first | exact List.Sublist.refl _ | exact List.nil_sublist _ | apply List.Sublist.cons_cons | apply List.Sublist.cons))) ?_
  rintro ⟨k, w, Lw⟩ ⟨hkl, hw⟩ ih
  simp only at hkl hw ih ⊢
  (refine WK.seq ?_; refine WK.region ?_; refine St.bin ?_; refine WO.nil ?_; refine WK.seq ?_)
  refine St.splitC (fun hc => ?_) (fun hc => ?_)
  · have hlt : k < l.length := by simp at hc; omega
    have hv' := hv
    obtain ⟨b, off, cc, rfl, hk⟩ := hv'.ne (by omega)
    have htk := take_succE hlt
    (refine WK.skip ?_; refine WK.seq ?_; refine WK.block ?_; refine WK.seq ?_; refine WK.region ?_)
    refine St.at ?_
    refine St.loadX (fun h2 hh => ((hk.vw hh).at_ (z := (k : Int)) (n := k) (by omega) hlt).agg (by simp [imC]) rfl rfl rfl) ?_
    (refine St.alloc fun _ _ => ?_; refine St.store0 ?_; refine WO.nil ?_; refine WK.seq ?_; refine WK.region ?_; refine St.move ?_; refine St.load ?_)
    rename_i p7 hp7
    refine St.call (fun _ => rfl) (fun h2 hh => hf h2 _ hh (nthE l k) (nthE_mem hlt)) ?_
    cases ht : t (nthE l k)
    · have hfl : (l.take (k + 1)).filter t = (l.take k).filter t := by rw [htk, List.filter_append]; simp [ht]
      (refine WO.nil ?_; refine WK.condF ?_; refine WK.skip ?_; refine WK.blk ?_; refine WK.region ?_; refine St.binI ?_; refine St.move ?_; refine WO.nil ?_)
      refine WK.le ?_ ?_ (ih (k + 1, w, Lw) ⟨hlt, by rw [hfl]; exact hw⟩ (by simp only; omega))
      · exact ⟨rfl, rfl, rfl, rfl, rfl, rfl, trivial⟩
      · exact List.sublist_cons_self _ _
    · have hfl : (l.take (k + 1)).filter t = (l.take k).filter t ++ [nthE l k] := by rw [htk, List.filter_append]; simp [ht]
      have hle : ((l.take k).filter t).length ≤ 100000 := Nat.le_trans (List.length_filter_le _ _) (by rw [List.length_take]; omega)
      (refine WO.nil ?_; refine WK.condT ?_; refine WK.region ?_; refine St.move ?_; refine St.load ?_; refine St.mkS fun _ _ => ?_)
      rename_i p19 hp19
      refine St.appI (e := 114) (sz := 7) (new := imC (nthE l k)) (Lk := [(p19, .cells (imC (nthE l k)) 114), (p7, .cells (imC (nthE l k)) 114)]) hw (by (refine perm_cnt fun _ _ => ?_; simp only [List.append_eq, List.cons_append, List.nil_append, List.count_append, List.count_cons, List.count_nil, Nat.add_zero, Nat.zero_add]; try ac_rfl)) (fun j hj => ?_) ⟨rfl, rfl, rfl, rfl, rfl, rfl, rfl, rfl, rfl, rfl, rfl, rfl⟩ (List.Mem.head _) rfl (by decide) (by omega)
      (refine St.assign ?_; refine WO.nil ?_; refine WK.blk ?_; refine WK.region ?_; refine St.binI ?_; refine St.move ?_; refine WO.nil ?_)
      refine WK.le ?_ ?_ (ih (k + 1, .slice j 0 (((l.take k).filter t).length + 1) (.m 0), [(j, .row (enF imC ((l.take k).filter t) ++ imC (nthE l k)) 114 7)]) ⟨hlt, ?_⟩ (by simp only; omega))
      · exact ⟨rfl, rfl, rfl, rfl, rfl, rfl, trivial⟩
      · (repeat (first | exact List.Sublist.refl _ | exact List.nil_sublist _ | apply List.Sublist.cons_cons | apply List.Sublist.cons))
      · rw [hfl]
        have := IsR.row (e := 114) (sz := 7) (len := ((l.take k).filter t ++ [nthE l k]).length) (l := enF imC ((l.take k).filter t ++ [nthE l k])) j (enF_len imC_len _)
        rw [enF_app, enF_one] at this
        rw [enF_app, enF_one]
        simpa using this
  · have : k = l.length := by simp at hc; omega
    subst this
    rw [List.take_length] at hw
    (refine WK.exit ?_; refine WK.seq ?_; refine WK.region ?_; refine St.move ?_; refine St.assign ?_; refine WO.nil ?_)
    refine St.ret (by first | exact .tmp .nil | exact .cell .nil | exact .cell (.tmp .nil) | exact .tmp (.tmp .nil) | exact .cell (.cell .nil) | exact .tmp (.cell .nil) | exact .nil | exact .tmp (.cell (.tmp .nil)) | exact .cell (.tmp (.tmp .nil)) | exact .cell (.cell (.tmp .nil)) | exact .tmp (.tmp (.tmp .nil)) | exact .tmp (.tmp (.tmp (.tmp .nil))) | exact .cell (.cell (.cell .nil))) ?_
    exact ⟨Lw, List.Sublist.refl _, hw⟩
set_option maxRecDepth 100000 in
set_option maxHeartbeats 8000000 in
theorem sumsI_con (h : Heap) (g : Gd h) (v : AV) (l : List Im) (F : Nat) (cs : List AV) (br : Im → Int × Int) (hv : ImV h v l) (hl : l.length ≤ 100000) (hb : ∀ x ∈ l, -33554432 ≤ (br x).2 ∧ (br x).2 ≤ 33554432) (hf : ∀ (h2 : Heap) (V : Ob), Vw h [] V h2 → ∀ x ∈ l, Con Tryz.prog Bs F (.agg (imC x) :: cs) h2 [] (.tup [.int .i64 (br x).1, .int .i64 (br x).2]) []) :
    ∃ u L, Con Tryz.prog Bs 146 [v, .fn (.func F) [] cs] h [] u L ∧ ∃ j, u = .map j ∧ L = [(j, .map (mapQ (sumQ (l.map br)) 0) (sumQ (l.map br)).length)] := by
  refine Con.subG (Con.startR rfl Tryz.func146 rfl rfl Tryz.ntmps146 rfl rfl (SS.init g) ?_)
  (refine WK.seq ?_; refine WK.region ?_; refine St.assign ?_; refine WO.nil ?_; refine WK.seq ?_; refine WK.region ?_)
  refine St.makeMap (fun j hj => ?_)
  (refine St.assign ?_; refine WO.nil ?_; refine WK.seq ?_; refine WK.seq ?_; refine WK.region ?_; refine St.move ?_)
  refine St.lenG rfl hv.llen ?_
  (refine St.move ?_; refine WO.nil ?_; refine WK.block ?_)
  refine WK.inv (ι := Nat) (fun z => [(0, v), (1, .fn (.func F) [] cs), (5, .map j), (11, v), (12, .int .i64 l.length), (13, .int .i64 z)]) (fun z => [(j, .map (mapQ (sumQ ((l.take z).map br)) 0) (sumQ ((l.take z).map br)).length)]) (fun z => z ≤ l.length) (fun z => l.length - z) 0 (Nat.zero_le _) ⟨rfl, rfl, rfl, rfl, rfl, rfl, trivial⟩ (by (repeat (first | exact List.Sublist.refl _ | exact List.nil_sublist _ | apply List.Sublist.cons_cons | apply List.Sublist.cons))) ?_
  intro k hkl ih
  (refine WK.seq ?_; refine WK.region ?_; refine St.bin ?_; refine WO.nil ?_; refine WK.seq ?_)
  refine St.splitC (fun hc => ?_) (fun hc => ?_)
  · have hlt : k < l.length := by simp at hc; omega
    have hv' := hv
    obtain ⟨b, off, cc, rfl, hk⟩ := hv'.ne (by omega)
    have htk := take_succE hlt
    (refine WK.skip ?_; refine WK.seq ?_; refine WK.block ?_; refine WK.seq ?_; refine WK.region ?_)
    refine St.at ?_
    refine St.loadX (fun h2 hh => ((hk.vw hh).at_ (z := (k : Int)) (n := k) (by omega) hlt).agg (by simp [imC]) rfl rfl rfl) ?_
    (refine St.alloc fun _ _ => ?_; refine St.store0 ?_; refine WO.nil ?_; refine WK.seq ?_; refine WK.region ?_; refine St.move ?_; refine St.load ?_)
    rename_i p7 hp7
    refine St.call (fun _ => rfl) (fun h2 hh => hf h2 _ hh (nthE l k) (nthE_mem hlt)) ?_
    (refine St.move ?_; refine St.extract ?_; refine St.extract ?_; refine St.assign ?_; refine St.assign ?_; refine WO.nil ?_; refine WK.region ?_; refine St.move ?_; refine St.move ?_)
    have hbx := hb _ (nthE_mem hlt)
    have hq := sumQ_bd (ps := (l.take k).map br) (c := 33554432) (fun p hp => by
      obtain ⟨x, hx, rfl⟩ := List.mem_map.1 hp
      exact hb x (List.mem_of_mem_take hx)) (by omega)
    have hg := getQ_bd (a := (br (nthE l k)).1) (by omega) hq
    have hln : ((l.take k).map br).length = k := by rw [List.length_map, List.length_take]; omega
    rw [hln] at hg
    refine St.lookupV (v := .int .i64 (getQ (sumQ ((l.take k).map br)) (br (nthE l k)).1)) (fun h2 hh => ?_) ?_
    · have hm := (hh.own (j, _) (List.mem_cons_of_mem _ (List.Mem.head _))).1
      exact lookQ hm
    (refine St.move ?_; refine St.binI ?_)
    refine St.mapUpd (A := [(p7, .cells (imC (nthE l k)) 114)]) (C := []) (es' := mapQ (sumQ ((l.take (k + 1)).map br)) 0) (c' := (sumQ ((l.take (k + 1)).map br)).length) rfl (fun h2 g2 h3 h4 => ?_) ?_
    · have e : sumQ ((l.take (k + 1)).map br) = accQ (sumQ ((l.take k).map br)) (br (nthE l k)).1 (br (nthE l k)).2 := by rw [htk, List.map_append]; exact sumQ_snoc _ _
      rw [e] at h4
      exact updQ h3 h4
    (refine WO.nil ?_; refine WK.blk ?_; refine WK.region ?_; refine St.binI ?_; refine St.move ?_; refine WO.nil ?_)
    refine WK.le ?_ (by (repeat (first | exact List.Sublist.refl _ | exact List.nil_sublist _ | apply List.Sublist.cons_cons | apply List.Sublist.cons))) (ih (k + 1) hlt (by omega))
    exact ⟨rfl, rfl, rfl, rfl, rfl, rfl, trivial⟩
  · have : k = l.length := by simp at hc; omega
    subst this
    rw [List.take_length]
    (refine WK.exit ?_; refine WK.seq ?_; refine WK.region ?_; refine St.move ?_; refine St.assign ?_; refine WO.nil ?_)
    refine St.ret (by first | exact .tmp .nil | exact .cell .nil | exact .cell (.tmp .nil) | exact .tmp (.tmp .nil) | exact .cell (.cell .nil) | exact .tmp (.cell .nil) | exact .nil | exact .tmp (.cell (.tmp .nil)) | exact .cell (.tmp (.tmp .nil)) | exact .cell (.cell (.tmp .nil)) | exact .tmp (.tmp (.tmp .nil)) | exact .tmp (.tmp (.tmp (.tmp .nil))) | exact .cell (.cell (.cell .nil))) ?_
    exact ⟨_, List.Sublist.refl _, j, rfl, rfl⟩
end Go.Proofs.YtkebbdpfjhhdhaaGreat

/- Layer 8: only and sums of postings over the calculator's memory. -/
namespace Go.Proofs.YtkebbdpfjhhdhaaGreat
open Go.Proofs.YtkebbdpfjhhdhaaGreat.Ev

abbrev PoH := EH poC 4
abbrev PoV := EV poC 4
theorem poC_len (x : Po) : (poC x).length = 4 := rfl
theorem PoV.llen {h : Heap} {v : AV} {l : List Po} (k : PoV h v l) : ∀ h2, lenA Tryz.prog 35 h2 v = some (.int .i64 (l.length : Int)) := EV.len k Tryz.underlying35
end Go.Proofs.YtkebbdpfjhhdhaaGreat
