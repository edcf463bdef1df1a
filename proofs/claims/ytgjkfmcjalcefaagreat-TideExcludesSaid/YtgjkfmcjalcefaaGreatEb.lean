/- Cycles: slices.Concat, without. -/
import Derived.Test.YtgjkfmcjalcefaaGreatEa
namespace Go.Proofs.YtgjkfmcjalcefaaGreat
open Go.Proofs.YtgjkfmcjalcefaaGreat.Ev

theorem Bs_growC (n : Nat) (h : Heap) : Bs.ans 139 [.slice0, .int .i64 n] h = growA 139 4 55 139 [.slice0, .int .i64 n] h := (orB_right rfl).trans ((orB_right rfl).trans ((orB_right rfl).trans ((orB_right rfl).trans ((orB_right rfl).trans (orB_right rfl)))))
set_option maxRecDepth 100000 in
set_option maxHeartbeats 8000000 in
theorem grow0C_con (h : Heap) (g : Gd h) : Con Tryz.prog Bs 139 [.slice0, .int .i64 0] h [] .slice0 [] := by
  refine Con.start rfl Tryz.func139 rfl rfl Tryz.ntmps139 rfl rfl g ?_
  (refine WK.seq ?_; refine WK.region ?_; refine St.assign ?_; refine WO.nil ?_; refine WK.seq ?_; refine WK.seq ?_; refine WK.region ?_; refine St.move ?_; refine St.bin ?_; refine WO.nil ?_; refine WK.condF ?_; refine WK.skip ?_; refine WK.seq ?_; refine WK.seq ?_; refine WK.region ?_; refine St.move ?_; refine St.move ?_)
  refine St.any (v := .int .i64 0) ?_
  (refine St.move ?_; refine St.len0 ?_; refine St.binI ?_; refine St.binI ?_; refine St.assign ?_; refine WO.nil ?_; refine WK.seq ?_; refine WK.region ?_; refine St.move ?_; refine St.bin ?_; refine WO.nil ?_; refine WK.condF ?_; refine WK.skip ?_; refine WK.seq ?_; refine WK.region ?_; refine St.move ?_; refine St.assign ?_; refine WO.nil ?_)
  refine St.ret (by first | exact .tmp .nil | exact .cell .nil | exact .cell (.tmp .nil) | exact .tmp (.tmp .nil) | exact .cell (.cell .nil) | exact .tmp (.cell .nil) | exact .nil | exact .tmp (.cell (.tmp .nil)) | exact .cell (.tmp (.tmp .nil)) | exact .cell (.cell (.tmp .nil)) | exact .tmp (.tmp (.tmp .nil)) | exact .cell (.cell (.cell .nil))) ?_
  rfl
def CyL (v : AV) (n : Nat) : Prop := ∀ h2, lenA Tryz.prog 22 h2 v = some (.int .i64 (n : Int))
theorem cyL_slice (b off n : Nat) (c : ACap) : CyL (.slice b off n c) n := fun h2 => by
  unfold lenA
  rw [Tryz.underlying22]
  rfl
set_option maxRecDepth 100000 in
set_option maxHeartbeats 8000000 in
theorem concatC0_con (h : Heap) (g : Gd h) (x : Nat) (v1 v2 : AV) (hx : Rds h x 0 [v1, v2]) (e1 : CyL v1 0) (e2 : CyL v2 0) (c1 : ∀ L, ComesS h [] L v1 4 0 []) (c2 : ∀ L, ComesS h [] L v2 4 0 []) :
    Con Tryz.prog Bs 125 [.slice x 0 2 (.k 2)] h [] .slice0 [] := by
  have q1 : ∀ L, lenOfA v1 = some 0 ∧ ∀ h2, Vw h [] L h2 → firstA h2 4 0 v1 = some [] := fun L => by
    rcases c1 L with ⟨_, _, a, b⟩ | ⟨a, _⟩
    · exact ⟨a, b⟩
    · omega
  have q2 : ∀ L, lenOfA v2 = some 0 ∧ ∀ h2, Vw h [] L h2 → firstA h2 4 0 v2 = some [] := fun L => by
    rcases c2 L with ⟨_, _, a, b⟩ | ⟨a, _⟩
    · exact ⟨a, b⟩
    · omega
  refine Con.start rfl Tryz.func125 rfl rfl Tryz.ntmps125 rfl rfl g ?_
  (refine WK.seq ?_; refine WK.region ?_; refine St.assign ?_; refine WO.nil ?_; refine WK.seq ?_; refine WK.region ?_; refine St.assign ?_; refine WO.nil ?_; refine WK.seq ?_; refine WK.seq ?_; refine WK.region ?_; refine St.move ?_; refine St.len ?_; refine St.move ?_; refine WO.nil ?_; refine WK.block ?_)
  refine WK.unroll ?_
  (refine WK.seq ?_; refine WK.region ?_; refine St.bin ?_; refine WO.nil ?_; refine WK.seq ?_; refine WK.condT ?_; refine WK.skip ?_; refine WK.seq ?_; refine WK.block ?_; refine WK.seq ?_; refine WK.region ?_)
  refine St.at ?_
  skip
  refine St.loadX (fun h hh => (hh.rd (by simp) hx.1).one rfl) ?_
  (refine St.assign ?_; refine WO.nil ?_; refine WK.seq ?_; refine WK.region ?_; refine St.move ?_; refine St.move ?_)
  refine St.lenV rfl e1 ?_
  (refine St.binI ?_; refine St.assign ?_; refine WO.nil ?_; refine WK.seq ?_; refine WK.region ?_; refine St.move ?_; refine St.bin ?_; refine WO.nil ?_; refine WK.condF ?_; refine WK.skip ?_; refine WK.blk ?_; refine WK.region ?_; refine St.binI ?_; refine St.move ?_; refine WO.nil ?_)
  refine WK.unroll ?_
  (refine WK.seq ?_; refine WK.region ?_; refine St.bin ?_; refine WO.nil ?_; refine WK.seq ?_; refine WK.condT ?_; refine WK.skip ?_; refine WK.seq ?_; refine WK.block ?_; refine WK.seq ?_; refine WK.region ?_)
  refine St.at ?_
  skip
  refine St.loadX (fun h hh => (hh.rd (by simp) hx.2.1).one rfl) ?_
  (refine St.assign ?_; refine WO.nil ?_; refine WK.seq ?_; refine WK.region ?_; refine St.move ?_; refine St.move ?_)
  refine St.lenV rfl e2 ?_
  (refine St.binI ?_; refine St.assign ?_; refine WO.nil ?_; refine WK.seq ?_; refine WK.region ?_; refine St.move ?_; refine St.bin ?_; refine WO.nil ?_; refine WK.condF ?_; refine WK.skip ?_; refine WK.blk ?_; refine WK.region ?_; refine St.binI ?_; refine St.move ?_; refine WO.nil ?_)
  refine WK.unroll ?_
  (refine WK.seq ?_; refine WK.region ?_; refine St.bin ?_; refine WO.nil ?_; refine WK.seq ?_; refine WK.condF ?_; refine WK.exit ?_; refine WK.seq ?_; refine WK.region ?_; refine St.move ?_)
  refine St.call (fun _ => rfl) (fun h2 hh => grow0C_con h2 hh.gd) ?_
  (refine St.assign ?_; refine WO.nil ?_; refine WK.seq ?_; refine WK.seq ?_; refine WK.region ?_; refine St.move ?_; refine St.len ?_; refine St.move ?_; refine WO.nil ?_; refine WK.block ?_)
  refine WK.unroll ?_
  (refine WK.seq ?_; refine WK.region ?_; refine St.bin ?_; refine WO.nil ?_; refine WK.seq ?_; refine WK.condT ?_; refine WK.skip ?_; refine WK.seq ?_; refine WK.block ?_; refine WK.seq ?_; refine WK.region ?_)
  refine St.at ?_
  skip
  refine St.loadX (fun h hh => (hh.rd (by simp) hx.1).one rfl) ?_
  (refine St.assign ?_; refine WO.nil ?_; refine WK.region ?_; refine St.move ?_; refine St.move ?_)
  refine St.app0 (e := 55) (sz := 4) (len := 0) (old := []) (Lv := []) (Lk := []) (v := .slice0) (IsL.nil rfl rfl) (List.Perm.refl _) ?_ ⟨rfl, rfl, rfl, rfl, rfl, rfl, rfl, rfl, (q1 []).1⟩ (fun h2 hh => (q1 _).2 h2 hh)
  (refine St.assign ?_; refine WO.nil ?_; refine WK.blk ?_; refine WK.region ?_; refine St.binI ?_; refine St.move ?_; refine WO.nil ?_)
  refine WK.unroll ?_
  (refine WK.seq ?_; refine WK.region ?_; refine St.bin ?_; refine WO.nil ?_; refine WK.seq ?_; refine WK.condT ?_; refine WK.skip ?_; refine WK.seq ?_; refine WK.block ?_; refine WK.seq ?_; refine WK.region ?_)
  refine St.at ?_
  skip
  refine St.loadX (fun h hh => (hh.rd (by simp) hx.2.1).one rfl) ?_
  (refine St.assign ?_; refine WO.nil ?_; refine WK.region ?_; refine St.move ?_; refine St.move ?_)
  refine St.app0 (e := 55) (sz := 4) (len := 0) (old := []) (Lv := []) (Lk := []) (v := .slice0) (IsL.nil rfl rfl) (List.Perm.refl _) ?_ ⟨rfl, rfl, rfl, rfl, rfl, rfl, rfl, rfl, (q2 []).1⟩ (fun h2 hh => (q2 _).2 h2 hh)
  (refine St.assign ?_; refine WO.nil ?_; refine WK.blk ?_; refine WK.region ?_; refine St.binI ?_; refine St.move ?_; refine WO.nil ?_)
  refine WK.unroll ?_
  (refine WK.seq ?_; refine WK.region ?_; refine St.bin ?_; refine WO.nil ?_; refine WK.seq ?_; refine WK.condF ?_; refine WK.exit ?_; refine WK.seq ?_; refine WK.region ?_; refine St.move ?_; refine St.assign ?_; refine WO.nil ?_)
  refine St.ret (by first | exact .tmp .nil | exact .cell .nil | exact .cell (.tmp .nil) | exact .tmp (.tmp .nil) | exact .cell (.cell .nil) | exact .tmp (.cell .nil) | exact .nil | exact .tmp (.cell (.tmp .nil)) | exact .cell (.tmp (.tmp .nil)) | exact .cell (.cell (.tmp .nil)) | exact .tmp (.tmp (.tmp .nil)) | exact .cell (.cell (.cell .nil))) ?_
  rfl
set_option maxRecDepth 100000 in
set_option maxHeartbeats 8000000 in
theorem concatC_con (h : Heap) (g : Gd h) (x : Nat) (v1 v2 : AV) (n1 n2 : Nat) (l1 l2 : List AV) (hx : Rds h x 0 [v1, v2]) (e1 : CyL v1 n1) (e2 : CyL v2 n2) (c1 : ∀ L, ComesS h [] L v1 4 n1 l1) (c2 : ∀ L, ComesS h [] L v2 4 n2 l2) (hp : 0 < n1 + n2) (hl : n1 + n2 ≤ 1000) :
    ∃ u L, Con Tryz.prog Bs 125 [.slice x 0 2 (.k 2)] h [] u L ∧ IsL 55 4 (n1 + n2) (l1 ++ l2) u L := by
  refine Con.subR (Con.startR rfl Tryz.func125 rfl rfl Tryz.ntmps125 rfl rfl (SS.init g) ?_)
  (refine WK.seq ?_; refine WK.region ?_; refine St.assign ?_; refine WO.nil ?_; refine WK.seq ?_; refine WK.region ?_; refine St.assign ?_; refine WO.nil ?_; refine WK.seq ?_; refine WK.seq ?_; refine WK.region ?_; refine St.move ?_; refine St.len ?_; refine St.move ?_; refine WO.nil ?_; refine WK.block ?_)
  refine WK.unroll ?_
  (refine WK.seq ?_; refine WK.region ?_; refine St.bin ?_; refine WO.nil ?_; refine WK.seq ?_; refine WK.condT ?_; refine WK.skip ?_; refine WK.seq ?_; refine WK.block ?_; refine WK.seq ?_; refine WK.region ?_)
  refine St.at ?_
  skip
  refine St.loadX (fun h hh => (hh.rd (by simp) hx.1).one rfl) ?_
  (refine St.assign ?_; refine WO.nil ?_; refine WK.seq ?_; refine WK.region ?_; refine St.move ?_; refine St.move ?_)
  refine St.lenV rfl e1 ?_
  (refine St.binI ?_; refine St.assign ?_; refine WO.nil ?_; refine WK.seq ?_; refine WK.region ?_; refine St.move ?_; refine St.bin ?_; refine WO.nil ?_; refine WK.condF ?_; refine WK.skip ?_; refine WK.blk ?_; refine WK.region ?_; refine St.binI ?_; refine St.move ?_; refine WO.nil ?_)
  refine WK.unroll ?_
  (refine WK.seq ?_; refine WK.region ?_; refine St.bin ?_; refine WO.nil ?_; refine WK.seq ?_; refine WK.condT ?_; refine WK.skip ?_; refine WK.seq ?_; refine WK.block ?_; refine WK.seq ?_; refine WK.region ?_)
  refine St.at ?_
  skip
  refine St.loadX (fun h hh => (hh.rd (by simp) hx.2.1).one rfl) ?_
  (refine St.assign ?_; refine WO.nil ?_; refine WK.seq ?_; refine WK.region ?_; refine St.move ?_; refine St.move ?_)
  refine St.lenV rfl e2 ?_
  (refine St.binI ?_; refine St.assign ?_; refine WO.nil ?_; refine WK.seq ?_; refine WK.region ?_; refine St.move ?_; refine St.bin ?_; refine WO.nil ?_; refine WK.condF ?_; refine WK.skip ?_; refine WK.blk ?_; refine WK.region ?_; refine St.binI ?_; refine St.move ?_; refine WO.nil ?_)
  refine WK.unroll ?_
  (refine WK.seq ?_; refine WK.region ?_; refine St.bin ?_; refine WO.nil ?_; refine WK.seq ?_; refine WK.condF ?_; refine WK.exit ?_; refine WK.seq ?_; refine WK.region ?_; refine St.move ?_)
  refine St.call1 (v := fun j => .slice j 0 0 (.m 0)) (ob := fun _ => .row [] 55 4) (fun _ => rfl) (fun h2 hh => ⟨h2.next, by
    have := Con.grow (P := Tryz.prog) (B := Bs) hh.gd (Bs_growC (n1 + n2) h2) hp (by omega)
    rw [show ((n1 + n2 : Nat) : Int) = 0 + (n1 : Int) + (n2 : Int) by omega] at this
    exact this⟩) (fun j hj => ?_)
  (refine St.assign ?_; refine WO.nil ?_; refine WK.seq ?_; refine WK.seq ?_; refine WK.region ?_; refine St.move ?_; refine St.len ?_; refine St.move ?_; refine WO.nil ?_; refine WK.block ?_)
  refine WK.unroll ?_
  (refine WK.seq ?_; refine WK.region ?_; refine St.bin ?_; refine WO.nil ?_; refine WK.seq ?_; refine WK.condT ?_; refine WK.skip ?_; refine WK.seq ?_; refine WK.block ?_; refine WK.seq ?_; refine WK.region ?_)
  refine St.at ?_
  skip
  refine St.loadX (fun h hh => (hh.rd (by simp) hx.1).one rfl) ?_
  (refine St.assign ?_; refine WO.nil ?_; refine WK.region ?_; refine St.move ?_; refine St.move ?_)
  refine St.appA (e := 55) (sz := 4) (n := n1) (new := l1) (len := 0) (old := []) (Lv := [(j, .row [] 55 4)]) (Lk := []) (IsL.row j rfl) (List.Perm.refl _) ⟨rfl, rfl, rfl, rfl, rfl, rfl, rfl, rfl⟩ (c1 _) (by omega) (fun v' Lv' hv' => ?_)
  (refine St.assign ?_; refine WO.nil ?_; refine WK.blk ?_; refine WK.region ?_; refine St.binI ?_; refine St.move ?_; refine WO.nil ?_)
  refine WK.unroll ?_
  (refine WK.seq ?_; refine WK.region ?_; refine St.bin ?_; refine WO.nil ?_; refine WK.seq ?_; refine WK.condT ?_; refine WK.skip ?_; refine WK.seq ?_; refine WK.block ?_; refine WK.seq ?_; refine WK.region ?_)
  refine St.at ?_
  skip
  refine St.loadX (fun h hh => (hh.rd (by simp) hx.2.1).one rfl) ?_
  (refine St.assign ?_; refine WO.nil ?_; refine WK.region ?_; refine St.move ?_; refine St.move ?_)
  refine St.appA (e := 55) (sz := 4) (n := n2) (new := l2) (Lk := []) hv' (by rw [List.append_nil]) ⟨rfl, rfl, rfl, rfl, rfl, rfl, rfl, rfl⟩ (c2 _) (by omega) (fun v2' Lv2 hv2 => ?_)
  (refine St.assign ?_; refine WO.nil ?_; refine WK.blk ?_; refine WK.region ?_; refine St.binI ?_; refine St.move ?_; refine WO.nil ?_)
  refine WK.unroll ?_
  (refine WK.seq ?_; refine WK.region ?_; refine St.bin ?_; refine WO.nil ?_; refine WK.seq ?_; refine WK.condF ?_; refine WK.exit ?_; refine WK.seq ?_; refine WK.region ?_; refine St.move ?_; refine St.assign ?_; refine WO.nil ?_)
  refine St.ret (by first | exact .tmp .nil | exact .cell .nil | exact .cell (.tmp .nil) | exact .tmp (.tmp .nil) | exact .cell (.cell .nil) | exact .tmp (.cell .nil) | exact .nil | exact .tmp (.cell (.tmp .nil)) | exact .cell (.tmp (.tmp .nil)) | exact .cell (.cell (.tmp .nil)) | exact .tmp (.tmp (.tmp .nil)) | exact .cell (.cell (.cell .nil))) ?_
  rw [Nat.zero_add, List.nil_append] at hv2
  rw [List.append_nil]
  exact ⟨_, List.Sublist.refl _, hv2⟩
theorem concatCA_con (h : Heap) (g : Gd h) (x : Nat) (v1 v2 : AV) (n1 n2 : Nat) (l1 l2 : List AV) (hx : Rds h x 0 [v1, v2]) (e1 : CyL v1 n1) (e2 : CyL v2 n2) (c1 : ∀ L, ComesS h [] L v1 4 n1 l1) (c2 : ∀ L, ComesS h [] L v2 4 n2 l2) (hl : n1 + n2 ≤ 1000) :
    ∃ u L, Con Tryz.prog Bs 125 [.slice x 0 2 (.k 2)] h [] u L ∧ IsL 55 4 (n1 + n2) (l1 ++ l2) u L := by
  by_cases hp : 0 < n1 + n2
  · exact concatC_con h g x v1 v2 n1 n2 l1 l2 hx e1 e2 c1 c2 hp hl
  · obtain rfl : n1 = 0 := by omega
    obtain rfl : n2 = 0 := by omega
    obtain rfl : l1 = [] := (c1 []).elim (fun q => q.2.1) (fun q => absurd q.1 (Nat.lt_irrefl 0))
    obtain rfl : l2 = [] := (c2 []).elim (fun q => q.2.1) (fun q => absurd q.1 (Nat.lt_irrefl 0))
    exact ⟨_, _, concatC0_con h g x v1 v2 hx e1 e2 c1 c2, IsL.nil rfl rfl⟩
set_option maxRecDepth 100000 in
set_option maxHeartbeats 8000000 in
theorem withoutC_con (h : Heap) (g : Gd h) (b off m i : Nat) (l : List Cw) (hk : CyH h b off l) (hm : l.length ≤ m) (hi : i < l.length) (hl : l.length ≤ 60) :
    ∃ u L, Con Tryz.prog Bs 85 [.slice b off l.length (.k m), .int .i64 i] h [] u L ∧ IsL 55 4 (l.eraseIdx i).length (cyF (l.eraseIdx i)) u L := by
  refine Con.subR (Con.startR rfl Tryz.func85 rfl rfl Tryz.ntmps85 rfl rfl (SS.init g) ?_)
  (refine WK.seq ?_; refine WK.region ?_; refine St.assign ?_; refine WO.nil ?_; refine WK.seq ?_; refine WK.regionD ?_; refine St.move ?_; refine St.move ?_)
  refine St.sliceV (v := .slice b off i (.k m)) (fun h2 hh => ?_) ?_
  · show plainV (evSlice Tryz.prog h2 22 (.slice b off l.length (.k m)) none (some (.int .i64 i)) none) h2 = _
    rw [slC_to (by omega) hm]
    rfl
  (refine St.move ?_; refine St.move ?_; refine St.binI ?_)
  refine St.sliceV (v := .slice b (if m - (i + 1) = 0 then off else off + (i + 1) * 4) (l.length - (i + 1)) (.k (m - (i + 1)))) (fun h2 hh => ?_) ?_
  · show plainV (evSlice Tryz.prog h2 22 (.slice b off l.length (.k m)) (some (.int .i64 ((i : Int) + 1))) none none) h2 = _
    rw [show ((i : Int) + 1) = ((i + 1 : Nat) : Int) by omega, slC_from (by omega) hm]
    rfl
  (refine StD.mkS fun _ _ => ?_)
  rename_i x hx
  refine StD.callRT (R := fun u L => IsL 55 4 (i + (l.length - (i + 1))) (cyF (l.take i) ++ cyF (l.drop (i + 1))) u L) [(7, (x, .cells [.slice b off i (.k m), .slice b (if m - (i + 1) = 0 then off else off + (i + 1) * 4) (l.length - (i + 1)) (.k (m - (i + 1)))] 22))] (fun _ => rfl) (fun y hy => by cases List.mem_singleton.1 hy; exact ⟨List.Mem.head _, by show maskAt _ _ 7 = true; decide +kernel⟩) (fun h2 hh => ?_) (fun u L hu => ?_)
  · have hk2 : CyH h2 b off l := hk.vw hh
    refine concatCA_con h2 hh.gd x (.slice b off i (.k m)) (.slice b (if m - (i + 1) = 0 then off else off + (i + 1) * 4) (l.length - (i + 1)) (.k (m - (i + 1)))) i (l.length - (i + 1)) (cyF (l.take i)) (cyF (l.drop (i + 1))) ?_ (cyL_slice _ _ _ _) (cyL_slice _ _ _ _) (fun L => comesC_to hk2 (by omega) (by omega) hl) (fun L => comesC_from hk2 (by omega) (by omega) hl hm) (by omega)
    exact ⟨hh.rdO (List.Mem.head _) rfl, hh.rdO (List.Mem.head _) rfl, trivial⟩
  (refine St.assign ?_)
  refine WO.nilG ?_
  skip
  refine St.ret (by first | exact .tmp .nil | exact .cell .nil | exact .cell (.tmp .nil) | exact .tmp (.tmp .nil) | exact .cell (.cell .nil) | exact .tmp (.cell .nil) | exact .nil | exact .tmp (.cell (.tmp .nil)) | exact .cell (.tmp (.tmp .nil)) | exact .cell (.cell (.tmp .nil)) | exact .tmp (.tmp (.tmp .nil)) | exact .cell (.cell (.cell .nil))) ?_
  rw [List.eraseIdx_eq_take_drop_succ, cyF_app, List.length_append, List.length_take, List.length_drop, Nat.min_eq_left (by omega)]
  exact ⟨L, by simp only [List.map_append, List.map_map, Function.comp_def, List.map_id', List.append_assoc]; exact List.sublist_append_left _ _, hu⟩
end Go.Proofs.YtgjkfmcjalcefaaGreat
