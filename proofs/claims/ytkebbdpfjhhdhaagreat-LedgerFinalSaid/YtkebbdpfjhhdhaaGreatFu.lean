/- Layer 8: the reference's comparisons of lists that are the same. -/
import Derived.Test.YtkebbdpfjhhdhaaGreatFo
import Derived.Test.YtkebbdpfjhhdhaaGreatFc
/- Layer 8: what accounts hold. -/
namespace Go.Proofs.YtkebbdpfjhhdhaaGreat
open Go.Proofs.YtkebbdpfjhhdhaaGreat.Ev

def inC (n : Int) : List AV := [.int .i64 n]
theorem enF_in (l : List Int) : enF inC l = l.map (AV.int .i64) := by
  induction l with
  | nil => rfl
  | cons b r ih => simp only [enF, List.map_cons, List.flatten_cons] at *; rw [ih]; rfl
theorem IsR.eVN {h0 h : Heap} {W : List Nat} {V : Ob} {l : List Int} {n : Nat} {v : AV} {Lv : Ob} (k : IsR 3 1 n (l.map (AV.int .i64)) v Lv) (hn : l.length = n) (hh : Vw h0 W V h) (hm : ∀ x ∈ Lv, x ∈ V) : EV inC 1 h v l := en_v (enc := inC) (sz := 1) (fun _ => rfl) (by rw [enF_in]; exact k.isL) hn hh hm
/-- what postings up to a day bring -/
def hldP (ps : List Po) (d : Int) : List (Int × Int) := (ps.filter fun p => decide (p.dy ≤ d)).map fun p => (p.ac, p.am)
set_option maxRecDepth 100000 in
theorem holding1_con (h : Heap) (g : Gd h) (x : Po) (p : Nat) (d : Int) (hp : Rd h p 0 (.int .i64 d)) : Con Tryz.prog Bs 136 [.agg (poC x), .ptr p 0] h [] (.bool (decide (x.dy ≤ d))) [] := by
  refine Con.start rfl Tryz.func136 rfl rfl Tryz.ntmps136 rfl rfl g ?_
  (refine WK.seq ?_; refine WK.region ?_; refine St.box fun _ _ => ?_; refine St.assign ?_; refine WO.nil ?_; refine WK.seq ?_; refine WK.region ?_; refine St.fieldAddr ?_; refine St.load ?_)
  refine St.loadX (fun h2 hh => (hh.rd (by simp) hp).one rfl) ?_
  (refine St.bin ?_; refine St.assign ?_; refine WO.nil ?_)
  refine St.ret (by first | exact .tmp .nil | exact .cell .nil | exact .cell (.tmp .nil) | exact .tmp (.tmp .nil) | exact .cell (.cell .nil) | exact .tmp (.cell .nil) | exact .nil | exact .tmp (.cell (.tmp .nil)) | exact .cell (.tmp (.tmp .nil)) | exact .cell (.cell (.tmp .nil)) | exact .tmp (.tmp (.tmp .nil)) | exact .tmp (.tmp (.tmp (.tmp .nil))) | exact .cell (.cell (.cell .nil))) ?_
  rfl
set_option maxRecDepth 100000 in
theorem holding2_con (h : Heap) (g : Gd h) (x : Po) : Con Tryz.prog Bs 138 [.agg (poC x)] h [] (.tup [.int .i64 x.ac, .int .i64 x.am]) [] := by
  refine Con.start rfl Tryz.func138 rfl rfl Tryz.ntmps138 rfl rfl g ?_
  (refine WK.seq ?_; refine WK.region ?_; refine St.box fun _ _ => ?_; refine St.assign ?_; refine St.assign ?_; refine WO.nil ?_; refine WK.seq ?_; refine WK.regionD ?_; refine St.fieldAddr ?_; refine St.load ?_; refine St.fieldAddr ?_; refine St.load ?_; refine St.assign ?_; refine St.assign ?_; refine WO.nil ?_)
  refine St.ret (by first | exact .tmp .nil | exact .cell .nil | exact .cell (.tmp .nil) | exact .tmp (.tmp .nil) | exact .cell (.cell .nil) | exact .tmp (.cell .nil) | exact .nil | exact .tmp (.cell (.tmp .nil)) | exact .cell (.tmp (.tmp .nil)) | exact .cell (.cell (.tmp .nil)) | exact .tmp (.tmp (.tmp .nil)) | exact .tmp (.tmp (.tmp (.tmp .nil))) | exact .cell (.cell (.cell .nil))) ?_
  rfl
set_option maxRecDepth 100000 in
set_option maxHeartbeats 4000000 in
theorem holding_con (h : Heap) (g : Gd h) (j : Nat) (d : Int) (vp : AV) (l : List Po) (hj : Rd h j 1 vp) (hv : PoV h vp l) (hl : l.length ≤ 1000) (hb : ∀ x ∈ l, PoOk x) : ∃ u L, Con Tryz.prog Bs 83 [.ptr j 0, .int .i64 d] h [] u L ∧ ∃ m, u = .map m ∧ L = [(m, .map (mapQ (sumQ (hldP l d)) 0) (sumQ (hldP l d)).length)] := by
  refine Con.subG (Con.startR rfl Tryz.func83 rfl rfl Tryz.ntmps83 rfl rfl (SS.init g) ?_)
  (refine WK.seq ?_; refine WK.region ?_; refine St.box fun _ _ => ?_; refine St.assign ?_; refine WO.nil ?_; refine WK.seq ?_; refine WK.region ?_; refine St.move ?_; refine St.nilP ?_; refine St.fieldAddr ?_)
  rename_i p3 hp3
  refine St.loadX (fun h2 hh => (hh.rd (by simp) hj).one rfl) ?_
  (refine St.fn ?_)
  refine St.callR (fun _ => rfl) (fun h2 hh => onlyP_con h2 hh.gd vp l 136 [.ptr p3 0] (fun x => decide (x.dy ≤ d)) (hv.vw ⟨hh.gd, hh.nx, hh.old, hh.own⟩) (by omega) (fun h3 V hh3 x _ => holding1_con h3 hh3.gd x p3 d (hh3.rd (by simp) (hh.rdG (List.Mem.head _) rfl)))) ?_
  intro u L hu
  (refine St.assign ?_; refine WO.nil ?_; refine WK.seq ?_; refine WK.region ?_; refine St.move ?_)
  refine St.callR (fun _ => rfl) (fun h2 hh => sumsP_con h2 hh.gd u (l.filter fun x => decide (x.dy ≤ d)) 138 [] (fun p => (p.ac, p.am)) (IsR.eVP hu rfl hh (fun x hx => List.mem_append_left _ hx)) (Nat.le_trans (List.length_filter_le _ _) (by omega)) (fun x hx => ?_) (fun h3 V hh3 x hx => holding2_con h3 hh3.gd x)) ?_
  · have := (hb x (List.mem_filter.1 hx).1).am
    simp only
    omega
  rintro _ _ ⟨m, rfl, rfl⟩
  (refine St.assign ?_; refine WO.nil ?_)
  refine St.ret (by first | exact .tmp .nil | exact .cell .nil | exact .cell (.tmp .nil) | exact .tmp (.tmp .nil) | exact .cell (.cell .nil) | exact .tmp (.cell .nil) | exact .nil | exact .tmp (.cell (.tmp .nil)) | exact .cell (.tmp (.tmp .nil)) | exact .cell (.cell (.tmp .nil)) | exact .tmp (.tmp (.tmp .nil)) | exact .tmp (.tmp (.tmp (.tmp .nil))) | exact .cell (.cell (.cell .nil))) ?_
  exact ⟨_, (List.nil_sublist _).cons_cons _, m, rfl, rfl⟩
theorem perm_mid {α : Type} (A : List α) (x : α) (C : List α) : (A ++ (x :: C)).Perm (x :: (A ++ C)) := List.perm_middle
/-- accounts with what they hold, by their numbers -/
def balL (q : List (Int × Int)) : List Ba := (srtI (q.map (·.1))).map fun a => ⟨a, getQ q a⟩
theorem balL_len (q : List (Int × Int)) : (balL q).length = q.length := by simp [balL, srtI_len]
set_option maxRecDepth 100000 in
theorem keysF_con (h : Heap) (g : Gd h) (m : Nat) : ∃ u L, Con Tryz.prog Bs 139 [.map m] h [] u L ∧ ∃ p, u = .fn (.func 155) [] [.ptr p 0] ∧ L = [(p, .cells [.map m] 116)] := by
  refine Con.subG (Con.startR rfl Tryz.func139 rfl rfl Tryz.ntmps139 rfl rfl (SS.init g) ?_)
  (refine WK.seq ?_; refine WK.region ?_; refine St.box fun _ _ => ?_; refine St.assign ?_; refine WO.nil ?_; refine WK.seq ?_; refine WK.region ?_; refine St.fn ?_; refine St.assign ?_; refine WO.nil ?_)
  rename_i p hp
  refine St.ret (by first | exact .tmp .nil | exact .cell .nil | exact .cell (.tmp .nil) | exact .tmp (.tmp .nil) | exact .cell (.cell .nil) | exact .tmp (.cell .nil) | exact .nil | exact .tmp (.cell (.tmp .nil)) | exact .cell (.tmp (.tmp .nil)) | exact .cell (.cell (.tmp .nil)) | exact .tmp (.tmp (.tmp .nil)) | exact .tmp (.tmp (.tmp (.tmp .nil))) | exact .cell (.cell (.cell .nil))) ?_
  exact ⟨_, List.Sublist.refl _, p, rfl, rfl⟩
set_option maxRecDepth 100000 in
set_option maxHeartbeats 8000000 in
theorem balances_con (h : Heap) (g : Gd h) (m : Nat) (q : List (Int × Int)) (hm : h.get m = some (.map (mapQ q 0) q.length)) (hm2 : m < h.next) (hl : q.length ≤ 1000) (hn : (q.map (·.1)).Nodup) (hb : ∀ z ∈ q, -9223372036854775808 ≤ z.1 ∧ z.1 < 9223372036854775808) : ∃ u L, Con Tryz.prog Bs 86 [.map m] h [] u L ∧ IsR 110 2 (balL q).length (enF baC (balL q)) u L := by
  refine Con.subG (Con.startR rfl Tryz.func86 rfl rfl Tryz.ntmps86 rfl rfl (SS.init g) ?_)
  (refine WK.seq ?_; refine WK.region ?_; refine St.assign ?_; refine WO.nil ?_; refine WK.seq ?_; refine WK.region ?_; refine St.assign ?_; refine WO.nil ?_; refine WK.seq ?_; refine WK.seq ?_; refine WK.region ?_; refine St.move ?_)
  refine St.callR (fun _ => rfl) (fun h2 hh => keysF_con h2 hh.gd m) ?_
  rintro _ _ ⟨p, rfl, rfl⟩
  skip
  refine St.callR (fun _ => rfl) (fun h2 hh => keys_con h2 hh.gd p m _ q (hh.own _ (List.Mem.head _)).1 ((hh.old m hm2 (by simp)).trans hm) hl hn hb) ?_
  intro v8 L8 h8
  have hlen : (srtI (q.map (·.1))).length = q.length := by rw [srtI_len, List.length_map]
  skip
  refine St.lenG rfl (h8.isL.lenG Tryz.underlying36) ?_
  (refine St.move ?_; refine WO.nil ?_; refine WK.block ?_)
  refine WK.le (s' := [(0, .map m), (3, .slice0), (8, v8), (9, .int .i64 q.length), (10, .int .i64 0)]) (L' := L8) ⟨rfl, rfl, rfl, rfl, rfl, trivial⟩ (List.sublist_append_left _ _) ?_
  refine WK.inv (ι := Nat × AV × Ob) (fun z => [(0, .map m), (3, z.2.1), (8, v8), (9, .int .i64 q.length), (10, .int .i64 z.1)]) (fun z => z.2.2 ++ L8) (fun z => z.1 ≤ q.length ∧ IsR 110 2 ((balL q).take z.1).length (enF baC ((balL q).take z.1)) z.2.1 z.2.2) (fun z => q.length - z.1) (0, .slice0, []) ⟨Nat.zero_le _, .nil rfl rfl⟩ ⟨rfl, rfl, rfl, rfl, rfl, trivial⟩ (List.Sublist.refl _) ?_
  rintro ⟨k, w, Lw⟩ ⟨hkl, hw⟩ ih
  simp only at hkl hw ih ⊢
  (refine WK.seq ?_; refine WK.region ?_; refine St.bin ?_; refine WO.nil ?_; refine WK.seq ?_)
  refine St.splitC (fun hc => ?_) (fun hc => ?_)
  · have hlt : k < q.length := by simp at hc; omega
    have hlt2 : k < (srtI (q.map (·.1))).length := by omega
    have hlt3 : k < (balL q).length := by rw [balL_len]; exact hlt
    have htk := take_succE hlt3
    have hx : nthE (balL q) k = ⟨nthE (srtI (q.map (·.1))) k, getQ q (nthE (srtI (q.map (·.1))) k)⟩ := by
      rw [nthE_eq hlt3, nthE_eq hlt2]
      simp [balL]
    rcases h8.rowN with ⟨_, _, h0, _⟩ | ⟨j8, rfl, rfl, hl8⟩
    · omega
    (refine WK.skip ?_; refine WK.seq ?_; refine WK.block ?_; refine WK.seq ?_; refine WK.region ?_)
    refine St.at ?_
    refine St.loadX (v := .int .i64 (nthE (srtI (q.map (·.1))) k)) (fun h2 hh => by
      have hv := IsR.eVN (l := srtI (q.map (·.1))) h8 hlen hh (fun x hx => List.mem_append_right _ hx)
      obtain ⟨b, off, cc, e, hk⟩ := hv.ne (by omega)
      rw [hlen] at e
      cases e
      exact (Rds.headG (hk.at_ (z := (k : Int)) (n := k) (by omega) hlt2)).one rfl) ?_
    (refine St.assign ?_; refine WO.nil ?_; refine WK.region ?_; refine St.move ?_; refine St.move ?_; refine St.move ?_; refine St.move ?_)
    refine St.lookupV (v := .int .i64 (getQ q (nthE (srtI (q.map (·.1))) k))) (fun h2 hh => lookQ ((hh.old m hm2 (by simp)).trans hm)) ?_
    (refine St.build ?_; refine St.mkS fun _ _ => ?_)
    rename_i p20 hp20
    have hle : ((balL q).take k).length ≤ 1000 := by rw [List.length_take, balL_len]; omega
    refine St.appI (e := 110) (sz := 2) (n := 1) (new := [AV.int .i64 (nthE (srtI (q.map (·.1))) k), AV.int .i64 (getQ q (nthE (srtI (q.map (·.1))) k))]) (Lk := (p20, .cells [AV.int .i64 (nthE (srtI (q.map (·.1))) k), AV.int .i64 (getQ q (nthE (srtI (q.map (·.1))) k))] 110) :: [(j8, .row ((srtI (q.map (·.1))).map (AV.int .i64)) 3 1)]) hw (perm_mid Lw _ _) (fun j hj => ?_) ⟨rfl, rfl, rfl, rfl, rfl, rfl, rfl, rfl, rfl, rfl, rfl, rfl⟩ (List.Mem.head _) rfl (by decide) (by omega)
    (refine St.assign ?_; refine WO.nil ?_; refine WK.blk ?_; refine WK.region ?_; refine St.binI ?_; refine St.move ?_; refine WO.nil ?_)
    refine WK.le ?_ ?_ (ih (k + 1, .slice j 0 (((balL q).take k).length + 1) (.m 0), [(j, .row (enF baC ((balL q).take k) ++ [AV.int .i64 (nthE (srtI (q.map (·.1))) k), AV.int .i64 (getQ q (nthE (srtI (q.map (·.1))) k))]) 110 2)]) ⟨hlt, ?_⟩ (by simp only; omega))
    · exact ⟨rfl, rfl, rfl, rfl, rfl, trivial⟩
    · exact (List.Sublist.cons _ (List.Sublist.refl _)).cons_cons _
    · rw [htk]
      have := IsR.row (e := 110) (sz := 2) (len := ((balL q).take k ++ [nthE (balL q) k]).length) (l := enF baC ((balL q).take k ++ [nthE (balL q) k])) j (enF_len baC_len _)
      rw [enF_app, enF_one, hx] at this
      rw [enF_app, enF_one, hx]
      simpa [baC] using this
  · have : k = q.length := by simp at hc; omega
    subst this
    rw [← balL_len, List.take_length] at hw
    (refine WK.exit ?_; refine WK.seq ?_; refine WK.region ?_; refine St.move ?_; refine St.assign ?_; refine WO.nil ?_)
    refine St.ret (by first | exact .tmp .nil | exact .cell .nil | exact .cell (.tmp .nil) | exact .tmp (.tmp .nil) | exact .cell (.cell .nil) | exact .tmp (.cell .nil) | exact .nil | exact .tmp (.cell (.tmp .nil)) | exact .cell (.tmp (.tmp .nil)) | exact .cell (.cell (.tmp .nil)) | exact .tmp (.tmp (.tmp .nil)) | exact .tmp (.tmp (.tmp (.tmp .nil))) | exact .cell (.cell (.cell .nil))) ?_
    exact ⟨Lw, List.sublist_append_left _ _, hw⟩
end Go.Proofs.YtkebbdpfjhhdhaaGreat

/- Layer 8: the reference's comparisons of lists that are the same. -/
namespace Go.Proofs.YtkebbdpfjhhdhaaGreat
open Go.Proofs.YtkebbdpfjhhdhaaGreat.Ev

instance : DecidableEq Po := fun x y => by
  cases x; cases y
  simp only [Po.mk.injEq]
  infer_instance
theorem ba_ext (x y : Ba) : (x = y) ↔ (x.ac = y.ac ∧ x.am = y.am) := by
  cases x; cases y; simp
theorem ba_neq (x y : Ba) : evBin Tryz.prog .neq 110 (.agg (baC x)) (.agg (baC y)) = some (.bool (!decide (x = y))) := by
  simp only [ba_ext]
  simp [baC, evBin, evEq, guardOk, eqT, eqFs, partE, isAggT, nthN]
  by_cases h0 : x.ac = y.ac
  rotate_left
  · simp [h0]
  by_cases h1 : x.am = y.am
  rotate_left
  · simp [h0, h1]
  simp [h0, h1]
set_option maxRecDepth 100000 in
set_option maxHeartbeats 8000000 in
theorem sameB_con (h : Heap) (g : Gd h) (v w : AV) (l : List Ba) (hv : BaV h v l) (hw : BaV h w l) (hl : l.length ≤ 1000000) : Con Tryz.prog Bs 38 [v, w] h [] (.bool true) [] := by
  refine Con.start rfl Tryz.func38 rfl rfl Tryz.ntmps38 rfl rfl g ?_
  (refine WK.seq ?_; refine WK.region ?_; refine St.assign ?_; refine WO.nil ?_; refine WK.seq ?_; refine WK.seq ?_; refine WK.region ?_; refine St.move ?_)
  refine St.lenG rfl hv.llen ?_
  (refine St.move ?_)
  refine St.lenG rfl hw.llen ?_
  (refine St.bin ?_; refine WO.nil ?_)
  refine St.splitC (fun q => ?_) (fun q => ?_)
  · exact absurd q (by simp)
  (refine WK.skip ?_; refine WK.seq ?_; refine WK.seq ?_; refine WK.region ?_; refine St.assign ?_; refine WO.nil ?_; refine WK.block ?_)
  refine WK.inv (ι := Nat) (fun z => [(0, v), (1, w), (5, .int .i64 z)]) (fun _ => []) (fun z => z ≤ l.length) (fun z => l.length - z) 0 (Nat.zero_le _) ⟨rfl, rfl, rfl, trivial⟩ (by (repeat (first | exact List.Sublist.refl _ | exact List.nil_sublist _ | apply List.Sublist.cons_cons | apply List.Sublist.cons))) ?_
  intro k hkl ih
  (refine WK.seq ?_; refine WK.seq ?_; refine WK.region ?_; refine St.move ?_; refine St.move ?_)
  refine St.lenG rfl hv.llen ?_
  (refine St.bin ?_; refine WO.nil ?_)
  refine St.splitC (fun hc => ?_) (fun hc => ?_)
  · have hlt : k < l.length := by simp at hc; omega
    have hv' := hv
    have hw' := hw
    obtain ⟨b, off, cc, rfl, hk⟩ := hv'.ne (by omega)
    obtain ⟨b2, off2, cc2, rfl, hk2⟩ := hw'.ne (by omega)
    (refine WK.skip ?_; refine WK.seq ?_; refine WK.block ?_; refine WK.seq ?_; refine WK.regionD ?_; refine St.move ?_; refine St.move ?_)
    refine St.at ?_
    skip
    refine St.loadX (fun h2 hh => ((hk.vw hh).at_ (z := (k : Int)) (n := k) (by omega) hlt).agg (by simp [baC]) rfl rfl rfl) ?_
    (refine St.move ?_; refine St.move ?_)
    refine St.at ?_
    skip
    refine St.loadX (fun h2 hh => ((hk2.vw hh).at_ (z := (k : Int)) (n := k) (by omega) hlt).agg (by simp [baC]) rfl rfl rfl) ?_
    skip
    refine St.binX (r := .bool (!decide (nthE l k = nthE l k))) (ba_neq _ _) rfl rfl ?_
    (refine WO.nil ?_)
    refine St.splitC (fun q2 => ?_) (fun q2 => ?_)
    · exact absurd q2 (by simp)
    (refine WK.skip ?_; refine WK.blk ?_; refine WK.region ?_; refine St.move ?_; refine St.binI ?_; refine St.assign ?_; refine WO.nil ?_)
    refine WK.le ?_ (by (repeat (first | exact List.Sublist.refl _ | exact List.nil_sublist _ | apply List.Sublist.cons_cons | apply List.Sublist.cons))) (ih (k + 1) hlt (by omega))
    exact ⟨rfl, rfl, rfl, trivial⟩
  · (refine WK.exit ?_; refine WK.seq ?_; refine WK.region ?_; refine St.assign ?_; refine WO.nil ?_)
    refine St.ret (by first | exact .tmp .nil | exact .cell .nil | exact .cell (.tmp .nil) | exact .tmp (.tmp .nil) | exact .cell (.cell .nil) | exact .tmp (.cell .nil) | exact .nil | exact .tmp (.cell (.tmp .nil)) | exact .cell (.tmp (.tmp .nil)) | exact .cell (.cell (.tmp .nil)) | exact .tmp (.tmp (.tmp .nil)) | exact .tmp (.tmp (.tmp (.tmp .nil))) | exact .cell (.cell (.cell .nil))) ?_
    rfl
end Go.Proofs.YtkebbdpfjhhdhaaGreat
