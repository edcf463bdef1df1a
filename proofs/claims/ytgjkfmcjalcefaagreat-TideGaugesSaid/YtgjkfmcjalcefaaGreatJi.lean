/- The reference's Clashes. -/
import Derived.Test.YtgjkfmcjalcefaaGreatJh
import Derived.Test.YtgjkfmcjalcefaaGreatJc
namespace Go.Proofs.YtgjkfmcjalcefaaGreat
open Go.Proofs.YtgjkfmcjalcefaaGreat.Ev

/-- pairs that are held: none, or a row -/
def OwLQ (v : AV) (Lv : Ob) (xs : List (Int × Int)) : Prop := (v = .slice0 ∧ Lv = [] ∧ xs = []) ∨ ∃ j, v = .slice j 0 xs.length (.m 0) ∧ Lv = [(j, .row (flP xs) 89 2)] ∧ 0 < xs.length
theorem OwLQ.isL {v : AV} {Lv : Ob} {xs : List (Int × Int)} (k : OwLQ v Lv xs) : IsL 89 2 xs.length (flP xs) v Lv := by
  rcases k with ⟨rfl, rfl, rfl⟩ | ⟨j, rfl, rfl, hn⟩
  · exact .nil rfl rfl
  · exact .row j (flP_len xs)
theorem OwLQ.owQ {h0 h : Heap} {W : List Nat} {V : Ob} {v : AV} {Lv : Ob} {xs : List (Int × Int)} (k : OwLQ v Lv xs) (hh : Vw h0 W V h) (hm : ∀ x ∈ Lv, x ∈ V) : OwQ h v xs := by
  rcases k with ⟨rfl, rfl, rfl⟩ | ⟨j, rfl, rfl, hn⟩
  · exact .inl ⟨rfl, rfl⟩
  · have ho := hh.own _ (hm _ (List.mem_singleton.2 rfl))
    refine .inr ⟨j, rfl, ho.2, ?_, fun i hi => ?_, hn⟩
    · unfold knownN
      rw [ho.1]
      simp [flP_len]
    · rw [Nat.zero_add]
      exact hh.rdsD (hm _ (List.mem_singleton.2 rfl)) (AObj.has_row _ _ _) _ _ _ (flP_drop xs i hi)
theorem rcIn_len (cs : List Cy) (ss : List Sh) (l : List Ga) (i : Nat) : ∀ m, (rcIn cs ss l i m).length ≤ m
  | 0 => by simp [rcIn]
  | m + 1 => by
    have := rcIn_len cs ss l i m
    simp only [rcIn, List.length_append]
    split <;> simp <;> omega
theorem rcTo_len (cs : List Cy) (ss : List Sh) (l : List Ga) : ∀ k, (rcTo cs ss l k).length ≤ k * (k + 1)
  | 0 => by simp [rcTo]
  | k + 1 => by
    have h1 := rcTo_len cs ss l k
    have h2 := rcIn_len cs ss l k k
    have h3 : (k + 1) * (k + 1 + 1) = k * (k + 1) + 2 * (k + 1) := by rw [Nat.mul_comm (k + 1), ← Nat.add_mul]
    simp only [rcTo, List.length_append]
    split <;> simp <;> omega
theorem Ev.WK.joinQ {X : Type} {P : Program} {B : Base} {Q : Post} {h0 : Heap} {W : List Nat} {N : Nat} {D : List Nat} {K : List Fr} {F : Fr} {s : Sl} {L : Ob} (I : X → Prop) (s2 : X → Sl) (L2 : X → Ob) (reg : (∀ x, I x → WK P B Q h0 W N D K (s2 x) (L2 x)) → WK P B Q h0 W N D (F :: K) s L) (k' : ∀ x, I x → WK P B Q h0 W N D K (s2 x) (L2 x)) : WK P B Q h0 W N D (F :: K) s L := reg k'
set_option maxRecDepth 100000 in
set_option maxHeartbeats 16000000 in
theorem rclashes_con (h : Heap) (g : Gd h) (lv : Int) (cv sv v : AV) (cl : List Cw) (ss : List Sh) (l : List Ga) (hc : CyV h cv cl) (hs : ShV h sv ss) (hv : GaV h v l) (hl : l.length ≤ 1000000) :
    ∃ u L, Con Tryz.prog Bs 12 [.agg [.int .i64 lv, cv, sv], v] h [] u L ∧ ∃ w ys, u = .agg [w, .int .i64 (chkGs lv (cys cl) ss l)] ∧ OwLQ w L ys ∧ SortedQ ys ∧ ys.Perm (if chkGs lv (cys cl) ss l = 0 then rcTo (cys cl) ss l l.length else []) := by
  have hG : ∀ (h2 : Heap) {V : Ob}, Vw h [] V h2 → Con Tryz.prog Bs 37 [.agg [.int .i64 lv, cv, sv], v] h2 [] (.int .i64 (chkGs lv (cys cl) ss l)) [] := fun h2 V hh => rgauged_con h2 hh.gd lv cv sv v cl ss l (hc.vw hh) (hs.vw hh) (hv.vw hh) hl
  by_cases h0 : chkGs lv (cys cl) ss l = 0
  rotate_left
  · rw [if_neg h0]
    refine Con.subR (Con.startR rfl Tryz.func12 rfl rfl Tryz.ntmps12 rfl rfl (SS.init g) ?_)
    (refine WK.seq ?_; refine WK.region ?_; refine St.box fun _ _ => ?_; refine St.alloc fun _ _ => ?_; refine WO.nil ?_; refine WK.seq ?_; refine WK.region ?_; refine St.load ?_; refine St.move ?_)
    refine St.call (fun _ => rfl) (fun h2 hh => hG h2 hh) ?_
    (refine St.assign ?_; refine WO.nil ?_; refine WK.seq ?_; refine WK.seq ?_; refine WK.region ?_; refine St.move ?_; refine St.bin ?_; refine WO.nil ?_)
    refine St.splitC (fun q => ?_) (fun q => ?_)
    · (refine WK.seq ?_; refine WK.region ?_; refine St.move ?_; refine St.build ?_; refine St.store0 ?_; refine WO.nil ?_)
      refine St.ret (by first | exact .tmp .nil | exact .cell .nil | exact .cell (.tmp .nil) | exact .tmp (.tmp .nil) | exact .cell (.cell .nil) | exact .tmp (.cell .nil) | exact .nil | exact .tmp (.cell (.tmp .nil)) | exact .cell (.tmp (.tmp .nil)) | exact .cell (.cell (.tmp .nil)) | exact .tmp (.tmp (.tmp .nil)) | exact .cell (.cell (.cell .nil))) ?_
      exact ⟨[], List.nil_sublist _, .slice0, [], rfl, .inl ⟨rfl, rfl, rfl⟩, List.Pairwise.nil, List.Perm.refl _⟩
    · simp at q; exact absurd q h0
  obtain ⟨w, h40, hga⟩ := chkGs_w h0
  rw [if_pos h0, h0]
  refine Con.subR (Con.startR rfl Tryz.func12 rfl rfl Tryz.ntmps12 rfl rfl (SS.init g) ?_)
  (refine WK.seq ?_; refine WK.region ?_; refine St.box fun _ _ => ?_; refine St.alloc fun _ _ => ?_; refine WO.nil ?_; refine WK.seq ?_; refine WK.region ?_; refine St.load ?_; refine St.move ?_)
  rename_i p2 hp2 p4 hp4
  refine St.call (v := .int .i64 0) (fun _ => rfl) (fun h2 hh => by
    have := hG h2 hh
    rw [h0] at this
    exact this) ?_
  (refine St.assign ?_; refine WO.nil ?_; refine WK.seq ?_; refine WK.seq ?_; refine WK.region ?_; refine St.move ?_; refine St.bin ?_; refine WO.nil ?_; refine WK.condF ?_; refine WK.skip ?_; refine WK.seq ?_; refine WK.region ?_; refine St.assign ?_; refine WO.nil ?_; refine WK.seq ?_; refine WK.seq ?_; refine WK.region ?_; refine St.assign ?_; refine WO.nil ?_; refine WK.block ?_)
  by_cases hn : l.length = 0
  · have e1 : l = [] := List.length_eq_zero_iff.1 hn
    subst e1
    refine WK.unroll ?_
    (refine WK.seq ?_; refine WK.seq ?_; refine WK.region ?_; refine St.move ?_; refine St.move ?_)
    refine St.lenV rfl hv.len ?_
    (refine St.bin ?_; refine WO.nil ?_; refine WK.condF ?_; refine WK.exit ?_; refine WK.seq ?_; refine WK.region ?_; refine St.move ?_; refine St.build ?_; refine St.store0 ?_; refine WO.nil ?_)
    refine St.ret (by first | exact .tmp .nil | exact .cell .nil | exact .cell (.tmp .nil) | exact .tmp (.tmp .nil) | exact .cell (.cell .nil) | exact .tmp (.cell .nil) | exact .nil | exact .tmp (.cell (.tmp .nil)) | exact .cell (.tmp (.tmp .nil)) | exact .cell (.cell (.tmp .nil)) | exact .tmp (.tmp (.tmp .nil)) | exact .cell (.cell (.cell .nil))) ?_
    exact ⟨[], List.nil_sublist _, .slice0, [], rfl, .inl ⟨rfl, rfl, rfl⟩, List.Pairwise.nil, List.Perm.refl _⟩
  obtain ⟨b, off, c, rfl, hk⟩ := hv.ne (by omega)
  refine WK.inv (ι := Nat × AV × Ob × List (Int × Int)) (fun z => [(1, .slice b off l.length c), (2, .ptr p2 0), (4, .ptr p4 0), (5, .int .i64 0), (6, z.2.1), (7, .int .i64 z.1)]) (fun z => (p4, .cells [.slice0, .int .i64 0] 43) :: (p2, .cells [.int .i64 lv, cv, sv] 25) :: z.2.2.1) (fun z => z.1 ≤ l.length ∧ OwLQ z.2.1 z.2.2.1 z.2.2.2 ∧ z.2.2.2.Perm (rcTo (cys cl) ss l z.1) ∧ SortedQ z.2.2.2) (fun z => l.length - z.1) (0, .slice0, [], []) ⟨Nat.zero_le _, .inl ⟨rfl, rfl, rfl⟩, List.Perm.refl _, List.Pairwise.nil⟩ ⟨rfl, rfl, rfl, rfl, rfl, rfl, trivial⟩ (by (repeat (first | exact List.Sublist.refl _ | exact List.nil_sublist _ | apply List.Sublist.cons_cons | apply List.Sublist.cons))) ?_
  rintro ⟨k, u, Lw, ys⟩ ⟨hkl, hw, hpm, hso⟩ ih
  simp only at hkl hw hpm hso ih ⊢
  have hlen : ys.length ≤ 1640 := by
    have h1 := hpm.length_eq
    have h2 := rcTo_len (cys cl) ss l k
    have h3 : k * (k + 1) ≤ 40 * 41 := Nat.mul_le_mul (by omega) (by omega)
    omega
  (refine WK.seq ?_; refine WK.seq ?_; refine WK.region ?_; refine St.move ?_; refine St.move ?_; refine St.len ?_; refine St.bin ?_; refine WO.nil ?_)
  refine St.splitC (fun c1 => ?_) (fun c1 => ?_)
  rotate_left
  · have : k = l.length := by simp at c1; omega
    subst this
    clear ih
    rcases hw with ⟨rfl, rfl, rfl⟩ | ⟨j9, rfl, rfl, hn9⟩
    · (refine WK.exit ?_; refine WK.seq ?_; refine WK.region ?_; refine St.move ?_; refine St.build ?_; refine St.store0 ?_; refine WO.nil ?_)
      refine St.ret (by first | exact .tmp .nil | exact .cell .nil | exact .cell (.tmp .nil) | exact .tmp (.tmp .nil) | exact .cell (.cell .nil) | exact .tmp (.cell .nil) | exact .nil | exact .tmp (.cell (.tmp .nil)) | exact .cell (.tmp (.tmp .nil)) | exact .cell (.cell (.tmp .nil)) | exact .tmp (.tmp (.tmp .nil)) | exact .cell (.cell (.cell .nil))) ?_
      exact ⟨[], List.nil_sublist _, .slice0, [], rfl, .inl ⟨rfl, rfl, rfl⟩, hso, hpm⟩
    · (refine WK.exit ?_; refine WK.seq ?_; refine WK.region ?_; refine St.move ?_; refine St.build ?_; refine St.store0 ?_; refine WO.nil ?_)
      refine St.ret (by first | exact .tmp .nil | exact .cell .nil | exact .cell (.tmp .nil) | exact .tmp (.tmp .nil) | exact .cell (.cell .nil) | exact .tmp (.cell .nil) | exact .nil | exact .tmp (.cell (.tmp .nil)) | exact .cell (.tmp (.tmp .nil)) | exact .cell (.cell (.tmp .nil)) | exact .tmp (.tmp (.tmp .nil)) | exact .cell (.cell (.cell .nil))) ?_
      exact ⟨[(j9, .row (flP ys) 89 2)], by simp, _, ys, rfl, .inr ⟨j9, rfl, rfl, hn9⟩, hso, hpm⟩
  have hlt : k < l.length := by simp at c1; omega
  have hgk := hga (nthG l k) (by rw [nthG_eq hlt]; exact List.getElem_mem hlt)
  (refine WK.skip ?_; refine WK.seq ?_; refine WK.block ?_; refine WK.seq ?_; refine WK.regionD ?_; refine St.load ?_; refine St.move ?_; refine St.move ?_)
  refine St.at ?_
  skip
  refine St.loadX (fun h2 hh => ((hk.vw hh).at_ (z := (k : Int)) (n := k) (by omega) hlt).agg (by simp) rfl rfl rfl) ?_
  skip
  refine St.call (fun _ => rfl) (fun h2 hh => agreed_con h2 hh.gd lv cv sv cl ss (nthG l k) (hc.vw hh) (hs.vw hh) w hgk) ?_
  (refine StD.alloc fun _ _ => ?_; refine StD.storeT ?_; refine WO.nil1 ?_; refine WK.seq ?_; refine WK.seq ?_; refine WK.region ?_; refine St.fieldAddr ?_; refine St.load ?_; refine St.fieldAddr ?_; refine St.load ?_; refine St.bin ?_; refine WO.nil ?_)
  rename_i p8 hp8
  refine WK.joinQ (X := AV × Ob × List (Int × Int)) (fun x => OwLQ x.1 x.2.1 x.2.2 ∧ x.2.2.Perm (rcTo (cys cl) ss l k ++ (if emptyG (cys cl) ss (nthG l k) = true then [((nthG l k).id, (nthG l k).id)] else [])) ∧ SortedQ x.2.2) (fun x => [(1, .slice b off l.length c), (2, .ptr p2 0), (4, .ptr p4 0), (5, .int .i64 0), (6, x.1), (7, .int .i64 k), (8, .ptr p8 0)]) (fun x => (p8, .cells [.int .i64 (lvG (cys cl) ss (nthG l k)).1, .int .i64 (lvG (cys cl) ss (nthG l k)).2] 30) :: (p4, .cells [.slice0, .int .i64 0] 43) :: (p2, .cells [.int .i64 lv, cv, sv] 25) :: x.2.1) (fun kont => ?_) ?_
  · refine St.splitC (fun c2 => ?_) (fun c2 => ?_)
    · have hE : emptyG (cys cl) ss (nthG l k) = true := by unfold emptyG; simpa using c2
      rw [if_pos hE] at kont
      (refine WK.regionD ?_; refine St.move ?_; refine St.move ?_; refine St.move ?_)
      refine St.at ?_
      (refine St.fieldAddr ?_)
      refine St.loadX (fun h2 hh => ((hk.vw hh).gid (z := (k : Int)) (n := k) (by omega) (by omega)).one rfl) ?_
      (refine St.move ?_; refine St.move ?_)
      refine St.at ?_
      (refine St.fieldAddr ?_)
      refine St.loadX (fun h2 hh => ((hk.vw hh).gid (z := (k : Int)) (n := k) (by omega) (by omega)).one rfl) ?_
      (refine St.build ?_)
      refine StD.callR (fun _ => rfl) (fun h2 hh => put_con h2 hh.gd u ys ((nthG l k).id, (nthG l k).id) (hw.owQ hh (fun x hx => by simp [hx])) (by omega)) ?_
      rintro v' L' ⟨zs, j', hz, rfl, rfl⟩
      have hzl : zs.length = ys.length + 1 := by
        have := hz.perm.length_eq
        simpa using this
      refine St.assign ?_
      refine WO.nil1 ?_
      refine WK.perm (L' := (p8, .cells [.int .i64 (lvG (cys cl) ss (nthG l k)).1, .int .i64 (lvG (cys cl) ss (nthG l k)).2] 30) :: (p4, .cells [.slice0, .int .i64 0] 43) :: (p2, .cells [.int .i64 lv, cv, sv] 25) :: (j', .row (flP zs) 89 2) :: Lw) (by (refine perm_cnt fun _ _ => ?_; simp only [List.append_eq, List.cons_append, List.nil_append, List.count_append, List.count_cons, List.count_nil, Nat.add_zero, Nat.zero_add]; try ac_rfl)) ?_
      refine WK.le ?_ ?_ (kont (.slice j' 0 (ys.length + 1) (.m 0), [(j', .row (flP zs) 89 2)], zs) ⟨.inr ⟨j', by show AV.slice j' 0 (ys.length + 1) (.m 0) = .slice j' 0 zs.length (.m 0); rw [hzl], rfl, by show 0 < zs.length; omega⟩, hz.perm.trans (hpm.append_right _), hz.sorted hso⟩)
      · exact ⟨rfl, rfl, rfl, rfl, rfl, rfl, rfl, trivial⟩
      · exact List.Sublist.cons_cons _ (List.Sublist.cons_cons _ (List.Sublist.cons_cons _ (List.Sublist.cons_cons _ (List.nil_sublist _))))
    · have hE : ¬ emptyG (cys cl) ss (nthG l k) = true := by unfold emptyG; simpa using c2
      rw [if_neg hE, List.append_nil] at kont
      refine WK.skip ?_
      refine WK.le ?_ (by (repeat (first | exact List.Sublist.refl _ | exact List.nil_sublist _ | apply List.Sublist.cons_cons | apply List.Sublist.cons))) (kont (u, Lw, ys) ⟨hw, hpm, hso⟩)
      exact ⟨rfl, rfl, rfl, rfl, rfl, rfl, rfl, trivial⟩
  have hEl : (if emptyG (cys cl) ss (nthG l k) = true then [((nthG l k).id, (nthG l k).id)] else []).length ≤ 1 := by split <;> simp
  have hrl := rcTo_len (cys cl) ss l k
  have hrk : k * (k + 1) ≤ 40 * 41 := Nat.mul_le_mul (by omega) (by omega)
  have hto : rcTo (cys cl) ss l (k + 1) = rcTo (cys cl) ss l k ++ (if emptyG (cys cl) ss (nthG l k) = true then [((nthG l k).id, (nthG l k).id)] else []) ++ rcIn (cys cl) ss l k k := rfl
  generalize (if emptyG (cys cl) ss (nthG l k) = true then [((nthG l k).id, (nthG l k).id)] else []) = E at hEl hto ⊢
  clear hw hpm hso hlen u Lw ys
  rintro ⟨u, Lw, ys⟩ ⟨hw, hpm, hso⟩
  simp only at hw hpm hso ⊢
  (refine WK.seq ?_; refine WK.region ?_; refine St.assign ?_; refine WO.nil ?_; refine WK.block ?_)
  refine WK.inv (ι := Nat × AV × Ob × List (Int × Int)) (fun z => [(1, .slice b off l.length c), (2, .ptr p2 0), (4, .ptr p4 0), (5, .int .i64 0), (6, z.2.1), (7, .int .i64 k), (8, .ptr p8 0), (9, .int .i64 z.1)]) (fun z => (p8, .cells [.int .i64 (lvG (cys cl) ss (nthG l k)).1, .int .i64 (lvG (cys cl) ss (nthG l k)).2] 30) :: (p4, .cells [.slice0, .int .i64 0] 43) :: (p2, .cells [.int .i64 lv, cv, sv] 25) :: z.2.2.1) (fun z => z.1 ≤ k ∧ OwLQ z.2.1 z.2.2.1 z.2.2.2 ∧ z.2.2.2.Perm (rcTo (cys cl) ss l k ++ E ++ rcIn (cys cl) ss l k z.1) ∧ SortedQ z.2.2.2) (fun z => k - z.1) (0, u, Lw, ys) ⟨Nat.zero_le _, hw, by simp only [rcIn, List.append_nil]; exact hpm, hso⟩ ⟨rfl, rfl, rfl, rfl, rfl, rfl, rfl, rfl, trivial⟩ (by (repeat (first | exact List.Sublist.refl _ | exact List.nil_sublist _ | apply List.Sublist.cons_cons | apply List.Sublist.cons))) ?_
  rintro ⟨m, u2, Lw2, ys2⟩ ⟨hmk, hw2, hpm2, hso2⟩ ih2
  simp only at hmk hw2 hpm2 hso2 ih2 ⊢
  have hlen2 : ys2.length ≤ 4000 := by
    have h1 := hpm2.length_eq
    have h2 := rcIn_len (cys cl) ss l k m
    simp only [List.length_append] at h1
    omega
  (refine WK.seq ?_; refine WK.seq ?_; refine WK.region ?_; refine St.move ?_; refine St.move ?_; refine St.bin ?_; refine WO.nil ?_)
  refine St.splitC (fun c3 => ?_) (fun c3 => ?_)
  rotate_left
  · have : m = k := by simp at c3; omega
    subst this
    (refine WK.exit ?_; refine WK.blk ?_; refine WK.region ?_; refine St.move ?_; refine St.binI ?_; refine St.assign ?_; refine WO.nil ?_)
    refine WK.le ?_ (by (repeat (first | exact List.Sublist.refl _ | exact List.nil_sublist _ | apply List.Sublist.cons_cons | apply List.Sublist.cons))) (ih (m + 1, u2, Lw2, ys2) ⟨hlt, hw2, by simp only; rw [hto]; exact hpm2, hso2⟩ (by simp only; omega))
    exact ⟨rfl, rfl, rfl, rfl, rfl, rfl, trivial⟩
  have hmlt : m < k := by simp at c3; omega
  have hgm := hga (nthG l m) (by rw [nthG_eq (by omega)]; exact List.getElem_mem (by omega))
  (refine WK.skip ?_; refine WK.seq ?_; refine WK.block ?_; refine WK.seq ?_; refine WK.regionD ?_; refine St.load ?_; refine St.move ?_; refine St.move ?_)
  refine St.at ?_
  skip
  refine St.loadX (fun h2 hh => ((hk.vw hh).at_ (z := (m : Int)) (n := m) (by omega) (by omega)).agg (by simp) rfl rfl rfl) ?_
  skip
  refine St.call (fun _ => rfl) (fun h2 hh => agreed_con h2 hh.gd lv cv sv cl ss (nthG l m) (hc.vw hh) (hs.vw hh) w hgm) ?_
  (refine StD.alloc fun _ _ => ?_; refine StD.storeT ?_; refine WO.nil1 ?_; refine WK.seq ?_; refine WK.region ?_; refine St.fieldAddr ?_; refine St.load ?_; refine St.fieldAddr ?_; refine St.load ?_; refine St.bin ?_; refine St.move ?_)
  refine St.split (fun d1 => ?_) (fun d1 => ?_)
  rotate_left
  · have hsu : rcIn (cys cl) ss l k (m + 1) = rcIn (cys cl) ss l k m := by
      simp only [rcIn]
      rw [if_neg (by unfold apartG; simp at d1; simp; omega), List.append_nil]
    (refine St.skip ?_; refine St.skip ?_; refine St.skip ?_; refine St.skip ?_; refine St.skip ?_; refine St.pickF ?_; refine St.move ?_; refine St.skip ?_; refine St.skip ?_; refine St.skip ?_; refine St.skip ?_; refine St.skip ?_; refine St.skip ?_; refine St.skip ?_; refine St.skip ?_; refine St.skip ?_; refine St.skip ?_; refine St.skip ?_; refine St.pickF ?_; refine WO.nil ?_; refine WK.condF ?_; refine WK.skip ?_; refine WK.blk ?_; refine WK.region ?_; refine St.move ?_; refine St.binI ?_; refine St.assign ?_; refine WO.nil ?_)
    refine WK.le ?_ (by (repeat (first | exact List.Sublist.refl _ | exact List.nil_sublist _ | apply List.Sublist.cons_cons | apply List.Sublist.cons))) (ih2 (m + 1, u2, Lw2, ys2) ⟨hmlt, hw2, by simp only; rw [hsu]; exact hpm2, hso2⟩ (by simp only; omega))
    exact ⟨rfl, rfl, rfl, rfl, rfl, rfl, rfl, rfl, trivial⟩
  (refine St.fieldAddr ?_; refine St.load ?_; refine St.fieldAddr ?_; refine St.load ?_; refine St.bin ?_; refine St.pickT ?_; refine St.move ?_)
  refine St.split (fun d2 => ?_) (fun d2 => ?_)
  rotate_left
  · have hsu : rcIn (cys cl) ss l k (m + 1) = rcIn (cys cl) ss l k m := by
      simp only [rcIn]
      rw [if_neg (by unfold apartG; simp at d2; simp; omega), List.append_nil]
    (refine St.skip ?_; refine St.skip ?_; refine St.skip ?_; refine St.skip ?_; refine St.skip ?_; refine St.skip ?_; refine St.skip ?_; refine St.skip ?_; refine St.skip ?_; refine St.skip ?_; refine St.skip ?_; refine St.pickF ?_; refine WO.nil ?_; refine WK.condF ?_; refine WK.skip ?_; refine WK.blk ?_; refine WK.region ?_; refine St.move ?_; refine St.binI ?_; refine St.assign ?_; refine WO.nil ?_)
    refine WK.le ?_ (by (repeat (first | exact List.Sublist.refl _ | exact List.nil_sublist _ | apply List.Sublist.cons_cons | apply List.Sublist.cons))) (ih2 (m + 1, u2, Lw2, ys2) ⟨hmlt, hw2, by simp only; rw [hsu]; exact hpm2, hso2⟩ (by simp only; omega))
    exact ⟨rfl, rfl, rfl, rfl, rfl, rfl, rfl, rfl, trivial⟩
  (refine St.fieldAddr ?_; refine St.load ?_; refine St.fieldAddr ?_; refine St.load ?_; refine St.maxI ?_; refine St.fieldAddr ?_; refine St.load ?_; refine St.fieldAddr ?_; refine St.load ?_; refine St.minI ?_; refine St.bin ?_; refine St.pickT ?_; refine WO.nil ?_)
  refine St.splitC (fun d3 => ?_) (fun d3 => ?_)
  rotate_left
  · have hsu : rcIn (cys cl) ss l k (m + 1) = rcIn (cys cl) ss l k m := by
      simp only [rcIn]
      rw [if_neg (by unfold apartG; simp at d3; simp; omega), List.append_nil]
    (refine WK.skip ?_; refine WK.blk ?_; refine WK.region ?_; refine St.move ?_; refine St.binI ?_; refine St.assign ?_; refine WO.nil ?_)
    refine WK.le ?_ (by (repeat (first | exact List.Sublist.refl _ | exact List.nil_sublist _ | apply List.Sublist.cons_cons | apply List.Sublist.cons))) (ih2 (m + 1, u2, Lw2, ys2) ⟨hmlt, hw2, by simp only; rw [hsu]; exact hpm2, hso2⟩ (by simp only; omega))
    exact ⟨rfl, rfl, rfl, rfl, rfl, rfl, rfl, rfl, trivial⟩
  have hsu : rcIn (cys cl) ss l k (m + 1) = rcIn (cys cl) ss l k m ++ [(min (nthG l k).id (nthG l m).id, max (nthG l k).id (nthG l m).id)] := by
    simp only [rcIn]
    rw [if_pos (by unfold apartG; simp at d1 d2 d3; simp [d1, d2]; omega)]
  (refine WK.regionD ?_; refine St.move ?_; refine St.move ?_; refine St.move ?_)
  refine St.at ?_
  (refine St.fieldAddr ?_)
  refine St.loadX (fun h2 hh => ((hk.vw hh).gid (z := (k : Int)) (n := k) (by omega) (by omega)).one rfl) ?_
  (refine St.move ?_; refine St.move ?_)
  refine St.at ?_
  (refine St.fieldAddr ?_)
  refine St.loadX (fun h2 hh => ((hk.vw hh).gid (z := (m : Int)) (n := m) (by omega) (by omega)).one rfl) ?_
  (refine St.minI ?_; refine St.move ?_; refine St.move ?_)
  refine St.at ?_
  (refine St.fieldAddr ?_)
  refine St.loadX (fun h2 hh => ((hk.vw hh).gid (z := (k : Int)) (n := k) (by omega) (by omega)).one rfl) ?_
  (refine St.move ?_; refine St.move ?_)
  refine St.at ?_
  (refine St.fieldAddr ?_)
  refine St.loadX (fun h2 hh => ((hk.vw hh).gid (z := (m : Int)) (n := m) (by omega) (by omega)).one rfl) ?_
  (refine St.maxI ?_; refine St.build ?_)
  refine StD.callR (fun _ => rfl) (fun h2 hh => put_con h2 hh.gd u2 ys2 (min (nthG l k).id (nthG l m).id, max (nthG l k).id (nthG l m).id) (hw2.owQ hh (fun x hx => by simp [hx])) hlen2) ?_
  rintro v' L' ⟨zs, j', hz, rfl, rfl⟩
  have hzl : zs.length = ys2.length + 1 := by
    have := hz.perm.length_eq
    simpa using this
  (refine St.assign ?_; refine WO.nil1 ?_; refine WK.blk ?_; refine WK.region ?_; refine St.move ?_; refine St.binI ?_; refine St.assign ?_; refine WO.nil ?_)
  rename_i p10 hp10
  refine WK.perm (L' := (p8, .cells [.int .i64 (lvG (cys cl) ss (nthG l k)).1, .int .i64 (lvG (cys cl) ss (nthG l k)).2] 30) :: (p4, .cells [.slice0, .int .i64 0] 43) :: (p2, .cells [.int .i64 lv, cv, sv] 25) :: (j', .row (flP zs) 89 2) :: (p10, .cells [.int .i64 (lvG (cys cl) ss (nthG l m)).1, .int .i64 (lvG (cys cl) ss (nthG l m)).2] 30) :: Lw2) (by (refine perm_cnt fun _ _ => ?_; simp only [List.append_eq, List.cons_append, List.nil_append, List.count_append, List.count_cons, List.count_nil, Nat.add_zero, Nat.zero_add]; try ac_rfl)) ?_
  refine WK.le ?_ ?_ (ih2 (m + 1, .slice j' 0 (ys2.length + 1) (.m 0), [(j', .row (flP zs) 89 2)], zs) ⟨hmlt, .inr ⟨j', by show AV.slice j' 0 (ys2.length + 1) (.m 0) = .slice j' 0 zs.length (.m 0); rw [hzl], rfl, by show 0 < zs.length; omega⟩, ?_, hz.sorted hso2⟩ (by simp only; omega))
  · exact ⟨rfl, rfl, rfl, rfl, rfl, rfl, rfl, rfl, trivial⟩
  · exact List.Sublist.cons_cons _ (List.Sublist.cons_cons _ (List.Sublist.cons_cons _ (List.Sublist.cons_cons _ (List.nil_sublist _))))
  · simp only
    rw [hsu, ← List.append_assoc]
    exact hz.perm.trans (hpm2.append_right _)
end Go.Proofs.YtgjkfmcjalcefaaGreat
