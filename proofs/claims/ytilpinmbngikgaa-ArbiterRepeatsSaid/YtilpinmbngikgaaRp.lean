/- Layer 9: the law ArbiterRepeats. -/
import Derived.Test.YtilpinmbngikgaaCa
import Derived.Test.YtilpinmbngikgaaCs
import Derived.Test.YtilpinmbngikgaaPz
import Derived.Test.YtilpinmbngikgaaRo
namespace Go.Proofs.Ytilpinmbngikgaa
open Go.Proofs.Ytilpinmbngikgaa.Ev

theorem evRem {P : Program} {t : TypeId} {a b q : Int} (hb : b ≠ 0) (e : a.tmod b = q) : evBin P .rem t (.int .i64 a) (.int .i64 b) = some (.int .i64 q) := by
  subst e
  unfold evBin evInt
  simp [hb]
theorem leC_ok (x : Le) : (leC x).all okCell = true := rfl
theorem leH_none {h : Heap} {b off : Nat} {l : List Le} (hk : LeH h b off l) (hn : 0 < l.length) (off2 : Nat) : h.loadN b off2 0 = some [] := EH.none (fun x => by simp [leC]) hk hn off2
set_option maxRecDepth 100000 in
set_option maxHeartbeats 32000000 in
theorem repLaw_con (h : Heap) (g : Gd h) (c : Int) (v : AV) (l : List Le) (hv : LeA h v l) (n2 n3 n4 : Nat) (hn2 : n2 ≤ 255) (hn3 : n3 ≤ 255) (hn4 : n4 ≤ 255) (id rd : Int) : Con Try.prog Bs 8 [.agg [.int .i64 c], v, .int .u8 n2, .int .u8 n3, .int .u8 n4, .int .i64 id, .int .i64 rd] h [] (.bool true) [] := by
  have hvV : LeV h v l := hv.eV
  have hw2 : IntKind.wrap .i64 (n2 : Int) = n2 := wrap_ok (by omega)
  have hw3 : IntKind.wrap .i64 (n3 : Int) = n3 := wrap_ok (by omega)
  have hw4 : IntKind.wrap .i64 (n4 : Int) = n4 := wrap_ok (by omega)
  refine Con.start rfl Try.func8 rfl rfl Try.ntmps8 rfl rfl g ?_
  (refine WK.seq ?_; refine WK.region ?_; refine St.box fun _ _ => ?_; refine St.assign ?_; refine WO.nil ?_; refine WK.seq ?_; refine WK.seq ?_; refine WK.region ?_; refine St.move ?_)
  rename_i p7 hp7
  refine St.lenG rfl hvV.llen ?_
  (refine St.bin ?_; refine St.move ?_)
  refine St.split (fun q => ?_) (fun q => ?_)
  · (refine St.skip ?_; refine St.skip ?_; refine St.skip ?_; refine St.pickT ?_; refine WO.nil ?_; refine WK.condT ?_; refine WK.seq ?_; refine WK.region ?_)
    refine St.call (fun _ => rfl) (fun h2 hh2 => sanity_con h2 hh2.gd) ?_
    (refine St.assign ?_; refine WO.nil ?_)
    refine St.ret (by first | exact .tmp .nil | exact .cell .nil | exact .cell (.tmp .nil) | exact .tmp (.tmp .nil) | exact .cell (.cell .nil) | exact .tmp (.cell .nil) | exact .nil | exact .tmp (.cell (.tmp .nil)) | exact .cell (.tmp (.tmp .nil)) | exact .cell (.cell (.tmp .nil)) | exact .tmp (.tmp (.tmp .nil)) | exact .tmp (.tmp (.tmp (.tmp .nil))) | exact .cell (.cell (.cell .nil))) ?_
    rfl
  have hl : l.length ≤ 40 := by simp at q; omega
  (refine St.move ?_)
  refine St.lenG rfl hvV.llen ?_
  (refine St.bin ?_; refine St.pickF ?_; refine WO.nil ?_)
  refine St.splitC (fun q => ?_) (fun q => ?_)
  · (refine WK.seq ?_; refine WK.region ?_)
    refine St.call (fun _ => rfl) (fun h2 hh2 => sanity_con h2 hh2.gd) ?_
    (refine St.assign ?_; refine WO.nil ?_)
    refine St.ret (by first | exact .tmp .nil | exact .cell .nil | exact .cell (.tmp .nil) | exact .tmp (.tmp .nil) | exact .cell (.cell .nil) | exact .tmp (.cell .nil) | exact .nil | exact .tmp (.cell (.tmp .nil)) | exact .cell (.tmp (.tmp .nil)) | exact .cell (.cell (.tmp .nil)) | exact .tmp (.tmp (.tmp .nil)) | exact .tmp (.tmp (.tmp (.tmp .nil))) | exact .cell (.cell (.cell .nil))) ?_
    rfl
  have hne : 0 < l.length := by simp at q; exact List.length_pos_iff.2 q
  (refine WK.skip ?_; refine WK.seq ?_; refine WK.region ?_; refine St.load ?_; refine St.move ?_)
  refine St.call (fun _ => rfl) (fun h2 hh => lawful_con h2 hh.gd c v l (hv.eV.vw hh)) ?_
  by_cases he : errL c l = 0
  rotate_left
  · rw [if_pos he, if_pos he]
    (refine St.move ?_; refine St.extract ?_; refine St.extract ?_; refine St.extract ?_; refine St.assign ?_; refine St.assign ?_; refine St.assign ?_; refine WO.nil ?_; refine WK.seq ?_; refine WK.seq ?_; refine WK.region ?_; refine St.move ?_; refine St.bin ?_; refine St.move ?_)
    refine St.split (fun q => ?_) (fun q => ?_)
    rotate_left
    · exact absurd q (by simp [he])
    (refine St.skip ?_; refine St.skip ?_; refine St.pickT ?_; refine WO.nil ?_; refine WK.condT ?_; refine WK.seq ?_; refine WK.region ?_)
    refine St.call (fun _ => rfl) (fun h2 hh2 => sanity_con h2 hh2.gd) ?_
    (refine St.assign ?_; refine WO.nil ?_)
    refine St.ret (by first | exact .tmp .nil | exact .cell .nil | exact .cell (.tmp .nil) | exact .tmp (.tmp .nil) | exact .cell (.cell .nil) | exact .tmp (.cell .nil) | exact .nil | exact .tmp (.cell (.tmp .nil)) | exact .cell (.tmp (.tmp .nil)) | exact .cell (.cell (.tmp .nil)) | exact .tmp (.tmp (.tmp .nil)) | exact .tmp (.tmp (.tmp (.tmp .nil))) | exact .cell (.cell (.cell .nil))) ?_
    rfl
  rw [if_neg (by simp [he]), if_neg (by simp [he]), he]
  cases hok : decide (fstN (badN c l) l.length 0 < 0)
  · (refine St.move ?_; refine St.extract ?_; refine St.extract ?_; refine St.extract ?_; refine St.assign ?_; refine St.assign ?_; refine St.assign ?_; refine WO.nil ?_; refine WK.seq ?_; refine WK.seq ?_; refine WK.region ?_; refine St.move ?_; refine St.bin ?_; refine St.move ?_; refine St.move ?_; refine St.un ?_; refine St.pickF ?_; refine WO.nil ?_; refine WK.condT ?_; refine WK.seq ?_; refine WK.region ?_)
    refine St.call (fun _ => rfl) (fun h2 hh2 => sanity_con h2 hh2.gd) ?_
    (refine St.assign ?_; refine WO.nil ?_)
    refine St.ret (by first | exact .tmp .nil | exact .cell .nil | exact .cell (.tmp .nil) | exact .tmp (.tmp .nil) | exact .cell (.cell .nil) | exact .tmp (.cell .nil) | exact .nil | exact .tmp (.cell (.tmp .nil)) | exact .cell (.tmp (.tmp .nil)) | exact .cell (.cell (.tmp .nil)) | exact .tmp (.tmp (.tmp .nil)) | exact .tmp (.tmp (.tmp (.tmp .nil))) | exact .cell (.cell (.cell .nil))) ?_
    rfl
  have hlw := lw_of he (of_decide_eq_true hok)
  have hcb := hlw.crt
  obtain ⟨b, off, m, rfl, hm, hk⟩ := hv.ne hne
  (refine St.move ?_; refine St.extract ?_; refine St.extract ?_; refine St.extract ?_; refine St.assign ?_; refine St.assign ?_; refine St.assign ?_; refine WO.nil ?_; refine WK.seq ?_; refine WK.seq ?_; refine WK.region ?_; refine St.move ?_; refine St.bin ?_; refine St.move ?_; refine St.move ?_; refine St.un ?_; refine St.pickF ?_; refine WO.nil ?_; refine WK.condF ?_; refine WK.skip ?_; refine WK.seq ?_; refine WK.region ?_; refine St.move ?_; refine St.conv ?_; refine St.move ?_; refine St.len ?_; refine St.binI ?_; refine St.bin ?_; refine St.assign ?_; refine WO.nil ?_; refine WK.seq ?_; refine WK.seq ?_)
  rw [hw2]
  have hkm : ((n2 : Int).tmod ((l.length : Int) + 1)) = ((n2 % (l.length + 1) : Nat) : Int) := by rw [Int.tmod_eq_emod_of_nonneg (by omega)]; rfl
  rw [hkm]
  have hkl : n2 % (l.length + 1) ≤ l.length := by have := Nat.mod_lt n2 (show 0 < l.length + 1 by omega); omega
  generalize n2 % (l.length + 1) = k at hkl ⊢
  refine WK.joinG (X := Unit) (fun _ => True) (fun _ => [(1, .slice b off l.length (.k m)), (3, .int .u8 n3), (4, .int .u8 n4), (5, .int .i64 id), (6, .int .i64 rd), (7, .ptr p7 0), (20, .bool true), (21, .int .i64 0)]) (fun _ => [(p7, .cells [.int .i64 c] 23)]) (fun kont => ?_) (fun _ _ => ?_)
  · have hpe := pre_err he k
    have hpl := pre_lw hlw he k
    have hcon : ∀ {V : Ob} {h2 : Heap} {u : AV}, Vw h [] V h2 → LeV h2 u (l.take k) → Con Try.prog Bs 11 [.agg [.int .i64 c], u] h2 [] (.tup [.int .i64 (fstN (badN c (l.take k)) (l.take k).length 0), .bool true, .int .i64 0]) [] := fun {V h2 u} hh hu => by
      have := lawful_con h2 hh.gd c u (l.take k) hu
      rwa [if_neg (by simp [hpe]), if_neg (by simp [hpe]), hpe, decide_eq_true hpl] at this
    have htl : (l.take k).length = k := by rw [List.length_take]; omega
    have own : ∀ v2 j2 obj2 n', OwnT 38 8 v2 j2 obj2 n' ([] ++ enF leC (l.take k)) → n' = k → ∀ {V : Ob} {h2 : Heap}, Vw h [] V h2 → (j2, obj2) ∈ V → LeV h2 v2 (l.take k) := fun v2 j2 obj2 n' q e V h2 hh hm2 => by
      subst e
      have := q.isL
      rw [List.nil_append] at this
      exact en_v leC_len this htl hh (fun x hx => by rw [List.mem_singleton.1 hx]; exact hm2)
    refine WK.regionE (n := 1) [(p7, .cells [.int .i64 c] 23)] (by (repeat (first | exact List.Sublist.refl _ | exact List.nil_sublist _ | apply List.Sublist.cons_cons | apply List.Sublist.cons))) ?_
    refine WE.load 0 (v := .agg [.int .i64 c]) ?_
    refine WE.mkS 1 (fun j70 hj70 => ?_)
    refine WE.move ?_
    refine WE.move ?_
    refine WE.sliceP (u := .slice b off l.length (.k m)) (v := .slice b off k (.k m)) (fun h2 => ?_) rfl rfl ?_
    · show plainV (evSlice Try.prog h2 24 (.slice b off l.length (.k m)) none (some (.int .i64 (k : Int))) none) h2 = _
      rw [slK_to (e := 38) (sz := 8) Try.underlying24 (by kernel_rfl) hkl hm]
      rfl
    refine WE.appT (m := k) (new := enF leC (l.take k)) 1 rfl (.inl ⟨rfl, rfl, rfl, _, rfl⟩) ⟨rfl, rfl, rfl, rfl, rfl, rfl, rfl, rfl⟩ (by
      have := comesE (c := .k m) (L := [(j70, AObj.cells [] 38), (p7, .cells [.int .i64 c] 23)]) leC_len (by omega) (EH.tak (k := k) hk) (fun x _ => leC_ok x) (fun _ h2 hh => leH_none (hk.vw hh) hne off) (by omega)
      rwa [htl] at this) (by omega) rfl (fun e0 o1 => ?_) (fun e0 j hj o1 => ?_)
    · refine WE.callV [_] 2 (fun _ => rfl) (fun _ => rfl) (fun x hx => ⟨by cases List.mem_singleton.1 hx; exact List.mem_cons_self .., by
          cases List.mem_singleton.1 hx
          show maskAt _ _ 1 = true
          decide +kernel⟩) (fun h2 hh => hcon hh (own _ _ _ _ o1 (by omega) hh (List.mem_cons_self ..))) ?_
      refine WE.move ?_
      refine WE.extract ?_
      refine WE.extract ?_
      refine WE.extract ?_
      refine WE.assign ?_
      refine WE.assign ?_
      refine WE.assign ?_
      refine WE.nil ?_
      refine WK.le ?_ (by (repeat (first | exact List.Sublist.refl _ | exact List.nil_sublist _ | apply List.Sublist.cons_cons | apply List.Sublist.cons))) (kont () trivial)
      exact ⟨rfl, rfl, rfl, rfl, rfl, rfl, rfl, rfl, trivial⟩
    · refine WE.callV [_] 2 (fun _ => rfl) (fun _ => rfl) (fun x hx => ⟨by cases List.mem_singleton.1 hx; exact List.mem_cons_self .., by
          cases List.mem_singleton.1 hx
          show maskAt _ _ 5 = true
          decide +kernel⟩) (fun h2 hh => hcon hh (own _ _ _ _ o1 (by omega) hh (List.mem_cons_self ..))) ?_
      refine WE.move ?_
      refine WE.extract ?_
      refine WE.extract ?_
      refine WE.extract ?_
      refine WE.assign ?_
      refine WE.assign ?_
      refine WE.assign ?_
      refine WE.nil ?_
      refine WK.le ?_ (by (repeat (first | exact List.Sublist.refl _ | exact List.nil_sublist _ | apply List.Sublist.cons_cons | apply List.Sublist.cons))) (kont () trivial)
      exact ⟨rfl, rfl, rfl, rfl, rfl, rfl, rfl, rfl, trivial⟩
  (refine WK.seq ?_; refine WK.region ?_; refine St.move ?_; refine St.bin ?_; refine St.move ?_; refine St.move ?_; refine St.un ?_; refine St.pickF ?_; refine WO.nil ?_; refine WK.condF ?_; refine WK.skip ?_; refine WK.seq ?_; refine WK.region ?_; refine St.move ?_; refine St.move ?_; refine St.conv ?_; refine St.move ?_; refine St.len ?_)
  have hkm3 : ((n3 : Int).tmod (l.length : Int)) = ((n3 % l.length : Nat) : Int) := by rw [Int.tmod_eq_emod_of_nonneg (by omega)]; rfl
  rw [hw3]
  refine St.binX (u := .int .i64 n3) (v := .int .i64 l.length) (r := .int .i64 ((n3 % l.length : Nat) : Int)) (evRem (by omega) hkm3) rfl rfl ?_
  have hil := Nat.mod_lt n3 hne
  generalize n3 % l.length = i at hil ⊢
  refine St.at ?_
  refine St.loadX (fun h2 hh => ((hk.vw hh).at_ (z := (i : Int)) (n := i) (by omega) hil).agg (by simp [leC]) rfl rfl rfl) ?_
  (refine St.alloc fun _ _ => ?_; refine St.store0 ?_; refine WO.nil ?_; refine WK.seq ?_; refine WK.seq ?_; refine WK.region ?_; refine St.fieldAddr ?_; refine St.load ?_; refine St.bin ?_; refine WO.nil ?_)
  rename_i p22 hp22
  have hx := nthE_mem hil
  have hfx := (errL_ok he).2.2 _ hx
  generalize nthE l i = x at hx hfx ⊢
  refine WK.joinG (X := Le) (fun y => alikeB x y = true ∧ frmB c y = true) (fun _ => [(1, .slice b off l.length (.k m)), (5, .int .i64 id), (6, .int .i64 rd), (7, .ptr p7 0), (22, .ptr p22 0)]) (fun y => [(p22, .cells (leC y) 38), (p7, .cells [.int .i64 c] 23)]) (fun kont => ?_) (fun y hy => ?_)
  · refine St.splitC (fun q => ?_) (fun q => ?_)
    · have hk2 : x.kd ≠ 2 := by simpa using q
      have hkm4 : ((n4 : Int).tmod c) = ((n4 % c.toNat : Nat) : Int) := by
        rw [Int.tmod_eq_emod_of_nonneg (by omega), Int.natCast_emod, Int.toNat_of_nonneg (by omega)]
      have ht : arB c ((n4 % c.toNat : Nat) : Int) = true := by
        have := Nat.mod_lt n4 (show 0 < c.toNat by omega)
        unfold arB
        simp only [Bool.and_eq_true, decide_eq_true_eq]
        omega
      refine WK.region ?_
      refine St.move ?_
      refine St.conv ?_
      refine St.fieldAddr ?_
      refine St.load ?_
      rw [hw4]
      refine St.binX (u := .int .i64 n4) (v := .int .i64 c) (r := .int .i64 ((n4 % c.toNat : Nat) : Int)) (evRem (by omega) hkm4) rfl rfl ?_
      refine St.fieldAddr ?_
      refine St.store0 ?_
      refine WO.nil ?_
      refine WK.le ?_ (by (repeat (first | exact List.Sublist.refl _ | exact List.nil_sublist _ | apply List.Sublist.cons_cons | apply List.Sublist.cons))) (kont { x with to := ((n4 % c.toNat : Nat) : Int) } ⟨by rw [alike_iff]; simp, frm_to hfx hk2 ht⟩)
      exact ⟨rfl, rfl, rfl, rfl, rfl, trivial⟩
    · refine WK.skip ?_
      refine WK.le ?_ (by (repeat (first | exact List.Sublist.refl _ | exact List.nil_sublist _ | apply List.Sublist.cons_cons | apply List.Sublist.cons))) (kont x ⟨by rw [alike_iff]; simp, hfx⟩)
      exact ⟨rfl, rfl, rfl, rfl, rfl, trivial⟩
  obtain ⟨hal, hfy⟩ := hy
  have he2 := again_err he (by omega) hfy
  have hlw2 := again_lw hlw he2 hx hal
  have hrl : rlsOf c (l ++ [y]) = rlsOf c l := by unfold rlsOf; rw [again_tl hx hal]
  have hcan := again_can he he2 hx hal id rd
  have hll : (l ++ [y]).length = l.length + 1 := by simp
  (refine WK.seq ?_)
  refine WK.joinG (X := Nat) (fun _ => True) (fun j => [(1, .slice b off l.length (.k m)), (5, .int .i64 id), (6, .int .i64 rd), (7, .ptr p7 0), (23, .slice j 0 (0 + l.length + 1) (.m 0))]) (fun j => [(j, .row (enF leC (l ++ [y])) 38 8), (p7, .cells [.int .i64 c] 23)]) (fun kont => ?_) (fun j107 _ => ?_)
  · refine WK.regionE (n := 1) [(p22, .cells (leC y) 38)] (by (repeat (first | exact List.Sublist.refl _ | exact List.nil_sublist _ | apply List.Sublist.cons_cons | apply List.Sublist.cons))) ?_
    refine WE.mkS 1 (fun j102 hj102 => ?_)
    refine WE.move ?_
    refine WE.appT (m := l.length) (new := enF leC l) 1 rfl (.inl ⟨rfl, rfl, rfl, _, rfl⟩) ⟨rfl, rfl, rfl, rfl, rfl, rfl, rfl, rfl⟩ (comesE leC_len (by omega) hk (fun x _ => leC_ok x) (fun e _ _ => absurd e (by omega)) (by omega)) (by omega) rfl (fun e0 o1 => absurd e0 (by omega)) (fun e0 j104 hj104 o1 => ?_)
    refine WE.load 0 (v := .agg (leC y)) ?_
    refine WE.mkS 4 (fun j106 hj106 => ?_)
    refine WE.permT (List.Perm.swap ..) ?_
    refine WE.appT (m := 1) (new := leC y) 2 rfl o1 ⟨rfl, rfl, rfl, rfl, rfl, rfl, rfl, rfl⟩ (.inr ⟨by omega, j106, 0, .k 1, rfl, by omega, rfl, rfl, fun h2 hh => readN_load (hh.getO (j := j106) (o := .cells (leC y) 38) (List.mem_cons_of_mem _ (List.mem_cons_self ..))) rfl⟩) (by omega) rfl (fun e1 o2 => absurd e1 (by omega)) (fun e1 j107 hj107 o2 => ?_)
    refine WE.assign ?_
    refine WE.nil ?_
    have hrow : [] ++ enF leC l ++ leC y = enF leC (l ++ [y]) := by rw [enF_app, enF_one, List.nil_append]
    rw [hrow]
    refine WK.perm (L' := (j107, .row (enF leC (l ++ [y])) 38 8) :: _) (List.Perm.refl _) ?_
    refine WK.le ?_ (by (repeat (first | exact List.Sublist.refl _ | exact List.nil_sublist _ | apply List.Sublist.cons_cons | apply List.Sublist.cons))) (kont j107 trivial)
    exact ⟨rfl, rfl, rfl, rfl, rfl, trivial⟩
  have hmv : ∀ {V : Ob} {h2 : Heap}, Vw h [] V h2 → (j107, AObj.row (enF leC (l ++ [y])) 38 8) ∈ V → LeV h2 (.slice j107 0 (0 + l.length + 1) (.m 0)) (l ++ [y]) := fun {V h2} hh hm2 => by
    rw [Nat.zero_add]
    exact en_v leC_len (IsL.row j107 (by rw [enF_len leC_len, hll])) hll hh (fun x hx => by rw [List.mem_singleton.1 hx]; exact hm2)
  (refine WK.seq ?_; refine WK.region ?_; refine St.load ?_; refine St.move ?_)
  refine St.call (v := .tup [.int .i64 (fstN (badN c (l ++ [y])) (l ++ [y]).length 0), .bool true, .int .i64 0]) (fun _ => rfl) (fun h2 hh => by
    have := lawful_con h2 hh.gd c _ (l ++ [y]) (hmv hh (by simp))
    rwa [if_neg (by simp [he2]), if_neg (by simp [he2]), he2, decide_eq_true hlw2] at this) ?_
  (refine St.move ?_; refine St.extract ?_; refine St.extract ?_; refine St.extract ?_; refine St.assign ?_; refine St.assign ?_; refine St.assign ?_; refine WO.nil ?_; refine WK.seq ?_; refine WK.region ?_; refine St.load ?_; refine St.move ?_)
  refine St.callR (R := rlsR c l) (fun _ => rfl) (fun h2 hh => rulings_con h2 hh.gd c _ l (hv.eV.vw hh) (by omega)) (fun u L1 hR => ?_)
  rcases hR with ⟨hne, rfl⟩ | ⟨_, w1, rfl, hw1⟩
  · exact absurd he hne
  refine WO.permF List.perm_append_comm ?_
  (refine St.move ?_; refine St.extract ?_; refine St.extract ?_; refine St.assign ?_; refine St.assign ?_; refine WO.nil ?_; refine WK.seq ?_; refine WK.region ?_; refine St.load ?_; refine St.move ?_)
  refine St.callR (R := rlsR c (l ++ [y])) (fun _ => rfl) (fun h2 hh => rulings_con h2 hh.gd c _ (l ++ [y]) (hmv hh (by simp)) (by omega)) (fun u L2 hR => ?_)
  rcases hR with ⟨hne, rfl⟩ | ⟨_, w2, rfl, hw2⟩
  · exact absurd he2 hne
  rw [hrl] at hw2
  refine WO.permF (List.perm_append_comm_assoc L2 _ L1).symm ?_
  (refine St.move ?_; refine St.extract ?_; refine St.extract ?_; refine St.assign ?_; refine St.assign ?_; refine WO.nil ?_; refine WK.seq ?_; refine WK.region ?_; refine St.load ?_; refine St.move ?_; refine St.move ?_; refine St.move ?_)
  refine St.call (fun _ => rfl) (fun h2 hh => can_con h2 hh.gd c _ l id rd (hv.eV.vw hh) (by omega)) ?_
  (refine St.move ?_; refine St.extract ?_; refine St.extract ?_; refine St.extract ?_; refine St.extract ?_; refine St.assign ?_; refine St.assign ?_; refine St.assign ?_; refine St.assign ?_; refine WO.nil ?_; refine WK.seq ?_; refine WK.region ?_; refine St.load ?_; refine St.move ?_; refine St.move ?_; refine St.move ?_)
  refine St.call (v := .tup [.int .i64 (canF c l id rd), .bool (canO c l id rd), .bool (canA c l id rd), .int .i64 (canE c l id rd)]) (fun _ => rfl) (fun h2 hh => by
    have := can_con h2 hh.gd c _ (l ++ [y]) id rd (hmv hh (by simp)) (by omega)
    rwa [hcan.1, hcan.2.1, hcan.2.2.1, hcan.2.2.2] at this) ?_
  have hrs : (rlsOf c l).length ≤ 40 := by
    have h1 := (srtT_perm (ofT c (tlN l l.length))).length_eq
    have h2 : (ofT c (tlN l l.length)).length ≤ (tlN l l.length).length := by unfold ofT; rw [List.length_map]; exact List.length_filter_le _ _
    have h3 := tlN_len (l := l) l.length
    unfold rlsOf
    omega
  generalize canF c l id rd = cF
  generalize canO c l id rd = cO
  generalize canA c l id rd = cA
  generalize canE c l id rd = cE
  cases cO <;> cases cA
  · (refine St.move ?_; refine St.extract ?_; refine St.extract ?_; refine St.extract ?_; refine St.extract ?_; refine St.assign ?_; refine St.assign ?_; refine St.assign ?_; refine St.assign ?_; refine WO.nil ?_; refine WK.seq ?_; refine WK.region ?_)
    refine St.call (fun _ => rfl) (fun h2 hh => sanity_con h2 hh.gd) ?_
    (refine St.move ?_; refine St.move ?_; refine St.bin ?_; refine St.pickT ?_; refine St.move ?_; refine St.move ?_; refine St.pickT ?_; refine St.move ?_; refine St.move ?_; refine St.move ?_; refine St.bin ?_; refine St.pickT ?_; refine St.move ?_; refine St.move ?_; refine St.move ?_)
    refine St.call (fun _ => rfl) (fun h2 hh => sameR_con h2 hh.gd w1 w2 (rlsOf c l) (isR_v hw1 rfl hh (fun x hx => by simp only [List.mem_cons, List.mem_append, hx, true_or, or_true])) (isR_v hw2 rfl hh (fun x hx => by simp only [List.mem_cons, List.mem_append, hx, true_or, or_true])) (by omega)) ?_
    (refine St.pickT ?_; refine St.move ?_; refine St.move ?_; refine St.move ?_; refine St.bin ?_; refine St.pickT ?_; refine St.move ?_)
    refine St.split (fun q => ?_) (fun q => ?_)
    rotate_left
    · simp at q
    (refine St.move ?_; refine St.move ?_; refine St.bin ?_; refine St.pickT ?_; refine St.move ?_; refine St.move ?_; refine St.move ?_; refine St.bin ?_; refine St.pickT ?_; refine St.move ?_; refine St.move ?_; refine St.move ?_; refine St.bin ?_; refine St.pickT ?_; refine St.assign ?_; refine WO.nil ?_)
    refine St.ret (by first | exact .tmp .nil | exact .cell .nil | exact .cell (.tmp .nil) | exact .tmp (.tmp .nil) | exact .cell (.cell .nil) | exact .tmp (.cell .nil) | exact .nil | exact .tmp (.cell (.tmp .nil)) | exact .cell (.tmp (.tmp .nil)) | exact .cell (.cell (.tmp .nil)) | exact .tmp (.tmp (.tmp .nil)) | exact .tmp (.tmp (.tmp (.tmp .nil))) | exact .cell (.cell (.cell .nil))) ?_
    simp [oneOf]
  · (refine St.move ?_; refine St.extract ?_; refine St.extract ?_; refine St.extract ?_; refine St.extract ?_; refine St.assign ?_; refine St.assign ?_; refine St.assign ?_; refine St.assign ?_; refine WO.nil ?_; refine WK.seq ?_; refine WK.region ?_)
    refine St.call (fun _ => rfl) (fun h2 hh => sanity_con h2 hh.gd) ?_
    (refine St.move ?_; refine St.move ?_; refine St.bin ?_; refine St.pickT ?_; refine St.move ?_; refine St.move ?_; refine St.pickT ?_; refine St.move ?_; refine St.move ?_; refine St.move ?_; refine St.bin ?_; refine St.pickT ?_; refine St.move ?_; refine St.move ?_; refine St.move ?_)
    refine St.call (fun _ => rfl) (fun h2 hh => sameR_con h2 hh.gd w1 w2 (rlsOf c l) (isR_v hw1 rfl hh (fun x hx => by simp only [List.mem_cons, List.mem_append, hx, true_or, or_true])) (isR_v hw2 rfl hh (fun x hx => by simp only [List.mem_cons, List.mem_append, hx, true_or, or_true])) (by omega)) ?_
    (refine St.pickT ?_; refine St.move ?_; refine St.move ?_; refine St.move ?_; refine St.bin ?_; refine St.pickT ?_; refine St.move ?_)
    refine St.split (fun q => ?_) (fun q => ?_)
    rotate_left
    · simp at q
    (refine St.move ?_; refine St.move ?_; refine St.bin ?_; refine St.pickT ?_; refine St.move ?_; refine St.move ?_; refine St.move ?_; refine St.bin ?_; refine St.pickT ?_; refine St.move ?_; refine St.move ?_; refine St.move ?_; refine St.bin ?_; refine St.pickT ?_; refine St.assign ?_; refine WO.nil ?_)
    refine St.ret (by first | exact .tmp .nil | exact .cell .nil | exact .cell (.tmp .nil) | exact .tmp (.tmp .nil) | exact .cell (.cell .nil) | exact .tmp (.cell .nil) | exact .nil | exact .tmp (.cell (.tmp .nil)) | exact .cell (.tmp (.tmp .nil)) | exact .cell (.cell (.tmp .nil)) | exact .tmp (.tmp (.tmp .nil)) | exact .tmp (.tmp (.tmp (.tmp .nil))) | exact .cell (.cell (.cell .nil))) ?_
    simp [oneOf]
  · (refine St.move ?_; refine St.extract ?_; refine St.extract ?_; refine St.extract ?_; refine St.extract ?_; refine St.assign ?_; refine St.assign ?_; refine St.assign ?_; refine St.assign ?_; refine WO.nil ?_; refine WK.seq ?_; refine WK.region ?_)
    refine St.call (fun _ => rfl) (fun h2 hh => sanity_con h2 hh.gd) ?_
    (refine St.move ?_; refine St.move ?_; refine St.bin ?_; refine St.pickT ?_; refine St.move ?_; refine St.move ?_; refine St.pickT ?_; refine St.move ?_; refine St.move ?_; refine St.move ?_; refine St.bin ?_; refine St.pickT ?_; refine St.move ?_; refine St.move ?_; refine St.move ?_)
    refine St.call (fun _ => rfl) (fun h2 hh => sameR_con h2 hh.gd w1 w2 (rlsOf c l) (isR_v hw1 rfl hh (fun x hx => by simp only [List.mem_cons, List.mem_append, hx, true_or, or_true])) (isR_v hw2 rfl hh (fun x hx => by simp only [List.mem_cons, List.mem_append, hx, true_or, or_true])) (by omega)) ?_
    (refine St.pickT ?_; refine St.move ?_; refine St.move ?_; refine St.move ?_; refine St.bin ?_; refine St.pickT ?_; refine St.move ?_)
    refine St.split (fun q => ?_) (fun q => ?_)
    rotate_left
    · simp at q
    (refine St.move ?_; refine St.move ?_; refine St.bin ?_; refine St.pickT ?_; refine St.move ?_; refine St.move ?_; refine St.move ?_; refine St.bin ?_; refine St.pickT ?_; refine St.move ?_; refine St.move ?_; refine St.move ?_; refine St.bin ?_; refine St.pickT ?_; refine St.assign ?_; refine WO.nil ?_)
    refine St.ret (by first | exact .tmp .nil | exact .cell .nil | exact .cell (.tmp .nil) | exact .tmp (.tmp .nil) | exact .cell (.cell .nil) | exact .tmp (.cell .nil) | exact .nil | exact .tmp (.cell (.tmp .nil)) | exact .cell (.tmp (.tmp .nil)) | exact .cell (.cell (.tmp .nil)) | exact .tmp (.tmp (.tmp .nil)) | exact .tmp (.tmp (.tmp (.tmp .nil))) | exact .cell (.cell (.cell .nil))) ?_
    simp [oneOf]
  · (refine St.move ?_; refine St.extract ?_; refine St.extract ?_; refine St.extract ?_; refine St.extract ?_; refine St.assign ?_; refine St.assign ?_; refine St.assign ?_; refine St.assign ?_; refine WO.nil ?_; refine WK.seq ?_; refine WK.region ?_)
    refine St.call (fun _ => rfl) (fun h2 hh => sanity_con h2 hh.gd) ?_
    (refine St.move ?_; refine St.move ?_; refine St.bin ?_; refine St.pickT ?_; refine St.move ?_; refine St.move ?_; refine St.pickT ?_; refine St.move ?_; refine St.move ?_; refine St.move ?_; refine St.bin ?_; refine St.pickT ?_; refine St.move ?_; refine St.move ?_; refine St.move ?_)
    refine St.call (fun _ => rfl) (fun h2 hh => sameR_con h2 hh.gd w1 w2 (rlsOf c l) (isR_v hw1 rfl hh (fun x hx => by simp only [List.mem_cons, List.mem_append, hx, true_or, or_true])) (isR_v hw2 rfl hh (fun x hx => by simp only [List.mem_cons, List.mem_append, hx, true_or, or_true])) (by omega)) ?_
    (refine St.pickT ?_; refine St.move ?_; refine St.move ?_; refine St.move ?_; refine St.bin ?_; refine St.pickT ?_; refine St.move ?_)
    refine St.split (fun q => ?_) (fun q => ?_)
    rotate_left
    · simp at q
    (refine St.move ?_; refine St.move ?_; refine St.bin ?_; refine St.pickT ?_; refine St.move ?_; refine St.move ?_; refine St.move ?_; refine St.bin ?_; refine St.pickT ?_; refine St.move ?_; refine St.move ?_; refine St.move ?_; refine St.bin ?_; refine St.pickT ?_; refine St.assign ?_; refine WO.nil ?_)
    refine St.ret (by first | exact .tmp .nil | exact .cell .nil | exact .cell (.tmp .nil) | exact .tmp (.tmp .nil) | exact .cell (.cell .nil) | exact .tmp (.cell .nil) | exact .nil | exact .tmp (.cell (.tmp .nil)) | exact .cell (.tmp (.tmp .nil)) | exact .cell (.cell (.tmp .nil)) | exact .tmp (.tmp (.tmp .nil)) | exact .tmp (.tmp (.tmp (.tmp .nil))) | exact .cell (.cell (.cell .nil))) ?_
    simp [oneOf]
end Go.Proofs.Ytilpinmbngikgaa
