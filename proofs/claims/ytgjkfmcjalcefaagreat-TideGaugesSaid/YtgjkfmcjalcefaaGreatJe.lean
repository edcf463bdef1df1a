/- The reference's Suspects. -/
import Derived.Test.YtgjkfmcjalcefaaGreatJc
import Derived.Test.YtgjkfmcjalcefaaGreatJd
import Derived.Test.YtgjkfmcjalcefaaGreatQg
import Derived.Test.YtgjkfmcjalcefaaGreatZb
namespace Go.Proofs.YtgjkfmcjalcefaaGreat
open Go.Proofs.YtgjkfmcjalcefaaGreat.Ev

theorem InsAt.perm {xs ys : List Int} {n : Int} (k : InsAt xs n ys) : ys.Perm (xs ++ [n]) := by
  obtain ⟨a, _, _, _, rfl⟩ := k
  rw [List.append_assoc]
  have e : xs ++ [n] = xs.take a ++ (xs.drop a ++ [n]) := by rw [← List.append_assoc, List.take_append_drop]
  rw [e]
  exact List.Perm.append_left _ List.perm_append_comm
theorem InsAt.sorted {xs ys : List Int} {n : Int} (k : InsAt xs n ys) (hs : xs.Pairwise (· ≤ ·)) : ys.Pairwise (· ≤ ·) := by
  obtain ⟨a, ha, h1, h2, rfl⟩ := k
  have hp := List.pairwise_iff_getElem.1 hs
  have h3 : ∀ x ∈ xs.take a, x < n := fun x hx => by
    obtain ⟨i, hi, rfl⟩ := List.getElem_of_mem hx
    rw [List.length_take] at hi
    rw [List.getElem_take]
    have := h1 i (by omega)
    rwa [nth_eq (by omega)] at this
  have h4 : ∀ x ∈ xs.drop a, n ≤ x := fun x hx => by
    obtain ⟨i, hi, rfl⟩ := List.getElem_of_mem hx
    rw [List.length_drop] at hi
    rw [List.getElem_drop]
    have h5 := h2 (by omega)
    rw [nth_eq (by omega)] at h5
    rcases Nat.eq_zero_or_pos i with rfl | hi0
    · exact h5
    · exact Int.le_trans h5 (hp a (a + i) (by omega) (by omega) (by omega))
  refine List.pairwise_append.2 ⟨List.pairwise_append.2 ⟨hs.sublist (List.take_sublist _ _), List.pairwise_singleton _ _, fun x hx y hy => ?_⟩, hs.sublist (List.drop_sublist _ _), fun x hx y hy => ?_⟩
  · rw [List.mem_singleton.1 hy]
    exact Int.le_of_lt (h3 x hx)
  · rcases List.mem_append.1 hx with hx | hx
    · exact Int.le_trans (Int.le_of_lt (h3 x hx)) (h4 y hy)
    · rw [List.mem_singleton.1 hx]
      exact h4 y hy
/-- sorted, and the same numbers: the same -/
theorem sort_eq {xs ys : List Int} (hs : ys.Pairwise (· ≤ ·)) (hp : ys.Perm xs) : ys = sortX xs := by
  have h2 : (sortX xs).Pairwise (· ≤ ·) := by
    have := List.pairwise_mergeSort (le := fun (x y : Int) => decide (x ≤ y)) (fun a b c h1 h2 => by simp at h1 h2 ⊢; omega) (fun a b => by simp; omega) xs
    exact this.imp fun h => by simpa using h
  exact List.Perm.eq_of_pairwise (fun a b _ _ h1 h2 => Int.le_antisymm h1 h2) hs h2 (hp.trans (List.mergeSort_perm xs _).symm)
/-- ints that are held: none, or a row -/
def OwL (v : AV) (Lv : Ob) (xs : List Int) : Prop := (v = .slice0 ∧ Lv = [] ∧ xs = []) ∨ ∃ j, v = .slice j 0 xs.length (.m 0) ∧ Lv = [(j, .row (xs.map (AV.int .i64)) 3 1)] ∧ 0 < xs.length
theorem OwL.owI {h0 h : Heap} {W : List Nat} {V : Ob} {v : AV} {Lv : Ob} {xs : List Int} (k : OwL v Lv xs) (hh : Vw h0 W V h) (hm : ∀ x ∈ Lv, x ∈ V) : OwI h v xs := by
  rcases k with ⟨rfl, rfl, rfl⟩ | ⟨j, rfl, rfl, hn⟩
  · exact .inl ⟨rfl, rfl⟩
  · have ho := hh.own _ (hm _ (List.mem_singleton.2 rfl))
    refine .inr ⟨j, rfl, ho.2, .inr ⟨rfl, rfl, ho.2, ?_⟩, fun i hi => ?_, hn⟩
    · unfold knownN
      rw [ho.1]
      simp
    · rw [Nat.zero_add, Nat.mul_one]
      exact hh.rdL (hm _ (List.mem_singleton.2 rfl)) (AObj.has_row _ _ _) (by simp [hi])
theorem OwL.isL {v : AV} {Lv : Ob} {xs : List Int} (k : OwL v Lv xs) : IsL 3 1 xs.length (xs.map (AV.int .i64)) v Lv := by
  rcases k with ⟨rfl, rfl, rfl⟩ | ⟨j, rfl, rfl, hn⟩
  · exact .nil rfl rfl
  · exact .row j (by simp)
theorem Ev.WK.joinS {P : Program} {B : Base} {Q : Post} {h0 : Heap} {W : List Nat} {N : Nat} {D : List Nat} {K : List Fr} {F : Fr} {s : Sl} {L : Ob} {s2 : Sl} {L2 : Ob} (reg : WK P B Q h0 W N D K s2 L2 → WK P B Q h0 W N D (F :: K) s L) (k' : WK P B Q h0 W N D K s2 L2) : WK P B Q h0 W N D (F :: K) s L := reg k'
def rsusR (lv : Int) (cs : List Cy) (ss : List Sh) (l : List Ga) : List Int × Int := susR lv cs ss l
set_option maxRecDepth 100000 in
set_option maxHeartbeats 8000000 in
theorem rsuspects_con (h : Heap) (g : Gd h) (lv : Int) (cv sv v : AV) (cl : List Cw) (ss : List Sh) (l : List Ga) (hc : CyV h cv cl) (hs : ShV h sv ss) (hv : GaA h v l) (hl : l.length ≤ 1000000) :
    ∃ u L, Con Tryz.prog Bs 14 [.agg [.int .i64 lv, cv, sv], v] h [] u L ∧ ∃ w, u = .agg [w, .int .i64 (susR lv (cys cl) ss l).2] ∧ OwL w L (susR lv (cys cl) ss l).1 := by
  have hG : ∀ (h2 : Heap) {V : Ob}, Vw h [] V h2 → Con Tryz.prog Bs 37 [.agg [.int .i64 lv, cv, sv], v] h2 [] (.int .i64 (chkGs lv (cys cl) ss l)) [] := fun h2 V hh => rgauged_con h2 hh.gd lv cv sv v cl ss l (hc.vw hh) (hs.vw hh) (hv.gaV.vw hh) hl
  by_cases h0 : chkGs lv (cys cl) ss l = 0
  rotate_left
  · have e : susR lv (cys cl) ss l = ([], chkGs lv (cys cl) ss l) := if_pos h0
    rw [e]
    refine Con.subR (Con.startR rfl Tryz.func14 rfl rfl Tryz.ntmps14 rfl rfl (SS.init g) ?_)
    (refine WK.seq ?_; refine WK.region ?_; refine St.box fun _ _ => ?_; refine St.alloc fun _ _ => ?_; refine WO.nil ?_; refine WK.seq ?_; refine WK.region ?_; refine St.load ?_; refine St.move ?_)
    refine St.call (fun _ => rfl) (fun h2 hh => hG h2 hh) ?_
    (refine St.assign ?_; refine WO.nil ?_; refine WK.seq ?_; refine WK.seq ?_; refine WK.region ?_; refine St.move ?_; refine St.bin ?_; refine WO.nil ?_)
    refine St.splitC (fun q => ?_) (fun q => ?_)
    · (refine WK.seq ?_; refine WK.region ?_; refine St.move ?_; refine St.build ?_; refine St.store0 ?_; refine WO.nil ?_)
      refine St.ret (by first | exact .tmp .nil | exact .cell .nil | exact .cell (.tmp .nil) | exact .tmp (.tmp .nil) | exact .cell (.cell .nil) | exact .tmp (.cell .nil) | exact .nil | exact .tmp (.cell (.tmp .nil)) | exact .cell (.tmp (.tmp .nil)) | exact .cell (.cell (.tmp .nil)) | exact .tmp (.tmp (.tmp .nil)) | exact .cell (.cell (.cell .nil))) ?_
      exact ⟨[], List.nil_sublist _, .slice0, rfl, .inl ⟨rfl, rfl, rfl⟩⟩
    · simp at q; exact absurd q h0
  obtain ⟨w, h40, hga⟩ := chkGs_w h0
  have e : susR lv (cys cl) ss l = if fitG (cys cl) ss l = true then ([], 0) else (sortX (susTo (cys cl) ss l l.length), 0) := if_neg (by simp [h0])
  rw [e]
  refine Con.subR (Con.startR rfl Tryz.func14 rfl rfl Tryz.ntmps14 rfl rfl (SS.init g) ?_)
  (refine WK.seq ?_; refine WK.region ?_; refine St.box fun _ _ => ?_; refine St.alloc fun _ _ => ?_; refine WO.nil ?_; refine WK.seq ?_; refine WK.region ?_; refine St.load ?_; refine St.move ?_)
  rename_i p2 hp2 p4 hp4
  refine St.call (v := .int .i64 0) (fun _ => rfl) (fun h2 hh => by
    have := hG h2 hh
    rw [h0] at this
    exact this) ?_
  (refine St.assign ?_; refine WO.nil ?_; refine WK.seq ?_; refine WK.seq ?_; refine WK.region ?_; refine St.move ?_; refine St.bin ?_; refine WO.nil ?_; refine WK.condF ?_; refine WK.skip ?_; refine WK.seq ?_; refine WK.region ?_; refine St.assign ?_; refine WO.nil ?_; refine WK.seq ?_; refine WK.region ?_; refine St.load ?_; refine St.move ?_)
  refine St.call (v := .bool (fitG (cys cl) ss l)) (fun _ => rfl) (fun h2 hh => some_con h2 hh.gd lv cv sv v cl ss l (hc.vw hh) (hs.vw hh) (hv.gaV.vw hh) hl w hga) ?_
  cases hf : fitG (cys cl) ss l with
  | true =>
    rw [if_pos rfl]
    (refine St.assign ?_; refine WO.nil ?_; refine WK.seq ?_; refine WK.seq ?_; refine WK.region ?_; refine St.assign ?_; refine WO.nil ?_; refine WK.block ?_)
    refine WK.unroll ?_
    (refine WK.seq ?_; refine WK.seq ?_; refine WK.region ?_; refine St.move ?_; refine St.move ?_)
    refine St.lenV rfl hv.gaV.len ?_
    (refine St.bin ?_; refine St.move ?_)
    refine St.split (fun c1 => ?_) (fun c1 => ?_)
    · (refine St.move ?_; refine St.un ?_; refine St.pickT ?_; refine WO.nil ?_; refine WK.condF ?_; refine WK.exit ?_; refine WK.seq ?_; refine WK.region ?_; refine St.move ?_; refine St.build ?_; refine St.store0 ?_; refine WO.nil ?_)
      refine St.ret (by first | exact .tmp .nil | exact .cell .nil | exact .cell (.tmp .nil) | exact .tmp (.tmp .nil) | exact .cell (.cell .nil) | exact .tmp (.cell .nil) | exact .nil | exact .tmp (.cell (.tmp .nil)) | exact .cell (.tmp (.tmp .nil)) | exact .cell (.cell (.tmp .nil)) | exact .tmp (.tmp (.tmp .nil)) | exact .cell (.cell (.cell .nil))) ?_
      exact ⟨[], List.nil_sublist _, .slice0, rfl, .inl ⟨rfl, rfl, rfl⟩⟩
    · (refine St.skip ?_; refine St.skip ?_; refine St.pickF ?_; refine WO.nil ?_; refine WK.condF ?_; refine WK.exit ?_; refine WK.seq ?_; refine WK.region ?_; refine St.move ?_; refine St.build ?_; refine St.store0 ?_; refine WO.nil ?_)
      refine St.ret (by first | exact .tmp .nil | exact .cell .nil | exact .cell (.tmp .nil) | exact .tmp (.tmp .nil) | exact .cell (.cell .nil) | exact .tmp (.cell .nil) | exact .nil | exact .tmp (.cell (.tmp .nil)) | exact .cell (.tmp (.tmp .nil)) | exact .cell (.cell (.tmp .nil)) | exact .tmp (.tmp (.tmp .nil)) | exact .cell (.cell (.cell .nil))) ?_
      exact ⟨[], List.nil_sublist _, .slice0, rfl, .inl ⟨rfl, rfl, rfl⟩⟩
  | false =>
    rw [if_neg (by simp)]
    rcases hv with ⟨hv, rfl⟩ | ⟨b, off, m, rfl, hm, hk⟩
    · cases hf
    (refine St.assign ?_; refine WO.nil ?_; refine WK.seq ?_; refine WK.seq ?_; refine WK.region ?_; refine St.assign ?_; refine WO.nil ?_; refine WK.block ?_)
    refine WK.inv (ι := Nat × AV × Ob × List Int) (fun z => [(1, .slice b off l.length (.k m)), (2, .ptr p2 0), (4, .ptr p4 0), (5, .int .i64 0), (6, z.2.1), (7, .bool false), (8, .int .i64 z.1)]) (fun z => (p4, .cells [.slice0, .int .i64 0] 49) :: (p2, .cells [.int .i64 lv, cv, sv] 25) :: z.2.2.1) (fun z => z.1 ≤ l.length ∧ OwL z.2.1 z.2.2.1 z.2.2.2 ∧ z.2.2.2.Perm (susTo (cys cl) ss l z.1) ∧ z.2.2.2.Pairwise (· ≤ ·)) (fun z => l.length - z.1) (0, .slice0, [], []) ⟨Nat.zero_le _, .inl ⟨rfl, rfl, rfl⟩, List.Perm.refl _, List.Pairwise.nil⟩ ⟨rfl, rfl, rfl, rfl, rfl, rfl, rfl, trivial⟩ (by (repeat (first | exact List.Sublist.refl _ | exact List.nil_sublist _ | apply List.Sublist.cons_cons | apply List.Sublist.cons))) ?_
    rintro ⟨k, u, Lw, ys⟩ ⟨hkl, hw, hpm, hso⟩ ih
    simp only at hkl hw hpm hso ih ⊢
    have hlen : ys.length ≤ k := by
      have h1 := hpm.length_eq
      have h2 := susTo_len (cys cl) ss l k
      omega
    (refine WK.seq ?_; refine WK.seq ?_; refine WK.region ?_; refine St.move ?_; refine St.move ?_; refine St.len ?_; refine St.bin ?_; refine St.move ?_)
    refine St.split (fun c1 => ?_) (fun c1 => ?_)
    · have hlt : k < l.length := by simp at c1; omega
      have hne : 0 < l.length := by omega
      have h60 : l.length ≤ 60 := by omega
      have hfe : l.eraseIdx k = l.take k ++ l.drop (k + 1) := List.eraseIdx_eq_take_drop_succ ..
      have hn2 : (l.take k ++ l.drop (k + 1)).length = k + (l.length - (k + 1)) := by rw [List.length_append, List.length_take, List.length_drop]; omega
      have hga2 : ∀ x ∈ l.take k ++ l.drop (k + 1), GaOk x := fun x hx => hga x (by
        rcases List.mem_append.1 hx with hx | hx
        · exact List.mem_of_mem_take hx
        · exact List.mem_of_mem_drop hx)
      have hS2 : ∀ (h2 : Heap) {V : Ob}, Vw h [] V h2 → ∀ (u : AV), GaV h2 u (l.take k ++ l.drop (k + 1)) → Con Tryz.prog Bs 49 [.agg [.int .i64 lv, cv, sv], u] h2 [] (.bool (fitG (cys cl) ss (l.eraseIdx k))) [] := fun h2 V hh u hu => by
        rw [hfe]
        exact some_con h2 hh.gd lv cv sv u cl ss _ (hc.vw hh) (hs.vw hh) hu (by omega) w hga2
      have own2 : ∀ v2 j2 obj2 n', OwnT 75 4 v2 j2 obj2 n' ([] ++ gaF (l.take k) ++ gaF (l.drop (k + 1))) → IsL 75 4 n' (gaF (l.take k ++ l.drop (k + 1))) v2 [(j2, obj2)] := fun v2 j2 obj2 n' q => by
        have := q.isL
        rwa [List.nil_append, ← gaF_app] at this
      (refine St.move ?_; refine St.un ?_; refine St.pickT ?_; refine WO.nil ?_; refine WK.condT ?_; refine WK.skip ?_; refine WK.seq ?_; refine WK.block ?_; refine WK.seq ?_)
      refine WK.joinS (s2 := [(1, .slice b off l.length (.k m)), (2, .ptr p2 0), (4, .ptr p4 0), (5, .int .i64 0), (6, u), (7, .bool false), (8, .int .i64 k), (9, .bool (fitG (cys cl) ss (l.eraseIdx k)))]) (L2 := (p4, .cells [.slice0, .int .i64 0] 49) :: (p2, .cells [.int .i64 lv, cv, sv] 25) :: Lw) (fun kont => ?_) ?_
      · refine WK.regionE (n := 2) [(p4, .cells [.slice0, .int .i64 0] 49), (p2, .cells [.int .i64 lv, cv, sv] 25)] (by (repeat (first | exact List.Sublist.refl _ | exact List.nil_sublist _ | apply List.Sublist.cons_cons | apply List.Sublist.cons))) ?_
        refine WE.load 1 (v := .agg [.int .i64 lv, cv, sv]) ?_
        refine WE.mkS 1 (fun j49 hj49 => ?_)
        refine WE.move ?_
        refine WE.move ?_
        refine WE.sliceP (u := .slice b off l.length (.k m)) (v := .slice b off k (.k m)) (fun h2 => ?_) rfl rfl ?_
        · show plainV (evSlice Tryz.prog h2 26 (.slice b off l.length (.k m)) none (some (.int .i64 (k : Int))) none) h2 = _
          rw [slG_to (by omega) hm]
          rfl
        refine WE.appT 2 rfl (.inl ⟨rfl, rfl, rfl, _, rfl⟩) ⟨rfl, rfl, rfl, rfl, rfl, rfl, rfl, rfl⟩ (comes_to hk hne (by omega) h60) (by omega) rfl (fun e0 o1 => ?_) (fun e0 j53 hj53 o1 => ?_)
        · refine WE.move ?_
          refine WE.move ?_
          refine WE.binI ?_
          refine WE.sliceP (u := .slice b off l.length (.k m)) (v := .slice b (if m - (k + 1) = 0 then off else off + (k + 1) * 4) (l.length - (k + 1)) (.k (m - (k + 1)))) (fun h2 => ?_) rfl rfl ?_
          · show plainV (evSlice Tryz.prog h2 26 (.slice b off l.length (.k m)) (some (.int .i64 ((k : Int) + 1))) none none) h2 = _
            rw [show (k : Int) + 1 = ((k + 1 : Nat) : Int) from rfl, slG_from (by omega) hm]
            rfl
          refine WE.appT 2 rfl o1 ⟨rfl, rfl, rfl, rfl, rfl, rfl, rfl, rfl⟩ (comes_from hk hne (by omega) h60 hm) (by omega) rfl (fun e1 o2 => ?_) (fun e1 j58 hj58 o2 => ?_)
          · refine WE.callV [_] 2 (fun _ => rfl) (fun _ => rfl) (fun x hx => ⟨by cases List.mem_singleton.1 hx; exact List.mem_cons_self .., by
              cases List.mem_singleton.1 hx
              show maskAt _ _ 1 = true
              decide +kernel⟩) (fun h2 hh => hS2 h2 hh _ (ga_v (own2 _ _ _ _ o2) (by rw [hn2, Nat.zero_add]) hh (fun x hx => by cases List.mem_singleton.1 hx; exact List.mem_cons_self ..))) ?_
            refine WE.assign ?_
            refine WE.subT (T2 := []) (List.nil_sublist _) ?_
            refine WE.nil ?_
            refine WK.le ?_ (List.Sublist.refl _) kont
            exact ⟨rfl, rfl, rfl, rfl, rfl, rfl, rfl, rfl, trivial⟩
          · refine WE.callV [_] 2 (fun _ => rfl) (fun _ => rfl) (fun x hx => ⟨by cases List.mem_singleton.1 hx; exact List.mem_cons_self .., by
              cases List.mem_singleton.1 hx
              show maskAt _ _ 10 = true
              decide +kernel⟩) (fun h2 hh => hS2 h2 hh _ (ga_v (own2 _ _ _ _ o2) (by rw [hn2, Nat.zero_add]) hh (fun x hx => by cases List.mem_singleton.1 hx; exact List.mem_cons_self ..))) ?_
            refine WE.assign ?_
            refine WE.subT (T2 := []) (List.nil_sublist _) ?_
            refine WE.nil ?_
            refine WK.le ?_ (List.Sublist.refl _) kont
            exact ⟨rfl, rfl, rfl, rfl, rfl, rfl, rfl, rfl, trivial⟩
        · refine WE.move ?_
          refine WE.move ?_
          refine WE.binI ?_
          refine WE.sliceP (u := .slice b off l.length (.k m)) (v := .slice b (if m - (k + 1) = 0 then off else off + (k + 1) * 4) (l.length - (k + 1)) (.k (m - (k + 1)))) (fun h2 => ?_) rfl rfl ?_
          · show plainV (evSlice Tryz.prog h2 26 (.slice b off l.length (.k m)) (some (.int .i64 ((k : Int) + 1))) none none) h2 = _
            rw [show (k : Int) + 1 = ((k + 1 : Nat) : Int) from rfl, slG_from (by omega) hm]
            rfl
          refine WE.appT 3 rfl o1 ⟨rfl, rfl, rfl, rfl, rfl, rfl, rfl, rfl⟩ (comes_from hk hne (by omega) h60 hm) (by omega) rfl (fun e1 o2 => ?_) (fun e1 j58 hj58 o2 => ?_)
          · refine WE.callV [_] 2 (fun _ => rfl) (fun _ => rfl) (fun x hx => ⟨by cases List.mem_singleton.1 hx; exact List.mem_cons_self .., by
              cases List.mem_singleton.1 hx
              show maskAt _ _ 5 = true
              decide +kernel⟩) (fun h2 hh => hS2 h2 hh _ (ga_v (own2 _ _ _ _ o2) (by rw [hn2, Nat.zero_add]) hh (fun x hx => by cases List.mem_singleton.1 hx; exact List.mem_cons_self ..))) ?_
            refine WE.assign ?_
            refine WE.subT (T2 := []) (List.nil_sublist _) ?_
            refine WE.nil ?_
            refine WK.le ?_ (List.Sublist.refl _) kont
            exact ⟨rfl, rfl, rfl, rfl, rfl, rfl, rfl, rfl, trivial⟩
          · refine WE.callV [_] 2 (fun _ => rfl) (fun _ => rfl) (fun x hx => ⟨by cases List.mem_singleton.1 hx; exact List.mem_cons_self .., by
              cases List.mem_singleton.1 hx
              show maskAt _ _ 10 = true
              decide +kernel⟩) (fun h2 hh => hS2 h2 hh _ (ga_v (own2 _ _ _ _ o2) (by rw [hn2, Nat.zero_add]) hh (fun x hx => by cases List.mem_singleton.1 hx; exact List.mem_cons_self ..))) ?_
            refine WE.assign ?_
            refine WE.subT (T2 := []) (List.nil_sublist _) ?_
            refine WE.nil ?_
            refine WK.le ?_ (List.Sublist.refl _) kont
            exact ⟨rfl, rfl, rfl, rfl, rfl, rfl, rfl, rfl, trivial⟩
      (refine WK.seq ?_; refine WK.region ?_; refine St.move ?_; refine WO.nil ?_)
      refine St.splitC (fun c2 => ?_) (fun c2 => ?_)
      · have hsu : susTo (cys cl) ss l (k + 1) = susTo (cys cl) ss l k ++ [(nthG l k).id] := by
          simp only [susTo]
          rw [if_pos (by simpa using c2)]
        (refine WK.region ?_; refine St.move ?_; refine St.move ?_; refine St.move ?_)
        refine St.at ?_
        (refine St.fieldAddr ?_)
        refine St.loadX (fun h2 hh => ((hk.vw hh).gid (z := (k : Int)) (n := k) (by omega) hlt).one rfl) ?_
        skip
        refine St.callR (fun _ => rfl) (fun h2 hh => add_con h2 hh.gd u ys (nthG l k).id (hw.owI hh (fun x hx => by simp [hx])) (by omega)) ?_
        rintro v' L' ⟨zs, j', hz, rfl, rfl⟩
        have hzl : zs.length = ys.length + 1 := by
          have := hz.perm.length_eq
          simpa using this
        (refine St.assign ?_; refine WO.nil ?_; refine WK.blk ?_; refine WK.region ?_; refine St.move ?_; refine St.binI ?_; refine St.assign ?_; refine WO.nil ?_)
        refine WK.perm (L' := (p4, .cells [.slice0, .int .i64 0] 49) :: (p2, .cells [.int .i64 lv, cv, sv] 25) :: (j', .row (zs.map (AV.int .i64)) 3 1) :: Lw) (by (refine perm_cnt fun _ _ => ?_; simp only [List.append_eq, List.cons_append, List.nil_append, List.count_append, List.count_cons, List.count_nil, Nat.add_zero, Nat.zero_add]; try ac_rfl)) ?_
        refine WK.le ?_ ?_ (ih (k + 1, .slice j' 0 (ys.length + 1) (.m 0), [(j', .row (zs.map (AV.int .i64)) 3 1)], zs) ⟨hlt, .inr ⟨j', by show AV.slice j' 0 (ys.length + 1) (.m 0) = .slice j' 0 zs.length (.m 0); rw [hzl], rfl, by show 0 < zs.length; omega⟩, ?_, hz.sorted hso⟩ (by simp only; omega))
        · exact ⟨rfl, rfl, rfl, rfl, rfl, rfl, rfl, trivial⟩
        · exact List.Sublist.cons_cons _ (List.Sublist.cons_cons _ (List.Sublist.cons_cons _ (List.nil_sublist _)))
        · simp only
          rw [hsu]
          exact hz.perm.trans (hpm.append_right _)
      · have hsu : susTo (cys cl) ss l (k + 1) = susTo (cys cl) ss l k := by
          simp only [susTo]
          rw [if_neg (by simpa using c2), List.append_nil]
        (refine WK.skip ?_; refine WK.blk ?_; refine WK.region ?_; refine St.move ?_; refine St.binI ?_; refine St.assign ?_; refine WO.nil ?_)
        refine WK.le ?_ (by (repeat (first | exact List.Sublist.refl _ | exact List.nil_sublist _ | apply List.Sublist.cons_cons | apply List.Sublist.cons))) (ih (k + 1, u, Lw, ys) ⟨hlt, hw, by simp only; rw [hsu]; exact hpm, hso⟩ (by simp only; omega))
        exact ⟨rfl, rfl, rfl, rfl, rfl, rfl, rfl, trivial⟩
    · have : k = l.length := by simp at c1; omega
      subst this
      rw [sort_eq hso hpm] at hw
      clear ih hso hpm
      generalize sortX (susTo (cys cl) ss l l.length) = zs at hw ⊢
      rcases hw with ⟨rfl, rfl, rfl⟩ | ⟨j9, rfl, rfl, hn9⟩
      · (refine St.skip ?_; refine St.skip ?_; refine St.pickF ?_; refine WO.nil ?_; refine WK.condF ?_; refine WK.exit ?_; refine WK.seq ?_; refine WK.region ?_; refine St.move ?_; refine St.build ?_; refine St.store0 ?_; refine WO.nil ?_)
        refine St.ret (by first | exact .tmp .nil | exact .cell .nil | exact .cell (.tmp .nil) | exact .tmp (.tmp .nil) | exact .cell (.cell .nil) | exact .tmp (.cell .nil) | exact .nil | exact .tmp (.cell (.tmp .nil)) | exact .cell (.tmp (.tmp .nil)) | exact .cell (.cell (.tmp .nil)) | exact .tmp (.tmp (.tmp .nil)) | exact .cell (.cell (.cell .nil))) ?_
        exact ⟨[], List.nil_sublist _, .slice0, rfl, .inl ⟨rfl, rfl, rfl⟩⟩
      · (refine St.skip ?_; refine St.skip ?_; refine St.pickF ?_; refine WO.nil ?_; refine WK.condF ?_; refine WK.exit ?_; refine WK.seq ?_; refine WK.region ?_; refine St.move ?_; refine St.build ?_; refine St.store0 ?_; refine WO.nil ?_)
        refine St.ret (by first | exact .tmp .nil | exact .cell .nil | exact .cell (.tmp .nil) | exact .tmp (.tmp .nil) | exact .cell (.cell .nil) | exact .tmp (.cell .nil) | exact .nil | exact .tmp (.cell (.tmp .nil)) | exact .cell (.tmp (.tmp .nil)) | exact .cell (.cell (.tmp .nil)) | exact .tmp (.tmp (.tmp .nil)) | exact .cell (.cell (.cell .nil))) ?_
        exact ⟨[(j9, .row (zs.map (AV.int .i64)) 3 1)], by simp, _, rfl, .inr ⟨j9, rfl, rfl, hn9⟩⟩
end Go.Proofs.YtgjkfmcjalcefaaGreat
