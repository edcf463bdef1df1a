/- The reference's Shown and Excluded; the law TideExcludes over the calculator's memory. -/
import Derived.Test.YtgjkfmcjalcefaaGreatEc
import Derived.Test.YtgjkfmcjalcefaaGreatJe
namespace Go.Proofs.YtgjkfmcjalcefaaGreat
open Go.Proofs.YtgjkfmcjalcefaaGreat.Ev

theorem Ev.WK.joinE {X : Type} {P : Program} {B : Base} {Q : Post} {h0 : Heap} {W : List Nat} {N : Nat} {D : List Nat} {K : List Fr} {F : Fr} {s : Sl} {L : Ob} (I : X → Prop) (s2 : X → Sl) (L2 : X → Ob) (reg : (∀ x, I x → WK P B Q h0 W N D K (s2 x) (L2 x)) → WK P B Q h0 W N D (F :: K) s L) (k' : ∀ x, I x → WK P B Q h0 W N D K (s2 x) (L2 x)) : WK P B Q h0 W N D (F :: K) s L := reg k'
theorem perm_rot {α : Type} (a b c : α) : List.Perm [b, c, a] [a, b, c] := perm_cnt fun _ x => by simp only [List.count_cons, List.count_nil]; ac_rfl
set_option maxRecDepth 100000 in
set_option maxHeartbeats 16000000 in
theorem less_con (h : Heap) (g : Gd h) (lv : Int) (sv : AV) (b off m k : Nat) (cl : List Cw) (hsv : okCell sv = true) (hk : CyH h b off cl) (hm : cl.length ≤ m) (hlt : k < cl.length) (h60 : cl.length ≤ 60) :
    ∃ u L, Con Tryz.prog Bs 52 [.agg [.int .i64 lv, .slice b off cl.length (.k m), sv], .int .i64 k] h [] u L ∧ ∃ w, u = .agg [.int .i64 lv, w, sv] ∧ IsL 55 4 (cl.eraseIdx k).length (cyF (cl.eraseIdx k)) w L := by
  have hne : 0 < cl.length := by omega
  have el : (cl.eraseIdx k).length = k + (cl.length - (k + 1)) := by rw [List.length_eraseIdx_of_lt hlt]; omega
  have own2 : ∀ v2 j2 obj2 n', OwnT 55 4 v2 j2 obj2 n' ([] ++ cyF (cl.take k) ++ cyF (cl.drop (k + 1))) → n' = 0 + k + (cl.length - (k + 1)) → IsL 55 4 (cl.eraseIdx k).length (cyF (cl.eraseIdx k)) v2 [(j2, obj2)] := fun v2 j2 obj2 n' q e => by
    have := q.isL
    rw [e, List.nil_append, ← cyF_app, ← List.eraseIdx_eq_take_drop_succ] at this
    rwa [el, show k + (cl.length - (k + 1)) = 0 + k + (cl.length - (k + 1)) by omega]
  refine Con.subR (Con.startR rfl Tryz.func52 rfl rfl Tryz.ntmps52 rfl rfl (SS.init g) ?_)
  (refine WK.seq ?_; refine WK.region ?_; refine St.box fun _ _ => ?_; refine St.alloc fun _ _ => ?_; refine WO.nil ?_; refine WK.seq ?_)
  rename_i p2 hp2 p4 hp4
  refine WK.joinE (X := AV × Ob) (fun x => IsL 55 4 (cl.eraseIdx k).length (cyF (cl.eraseIdx k)) x.1 x.2) (fun _ => [(4, .ptr p4 0), (2, .ptr p2 0)]) (fun x => (p4, .cells [.int .i64 0, .slice0, .slice0] 25) :: (p2, .cells [.int .i64 lv, x.1, sv] 25) :: x.2) (fun kont => ?_) ?_
  · refine WK.regionE (n := 2) _ (List.Sublist.refl _) ?_
    refine WE.mkS 1 (fun j5 hj5 => ?_)
    refine WE.fieldAddr ?_
    refine WE.load 1 (v := .slice b off cl.length (.k m)) ?_
    refine WE.move ?_
    refine WE.sliceP (u := .slice b off cl.length (.k m)) (v := .slice b off k (.k m)) (fun h2 => ?_) rfl rfl ?_
    · show plainV (evSlice Tryz.prog h2 22 (.slice b off cl.length (.k m)) none (some (.int .i64 (k : Int))) none) h2 = _
      rw [slC_to (by omega) hm]
      rfl
    refine WE.appT 2 rfl (.inl ⟨rfl, rfl, rfl, _, rfl⟩) ⟨rfl, rfl, rfl, rfl, rfl, rfl, rfl, rfl⟩ (comesC_to hk hne (by omega) h60) (by omega) rfl (fun e0 o1 => ?_) (fun e0 j53 hj53 o1 => ?_)
    · refine WE.fieldAddr ?_
      refine WE.load 1 (v := .slice b off cl.length (.k m)) ?_
      refine WE.move ?_
      refine WE.binI ?_
      refine WE.sliceP (u := .slice b off cl.length (.k m)) (v := .slice b (if m - (k + 1) = 0 then off else off + (k + 1) * 4) (cl.length - (k + 1)) (.k (m - (k + 1)))) (fun h2 => ?_) rfl rfl ?_
      · show plainV (evSlice Tryz.prog h2 22 (.slice b off cl.length (.k m)) (some (.int .i64 ((k : Int) + 1))) none none) h2 = _
        rw [show (k : Int) + 1 = ((k + 1 : Nat) : Int) from rfl, slC_from (by omega) hm]
        rfl
      refine WE.appT 2 rfl o1 ⟨rfl, rfl, rfl, rfl, rfl, rfl, rfl, rfl⟩ (comesC_from hk hne (by omega) h60 hm) (by omega) rfl (fun e1 o2 => ?_) (fun e1 j58 hj58 o2 => ?_)
      · refine WE.fieldAddr ?_
        refine WE.store (A := [_]) 1 rfl ?_
        refine WE.subT (T2 := [_]) ((List.nil_sublist _).cons_cons _) ?_
        refine WE.nil ?_
        refine WK.perm (L' := _ :: _ :: [_]) (perm_rot _ _ _) (WK.le ?_ (List.Sublist.refl _) (kont (_, [_]) (own2 _ _ _ _ o2 rfl)))
        exact ⟨rfl, rfl, trivial⟩
      · refine WE.fieldAddr ?_
        refine WE.store (A := [_]) 1 rfl ?_
        refine WE.subT (T2 := [_]) ((List.nil_sublist _).cons_cons _) ?_
        refine WE.nil ?_
        refine WK.perm (L' := _ :: _ :: [_]) (perm_rot _ _ _) (WK.le ?_ (List.Sublist.refl _) (kont (_, [_]) (own2 _ _ _ _ o2 rfl)))
        exact ⟨rfl, rfl, trivial⟩
    · refine WE.fieldAddr ?_
      refine WE.load 1 (v := .slice b off cl.length (.k m)) ?_
      refine WE.move ?_
      refine WE.binI ?_
      refine WE.sliceP (u := .slice b off cl.length (.k m)) (v := .slice b (if m - (k + 1) = 0 then off else off + (k + 1) * 4) (cl.length - (k + 1)) (.k (m - (k + 1)))) (fun h2 => ?_) rfl rfl ?_
      · show plainV (evSlice Tryz.prog h2 22 (.slice b off cl.length (.k m)) (some (.int .i64 ((k : Int) + 1))) none none) h2 = _
        rw [show (k : Int) + 1 = ((k + 1 : Nat) : Int) from rfl, slC_from (by omega) hm]
        rfl
      refine WE.appT 3 rfl o1 ⟨rfl, rfl, rfl, rfl, rfl, rfl, rfl, rfl⟩ (comesC_from hk hne (by omega) h60 hm) (by omega) rfl (fun e1 o2 => ?_) (fun e1 j58 hj58 o2 => ?_)
      · refine WE.fieldAddr ?_
        refine WE.store (A := [_]) 1 rfl ?_
        refine WE.subT (T2 := [_]) ((List.nil_sublist _).cons_cons _) ?_
        refine WE.nil ?_
        refine WK.perm (L' := _ :: _ :: [_]) (perm_rot _ _ _) (WK.le ?_ (List.Sublist.refl _) (kont (_, [_]) (own2 _ _ _ _ o2 rfl)))
        exact ⟨rfl, rfl, trivial⟩
      · refine WE.fieldAddr ?_
        refine WE.store (A := [_]) 1 rfl ?_
        refine WE.subT (T2 := [_]) ((List.nil_sublist _).cons_cons _) ?_
        refine WE.nil ?_
        refine WK.perm (L' := _ :: _ :: [_]) (perm_rot _ _ _) (WK.le ?_ (List.Sublist.refl _) (kont (_, [_]) (own2 _ _ _ _ o2 rfl)))
        exact ⟨rfl, rfl, trivial⟩
  rintro ⟨w, Lw⟩ hw
  simp only at hw ⊢
  (refine WK.seq ?_; refine WK.region ?_; refine St.load ?_)
  refine St.store0 (hv := store_w rfl hw.okv hsv rfl) ?_
  (refine WO.nil ?_)
  refine St.ret (by first | exact .tmp .nil | exact .cell .nil | exact .cell (.tmp .nil) | exact .tmp (.tmp .nil) | exact .cell (.cell .nil) | exact .tmp (.cell .nil) | exact .nil | exact .tmp (.cell (.tmp .nil)) | exact .cell (.tmp (.tmp .nil)) | exact .cell (.cell (.tmp .nil)) | exact .tmp (.tmp (.tmp .nil)) | exact .cell (.cell (.cell .nil))) ?_
  exact ⟨Lw, by (repeat (first | exact List.Sublist.refl _ | exact List.nil_sublist _ | apply List.Sublist.cons_cons | apply List.Sublist.cons)), w, rfl, hw⟩
theorem lv_two {lv cs ss l} (h : chkGs lv cs ss l = 0) : (fitG cs ss l = true → (levelsR lv cs ss l).2 = 0) ∧ (fitG cs ss l = false → (levelsR lv cs ss l).2 = 9) := by
  have e : levelsR lv cs ss l = if (comG cs ss l).1 ≤ (comG cs ss l).2 then (comG cs ss l, 0) else ((0, 0), 9) := if_neg (by simp [h])
  rw [e]
  constructor
  · intro q
    rw [if_pos (of_decide_eq_true q)]
  · intro q
    rw [if_neg (of_decide_eq_false q)]
theorem Ev.Rds.head {h : Heap} {b off : Nat} {x : AV} {l : List AV} (k : Rds h b off (x :: l)) : Rd h b (off + 0) x := k.1
set_option maxRecDepth 100000 in
set_option maxHeartbeats 16000000 in
theorem rshown_con (h : Heap) (g : Gd h) (lv : Int) (cv sv v : AV) (cl : List Cw) (ss : List Sh) (l : List Ga) (hc : CyA h cv cl) (hs : ShV h sv ss) (hv : GaV h v l) (hl : l.length ≤ 1000000) :
    ∃ u L, Con Tryz.prog Bs 18 [.agg [.int .i64 lv, cv, sv], v] h [] u L ∧ ∃ w, u = .agg [w, .int .i64 (shownR lv cl ss l).2] ∧ OwL w L (shownR lv cl ss l).1 := by
  have hL : ∀ (h2 : Heap) {V : Ob}, Vw h [] V h2 → Con Tryz.prog Bs 8 [.agg [.int .i64 lv, cv, sv], v] h2 [] (.agg [.int .i64 (levelsR lv (cys cl) ss l).1.1, .int .i64 (levelsR lv (cys cl) ss l).1.2, .int .i64 (levelsR lv (cys cl) ss l).2]) [] := fun h2 V hh => rlevels_con h2 hh.gd lv cv sv v cl ss l (hc.cyV.vw hh) (hs.vw hh) (hv.vw hh) hl
  have out : ∀ e : Int, e ≠ 0 → (levelsR lv (cys cl) ss l).2 = e → ∃ u L, Con Tryz.prog Bs 18 [.agg [.int .i64 lv, cv, sv], v] h [] u L ∧ ∃ w, u = .agg [w, .int .i64 e] ∧ OwL w L [] := by
    intro e0 hne he
    refine Con.subR (Con.startR rfl Tryz.func18 rfl rfl Tryz.ntmps18 rfl rfl (SS.init g) ?_)
    (refine WK.seq ?_; refine WK.region ?_; refine St.box fun _ _ => ?_; refine St.alloc fun _ _ => ?_; refine WO.nil ?_; refine WK.seq ?_; refine WK.region ?_; refine St.load ?_; refine St.move ?_)
    refine St.call (fun _ => rfl) (fun h2 hh => hL h2 hh) ?_
    rw [he]
    (refine St.alloc fun _ _ => ?_; refine St.store0 ?_; refine WO.nil ?_; refine WK.seq ?_; refine WK.seq ?_; refine WK.region ?_; refine St.fieldAddr ?_; refine St.load ?_; refine St.bin ?_; refine WO.nil ?_)
    refine St.splitC (fun q => ?_) (fun q => ?_)
    · (refine WK.seq ?_; refine WK.region ?_; refine St.fieldAddr ?_; refine St.load ?_; refine St.build ?_; refine St.store1 ?_; refine WO.nil ?_)
      refine St.ret (by first | exact .tmp .nil | exact .cell .nil | exact .cell (.tmp .nil) | exact .tmp (.tmp .nil) | exact .cell (.cell .nil) | exact .tmp (.cell .nil) | exact .nil | exact .tmp (.cell (.tmp .nil)) | exact .cell (.tmp (.tmp .nil)) | exact .cell (.cell (.tmp .nil)) | exact .tmp (.tmp (.tmp .nil)) | exact .cell (.cell (.cell .nil))) ?_
      exact ⟨[], List.nil_sublist _, .slice0, rfl, .inl ⟨rfl, rfl, rfl⟩⟩
    · simp at q; exact absurd q hne
  by_cases h0 : chkGs lv (cys cl) ss l = 0
  rotate_left
  · have e : shownR lv cl ss l = ([], chkGs lv (cys cl) ss l) := if_pos h0
    rw [e]
    exact out _ h0 (by
      have : levelsR lv (cys cl) ss l = ((0, 0), chkGs lv (cys cl) ss l) := if_pos h0
      rw [this])
  obtain ⟨w, h40, hga⟩ := chkGs_w h0
  have hcl6 : cl.length ≤ 6 := by have := w.n1; rwa [cys_len] at this
  have e : shownR lv cl ss l = if fitG (cys cl) ss l = false then ([], 9) else (sortX (decTo ss l cl false cl.length), 0) := if_neg (by simp [h0])
  rw [e]
  obtain ⟨ht, hf⟩ := lv_two h0
  cases hfit : fitG (cys cl) ss l
  · rw [if_pos rfl]
    exact out 9 (by decide) (hf hfit)
  rw [if_neg (by simp)]
  have he := ht hfit
  clear out ht hf e
  refine Con.subR (Con.startR rfl Tryz.func18 rfl rfl Tryz.ntmps18 rfl rfl (SS.init g) ?_)
  (refine WK.seq ?_; refine WK.region ?_; refine St.box fun _ _ => ?_; refine St.alloc fun _ _ => ?_; refine WO.nil ?_; refine WK.seq ?_; refine WK.region ?_; refine St.load ?_; refine St.move ?_)
  rename_i p2 hp2 p4 hp4
  refine St.call (fun _ => rfl) (fun h2 hh => hL h2 hh) ?_
  rw [he]
  generalize (levelsR lv (cys cl) ss l).1.1 = a1
  generalize (levelsR lv (cys cl) ss l).1.2 = a2
  clear hL
  (refine St.alloc fun _ _ => ?_; refine St.store0 ?_; refine WO.nil ?_; refine WK.seq ?_; refine WK.seq ?_; refine WK.region ?_; refine St.fieldAddr ?_; refine St.load ?_; refine St.bin ?_; refine WO.nil ?_; refine WK.condF ?_; refine WK.skip ?_; refine WK.seq ?_; refine WK.region ?_; refine St.assign ?_; refine WO.nil ?_; refine WK.seq ?_; refine WK.seq ?_; refine WK.region ?_; refine St.assign ?_; refine WO.nil ?_; refine WK.block ?_)
  rename_i p5 hp5
  by_cases hn : cl.length = 0
  · have e1 : cl = [] := List.length_eq_zero_iff.1 hn
    subst e1
    refine WK.unroll ?_
    (refine WK.seq ?_; refine WK.seq ?_; refine WK.region ?_; refine St.move ?_; refine St.fieldAddr ?_; refine St.load ?_)
    refine St.lenV rfl hc.cyV.len ?_
    (refine St.bin ?_; refine WO.nil ?_; refine WK.condF ?_; refine WK.exit ?_; refine WK.seq ?_; refine WK.region ?_; refine St.move ?_; refine St.build ?_; refine St.store1 ?_; refine WO.nil ?_)
    refine St.ret (by first | exact .tmp .nil | exact .cell .nil | exact .cell (.tmp .nil) | exact .tmp (.tmp .nil) | exact .cell (.cell .nil) | exact .tmp (.cell .nil) | exact .nil | exact .tmp (.cell (.tmp .nil)) | exact .cell (.tmp (.tmp .nil)) | exact .cell (.cell (.tmp .nil)) | exact .tmp (.tmp (.tmp .nil)) | exact .cell (.cell (.cell .nil))) ?_
    exact ⟨[], List.nil_sublist _, .slice0, rfl, .inl ⟨rfl, rfl, by simp [decTo, sortX]⟩⟩
  · rcases hc with ⟨_, rfl⟩ | ⟨b, off, m, rfl, hm, hk⟩
    · simp at hn
    refine WK.inv (ι := Nat × AV × Ob × List Int) (fun z => [(1, v), (2, .ptr p2 0), (4, .ptr p4 0), (5, .ptr p5 0), (6, z.2.1), (7, .int .i64 z.1)]) (fun z => (p5, .cells [.int .i64 a1, .int .i64 a2, .int .i64 0] 35) :: (p4, .cells [.slice0, .int .i64 0] 49) :: (p2, .cells [.int .i64 lv, .slice b off cl.length (.k m), sv] 25) :: z.2.2.1) (fun z => z.1 ≤ cl.length ∧ OwL z.2.1 z.2.2.1 z.2.2.2 ∧ z.2.2.2.Perm (decTo ss l cl false z.1) ∧ z.2.2.2.Pairwise (· ≤ ·)) (fun z => cl.length - z.1) (0, .slice0, [], []) ⟨Nat.zero_le _, .inl ⟨rfl, rfl, rfl⟩, List.Perm.refl _, List.Pairwise.nil⟩ ⟨rfl, rfl, rfl, rfl, rfl, rfl, trivial⟩ (by (repeat (first | exact List.Sublist.refl _ | exact List.nil_sublist _ | apply List.Sublist.cons_cons | apply List.Sublist.cons))) ?_
    rintro ⟨k, u, Lw, ys⟩ ⟨hkl, hw, hpm, hso⟩ ih
    simp only at hkl hw hpm hso ih ⊢
    have hlen : ys.length ≤ k := by
      have h1 := hpm.length_eq
      have h2 := decTo_len ss l cl false k
      omega
    (refine WK.seq ?_; refine WK.seq ?_; refine WK.region ?_; refine St.move ?_; refine St.fieldAddr ?_; refine St.load ?_; refine St.len ?_; refine St.bin ?_; refine WO.nil ?_)
    refine St.splitC (fun c1 => ?_) (fun c1 => ?_)
    · have hlt : k < cl.length := by simp at c1; omega
      have its2 : Its h (cl.eraseIdx k) := fun w hw => hk.its w ((List.eraseIdx_sublist ..).subset hw)
      (refine WK.skip ?_; refine WK.seq ?_; refine WK.block ?_; refine WK.seq ?_; refine WK.region ?_; refine St.load ?_; refine St.move ?_)
      refine St.callR (fun _ => rfl) (fun h2 hh => less_con h2 hh.gd lv sv b off m k cl hs.ok (hk.vw hh) hm hlt (by omega)) ?_
      rintro u5 L5 ⟨w5, rfl, hw5⟩
      refine WO.permF (L' := (p5, .cells [.int .i64 a1, .int .i64 a2, .int .i64 0] 35) :: (p4, .cells [.slice0, .int .i64 0] 49) :: (p2, .cells [.int .i64 lv, .slice b off cl.length (.k m), sv] 25) :: (Lw ++ L5)) ?_ ?_
      · show List.Perm ((p5, .cells [.int .i64 a1, .int .i64 a2, .int .i64 0] 35) :: (p4, .cells [.slice0, .int .i64 0] 49) :: (p2, .cells [.int .i64 lv, .slice b off cl.length (.k m), sv] 25) :: (Lw ++ L5) : Ob) (L5 ++ (p5, .cells [.int .i64 a1, .int .i64 a2, .int .i64 0] 35) :: (p4, .cells [.slice0, .int .i64 0] 49) :: (p2, .cells [.int .i64 lv, .slice b off cl.length (.k m), sv] 25) :: Lw)
        (refine perm_cnt fun _ _ => ?_; simp only [List.append_eq, List.cons_append, List.nil_append, List.count_append, List.count_cons, List.count_nil, Nat.add_zero, Nat.zero_add]; try ac_rfl)
      (refine St.move ?_)
      refine St.call (v := .bool (fitG (cys (cl.eraseIdx k)) ss l)) (fun _ => rfl) (fun h2 hh => some_con h2 hh.gd lv w5 sv v (cl.eraseIdx k) ss l (cy_v hw5 rfl (its2.vw hh) hh (fun x hx => by simp [hx])) (hs.vw hh) (hv.vw hh) (by omega) (w.less k) hga) ?_
      (refine St.assign ?_; refine WO.nil ?_; refine WK.seq ?_; refine WK.region ?_; refine St.move ?_; refine St.un ?_; refine WO.nil ?_)
      refine St.splitC (fun c2 => ?_) (fun c2 => ?_)
      · have hsu : decTo ss l cl false (k + 1) = decTo ss l cl false k ++ [(nthW cl k).c.id] := by
          simp only [decTo]
          rw [if_pos (by simpa using c2)]
        (refine WK.region ?_; refine St.move ?_; refine St.fieldAddr ?_; refine St.load ?_; refine St.move ?_)
        refine St.at ?_
        (refine St.fieldAddr ?_)
        refine St.loadX (fun h2 hh => (Rds.head (cy_at (hk.vw hh) (z := (k : Int)) (n := k) (by omega) hlt)).one rfl) ?_
        skip
        refine St.callR (fun _ => rfl) (fun h2 hh => add_con h2 hh.gd u ys (nthW cl k).c.id (hw.owI hh (fun x hx => by simp [hx])) (by omega)) ?_
        rintro v' L' ⟨zs, j', hz, rfl, rfl⟩
        have hzl : zs.length = ys.length + 1 := by
          have := hz.perm.length_eq
          simpa using this
        (refine St.assign ?_; refine WO.nil ?_; refine WK.blk ?_; refine WK.region ?_; refine St.move ?_; refine St.binI ?_; refine St.assign ?_; refine WO.nil ?_)
        refine WK.perm (L' := (p5, .cells [.int .i64 a1, .int .i64 a2, .int .i64 0] 35) :: (p4, .cells [.slice0, .int .i64 0] 49) :: (p2, .cells [.int .i64 lv, .slice b off cl.length (.k m), sv] 25) :: (j', .row (zs.map (AV.int .i64)) 3 1) :: (Lw ++ L5)) (by (refine perm_cnt fun _ _ => ?_; simp only [List.append_eq, List.cons_append, List.nil_append, List.count_append, List.count_cons, List.count_nil, Nat.add_zero, Nat.zero_add]; try ac_rfl)) ?_
        refine WK.le ?_ ?_ (ih (k + 1, .slice j' 0 (ys.length + 1) (.m 0), [(j', .row (zs.map (AV.int .i64)) 3 1)], zs) ⟨hlt, .inr ⟨j', by show AV.slice j' 0 (ys.length + 1) (.m 0) = .slice j' 0 zs.length (.m 0); rw [hzl], rfl, by show 0 < zs.length; omega⟩, ?_, hz.sorted hso⟩ (by simp only; omega))
        · exact ⟨rfl, rfl, rfl, rfl, rfl, rfl, trivial⟩
        · exact List.Sublist.cons_cons _ (List.Sublist.cons_cons _ (List.Sublist.cons_cons _ (List.Sublist.cons_cons _ (List.nil_sublist _))))
        · simp only
          rw [hsu]
          exact hz.perm.trans (hpm.append_right _)
      · have hsu : decTo ss l cl false (k + 1) = decTo ss l cl false k := by
          simp only [decTo]
          rw [if_neg (by simpa using c2), List.append_nil]
        (refine WK.skip ?_; refine WK.blk ?_; refine WK.region ?_; refine St.move ?_; refine St.binI ?_; refine St.assign ?_; refine WO.nil ?_)
        refine WK.le ?_ ?_ (ih (k + 1, u, Lw, ys) ⟨hlt, hw, by simp only; rw [hsu]; exact hpm, hso⟩ (by simp only; omega))
        · exact ⟨rfl, rfl, rfl, rfl, rfl, rfl, trivial⟩
        · exact List.Sublist.cons_cons _ (List.Sublist.cons_cons _ (List.Sublist.cons_cons _ (List.sublist_append_left _ _)))
    · have : k = cl.length := by simp at c1; omega
      subst this
      rw [sort_eq hso hpm] at hw
      clear ih hso hpm
      generalize sortX (decTo ss l cl false cl.length) = zs at hw ⊢
      rcases hw with ⟨rfl, rfl, rfl⟩ | ⟨j9, rfl, rfl, hn9⟩
      · (refine WK.exit ?_; refine WK.seq ?_; refine WK.region ?_; refine St.move ?_; refine St.build ?_; refine St.store1 ?_; refine WO.nil ?_)
        refine St.ret (by first | exact .tmp .nil | exact .cell .nil | exact .cell (.tmp .nil) | exact .tmp (.tmp .nil) | exact .cell (.cell .nil) | exact .tmp (.cell .nil) | exact .nil | exact .tmp (.cell (.tmp .nil)) | exact .cell (.tmp (.tmp .nil)) | exact .cell (.cell (.tmp .nil)) | exact .tmp (.tmp (.tmp .nil)) | exact .cell (.cell (.cell .nil))) ?_
        exact ⟨[], List.nil_sublist _, .slice0, rfl, .inl ⟨rfl, rfl, rfl⟩⟩
      · (refine WK.exit ?_; refine WK.seq ?_; refine WK.region ?_; refine St.move ?_; refine St.build ?_; refine St.store1 ?_; refine WO.nil ?_)
        refine St.ret (by first | exact .tmp .nil | exact .cell .nil | exact .cell (.tmp .nil) | exact .tmp (.tmp .nil) | exact .cell (.cell .nil) | exact .tmp (.cell .nil) | exact .nil | exact .tmp (.cell (.tmp .nil)) | exact .cell (.tmp (.tmp .nil)) | exact .cell (.cell (.tmp .nil)) | exact .tmp (.tmp (.tmp .nil)) | exact .cell (.cell (.cell .nil))) ?_
        exact ⟨[(j9, .row (zs.map (AV.int .i64)) 3 1)], by simp, _, rfl, .inr ⟨j9, rfl, rfl, hn9⟩⟩
set_option maxRecDepth 100000 in
set_option maxHeartbeats 16000000 in
theorem rexcl_con (h : Heap) (g : Gd h) (lv : Int) (cv sv v : AV) (cl : List Cw) (ss : List Sh) (l : List Ga) (hc : CyA h cv cl) (hs : ShV h sv ss) (hv : GaV h v l) (hl : l.length ≤ 1000000) :
    ∃ u L, Con Tryz.prog Bs 20 [.agg [.int .i64 lv, cv, sv], v] h [] u L ∧ ∃ w, u = .agg [w, .int .i64 (exclR lv cl ss l).2] ∧ OwL w L (exclR lv cl ss l).1 := by
  have hG : ∀ (h2 : Heap) {V : Ob}, Vw h [] V h2 → Con Tryz.prog Bs 37 [.agg [.int .i64 lv, cv, sv], v] h2 [] (.int .i64 (chkGs lv (cys cl) ss l)) [] := fun h2 V hh => rgauged_con h2 hh.gd lv cv sv v cl ss l (hc.cyV.vw hh) (hs.vw hh) (hv.vw hh) hl
  by_cases h0 : chkGs lv (cys cl) ss l = 0
  rotate_left
  · have e : exclR lv cl ss l = ([], chkGs lv (cys cl) ss l) := if_pos h0
    rw [e]
    refine Con.subR (Con.startR rfl Tryz.func20 rfl rfl Tryz.ntmps20 rfl rfl (SS.init g) ?_)
    (refine WK.seq ?_; refine WK.region ?_; refine St.box fun _ _ => ?_; refine St.alloc fun _ _ => ?_; refine WO.nil ?_; refine WK.seq ?_; refine WK.region ?_; refine St.load ?_; refine St.move ?_)
    refine St.call (fun _ => rfl) (fun h2 hh => hG h2 hh) ?_
    (refine St.assign ?_; refine WO.nil ?_; refine WK.seq ?_; refine WK.seq ?_; refine WK.region ?_; refine St.move ?_; refine St.bin ?_; refine WO.nil ?_)
    refine St.splitC (fun q => ?_) (fun q => ?_)
    · (refine WK.seq ?_; refine WK.region ?_; refine St.move ?_; refine St.build ?_; refine St.store0 ?_; refine WO.nil ?_)
      refine St.ret (by first | exact .tmp .nil | exact .cell .nil | exact .cell (.tmp .nil) | exact .tmp (.tmp .nil) | exact .cell (.cell .nil) | exact .tmp (.cell .nil) | exact .nil | exact .tmp (.cell (.tmp .nil)) | exact .cell (.tmp (.tmp .nil)) | exact .cell (.cell (.tmp .nil)) | exact .tmp (.tmp (.tmp .nil)) | exact .cell (.cell (.cell .nil))) ?_
      exact ⟨[], List.nil_sublist _, .slice0, rfl, .inl ⟨rfl, rfl, rfl⟩⟩
    · simp at q; exact absurd q h0
  obtain ⟨w, h40, hga⟩ := chkGs_w h0
  have hcl6 : cl.length ≤ 6 := by have := w.n1; rwa [cys_len] at this
  have e : exclR lv cl ss l = if fitG (cys cl) ss l = true then ([], 0) else (sortX (decTo ss l cl true cl.length), 0) := if_neg (by simp [h0])
  rw [e]
  refine Con.subR (Con.startR rfl Tryz.func20 rfl rfl Tryz.ntmps20 rfl rfl (SS.init g) ?_)
  (refine WK.seq ?_; refine WK.region ?_; refine St.box fun _ _ => ?_; refine St.alloc fun _ _ => ?_; refine WO.nil ?_; refine WK.seq ?_; refine WK.region ?_; refine St.load ?_; refine St.move ?_)
  rename_i p2 hp2 p4 hp4
  refine St.call (v := .int .i64 0) (fun _ => rfl) (fun h2 hh => by
    have := hG h2 hh
    rw [h0] at this
    exact this) ?_
  (refine St.assign ?_; refine WO.nil ?_; refine WK.seq ?_; refine WK.seq ?_; refine WK.region ?_; refine St.move ?_; refine St.bin ?_; refine WO.nil ?_; refine WK.condF ?_; refine WK.skip ?_; refine WK.seq ?_; refine WK.region ?_; refine St.assign ?_; refine WO.nil ?_; refine WK.seq ?_; refine WK.region ?_; refine St.load ?_; refine St.move ?_)
  refine St.call (v := .bool (fitG (cys cl) ss l)) (fun _ => rfl) (fun h2 hh => some_con h2 hh.gd lv cv sv v cl ss l (hc.cyV.vw hh) (hs.vw hh) (hv.vw hh) hl w hga) ?_
  by_cases hn : cl.length = 0
  · have e1 : cl = [] := List.length_eq_zero_iff.1 hn
    subst e1
    rw [show sortX (decTo ss l [] true ([] : List Cw).length) = [] by simp [decTo, sortX], ite_self]
    (refine St.assign ?_; refine WO.nil ?_; refine WK.seq ?_; refine WK.seq ?_; refine WK.region ?_; refine St.assign ?_; refine WO.nil ?_; refine WK.block ?_)
    refine WK.unroll ?_
    (refine WK.seq ?_; refine WK.seq ?_; refine WK.region ?_; refine St.move ?_; refine St.fieldAddr ?_; refine St.load ?_)
    refine St.lenV rfl hc.cyV.len ?_
    (refine St.bin ?_; refine St.move ?_; refine St.skip ?_; refine St.skip ?_; refine St.pickF ?_; refine WO.nil ?_; refine WK.condF ?_; refine WK.exit ?_; refine WK.seq ?_; refine WK.region ?_; refine St.move ?_; refine St.build ?_; refine St.store0 ?_; refine WO.nil ?_)
    refine St.ret (by first | exact .tmp .nil | exact .cell .nil | exact .cell (.tmp .nil) | exact .tmp (.tmp .nil) | exact .cell (.cell .nil) | exact .tmp (.cell .nil) | exact .nil | exact .tmp (.cell (.tmp .nil)) | exact .cell (.tmp (.tmp .nil)) | exact .cell (.cell (.tmp .nil)) | exact .tmp (.tmp (.tmp .nil)) | exact .cell (.cell (.cell .nil))) ?_
    exact ⟨[], List.nil_sublist _, .slice0, rfl, .inl ⟨rfl, rfl, rfl⟩⟩
  rcases hc with ⟨_, rfl⟩ | ⟨b, off, m, rfl, hm, hk⟩
  · simp at hn
  cases hf : fitG (cys cl) ss l with
  | true =>
    rw [if_pos rfl]
    (refine St.assign ?_; refine WO.nil ?_; refine WK.seq ?_; refine WK.seq ?_; refine WK.region ?_; refine St.assign ?_; refine WO.nil ?_; refine WK.block ?_)
    refine WK.unroll ?_
    (refine WK.seq ?_; refine WK.seq ?_; refine WK.region ?_; refine St.move ?_; refine St.fieldAddr ?_; refine St.load ?_; refine St.len ?_; refine St.bin ?_; refine St.move ?_)
    refine St.split (fun c1 => ?_) (fun c1 => ?_)
    · (refine St.move ?_; refine St.un ?_; refine St.pickT ?_; refine WO.nil ?_; refine WK.condF ?_; refine WK.exit ?_; refine WK.seq ?_; refine WK.region ?_; refine St.move ?_; refine St.build ?_; refine St.store0 ?_; refine WO.nil ?_)
      refine St.ret (by first | exact .tmp .nil | exact .cell .nil | exact .cell (.tmp .nil) | exact .tmp (.tmp .nil) | exact .cell (.cell .nil) | exact .tmp (.cell .nil) | exact .nil | exact .tmp (.cell (.tmp .nil)) | exact .cell (.tmp (.tmp .nil)) | exact .cell (.cell (.tmp .nil)) | exact .tmp (.tmp (.tmp .nil)) | exact .cell (.cell (.cell .nil))) ?_
      exact ⟨[], List.nil_sublist _, .slice0, rfl, .inl ⟨rfl, rfl, rfl⟩⟩
    · (refine St.skip ?_; refine St.skip ?_; refine St.pickF ?_; refine WO.nil ?_; refine WK.condF ?_; refine WK.exit ?_; refine WK.seq ?_; refine WK.region ?_; refine St.move ?_; refine St.build ?_; refine St.store0 ?_; refine WO.nil ?_)
      refine St.ret (by first | exact .tmp .nil | exact .cell .nil | exact .cell (.tmp .nil) | exact .tmp (.tmp .nil) | exact .cell (.cell .nil) | exact .tmp (.cell .nil) | exact .nil | exact .tmp (.cell (.tmp .nil)) | exact .cell (.tmp (.tmp .nil)) | exact .cell (.cell (.tmp .nil)) | exact .tmp (.tmp (.tmp .nil)) | exact .cell (.cell (.cell .nil))) ?_
      exact ⟨[], List.nil_sublist _, .slice0, rfl, .inl ⟨rfl, rfl, rfl⟩⟩
  | false =>
    rw [if_neg (by simp)]
    (refine St.assign ?_; refine WO.nil ?_; refine WK.seq ?_; refine WK.seq ?_; refine WK.region ?_; refine St.assign ?_; refine WO.nil ?_; refine WK.block ?_)
    refine WK.inv (ι := Nat × AV × Ob × List Int) (fun z => [(1, v), (2, .ptr p2 0), (4, .ptr p4 0), (5, .int .i64 0), (6, z.2.1), (7, .bool false), (8, .int .i64 z.1)]) (fun z => (p4, .cells [.slice0, .int .i64 0] 49) :: (p2, .cells [.int .i64 lv, .slice b off cl.length (.k m), sv] 25) :: z.2.2.1) (fun z => z.1 ≤ cl.length ∧ OwL z.2.1 z.2.2.1 z.2.2.2 ∧ z.2.2.2.Perm (decTo ss l cl true z.1) ∧ z.2.2.2.Pairwise (· ≤ ·)) (fun z => cl.length - z.1) (0, .slice0, [], []) ⟨Nat.zero_le _, .inl ⟨rfl, rfl, rfl⟩, List.Perm.refl _, List.Pairwise.nil⟩ ⟨rfl, rfl, rfl, rfl, rfl, rfl, rfl, trivial⟩ (by (repeat (first | exact List.Sublist.refl _ | exact List.nil_sublist _ | apply List.Sublist.cons_cons | apply List.Sublist.cons))) ?_
    rintro ⟨k, u, Lw, ys⟩ ⟨hkl, hw, hpm, hso⟩ ih
    simp only at hkl hw hpm hso ih ⊢
    have hlen : ys.length ≤ k := by
      have h1 := hpm.length_eq
      have h2 := decTo_len ss l cl true k
      omega
    (refine WK.seq ?_; refine WK.seq ?_; refine WK.region ?_; refine St.move ?_; refine St.fieldAddr ?_; refine St.load ?_; refine St.len ?_; refine St.bin ?_; refine St.move ?_)
    refine St.split (fun c1 => ?_) (fun c1 => ?_)
    · have hlt : k < cl.length := by simp at c1; omega
      have its2 : Its h (cl.eraseIdx k) := fun w hw => hk.its w ((List.eraseIdx_sublist ..).subset hw)
      (refine St.move ?_; refine St.un ?_; refine St.pickT ?_; refine WO.nil ?_; refine WK.condT ?_; refine WK.skip ?_; refine WK.seq ?_; refine WK.block ?_; refine WK.seq ?_; refine WK.region ?_; refine St.load ?_; refine St.move ?_)
      refine St.callR (fun _ => rfl) (fun h2 hh => less_con h2 hh.gd lv sv b off m k cl hs.ok (hk.vw hh) hm hlt (by omega)) ?_
      rintro u5 L5 ⟨w5, rfl, hw5⟩
      refine WO.permF (L' := (p4, .cells [.slice0, .int .i64 0] 49) :: (p2, .cells [.int .i64 lv, .slice b off cl.length (.k m), sv] 25) :: (Lw ++ L5)) ?_ ?_
      · show List.Perm ((p4, .cells [.slice0, .int .i64 0] 49) :: (p2, .cells [.int .i64 lv, .slice b off cl.length (.k m), sv] 25) :: (Lw ++ L5) : Ob) (L5 ++ (p4, .cells [.slice0, .int .i64 0] 49) :: (p2, .cells [.int .i64 lv, .slice b off cl.length (.k m), sv] 25) :: Lw)
        (refine perm_cnt fun _ _ => ?_; simp only [List.append_eq, List.cons_append, List.nil_append, List.count_append, List.count_cons, List.count_nil, Nat.add_zero, Nat.zero_add]; try ac_rfl)
      (refine St.move ?_)
      refine St.call (v := .bool (fitG (cys (cl.eraseIdx k)) ss l)) (fun _ => rfl) (fun h2 hh => some_con h2 hh.gd lv w5 sv v (cl.eraseIdx k) ss l (cy_v hw5 rfl (its2.vw hh) hh (fun x hx => by simp [hx])) (hs.vw hh) (hv.vw hh) (by omega) (w.less k) hga) ?_
      (refine St.assign ?_; refine WO.nil ?_; refine WK.seq ?_; refine WK.region ?_; refine St.move ?_; refine WO.nil ?_)
      refine St.splitC (fun c2 => ?_) (fun c2 => ?_)
      · have hsu : decTo ss l cl true (k + 1) = decTo ss l cl true k ++ [(nthW cl k).c.id] := by
          simp only [decTo]
          rw [if_pos (by simpa using c2)]
        (refine WK.region ?_; refine St.move ?_; refine St.fieldAddr ?_; refine St.load ?_; refine St.move ?_)
        refine St.at ?_
        (refine St.fieldAddr ?_)
        refine St.loadX (fun h2 hh => (Rds.head (cy_at (hk.vw hh) (z := (k : Int)) (n := k) (by omega) hlt)).one rfl) ?_
        skip
        refine St.callR (fun _ => rfl) (fun h2 hh => add_con h2 hh.gd u ys (nthW cl k).c.id (hw.owI hh (fun x hx => by simp [hx])) (by omega)) ?_
        rintro v' L' ⟨zs, j', hz, rfl, rfl⟩
        have hzl : zs.length = ys.length + 1 := by
          have := hz.perm.length_eq
          simpa using this
        (refine St.assign ?_; refine WO.nil ?_; refine WK.blk ?_; refine WK.region ?_; refine St.move ?_; refine St.binI ?_; refine St.assign ?_; refine WO.nil ?_)
        refine WK.perm (L' := (p4, .cells [.slice0, .int .i64 0] 49) :: (p2, .cells [.int .i64 lv, .slice b off cl.length (.k m), sv] 25) :: (j', .row (zs.map (AV.int .i64)) 3 1) :: (Lw ++ L5)) (by (refine perm_cnt fun _ _ => ?_; simp only [List.append_eq, List.cons_append, List.nil_append, List.count_append, List.count_cons, List.count_nil, Nat.add_zero, Nat.zero_add]; try ac_rfl)) ?_
        refine WK.le ?_ ?_ (ih (k + 1, .slice j' 0 (ys.length + 1) (.m 0), [(j', .row (zs.map (AV.int .i64)) 3 1)], zs) ⟨hlt, .inr ⟨j', by show AV.slice j' 0 (ys.length + 1) (.m 0) = .slice j' 0 zs.length (.m 0); rw [hzl], rfl, by show 0 < zs.length; omega⟩, ?_, hz.sorted hso⟩ (by simp only; omega))
        · exact ⟨rfl, rfl, rfl, rfl, rfl, rfl, rfl, trivial⟩
        · exact List.Sublist.cons_cons _ (List.Sublist.cons_cons _ (List.Sublist.cons_cons _ (List.nil_sublist _)))
        · simp only
          rw [hsu]
          exact hz.perm.trans (hpm.append_right _)
      · have hsu : decTo ss l cl true (k + 1) = decTo ss l cl true k := by
          simp only [decTo]
          rw [if_neg (by simpa using c2), List.append_nil]
        (refine WK.skip ?_; refine WK.blk ?_; refine WK.region ?_; refine St.move ?_; refine St.binI ?_; refine St.assign ?_; refine WO.nil ?_)
        refine WK.le ?_ ?_ (ih (k + 1, u, Lw, ys) ⟨hlt, hw, by simp only; rw [hsu]; exact hpm, hso⟩ (by simp only; omega))
        · exact ⟨rfl, rfl, rfl, rfl, rfl, rfl, rfl, trivial⟩
        · exact List.Sublist.cons_cons _ (List.Sublist.cons_cons _ (List.sublist_append_left _ _))
    · have : k = cl.length := by simp at c1; omega
      subst this
      rw [sort_eq hso hpm] at hw
      clear ih hso hpm
      generalize sortX (decTo ss l cl true cl.length) = zs at hw ⊢
      rcases hw with ⟨rfl, rfl, rfl⟩ | ⟨j9, rfl, rfl, hn9⟩
      · (refine St.skip ?_; refine St.skip ?_; refine St.pickF ?_; refine WO.nil ?_; refine WK.condF ?_; refine WK.exit ?_; refine WK.seq ?_; refine WK.region ?_; refine St.move ?_; refine St.build ?_; refine St.store0 ?_; refine WO.nil ?_)
        refine St.ret (by first | exact .tmp .nil | exact .cell .nil | exact .cell (.tmp .nil) | exact .tmp (.tmp .nil) | exact .cell (.cell .nil) | exact .tmp (.cell .nil) | exact .nil | exact .tmp (.cell (.tmp .nil)) | exact .cell (.tmp (.tmp .nil)) | exact .cell (.cell (.tmp .nil)) | exact .tmp (.tmp (.tmp .nil)) | exact .cell (.cell (.cell .nil))) ?_
        exact ⟨[], List.nil_sublist _, .slice0, rfl, .inl ⟨rfl, rfl, rfl⟩⟩
      · (refine St.skip ?_; refine St.skip ?_; refine St.pickF ?_; refine WO.nil ?_; refine WK.condF ?_; refine WK.exit ?_; refine WK.seq ?_; refine WK.region ?_; refine St.move ?_; refine St.build ?_; refine St.store0 ?_; refine WO.nil ?_)
        refine St.ret (by first | exact .tmp .nil | exact .cell .nil | exact .cell (.tmp .nil) | exact .tmp (.tmp .nil) | exact .cell (.cell .nil) | exact .tmp (.cell .nil) | exact .nil | exact .tmp (.cell (.tmp .nil)) | exact .cell (.tmp (.tmp .nil)) | exact .cell (.cell (.tmp .nil)) | exact .tmp (.tmp (.tmp .nil)) | exact .cell (.cell (.cell .nil))) ?_
        exact ⟨[(j9, .row (zs.map (AV.int .i64)) 3 1)], by simp, _, rfl, .inr ⟨j9, rfl, rfl, hn9⟩⟩
end Go.Proofs.YtgjkfmcjalcefaaGreat
