/- The minutes of a span, and what is added up in each of them: the iterator moments over the calculator's memory. -/
import Derived.Test.YtekpffjcffeanaaWb
namespace Go.Proofs.Ytekpffjcffeanaa
open Go.Proofs.Ytekpffjcffeanaa.Ev

/-- the rounds of a range: what they get, what they hand back -/
def Rnd (hb : Heap) (r : Nat) (q : ALoop) (n : Nat) (args : Nat → List AV) (I : Nat → Ob → Prop) (F : ALoop → Ob → Prop) : Prop :=
  ∀ k Lk h, k < n → I k Lk → Lent hb ((r, .loop q) :: Lk) h → ∃ v L', ConR Try.prog Bs r (args k) h (((r, AObj.loop q) :: Lk).map (·.1)) v L' ∧ ∃ b q' Lk', v = .bool b ∧ L' = (r, .loop q') :: Lk' ∧ (b = true → q' = q ∧ I (k + 1) Lk') ∧ (b = false → F q' Lk')
theorem read_all {l : List AV} {ty : TypeId} {n : Nat} (h : l.length = n) : (AObj.cells l ty).readN 0 n = some l := by
  subst h
  show takeN l.length (dropN 0 l) = some l
  rw [dropN_eq, List.drop_zero]
  exact takeN_all l
theorem load_arr {l : List AV} {ty : TypeId} (h : l.length = 7) : (AObj.cells l ty).load Try.prog 148 0 = some (.agg l) := by
  have e1 : isAggT Try.prog 148 = some true := by kernel_rfl
  have e2 : sizeT Try.prog 148 = some 7 := by kernel_rfl
  unfold AObj.load
  rw [e1, e2]
  simp only [read_all h, Option.map_some]
theorem overN_one {α : Type} {x : α} : ∀ {n : Nat} {l : List α}, n < l.length → overN n [x] l = some (l.set n x)
  | _, [], h => by simp at h
  | 0, y :: l, _ => by cases l <;> rfl
  | n + 1, y :: l, h => by
    simp only [overN, overN_one (n := n) (l := l) (by simpa using h), Option.map_some, List.set_cons_succ]
theorem store_int {l : List AV} {ty : TypeId} {x : Int} {off n : Nat} (ho : off = n) (h : n < l.length) : (AObj.cells l ty).store Try.prog 3 off (.int .i64 x) = some (.cells (l.set n (.int .i64 x)) ty) := by
  have e2 : sizeT Try.prog 3 = some 1 := by kernel_rfl
  subst ho
  unfold AObj.store
  rw [e2]
  simp [AV.cells, okCell, AObj.put, overN_one h]
theorem perm_st3 {α : Type} (C B A Y Z : List α) : (Y ++ (C ++ (B ++ (A ++ Z)))).Perm (C ++ (B ++ (A ++ (Y ++ Z)))) :=
  ((swapM C Y _).trans ((List.Perm.refl _))).symm.trans (List.Perm.append_left _ ((swapM B Y _).symm.trans (List.Perm.append_left _ (swapM A Y _).symm)))
theorem perm_j {α : Type} (j : α) (C L S : List α) : (C ++ (j :: (L ++ S))).Perm ((j :: S) ++ (C ++ L)) := by
  refine List.perm_middle.trans (List.Perm.cons _ ?_)
  rw [← List.append_assoc]
  exact List.perm_append_comm
theorem perm_mv {α : Type} (C L S : List α) (r : α) : ((r :: L) ++ (C ++ S)).Perm (r :: (C ++ (L ++ S))) := List.Perm.cons _ (swapM C L S).symm
theorem wat_all {lv lo hi : Int} {cl : List Cw} {ss : List Sh} (m : MinOk lv (cys cl) ss lo hi) : ∀ w ∈ cl, CyOk w.c := fun w hw => chkC_all m.w.cs w.c (List.mem_map.2 ⟨w, hw, rfl⟩)
set_option maxRecDepth 100000 in
set_option maxHeartbeats 32000000 in
theorem momentsY_con (hb h : Heap) (lv lo hi : Int) (cv sv : AV) (cl : List Cw) (ss : List Sh) (hc : CyV hb cv cl) (hs : ShV hb sv ss) (m : MinOk lv (cys cl) ss lo hi) (r jw js : Nat) (q : ALoop) (L0 : Ob) (I : Nat → Ob → Prop) (F : ALoop → Ob → Prop)
    (hl : Lent hb ((r, .loop q) :: (jw, .cells [.int .i64 lv, cv, sv] 25) :: (js, .cells [.int .i64 lo, .int .i64 hi] 37) :: L0) h) (hI : I 0 L0)
    (hr : Rnd hb r q (hi - lo + 1).toNat (fun k => [.int .i64 (lo + k), .agg ((addA (cys cl) ss (lo + k)).map (AV.int .i64))]) I F) :
    ∃ v L, Con Try.prog Bs 130 ([] ++ [.fn (.yield r) [] []] ++ [.ptr jw 0, .ptr js 0]) h (r :: jw :: js :: L0.map (·.1)) v L ∧ ∃ q' Ln, v = .tup [] ∧ L = (r, .loop q') :: Ln ∧ ((q' = q ∧ I (hi - lo + 1).toNat Ln) ∨ F q' Ln) := by
  have hWW := hl.ss.ltW
  have m1 := m.l1
  have m2 := m.le
  have m3 := m.h2
  have m4 := m.n
  have w := m.w
  have hn6 := w.n1
  rw [cys_len] at hn6
  have hnd := (chkC_nodup w.cs).1
  have hok := wat_all m
  have hnn : ((hi - lo + 1).toNat : Int) = hi - lo + 1 := by omega
  refine Con.pick (Con.startR rfl Try.func130 rfl rfl Try.ntmps130 rfl rfl hl.ss ?_)
  (refine WK.seq ?_; refine WK.region ?_; refine St.load ?_; refine St.fieldAddr ?_; refine St.load ?_)
  refine St.callR (fun _ => rfl) (fun h2 hh => steppers_con h2 hh.gd lv lo cv sv cl (hc.vw (hl.to hh)) hok hnd hn6 (by omega) (by omega)) ?_
  rintro u L' ⟨jm, ads, rfl, has, rfl⟩
  refine WO.permF (L' := (r, .loop q) :: (jw, .cells [.int .i64 lv, cv, sv] 25) :: (js, .cells [.int .i64 lo, .int .i64 hi] 37) :: (jm, .map (stE cl ads 0) cl.length) :: (L0 ++ stL cl ads lo)) ?_ ?_
  · exact perm_j _ [_, _, _] L0 (stL cl ads lo)
  (refine St.assign ?_; refine WO.nil ?_; refine WK.seq ?_; refine WK.region ?_; refine St.fieldAddr ?_; refine St.load ?_; refine St.assign ?_; refine WO.nil ?_; refine WK.block ?_)
  refine WK.inv (ι := Nat × Ob) (fun z => [(0, .fn (.yield r) [] []), (1, .ptr jw 0), (2, .ptr js 0), (4, .map jm), (5, .int .i64 (lo + (z.1 : Int)))]) (fun z => (r, .loop q) :: (jw, .cells [.int .i64 lv, cv, sv] 25) :: (js, .cells [.int .i64 lo, .int .i64 hi] 37) :: (jm, .map (stE cl ads 0) cl.length) :: (z.2 ++ stL cl ads (lo + (z.1 : Int)))) (fun z => z.1 ≤ (hi - lo + 1).toNat ∧ I z.1 z.2) (fun z => (hi - lo + 1).toNat - z.1) (0, L0) ⟨Nat.zero_le _, hI⟩ ⟨rfl, rfl, rfl, rfl, congrArg (fun z => some (AV.int .i64 z)) (by simp), trivial⟩ ?_ ?_
  · simp only [Int.natCast_zero, Int.add_zero]
    exact List.Sublist.refl _
  rintro ⟨k, Lk⟩ ⟨hkl, hIk⟩ ih
  simp only at hkl hIk ih ⊢
  (refine WK.seq ?_; refine WK.seq ?_; refine WK.region ?_; refine St.move ?_; refine St.fieldAddr ?_; refine St.load ?_; refine St.bin ?_; refine WO.nil ?_)
  refine St.splitC (fun hcc => ?_) (fun hcc => ?_)
  rotate_left
  · have : k = (hi - lo + 1).toNat := by simp at hcc; omega
    subst this
    (refine WK.exit ?_)
    refine St.fin .nil ?_
    refine ⟨(r, .loop q) :: Lk, (jw, .cells [.int .i64 lv, cv, sv] 25) :: (js, .cells [.int .i64 lo, .int .i64 hi] 37) :: (jm, .map (stE cl ads 0) cl.length) :: stL cl ads (lo + ((hi - lo + 1).toNat : Int)), ?_, q, Lk, rfl, rfl, .inl ⟨rfl, hIk⟩⟩
    exact perm_mv [_, _, _] Lk _ _
  have hlt : k < (hi - lo + 1).toNat := by simp at hcc; omega
  have ht0 : 0 ≤ lo + (k : Int) := by omega
  have ht1 : lo + (k : Int) ≤ 1048576 := by simp at hcc; omega
  (refine WK.skip ?_; refine WK.seq ?_; refine WK.block ?_; refine WK.seq ?_; refine WK.region ?_; refine St.load ?_; refine St.move ?_)
  refine St.call (fun _ => rfl) (fun h2 hh => correction_con h2 hh.gd lv (lo + (k : Int)) cv sv ss (hs.vw (hl.to hh)) w.n2 ht0 ht1) ?_
  (refine St.build ?_; refine St.alloc fun _ _ => ?_; refine St.store0 ?_; refine WO.nil ?_; refine WK.seq ?_; refine WK.seq ?_; refine WK.region ?_; refine St.fieldAddr ?_; refine St.load ?_)
  rename_i ja hja
  refine St.lenV rfl hc.len ?_
  (refine St.move ?_; refine WO.nil ?_; refine WK.block ?_)
  refine WK.inv (ι := Nat) (fun i => [(0, .fn (.yield r) [] []), (1, .ptr jw 0), (2, .ptr js 0), (4, .map jm), (5, .int .i64 (lo + (k : Int))), (6, .ptr ja 0), (26, cv), (27, .int .i64 cl.length), (28, .int .i64 i)]) (fun i => (ja, .cells ((addK (cys cl) ss (lo + (k : Int)) i).map (AV.int .i64)) 148) :: (r, .loop q) :: (jw, .cells [.int .i64 lv, cv, sv] 25) :: (js, .cells [.int .i64 lo, .int .i64 hi] 37) :: (jm, .map (stE cl ads 0) cl.length) :: (Lk ++ (stL (cl.take i) (ads.take i) (lo + (k : Int) + 1) ++ stL (cl.drop i) (ads.drop i) (lo + (k : Int))))) (fun i => i ≤ cl.length) (fun i => cl.length - i) 0 (Nat.zero_le _) ⟨rfl, rfl, rfl, rfl, rfl, rfl, rfl, rfl, rfl, trivial⟩ (List.Sublist.refl _) ?_
  intro i hil ih2
  (refine WK.seq ?_; refine WK.region ?_; refine St.bin ?_; refine WO.nil ?_; refine WK.seq ?_)
  refine St.splitC (fun hc3 => ?_) (fun hc3 => ?_)
  · have hlt2 : i < cl.length := by simp at hc3; omega
    have hlt3 : i < ads.length := by omega
    have hck := hok (nthW cl i) (by rw [nthW_eq hlt2]; exact List.getElem_mem hlt2)
    have hset := addK_set (ss := ss) (t := lo + (k : Int)) (show i < (cys cl).length by rw [cys_len]; exact hlt2) (by rw [cys_len]; exact hn6)
    have hkl2 := addK_len (cs := cys cl) (ss := ss) (t := lo + (k : Int)) (k := i) (by rw [cys_len]; exact hil) (by omega)
    rw [cys_nth hlt2] at hset
    have edrop : stL (cl.drop i) (ads.drop i) (lo + (k : Int)) = stO (nthW cl i) (lo + (k : Int)) ads[i] ++ stL (cl.drop (i + 1)) (ads.drop (i + 1)) (lo + (k : Int)) := by
      rw [List.drop_eq_getElem_cons hlt2, List.drop_eq_getElem_cons hlt3, nthW_eq hlt2]
      rfl
    have etake : stL (cl.take (i + 1)) (ads.take (i + 1)) (lo + (k : Int) + 1) = stL (cl.take i) (ads.take i) (lo + (k : Int) + 1) ++ stO (nthW cl i) (lo + (k : Int) + 1) ads[i] := by
      rw [List.take_succ_eq_append_getElem hlt2, List.take_succ_eq_append_getElem hlt3, stL_snoc _ _ _ _ _ (by rw [List.length_take, List.length_take]; omega), nthW_eq hlt2]
    obtain ⟨b, off, c, rfl, hk⟩ := hc.ne (by omega)
    have hit := (hk i hlt2).2
    (refine WK.skip ?_; refine WK.seq ?_; refine WK.block ?_; refine WK.seq ?_; refine WK.region ?_; refine St.move ?_)
    refine St.at ?_
    refine St.loadX (fun h2 hh => ((hk.vw (hl.to hh)).at_ (z := (i : Int)) (n := i) (by omega) hlt2).agg (by simp) rfl rfl rfl) ?_
    (refine St.alloc fun _ _ => ?_; refine St.assign ?_)
    refine St.store0 (hv := store4 rfl rfl rfl rfl hit.ok) ?_
    (refine WO.nil ?_; refine WK.region ?_; refine St.move ?_; refine St.binI ?_; refine St.move ?_; refine St.fieldAddr ?_; refine St.load ?_)
    rename_i x hx
    refine St.lookupV (v := stF ads[i]) (fun h2 hh => ?_) ?_
    · show plainV (evLookup Try.prog h2 167 (.map jm) (.int .i64 (nthW cl i).c.id) false) h2 = _
      rw [nthW_eq hlt2, look_st (hh.own (jm, .map (stE cl ads 0) cl.length) (by simp)).1 hlt2 hlt3 hnd]
      rfl
    have hperm := perm_st3 [(x, AObj.cells [.int .i64 (nthW cl i).c.id, .int .i64 (nthW cl i).c.bg, .int .i64 (nthW cl i).c.ev, (nthW cl i).v] 28), (ja, .cells ((addK (cys cl) ss (lo + (k : Int)) i).map (AV.int .i64)) 148), (r, .loop q), (jw, .cells [.int .i64 lv, .slice b off cl.length c, sv] 25), (js, .cells [.int .i64 lo, .int .i64 hi] 37), (jm, .map (stE cl ads 0) cl.length)] Lk (stL (cl.take i) (ads.take i) (lo + (k : Int) + 1)) (stO (nthW cl i) (lo + (k : Int)) ads[i]) (stL (cl.drop (i + 1)) (ads.drop (i + 1)) (lo + (k : Int)))
    refine St.callW (Lw := stO (nthW cl i) (lo + (k : Int)) ads[i]) (Lk := [(x, AObj.cells [.int .i64 (nthW cl i).c.id, .int .i64 (nthW cl i).c.bg, .int .i64 (nthW cl i).c.ev, (nthW cl i).v] 28), (ja, .cells ((addK (cys cl) ss (lo + (k : Int)) i).map (AV.int .i64)) 148), (r, .loop q), (jw, .cells [.int .i64 lv, .slice b off cl.length c, sv] 25), (js, .cells [.int .i64 lo, .int .i64 hi] 37), (jm, .map (stE cl ads 0) cl.length)] ++ (Lk ++ (stL (cl.take i) (ads.take i) (lo + (k : Int) + 1) ++ stL (cl.drop (i + 1)) (ads.drop (i + 1)) (lo + (k : Int))))) (L' := stO (nthW cl i) (lo + (k : Int) + 1) ads[i]) (v := .int .i64 (valC (nthW cl i).c (lo + (k : Int)))) (W' := (stO (nthW cl i) (lo + (k : Int)) ads[i]).map (·.1)) (fun _ => rfl) (fun h2 hh => stepF_con hb h2 (nthW cl i) (lo + (k : Int)) ads[i] hit hck (hl.next hh (by rw [edrop]; exact hperm))) (by rw [edrop]; exact hperm) rfl ?_
    (refine St.atA ?_)
    refine WO.permF (L' := (ja, .cells ((addK (cys cl) ss (lo + (k : Int)) i).map (AV.int .i64)) 148) :: (x, AObj.cells [.int .i64 (nthW cl i).c.id, .int .i64 (nthW cl i).c.bg, .int .i64 (nthW cl i).c.ev, (nthW cl i).v] 28) :: (r, .loop q) :: (jw, .cells [.int .i64 lv, .slice b off cl.length c, sv] 25) :: (js, .cells [.int .i64 lo, .int .i64 hi] 37) :: (jm, .map (stE cl ads 0) cl.length) :: (Lk ++ (stL (cl.take (i + 1)) (ads.take (i + 1)) (lo + (k : Int) + 1) ++ stL (cl.drop (i + 1)) (ads.drop (i + 1)) (lo + (k : Int))))) ?_ ?_
    · rw [etake, List.append_assoc]
      exact (List.Perm.swap _ _ _).trans (perm_st3 [_, _, _, _, _, _] _ _ _ _).symm
    refine St.store0 (hv := store_int (off := 0 + ((i : Int) + 1).toNat * 1) (n := i + 1) (by omega) (by rw [List.length_map, hkl2]; omega)) ?_
    (refine WO.nil ?_; refine WK.blk ?_; refine WK.region ?_; refine St.binI ?_; refine St.move ?_; refine WO.nil ?_)
    rw [← List.map_set, hset]
    refine WK.le ?_ (by (repeat (first | exact List.Sublist.refl _ | exact List.nil_sublist _ | apply List.Sublist.cons_cons | apply List.Sublist.cons))) (ih2 (i + 1) hlt2 (by omega))
    exact ⟨rfl, rfl, rfl, rfl, rfl, rfl, rfl, rfl, rfl, trivial⟩
  · have : i = cl.length := by simp at hc3; omega
    subst this
    have hal := addK_len (cs := cys cl) (ss := ss) (t := lo + (k : Int)) (k := cl.length) (by rw [cys_len]; exact Nat.le_refl _) (by omega)
    have heq : addK (cys cl) ss (lo + (k : Int)) cl.length = addA (cys cl) ss (lo + (k : Int)) := by unfold addA; rw [cys_len]
    rw [heq] at hal ⊢
    have e1 : stL (cl.take cl.length) (ads.take cl.length) (lo + (k : Int) + 1) ++ stL (cl.drop cl.length) (ads.drop cl.length) (lo + (k : Int)) = stL cl ads (lo + ((k + 1 : Nat) : Int)) := by
      rw [List.take_length, List.take_of_length_le (by omega), List.drop_length, show lo + ((k + 1 : Nat) : Int) = lo + (k : Int) + 1 by omega]
      exact List.append_nil _
    rw [e1]
    (refine WK.exit ?_; refine WK.seq ?_; refine WK.region ?_; refine St.move ?_; refine St.move ?_)
    refine St.load (hv := load_arr (by rw [List.length_map]; exact hal)) ?_
    have hpm : ∀ (q : ALoop) (Lk : Ob), (((r, AObj.loop q) :: Lk) ++ ((ja, .cells ((addA (cys cl) ss (lo + (k : Int))).map (AV.int .i64)) 148) :: (jw, .cells [.int .i64 lv, cv, sv] 25) :: (js, .cells [.int .i64 lo, .int .i64 hi] 37) :: (jm, .map (stE cl ads 0) cl.length) :: stL cl ads (lo + ((k + 1 : Nat) : Int)))).Perm ((ja, .cells ((addA (cys cl) ss (lo + (k : Int))).map (AV.int .i64)) 148) :: (r, AObj.loop q) :: (jw, .cells [.int .i64 lv, cv, sv] 25) :: (js, .cells [.int .i64 lo, .int .i64 hi] 37) :: (jm, .map (stE cl ads 0) cl.length) :: (Lk ++ stL cl ads (lo + ((k + 1 : Nat) : Int)))) := fun q Lk => (perm_mv [_, _, _, _] Lk _ _).trans (List.Perm.swap _ _ _)
    refine St.roundR (Lw := (r, .loop q) :: Lk) (Lk := (ja, .cells ((addA (cys cl) ss (lo + (k : Int))).map (AV.int .i64)) 148) :: (jw, .cells [.int .i64 lv, cv, sv] 25) :: (js, .cells [.int .i64 lo, .int .i64 hi] 37) :: (jm, .map (stE cl ads 0) cl.length) :: stL cl ads (lo + ((k + 1 : Nat) : Int))) (fun _ => rfl) (fun h2 hh => hr k Lk h2 hlt hIk (hl.next hh (hpm q Lk))) (hpm q Lk) rfl ?_
    rintro v L' ⟨b, q', Lk', rfl, rfl, g1, g2⟩
    (refine St.un ?_; refine WO.nil ?_)
    refine St.splitC (fun hc4 => ?_) (fun hc4 => ?_)
    · have hbf : b = false := by simpa using hc4
      skip
      refine St.ret (by first | exact .tmp .nil | exact .cell .nil | exact .cell (.tmp .nil) | exact .tmp (.tmp .nil) | exact .cell (.cell .nil) | exact .tmp (.cell .nil) | exact .nil | exact .tmp (.cell (.tmp .nil)) | exact .cell (.tmp (.tmp .nil)) | exact .cell (.cell (.tmp .nil)) | exact .tmp (.tmp (.tmp .nil)) | exact .cell (.cell (.cell .nil))) ?_
      exact ⟨(r, .loop q') :: Lk', _, List.Perm.refl _, q', Lk', rfl, rfl, .inr (g2 hbf)⟩
    · have hbt : b = true := by simpa using hc4
      obtain ⟨rfl, hI2⟩ := g1 hbt
      (refine WK.skip ?_; refine WK.blk ?_; refine WK.region ?_; refine St.move ?_; refine St.binI ?_; refine St.assign ?_; refine WO.nil ?_)
      refine WK.perm (L' := (r, .loop q') :: (jw, .cells [.int .i64 lv, cv, sv] 25) :: (js, .cells [.int .i64 lo, .int .i64 hi] 37) :: (jm, .map (stE cl ads 0) cl.length) :: ((Lk' ++ stL cl ads (lo + ((k + 1 : Nat) : Int))) ++ [(ja, .cells ((addA (cys cl) ss (lo + (k : Int))).map (AV.int .i64)) 148)])) ?_ ?_
      · exact (List.perm_append_singleton _ ((r, AObj.loop q') :: (jw, .cells [.int .i64 lv, cv, sv] 25) :: (js, .cells [.int .i64 lo, .int .i64 hi] 37) :: (jm, .map (stE cl ads 0) cl.length) :: (Lk' ++ stL cl ads (lo + ((k + 1 : Nat) : Int))))).trans (hpm q' Lk').symm
      refine WK.le ?_ ?_ (ih (k + 1, Lk') ⟨hlt, hI2⟩ (by simp only; omega))
      · exact ⟨rfl, rfl, rfl, rfl, congrArg (fun z => some (AV.int .i64 z)) (by omega), trivial⟩
      · exact List.Sublist.cons_cons _ (List.Sublist.cons_cons _ (List.Sublist.cons_cons _ (List.Sublist.cons_cons _ (List.sublist_append_left _ _))))
end Go.Proofs.Ytekpffjcffeanaa
