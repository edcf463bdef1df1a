/- Both and Least over the calculator's memory. -/
import Derived.Test.YtcaemeedmnpdjaaMo
namespace Go.Proofs.Ytcaemeedmnpdjaa
open Go.Proofs.Ytcaemeedmnpdjaa.Ev

/-- a list of curves, perhaps nil -/
def CvV (h : Heap) (lv : AV) (l : List Cv) : Prop := (lv = .slice0 ∧ l = []) ∨ ∃ b off c, lv = .slice b off l.length c ∧ CvH h b off l
theorem CvV.vw {h0 h : Heap} {V : Ob} {lv l} (k : CvV h0 lv l) (hh : Vw h0 [] V h) : CvV h lv l := by
  rcases k with ⟨h1, h2⟩ | ⟨b, off, c, h1, h2⟩
  · exact .inl ⟨h1, h2⟩
  · exact .inr ⟨b, off, c, h1, h2.vw hh⟩
theorem CvV.ne {h : Heap} {lv l} (k : CvV h lv l) (hne : 0 < l.length) : ∃ b off c, lv = .slice b off l.length c ∧ CvH h b off l := by
  rcases k with ⟨_, rfl⟩ | h1
  · simp at hne
  · exact h1
set_option maxRecDepth 100000 in
theorem checkLV_con (h : Heap) (g : Gd h) (lv : AV) (l : List Cv) (hl : l.length ≤ 1000000) (hk : CvV h lv l) : Con Try.prog Bs 97 [lv] h [] (.int .i64 (chkL (l.map Cv.c))) [] := by
  rcases hk with ⟨rfl, rfl⟩ | ⟨b, off, c, rfl, hk⟩
  · refine Con.start rfl Try.func97 rfl rfl Try.ntmps97 rfl rfl g ?_
    (refine WK.seq ?_; refine WK.region ?_; refine St.assign ?_; refine WO.nil ?_; refine WK.seq ?_; refine WK.seq ?_; refine WK.region ?_; refine St.move ?_; refine St.len0 ?_; refine St.move ?_; refine WO.nil ?_; refine WK.block ?_)
    refine WK.unroll ?_
    (refine WK.seq ?_; refine WK.region ?_; refine St.bin ?_; refine WO.nil ?_; refine WK.seq ?_; refine WK.condF ?_; refine WK.exit ?_; refine WK.seq ?_; refine WK.region ?_; refine St.assign ?_; refine WO.nil ?_)
    refine St.ret (by first | exact .tmp .nil | exact .cell .nil | exact .cell (.tmp .nil) | exact .tmp (.tmp .nil) | exact .cell (.cell .nil) | exact .tmp (.cell .nil) | exact .nil | exact .tmp (.cell (.tmp .nil)) | exact .cell (.tmp (.tmp .nil)) | exact .cell (.cell (.tmp .nil)) | exact .tmp (.tmp (.tmp .nil)) | exact .cell (.cell (.cell .nil))) ?_
    rfl
  · exact checkL_con h g b off c l hl hk
set_option maxRecDepth 100000 in
theorem checkOnV_con (h : Heap) (g : Gd h) (lv : AV) (l : List Cv) (lo hi : Int) (hl : l.length ≤ 1000000) (hk : CvV h lv l) (hv : ∀ i (hi : i < l.length), Vd l[i].ks l[i].err) (hlh : lo ≤ hi) : Con Try.prog Bs 73 [.agg [.int .i64 lo, .int .i64 hi], lv] h [] (.int .i64 (chkOn (l.map Cv.c) lo hi)) [] := by
  rcases hk with ⟨rfl, rfl⟩ | ⟨b, off, c, rfl, hk⟩
  · refine Con.start rfl Try.func73 rfl rfl Try.ntmps73 rfl rfl g ?_
    (refine WK.seq ?_; refine WK.region ?_; refine St.box fun _ _ => ?_; refine St.assign ?_; refine WO.nil ?_; refine WK.seq ?_; refine WK.seq ?_; refine WK.region ?_; refine St.load ?_)
    refine St.call (v := .bool true) (fun _ => rfl) (fun h hh => by
      have := isSpan_con h hh.gd lo hi
      rw [decide_eq_true hlh] at this
      exact this) ?_
    (refine St.un ?_; refine WO.nil ?_; refine WK.condF ?_; refine WK.skip ?_; refine WK.seq ?_; refine WK.seq ?_; refine WK.region ?_; refine St.move ?_; refine St.len0 ?_; refine St.move ?_; refine WO.nil ?_; refine WK.block ?_)
    refine WK.unroll ?_
    (refine WK.seq ?_; refine WK.region ?_; refine St.bin ?_; refine WO.nil ?_; refine WK.seq ?_; refine WK.condF ?_; refine WK.exit ?_; refine WK.seq ?_; refine WK.region ?_; refine St.assign ?_; refine WO.nil ?_)
    refine St.ret (by first | exact .tmp .nil | exact .cell .nil | exact .cell (.tmp .nil) | exact .tmp (.tmp .nil) | exact .cell (.cell .nil) | exact .tmp (.cell .nil) | exact .nil | exact .tmp (.cell (.tmp .nil)) | exact .cell (.tmp (.tmp .nil)) | exact .cell (.cell (.tmp .nil)) | exact .tmp (.tmp (.tmp .nil)) | exact .cell (.cell (.cell .nil))) ?_
    simp [oneOf, chkOn, covL]; omega
  · exact checkOn_con h g b off c l lo hi hl hk hv
set_option maxRecDepth 100000 in
theorem checkAtV_con (h : Heap) (g : Gd h) (lv : AV) (l : List Cv) (x : Int) (hl : l.length ≤ 1000000) (hk : CvV h lv l) (hv : ∀ i (hi : i < l.length), Vd l[i].ks l[i].err) : Con Try.prog Bs 66 [.int .i64 x, lv] h [] (.int .i64 (chkOn (l.map Cv.c) x x)) [] := by
  refine Con.start rfl Try.func66 rfl rfl Try.ntmps66 rfl rfl g ?_
  (refine WK.seq ?_; refine WK.region ?_; refine St.assign ?_; refine WO.nil ?_; refine WK.seq ?_; refine WK.region ?_; refine St.move ?_; refine St.move ?_; refine St.build ?_; refine St.move ?_)
  refine St.call (fun _ => rfl) (fun h hh => checkOnV_con h hh.gd lv l x x hl (hk.vw hh) hv (by omega)) ?_
  (refine St.assign ?_; refine WO.nil ?_)
  refine St.ret (by first | exact .tmp .nil | exact .cell .nil | exact .cell (.tmp .nil) | exact .tmp (.tmp .nil) | exact .cell (.cell .nil) | exact .tmp (.cell .nil) | exact .nil | exact .tmp (.cell (.tmp .nil)) | exact .cell (.tmp (.tmp .nil)) | exact .cell (.cell (.tmp .nil)) | exact .tmp (.tmp (.tmp .nil)) | exact .cell (.cell (.cell .nil))) ?_
  rfl
set_option maxRecDepth 100000 in
theorem checkSheaf_con (h : Heap) (g : Gd h) (lv : AV) (l : List Cv) (hl : l.length ≤ 1000000) (hk : CvV h lv l) : Con Try.prog Bs 91 [lv] h [] (.int .i64 (chkSheaf (l.map Cv.c))) [] := by
  rcases hk with ⟨rfl, rfl⟩ | ⟨b, off, c, rfl, hk⟩
  · refine Con.start rfl Try.func91 rfl rfl Try.ntmps91 rfl rfl g ?_
    (refine WK.seq ?_; refine WK.region ?_; refine St.assign ?_; refine WO.nil ?_; refine WK.seq ?_; refine WK.seq ?_; refine WK.region ?_; refine St.move ?_; refine St.len0 ?_; refine St.bin ?_; refine WO.nil ?_; refine WK.condF ?_; refine WK.skip ?_; refine WK.seq ?_; refine WK.region ?_; refine St.move ?_)
    refine St.call (fun _ => rfl) (fun h hh => checkLV_con h hh.gd .slice0 [] (by simp) (.inl ⟨rfl, rfl⟩)) ?_
    (refine St.assign ?_; refine WO.nil ?_)
    refine St.ret (by first | exact .tmp .nil | exact .cell .nil | exact .cell (.tmp .nil) | exact .tmp (.tmp .nil) | exact .cell (.cell .nil) | exact .tmp (.cell .nil) | exact .nil | exact .tmp (.cell (.tmp .nil)) | exact .cell (.tmp (.tmp .nil)) | exact .cell (.cell (.tmp .nil)) | exact .tmp (.tmp (.tmp .nil)) | exact .cell (.cell (.cell .nil))) ?_
    rfl
  · refine Con.start rfl Try.func91 rfl rfl Try.ntmps91 rfl rfl g ?_
    (refine WK.seq ?_; refine WK.region ?_; refine St.assign ?_; refine WO.nil ?_; refine WK.seq ?_; refine WK.seq ?_; refine WK.region ?_; refine St.move ?_; refine St.len ?_; refine St.bin ?_; refine WO.nil ?_)
    refine St.splitC (fun hc => ?_) (fun hc => ?_)
    · (refine WK.seq ?_; refine WK.region ?_; refine St.assign ?_; refine WO.nil ?_)
      refine St.ret (by first | exact .tmp .nil | exact .cell .nil | exact .cell (.tmp .nil) | exact .tmp (.tmp .nil) | exact .cell (.cell .nil) | exact .tmp (.cell .nil) | exact .nil | exact .tmp (.cell (.tmp .nil)) | exact .cell (.tmp (.tmp .nil)) | exact .cell (.cell (.tmp .nil)) | exact .tmp (.tmp (.tmp .nil)) | exact .cell (.cell (.cell .nil))) ?_
      have : 12 < l.length := by simp at hc; omega
      simp [oneOf, chkSheaf, this]
    · (refine WK.skip ?_; refine WK.seq ?_; refine WK.region ?_; refine St.move ?_)
      refine St.call (fun _ => rfl) (fun h hh => checkL_con h hh.gd b off c l hl (hk.vw hh)) ?_
      (refine St.assign ?_; refine WO.nil ?_)
      refine St.ret (by first | exact .tmp .nil | exact .cell .nil | exact .cell (.tmp .nil) | exact .tmp (.tmp .nil) | exact .cell (.cell .nil) | exact .tmp (.cell .nil) | exact .nil | exact .tmp (.cell (.tmp .nil)) | exact .cell (.tmp (.tmp .nil)) | exact .cell (.cell (.tmp .nil)) | exact .tmp (.tmp (.tmp .nil)) | exact .cell (.cell (.cell .nil))) ?_
      have : ¬ 12 < l.length := by simp at hc; omega
      simp [oneOf, chkSheaf, this]

/-- the error of some curves and an integer -/
def sheafErr (l : List Cur) (x : Int) : Int := if chkSheaf l ≠ 0 then chkSheaf l else if chkOn l x x ≠ 0 then chkOn l x x else if l.length = 0 then 5 else 0
theorem vd_of_sheaf {l : List Cv} (h : chkSheaf (l.map Cv.c) = 0) : l.length ≤ 12 ∧ ∀ i (hi : i < l.length), Vd l[i].ks l[i].err := by
  unfold chkSheaf at h
  split at h
  · cases h
  · rename_i h1
    refine ⟨by simpa using h1, fun i hi => ?_⟩
    have := vd_of_chkL h i (by simpa using hi)
    rw [List.getElem_map] at this
    exact this
theorem sheaf_dom {l : List Cv} {x : Int} (h : chkOn (l.map Cv.c) x x = 0) : ∀ i (hi : i < l.length), inDom l[i].ks x x = true := fun i hi => by
  unfold chkOn at h
  rw [if_neg (by omega)] at h
  split at h
  · rename_i h1
    unfold covL at h1
    rw [List.all_eq_true] at h1
    exact h1 (Cv.c l[i]) (List.mem_map.2 ⟨l[i], List.getElem_mem hi, rfl⟩)
  · cases h

/-! the first best one, of things that are compared by a part of them -/
theorem best_map {α β : Type} (lt : β → β → Bool) (p : α → β) (d : α) (l : List α) : ∀ k, bestIx (fun a b => lt (p a) (p b)) d l k = bestIx lt (p d) (l.map p) k
  | 0 => rfl
  | k + 1 => by
    have e : ∀ i, (l.map p)[i]?.getD (p d) = p (l[i]?.getD d) := fun i => by
      rw [List.getElem?_map]
      cases l[i]? <;> rfl
    unfold bestIx
    rw [best_map lt p d l k, e, e]
abbrev EnT := (Int × Int) × (Int × Int)
def enA (x : EnT) : AV := .agg [.int .i64 x.1.1, .int .i64 x.1.2, .int .i64 x.2.1, .int .i64 x.2.2]
def flatE (l : List EnT) : List AV := l.flatMap fun f => [AV.int .i64 f.1.1, AV.int .i64 f.1.2, AV.int .i64 f.2.1, AV.int .i64 f.2.2]
theorem flatE_len : ∀ (l : List EnT), (flatE l).length = l.length * 4
  | [] => rfl
  | f :: l => by have := flatE_len l; simp [flatE] at this ⊢; omega
theorem flatE_snoc (l : List EnT) (f : EnT) : flatE (l ++ [f]) = flatE l ++ [AV.int .i64 f.1.1, AV.int .i64 f.1.2, AV.int .i64 f.2.1, AV.int .i64 f.2.2] := by simp [flatE]
theorem flatE_get : ∀ (l : List EnT) (i : Nat) (h : i < l.length), (flatE l)[i * 4]? = some (.int .i64 l[i].1.1) ∧ (flatE l)[i * 4 + 1]? = some (.int .i64 l[i].1.2) ∧ (flatE l)[i * 4 + 1 + 1]? = some (.int .i64 l[i].2.1) ∧ (flatE l)[i * 4 + 1 + 1 + 1]? = some (.int .i64 l[i].2.2)
  | [], i, h => by simp at h
  | f :: l, 0, _ => by simp [flatE]
  | f :: l, i + 1, h => by
    have h1 := flatE_get l i (by simpa using h)
    have e : flatE (f :: l) = AV.int .i64 f.1.1 :: AV.int .i64 f.1.2 :: AV.int .i64 f.2.1 :: AV.int .i64 f.2.2 :: flatE l := by simp [flatE]
    rw [e, show (i + 1) * 4 = i * 4 + 1 + 1 + 1 + 1 by omega]
    simpa using h1
/-- both ends in memory -/
def EnH (h : Heap) (b off : Nat) (es : List EnT) : Prop := ∀ i (hi : i < es.length), Rds h b (off + i * 4) [.int .i64 es[i].1.1, .int .i64 es[i].1.2, .int .i64 es[i].2.1, .int .i64 es[i].2.2]
theorem EnH.vw {h0 h : Heap} {V : Ob} {b off l} (k : EnH h0 b off l) (hh : Vw h0 [] V h) : EnH h b off l := fun i hi => hh.rds (by simp) (k i hi)
def enAt (es : List EnT) (i : Nat) : EnT := es[i]?.getD ((0, 0), (0, 0))
theorem EnH.at_ {h : Heap} {b off es} (k : EnH h b off es) {z : Int} {n : Nat} (e : z.toNat = n) (hi : n < es.length) : Rds h b (off + z.toNat * 4) [.int .i64 (enAt es n).1.1, .int .i64 (enAt es n).1.2, .int .i64 (enAt es n).2.1, .int .i64 (enAt es n).2.2] := by
  subst e
  unfold enAt
  rw [List.getElem?_eq_getElem hi]
  exact k _ hi
theorem Ev.Vw.ens {h0 h : Heap} {W : List Nat} {V : Ob} {j : Nat} {o : AObj} {es : List EnT} (k : Vw h0 W V h) (hm : (j, o) ∈ V) (hl : o.has (flatE es)) : EnH h j 0 es := fun i hi => by
  rw [Nat.zero_add]
  obtain ⟨a, b, c, d⟩ := flatE_get es i hi
  exact ⟨k.rdL hm hl a, k.rdL hm hl b, k.rdL hm hl c, k.rdL hm hl d, trivial⟩
structure EnOk (x : EnT) : Prop where
  l : Small x.1.1 x.1.2
  h : Small x.2.1 x.2.2
set_option maxRecDepth 100000 in
theorem both1_con (h : Heap) (g : Gd h) (x y : EnT) (hx : EnOk x) (hy : EnOk y) : Con Try.prog Bs 93 ([] ++ [enA x, enA y] ++ []) h [] (.bool (moreF x.1 y.1)) [] := by
  refine Con.start rfl Try.func93 rfl rfl Try.ntmps93 rfl rfl g ?_
  (refine WK.seq ?_; refine WK.region ?_; refine St.box fun _ _ => ?_; refine St.box fun _ _ => ?_; refine St.assign ?_; refine WO.nil ?_; refine WK.seq ?_; refine WK.region ?_; refine St.atA ?_; refine St.load ?_; refine St.atA ?_; refine St.load ?_)
  refine St.call (fun _ => rfl) (fun h hh => isMore_con h hh.gd x.1.1 x.1.2 y.1.1 y.1.2 hx.l hy.l) ?_
  (refine St.assign ?_; refine WO.nil ?_)
  refine St.ret (by first | exact .tmp .nil | exact .cell .nil | exact .cell (.tmp .nil) | exact .tmp (.tmp .nil) | exact .cell (.cell .nil) | exact .tmp (.cell .nil) | exact .nil | exact .tmp (.cell (.tmp .nil)) | exact .cell (.tmp (.tmp .nil)) | exact .cell (.cell (.tmp .nil)) | exact .tmp (.tmp (.tmp .nil)) | exact .cell (.cell (.cell .nil))) ?_
  rfl
set_option maxRecDepth 100000 in
theorem both2_con (h : Heap) (g : Gd h) (x y : EnT) (hx : EnOk x) (hy : EnOk y) : Con Try.prog Bs 94 ([] ++ [enA x, enA y] ++ []) h [] (.bool (lessF x.2 y.2)) [] := by
  refine Con.start rfl Try.func94 rfl rfl Try.ntmps94 rfl rfl g ?_
  (refine WK.seq ?_; refine WK.region ?_; refine St.box fun _ _ => ?_; refine St.box fun _ _ => ?_; refine St.assign ?_; refine WO.nil ?_; refine WK.seq ?_; refine WK.region ?_; refine St.atA ?_; refine St.load ?_; refine St.atA ?_; refine St.load ?_)
  refine St.call (fun _ => rfl) (fun h hh => isLess_con h hh.gd x.2.1 x.2.2 y.2.1 y.2.2 hx.h hy.h) ?_
  (refine St.assign ?_; refine WO.nil ?_)
  refine St.ret (by first | exact .tmp .nil | exact .cell .nil | exact .cell (.tmp .nil) | exact .tmp (.tmp .nil) | exact .cell (.cell .nil) | exact .tmp (.cell .nil) | exact .nil | exact .tmp (.cell (.tmp .nil)) | exact .cell (.tmp (.tmp .nil)) | exact .cell (.cell (.tmp .nil)) | exact .tmp (.tmp (.tmp .nil)) | exact .cell (.cell (.cell .nil))) ?_
  rfl
set_option maxRecDepth 100000 in
set_option maxHeartbeats 4000000 in
theorem foremostE_con (h : Heap) (g : Gd h) (b off : Nat) (c : ACap) (es : List EnT) (fw : Nat) (lt : EnT → EnT → Bool) (hl : es.length ≤ 1000000000000) (hk : EnH h b off es)
    (hw : ∀ i j, i < es.length → j < es.length → ∀ h', Gd h' → Con Try.prog Bs fw ([] ++ [enA (enAt es i), enA (enAt es j)] ++ []) h' [] (.bool (lt (enAt es i) (enAt es j))) []) :
    Con Try.prog Bs 92 [.slice b off es.length c, .fn (.func fw) [] []] h [] (.int .i64 (bestIx lt ((0, 0), (0, 0)) es es.length)) [] := by
  refine Con.start rfl Try.func92 rfl rfl Try.ntmps92 rfl rfl g ?_
  (refine WK.seq ?_; refine WK.region ?_; refine St.assign ?_; refine WO.nil ?_; refine WK.seq ?_; refine WK.region ?_; refine St.assign ?_; refine WO.nil ?_; refine WK.seq ?_; refine WK.seq ?_; refine WK.region ?_; refine St.move ?_; refine St.len ?_; refine St.move ?_; refine WO.nil ?_; refine WK.block ?_)
  refine WK.inv (ι := Nat) (fun k => [(0, .slice b off es.length c), (1, .fn (.func fw) [] []), (5, .int .i64 (bestIx lt ((0, 0), (0, 0)) es k)), (8, .int .i64 es.length), (9, .int .i64 k)]) (fun _ => []) (fun k => k ≤ es.length) (fun k => es.length - k) 0 (by omega) ⟨rfl, rfl, rfl, rfl, rfl, trivial⟩ (by (repeat (first | exact List.Sublist.refl _ | exact List.nil_sublist _ | apply List.Sublist.cons_cons | apply List.Sublist.cons))) ?_
  intro k hkl ih
  (refine WK.seq ?_; refine WK.region ?_; refine St.bin ?_; refine WO.nil ?_; refine WK.seq ?_)
  refine St.splitC (fun hc => ?_) (fun hc => ?_)
  · have hlt : k < es.length := by simp at hc; omega
    have hb := bestIx_lt lt ((0, 0), (0, 0)) es hkl (by omega)
    have hs : bestIx lt ((0, 0), (0, 0)) es (k + 1) = if lt (enAt es k) (enAt es (bestIx lt ((0, 0), (0, 0)) es k)) = true then k else bestIx lt ((0, 0), (0, 0)) es k := rfl
    (refine WK.skip ?_; refine WK.seq ?_; refine WK.block ?_; refine WK.seq ?_; refine WK.region ?_; refine St.move ?_; refine St.assign ?_; refine WO.nil ?_; refine WK.seq ?_; refine WK.regionD ?_; refine St.move ?_; refine St.move ?_; refine St.move ?_)
    refine St.at ?_
    skip
    refine St.loadX (fun h hh => ((hk.vw hh).at_ (z := (k : Int)) (n := k) (by omega) hlt).agg (by simp) rfl rfl rfl) ?_
    (refine St.move ?_; refine St.move ?_)
    refine St.at ?_
    skip
    refine St.loadX (fun h hh => ((hk.vw hh).at_ (z := (bestIx lt ((0, 0), (0, 0)) es k : Int)) (n := bestIx lt ((0, 0), (0, 0)) es k) (by omega) hb).agg (by simp) rfl rfl rfl) ?_
    skip
    refine St.call (fun _ => rfl) (fun h hh => hw k (bestIx lt ((0, 0), (0, 0)) es k) hlt hb h hh.gd) ?_
    (refine WO.nil ?_)
    refine St.splitC (fun hc2 => ?_) (fun hc2 => ?_)
    · (refine WK.region ?_; refine St.move ?_; refine St.assign ?_; refine WO.nil ?_; refine WK.blk ?_; refine WK.region ?_; refine St.binI ?_; refine St.move ?_; refine WO.nil ?_)
      refine WK.le ?_ (by (repeat (first | exact List.Sublist.refl _ | exact List.nil_sublist _ | apply List.Sublist.cons_cons | apply List.Sublist.cons))) (ih (k + 1) hlt (by omega))
      exact ⟨rfl, rfl, congrArg (fun z : Nat => some (AV.int .i64 z)) (show k = bestIx lt ((0, 0), (0, 0)) es (k + 1) by rw [hs, if_pos hc2]), rfl, rfl, trivial⟩
    · (refine WK.skip ?_; refine WK.blk ?_; refine WK.region ?_; refine St.binI ?_; refine St.move ?_; refine WO.nil ?_)
      refine WK.le ?_ (by (repeat (first | exact List.Sublist.refl _ | exact List.nil_sublist _ | apply List.Sublist.cons_cons | apply List.Sublist.cons))) (ih (k + 1) hlt (by omega))
      exact ⟨rfl, rfl, congrArg (fun z : Nat => some (AV.int .i64 z)) (show bestIx lt ((0, 0), (0, 0)) es k = bestIx lt ((0, 0), (0, 0)) es (k + 1) by rw [hs, if_neg (by simp [hc2])]), rfl, rfl, trivial⟩
  · have : k = es.length := by simp at hc; omega
    subst this
    (refine WK.exit ?_; refine WK.seq ?_; refine WK.region ?_; refine St.move ?_; refine St.assign ?_; refine WO.nil ?_)
    refine St.ret (by first | exact .tmp .nil | exact .cell .nil | exact .cell (.tmp .nil) | exact .tmp (.tmp .nil) | exact .cell (.cell .nil) | exact .tmp (.cell .nil) | exact .nil | exact .tmp (.cell (.tmp .nil)) | exact .cell (.tmp (.tmp .nil)) | exact .cell (.cell (.tmp .nil)) | exact .tmp (.tmp (.tmp .nil)) | exact .cell (.cell (.cell .nil))) ?_
    rfl
end Go.Proofs.Ytcaemeedmnpdjaa
