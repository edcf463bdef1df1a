/- Cycles that may be sliced; rows of cycles; a right water without one of its cycles. -/
import Derived.Test.YtgjkfmcjalcefaaGreatQg
import Derived.Test.YtgjkfmcjalcefaaGreatZb
namespace Go.Proofs.YtgjkfmcjalcefaaGreat
open Go.Proofs.YtgjkfmcjalcefaaGreat.Ev

/-- cycles that may be sliced -/
def CyA (h : Heap) (v : AV) (l : List Cw) : Prop := ((v = .slice0 ∨ v = .sliceZ) ∧ l = []) ∨ ∃ b off m, v = .slice b off l.length (.k m) ∧ l.length ≤ m ∧ CyH h b off l
theorem CyA.cyV {h : Heap} {v : AV} {l : List Cw} (k : CyA h v l) : CyV h v l := by
  rcases k with k | ⟨b, off, m, rfl, _, k⟩
  · exact .inl k
  · exact .inr ⟨b, off, _, rfl, k⟩
theorem CyA.vw {h0 h : Heap} {V : Ob} {v : AV} {l : List Cw} (k : CyA h0 v l) (hh : Vw h0 [] V h) : CyA h v l := by
  rcases k with k | ⟨b, off, m, rfl, hm, k⟩
  · exact .inl k
  · exact .inr ⟨b, off, m, rfl, hm, k.vw hh⟩
theorem slC_to {h : Heap} {i off k n m : Nat} (hk : k ≤ n) (hm : n ≤ m) : evSlice Tryz.prog h 22 (.slice i off n (.k m)) none (some (.int .i64 k)) none = some (.slice i off k (.k m)) := by
  have e : sizeT Tryz.prog 55 = some 4 := by kernel_rfl
  unfold evSlice
  rw [if_neg (by simp), Tryz.underlying22]
  simp only [e, evSliceK, optB, boundIn, Option.bind_some]
  rw [if_pos (by omega)]
  simp
theorem slC_from {h : Heap} {i off k n m : Nat} (hk : k ≤ n) (hm : n ≤ m) : evSlice Tryz.prog h 22 (.slice i off n (.k m)) (some (.int .i64 k)) none none = some (.slice i (if m - k = 0 then off else off + k * 4) (n - k) (.k (m - k))) := by
  have e : sizeT Tryz.prog 55 = some 4 := by kernel_rfl
  unfold evSlice
  rw [if_neg (by simp), Tryz.underlying22]
  simp only [e, evSliceK, optB, boundIn, Option.bind_some]
  rw [if_pos (by omega)]
  by_cases hc : m - k = 0
  · simp [hc]; omega
  · simp [hc]; omega
def cyC (w : Cw) : List AV := [.int .i64 w.c.id, .int .i64 w.c.bg, .int .i64 w.c.ev, w.v]
def cyF (l : List Cw) : List AV := (l.map cyC).flatten
theorem cyF_len : ∀ l : List Cw, (cyF l).length = l.length * 4
  | [] => rfl
  | g :: r => by
    have := cyF_len r
    show (cyC g ++ cyF r).length = _
    rw [List.length_append, this, List.length_cons]
    show 4 + _ = _
    omega
theorem cyF_app (l m : List Cw) : cyF (l ++ m) = cyF l ++ cyF m := by simp [cyF]
/-- heights that lie somewhere -/
def Its (h : Heap) (l : List Cw) : Prop := ∀ w ∈ l, ItV h w.v w.c.hs
theorem Its.vw {h0 h : Heap} {V : Ob} {l : List Cw} (k : Its h0 l) (hh : Vw h0 [] V h) : Its h l := fun w hw => (k w hw).vw hh
theorem CyH.its {h : Heap} {b off : Nat} {l : List Cw} (k : CyH h b off l) : Its h l := fun w hw => by
  obtain ⟨i, hi, rfl⟩ := List.getElem_of_mem hw
  have := (k i hi).2
  rwa [nthW_eq hi] at this
theorem cyF_ok {h : Heap} : ∀ {l : List Cw}, Its h l → (cyF l).all okCell = true
  | [], _ => rfl
  | g :: r, k => by
    show (cyC g ++ cyF r).all okCell = true
    rw [List.all_append, cyF_ok (l := r) fun w hw => k w (List.mem_cons_of_mem _ hw)]
    have := (k g (List.mem_cons_self ..)).ok
    show (true && (true && (true && (okCell g.v && true))) && true) = true
    rw [this]
    rfl
theorem cyF_drop : ∀ (l : List Cw) (i : Nat), i < l.length → (cyF l).drop (i * 4) = cyC (nthW l i) ++ cyF (l.drop (i + 1))
  | [], _, h => by simp at h
  | g :: r, 0, _ => rfl
  | g :: r, i + 1, h => by
    have := cyF_drop r i (by simpa using h)
    show (cyC g ++ cyF r).drop ((i + 1) * 4) = _
    rw [show (i + 1) * 4 = (cyC g).length + i * 4 from by show _ = 4 + _; omega, List.drop_append, List.drop_eq_nil_of_le (by omega), Nat.add_sub_cancel_left, List.nil_append, this]
    rfl
theorem cy_rds {h : Heap} {b : Nat} : ∀ {l : List Cw} {off : Nat}, CyH h b off l → Rds h b off (cyF l)
  | [], _, _ => trivial
  | g :: r, off, k => by
    have h0 := (k 0 (by simp)).1
    rw [Nat.zero_mul, Nat.add_zero] at h0
    refine Rds.app (l := cyC g) h0 (cy_rds (l := r) fun i hi => ?_)
    have := k (i + 1) (by simpa using hi)
    rw [show off + (cyC g).length + i * 4 = off + (i + 1) * 4 from by show off + 4 + _ = _; omega]
    exact this
theorem CyH.tak {h : Heap} {b off k : Nat} {l : List Cw} (q : CyH h b off l) : CyH h b off (l.take k) := fun i hi => by
  have h1 : i < l.length := by rw [List.length_take] at hi; omega
  have h2 : i < k := by rw [List.length_take] at hi; omega
  have e : nthW (l.take k) i = nthW l i := by simp [nthW, List.getElem?_take, h2]
  rw [e]
  exact q i h1
theorem CyH.drp {h : Heap} {b off k : Nat} {l : List Cw} (q : CyH h b off l) : CyH h b (off + k * 4) (l.drop k) := fun i hi => by
  have h1 : k + i < l.length := by rw [List.length_drop] at hi; omega
  have e : nthW (l.drop k) i = nthW l (k + i) := by simp [nthW]
  rw [e, show off + k * 4 + i * 4 = off + (k + i) * 4 by rw [Nat.add_mul]; omega]
  exact q _ h1
/-- a list of cycles that was made, read afterwards -/
theorem cy_v {h0 h : Heap} {W : List Nat} {V : Ob} {l : List Cw} {v : AV} {Lv : Ob} {n : Nat} (hw : IsL 55 4 n (cyF l) v Lv) (hn : l.length = n) (hi : Its h l) (k : Vw h0 W V h) (hm : ∀ x ∈ Lv, x ∈ V) : CyV h v l := by
  subst hn
  have its : ∀ j, j < l.length → ItV h (nthW l j).v (nthW l j).c.hs := fun j hj => by
    rw [nthW_eq hj]
    exact hi _ (List.getElem_mem hj)
  cases hw with
  | nil h1 h2 => exact .inl ⟨.inl rfl, List.length_eq_zero_iff.1 h1⟩
  | cells i c rest t h1 h2 h3 =>
    refine .inr ⟨i, 0, .k c, rfl, fun j hj => ⟨?_, its j hj⟩⟩
    rw [Nat.zero_add]
    exact k.rdsD (hm _ (List.mem_cons_self ..)) (AObj.has_cells _ _).left _ _ _ (cyF_drop l j hj)
  | row i h1 =>
    refine .inr ⟨i, 0, .m 0, rfl, fun j hj => ⟨?_, its j hj⟩⟩
    rw [Nat.zero_add]
    exact k.rdsD (hm _ (List.mem_cons_self ..)) (AObj.has_row _ _ _) _ _ _ (cyF_drop l j hj)
theorem cy_none {h : Heap} {b off : Nat} {l : List Cw} (hk : CyH h b off l) (hn : 0 < l.length) (off2 : Nat) : h.loadN b off2 0 = some [] := by
  have h1 := (hk 0 hn).1.1.at_
  unfold Heap.at1 at h1
  unfold Heap.loadN
  split at h1
  · simp [takeN]
  · simp [takeN]
  · rfl
  · cases h1
theorem comesC_to {h : Heap} {b off k : Nat} {c : ACap} {l : List Cw} {L : Ob} (hk : CyH h b off l) (hn : 0 < l.length) (h1 : k ≤ l.length) (h2 : l.length ≤ 60) : ComesA h [] L (.slice b off k c) 4 k (cyF (l.take k)) := by
  rcases Nat.eq_zero_or_pos k with rfl | h3
  · exact .inl ⟨rfl, rfl, rfl, fun h2 hh => cy_none (hk.vw hh) hn _⟩
  · have e : (cyF (l.take k)).length = k * 4 := by rw [cyF_len, List.length_take]; omega
    refine .inr ⟨h3, b, off, c, rfl, by omega, e, cyF_ok hk.tak.its, fun h2 hh => (cy_rds (hk.vw hh).tak).loadN (fun q => ?_) e⟩
    rw [q] at e
    simp at e
    omega
theorem comesC_from {h : Heap} {b off k m : Nat} {c : ACap} {l : List Cw} {L : Ob} (hk : CyH h b off l) (hn : 0 < l.length) (h1 : k ≤ l.length) (h2 : l.length ≤ 60) (hm : l.length ≤ m) : ComesA h [] L (.slice b (if m - k = 0 then off else off + k * 4) (l.length - k) c) 4 (l.length - k) (cyF (l.drop k)) := by
  have e : (cyF (l.drop k)).length = (l.length - k) * 4 := by rw [cyF_len, List.length_drop]
  rcases Nat.eq_zero_or_pos (l.length - k) with h3 | h3
  · refine .inl ⟨h3, List.length_eq_zero_iff.1 (by rw [e, h3]), by rw [h3]; rfl, fun h2 hh => cy_none (hk.vw hh) hn _⟩
  · rw [if_neg (by omega)]
    refine .inr ⟨h3, b, _, c, rfl, by omega, e, cyF_ok hk.drp.its, fun h2 hh => (cy_rds (hk.vw hh).drp).loadN (fun q => ?_) e⟩
    rw [q] at e
    simp at e
    omega
theorem chkC_sub : ∀ {a b : List Cy}, a.Sublist b → ∀ {s t : List Int}, (∀ x ∈ s, x ∈ t) → chkC t b = 0 → chkC s a = 0 := by
  intro a b hs
  induction hs with
  | slnil => intros; rfl
  | cons x h ih =>
    intro s t hst hb
    rw [chkC] at hb
    split at hb
    · cases hb
    · split at hb
      · cases hb
      · exact ih (fun y hy => List.mem_append_left _ (hst y hy)) hb
  | cons_cons x h ih =>
    intro s t hst hb
    rw [chkC] at hb ⊢
    split at hb
    · cases hb
    · rename_i h1
      split at hb
      · cases hb
      · rename_i h2
        rw [if_neg h1, if_neg (fun q => h2 (hst _ q))]
        refine ih (fun y hy => ?_) hb
        rcases List.mem_append.1 hy with hy | hy
        · exact List.mem_append_left _ (hst y hy)
        · exact List.mem_append_right _ hy
theorem WOk.less {lv : Int} {cl : List Cw} {ss : List Sh} (w : WOk lv (cys cl) ss) (i : Nat) : WOk lv (cys (cl.eraseIdx i)) ss := by
  have hs : (cys (cl.eraseIdx i)).Sublist (cys cl) := (List.eraseIdx_sublist ..).map _
  exact ⟨w.l1, w.l2, Nat.le_trans hs.length_le w.n1, w.n2, chkC_sub hs (fun _ h => h) w.cs, w.ss⟩
/-- the cycles without each of which the gauges agree, or don't -/
def decTo (ss : List Sh) (l : List Ga) (cl : List Cw) (b : Bool) : Nat → List Int
  | 0 => []
  | k + 1 => decTo ss l cl b k ++ if (fitG (cys (cl.eraseIdx k)) ss l == b) = true then [(nthW cl k).c.id] else []
theorem decTo_len (ss : List Sh) (l : List Ga) (cl : List Cw) (b : Bool) : ∀ k, (decTo ss l cl b k).length ≤ k
  | 0 => by simp [decTo]
  | k + 1 => by
    have := decTo_len ss l cl b k
    simp only [decTo, List.length_append]
    split <;> simp <;> omega
def shownR (lv : Int) (cl : List Cw) (ss : List Sh) (l : List Ga) : List Int × Int :=
  if chkGs lv (cys cl) ss l ≠ 0 then ([], chkGs lv (cys cl) ss l) else if fitG (cys cl) ss l = false then ([], 9) else (sortX (decTo ss l cl false cl.length), 0)
def exclR (lv : Int) (cl : List Cw) (ss : List Sh) (l : List Ga) : List Int × Int :=
  if chkGs lv (cys cl) ss l ≠ 0 then ([], chkGs lv (cys cl) ss l) else if fitG (cys cl) ss l = true then ([], 0) else (sortX (decTo ss l cl true cl.length), 0)
end Go.Proofs.YtgjkfmcjalcefaaGreat
