/- Plain: the program's clashes of gauges in the order of their IDs are sorted, and the same pairs as the reference's. -/
import Derived.Test.YtgjkfmcjalcefaaGreatJh
import Derived.Test.YtgjkfmcjalcefaaGreatZq
namespace Go.Proofs.YtgjkfmcjalcefaaGreat

/-- the pairs of a list, one gauge after the other -/
def clL (cs : List Cy) (ss : List Sh) : List Ga → List (Int × Int)
  | [] => []
  | a :: r => rowCl cs ss a r ++ clL cs ss r
theorem clTo_drop {cs ss} {l : List Ga} : ∀ {k : Nat}, k ≤ l.length → clTo cs ss l k ++ clL cs ss (l.drop k) = clL cs ss l
  | 0, _ => by simp [clTo]
  | k + 1, h => by
    have ih := clTo_drop (cs := cs) (ss := ss) (l := l) (k := k) (by omega)
    rw [← ih, List.drop_eq_getElem_cons (show k < l.length by omega)]
    simp only [clTo, clL]
    rw [nthG_eq (by omega), List.append_assoc]
theorem clTo_all {cs ss} {l : List Ga} : clTo cs ss l l.length = clL cs ss l := by
  have := clTo_drop (cs := cs) (ss := ss) (l := l) (k := l.length) (Nat.le_refl _)
  rw [← this, List.drop_length]
  simp [clL]
theorem pairP_mem {cs ss} {a b : Ga} {p : Int × Int} (h : p ∈ pairP cs ss a b) : p = (a.id, b.id) := by
  unfold pairP at h
  split at h
  · simpa using h
  · cases h
theorem rowCl_fst {cs ss} {a : Ga} {r : List Ga} {p : Int × Int} (h : p ∈ rowCl cs ss a r) : p.1 = a.id := by
  unfold rowCl at h
  split at h
  · unfold pairsTo at h
    obtain ⟨b, _, hb⟩ := List.mem_flatMap.1 h
    rw [pairP_mem hb]
  · rw [List.mem_singleton.1 h]
theorem clL_fst {cs ss} : ∀ {l : List Ga} {p : Int × Int}, p ∈ clL cs ss l → ∃ a ∈ l, p.1 = a.id
  | [], _, h => by cases h
  | a :: r, p, h => by
    rcases List.mem_append.1 h with h | h
    · exact ⟨a, List.mem_cons_self .., rowCl_fst h⟩
    · obtain ⟨b, h1, h2⟩ := clL_fst h
      exact ⟨b, List.mem_cons_of_mem _ h1, h2⟩
theorem pairsTo_sorted {cs ss} {a : Ga} : ∀ {r : List Ga}, r.Pairwise (fun a b => a.id < b.id) → SortedQ (pairsTo cs ss a r)
  | [], _ => List.Pairwise.nil
  | b :: r, h => by
    obtain ⟨h1, h2⟩ := List.pairwise_cons.1 h
    show SortedQ (pairP cs ss a b ++ pairsTo cs ss a r)
    refine List.pairwise_append.2 ⟨?_, pairsTo_sorted h2, fun x hx y hy => ?_⟩
    · unfold pairP
      split
      · exact List.pairwise_singleton _ _
      · exact List.Pairwise.nil
    · rw [pairP_mem hx]
      unfold pairsTo at hy
      obtain ⟨c, hc, hy⟩ := List.mem_flatMap.1 hy
      rw [pairP_mem hy, ltQ_false]
      have := h1 c hc
      simp only
      omega
theorem clL_sorted {cs ss} : ∀ {l : List Ga}, l.Pairwise (fun a b => a.id < b.id) → SortedQ (clL cs ss l)
  | [], _ => List.Pairwise.nil
  | a :: r, h => by
    obtain ⟨h1, h2⟩ := List.pairwise_cons.1 h
    refine List.pairwise_append.2 ⟨?_, clL_sorted h2, fun x hx y hy => ?_⟩
    · unfold rowCl
      split
      · exact pairsTo_sorted h2
      · exact List.pairwise_singleton _ _
    · obtain ⟨b, hb, e⟩ := clL_fst hy
      have e2 := rowCl_fst hx
      have := h1 b hb
      rw [ltQ_false]
      omega
/-- a pair of two gauges, in its order -/
def pairS (cs : List Cy) (ss : List Sh) (a b : Ga) : List (Int × Int) := if apartG cs ss a b = true then [(min a.id b.id, max a.id b.id)] else []
def oneS (cs : List Cy) (ss : List Sh) (a : Ga) : List (Int × Int) := if emptyG cs ss a = true then [(a.id, a.id)] else []
def clS (cs : List Cy) (ss : List Sh) : List Ga → List (Int × Int)
  | [] => []
  | a :: r => oneS cs ss a ++ r.flatMap (pairS cs ss a) ++ clS cs ss r
theorem apartG_comm {cs ss} {a b : Ga} : apartG cs ss a b = apartG cs ss b a := by
  unfold apartG
  rw [Int.max_comm, Int.min_comm, Bool.and_comm (decide ((lvG cs ss a).1 ≤ _))]
theorem pairS_comm {cs ss} {a b : Ga} : pairS cs ss a b = pairS cs ss b a := by
  unfold pairS
  rw [apartG_comm, Int.min_comm, Int.max_comm]
theorem perm_cnt2 {α : Type} {l1 l2 : List α} (h : ∀ (_ : DecidableEq α) (a : α), l1.count a = l2.count a) : l1.Perm l2 := by
  classical exact List.perm_iff_count.2 fun a => h _ a
theorem clS_perm {cs ss} {l m : List Ga} (h : l.Perm m) : (clS cs ss l).Perm (clS cs ss m) := by
  induction h with
  | nil => exact List.Perm.refl _
  | cons x h ih => exact List.Perm.append (List.Perm.append_left _ (h.flatMap_right _)) ih
  | swap x y l =>
    refine perm_cnt2 fun _ p => ?_
    simp only [clS, List.flatMap_cons, List.count_append]
    rw [pairS_comm (a := y) (b := x)]
    omega
  | trans _ _ h1 h2 => exact h1.trans h2
theorem rcIn_eq {cs ss} {l : List Ga} {i : Nat} : ∀ {m : Nat}, m ≤ l.length → rcIn cs ss l i m = (l.take m).flatMap (pairS cs ss (nthG l i))
  | 0, _ => rfl
  | m + 1, h => by
    rw [rcIn, rcIn_eq (m := m) (by omega), List.take_succ_eq_append_getElem (show m < l.length by omega), List.flatMap_append, ← nthG_eq (show m < l.length by omega)]
    simp [pairS]
theorem rcTo_perm {cs ss} {l : List Ga} : ∀ {k : Nat}, k ≤ l.length → (rcTo cs ss l k).Perm (clS cs ss (l.take k))
  | 0, _ => List.Perm.refl _
  | k + 1, h => by
    have hk : k < l.length := by omega
    have ih := rcTo_perm (cs := cs) (ss := ss) (l := l) (k := k) (by omega)
    have e : (l.take (k + 1)).Perm (nthG l k :: l.take k) := by
      rw [List.take_succ_eq_append_getElem hk, nthG_eq hk]
      exact List.perm_append_comm
    refine List.Perm.trans ?_ (clS_perm e).symm
    rw [rcTo, rcIn_eq (by omega)]
    show (rcTo cs ss l k ++ oneS cs ss (nthG l k) ++ _).Perm (oneS cs ss (nthG l k) ++ (l.take k).flatMap (pairS cs ss (nthG l k)) ++ clS cs ss (l.take k))
    rw [List.append_assoc]
    exact List.perm_append_comm.trans (List.Perm.append_left _ ih)
theorem flatMap_cg {α β : Type} {f g : α → List β} : ∀ {r : List α}, (∀ b ∈ r, f b = g b) → r.flatMap f = r.flatMap g
  | [], _ => rfl
  | a :: r, h => by
    rw [List.flatMap_cons, List.flatMap_cons, h a (List.mem_cons_self ..), flatMap_cg fun b hb => h b (List.mem_cons_of_mem _ hb)]
theorem row_S {cs ss} {a : Ga} : ∀ {r : List Ga}, (∀ b ∈ r, a.id < b.id) → rowCl cs ss a r = oneS cs ss a ++ r.flatMap (pairS cs ss a) := by
  intro r h
  unfold rowCl oneS
  cases hn : neG cs ss a with
  | true =>
    have he : emptyG cs ss a = false := by
      unfold neG at hn
      unfold emptyG
      simp at hn ⊢
      omega
    rw [if_pos rfl, he, if_neg (by simp), List.nil_append]
    unfold pairsTo
    refine flatMap_cg fun b hb => ?_
    have hlt := h b hb
    unfold pairP pairS
    have e : apartG cs ss a b = (neG cs ss b && !toG cs ss a b) := by
      have h1 : decide ((lvG cs ss a).1 ≤ (lvG cs ss a).2) = true := hn
      have h2 : (!toG cs ss a b) = decide (min (lvG cs ss a).2 (lvG cs ss b).2 < max (lvG cs ss a).1 (lvG cs ss b).1) := by
        unfold toG
        by_cases q : max (lvG cs ss a).1 (lvG cs ss b).1 ≤ min (lvG cs ss a).2 (lvG cs ss b).2
        · rw [decide_eq_true q, decide_eq_false (by omega)]; rfl
        · rw [decide_eq_false q, decide_eq_true (by omega)]; rfl
      rw [h2]
      unfold apartG neG
      rw [h1]
      rfl
    rw [e, Int.min_eq_left (by omega), Int.max_eq_right (by omega)]
  | false =>
    have he : emptyG cs ss a = true := by
      unfold neG at hn
      unfold emptyG
      simp at hn ⊢
      omega
    rw [if_neg (by simp), he, if_pos rfl]
    have : r.flatMap (pairS cs ss a) = [] := by
      rw [List.flatMap_eq_nil_iff]
      intro b _
      unfold pairS apartG
      unfold emptyG at he
      simp at he
      rw [if_neg (by simp; omega)]
    rw [this, List.append_nil]
theorem clL_S {cs ss} : ∀ {l : List Ga}, l.Pairwise (fun a b => a.id < b.id) → clL cs ss l = clS cs ss l
  | [], _ => rfl
  | a :: r, h => by
    obtain ⟨h1, h2⟩ := List.pairwise_cons.1 h
    rw [clL, clS, clL_S h2, row_S h1]
/-- the reference's clashes are the program's -/
theorem cl_same {lv : Int} {cs ss} {l l' : List Ga} {ys : List (Int × Int)} (h0 : chkGs lv cs ss l = 0) (hp : l'.Perm l) (hs : l'.Pairwise fun a b => a.id ≤ b.id) (h1 : SortedQ ys) (h2 : ys.Perm (rcTo cs ss l l.length)) : ys = clTo cs ss l' l'.length := by
  have hnd : (gids l').Nodup := by
    have h3 : chkG [] l = 0 := by
      unfold chkGs at h0
      split at h0
      · rename_i q; exact absurd h0 q
      · split at h0
        · cases h0
        · exact h0
    have hpg : (gids l').Perm (gids l) := hp.map _
    exact hpg.nodup_iff.2 (chkG_ids h3).1
  have hst : l'.Pairwise fun a b => a.id < b.id := by
    have hn2 : l'.Pairwise fun a b => a.id ≠ b.id := List.pairwise_map.1 hnd
    exact (hs.and hn2).imp fun h => by omega
  rw [clTo_all]
  refine sortQ_eq h1 (clL_sorted hst) ?_
  rw [clL_S hst]
  have := rcTo_perm (cs := cs) (ss := ss) (l := l) (k := l.length) (Nat.le_refl _)
  rw [List.take_length] at this
  exact h2.trans (this.trans (clS_perm hp.symm))
end Go.Proofs.YtgjkfmcjalcefaaGreat
