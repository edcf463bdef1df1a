/- Plain facts of layer 5: what flows into the nodes less what flows out, in the order of the edges; when all of it is nothing. No walk, no number of a function. -/
import Derived.Test.YtjlpoomjgidgaaaNs
namespace Go.Proofs.Ytjlpoomjgidgaaa
def atE (l : List Ed) (i : Nat) : Ed := l[i]?.getD default
/-- the nodes behind the first n edges -/
def nodes (ed : List Ed) (xs : List Int) : Nat → List Int
  | 0 => List.replicate 10 0
  | n + 1 =>
    let l := nodes ed xs n
    let l1 := l.set (atE ed n).a.toNat (atI l (atE ed n).a.toNat - atI xs n)
    l1.set (atE ed n).b.toNat (atI l1 (atE ed n).b.toNat + atI xs n)
theorem nodes_succ {ed : List Ed} {xs : List Int} (n : Nat) : nodes ed xs (n + 1) = ((nodes ed xs n).set (atE ed n).a.toNat (atI (nodes ed xs n) (atE ed n).a.toNat - atI xs n)).set (atE ed n).b.toNat (atI ((nodes ed xs n).set (atE ed n).a.toNat (atI (nodes ed xs n) (atE ed n).a.toNat - atI xs n)) (atE ed n).b.toNat + atI xs n) := rfl
theorem nodes_len {ed : List Ed} {xs : List Int} : ∀ n, (nodes ed xs n).length = 10
  | 0 => rfl
  | n + 1 => by rw [nodes_succ]; simp [nodes_len n]
theorem sum_set : ∀ {l : List Int} {i : Nat} (x : Int), i < l.length → (l.set i x).sum = l.sum + x - atI l i
  | [], _, _, h => by simp at h
  | y :: r, 0, x, _ => by simp [atI]; omega
  | y :: r, i + 1, x, h => by
    have := sum_set (l := r) (i := i) x (by simpa using h)
    simp only [List.set_cons_succ, List.sum_cons, this]
    unfold atI
    simp
    omega
theorem atI_set {l : List Int} {i j : Nat} {x : Int} (h : i < l.length) : atI (l.set i x) j = if i = j then x else atI l j := by
  unfold atI
  rw [List.getElem?_set]
  by_cases e : i = j
  · subst e; simp [h]
  · simp [e]
theorem edges_st {hs : List Ho} {ms : List Mv} {i : Nat} (h : i < hs.length) : atE (edges hs ms) i = eSt i (atH hs i) := by
  unfold atE edges
  rw [List.append_assoc, List.getElem?_append_left (by rw [stTo_len]; exact h)]
  simp [stTo, h, atH]
theorem edges_en {hs : List Ho} {ms : List Mv} {i : Nat} (h : i < hs.length) : atE (edges hs ms) (hs.length + i) = eEn i (atH hs i) := by
  unfold atE edges
  rw [List.append_assoc, List.getElem?_append_right (by rw [stTo_len]; omega), stTo_len, Nat.add_sub_cancel_left, List.getElem?_append_left (by rw [enTo_len]; exact h)]
  simp [enTo, h, atH]
theorem edges_mv {hs : List Ho} {ms : List Mv} {i : Nat} (h : i < ms.length) : atE (edges hs ms) (hs.length + hs.length + i) = eMv hs (atM ms i) := by
  unfold atE edges
  rw [List.getElem?_append_right (by rw [List.length_append, stTo_len, enTo_len]; omega), List.length_append, stTo_len, enTo_len, Nat.add_sub_cancel_left]
  simp [h, atM]
/-- the nodes of an edge -/
def ndB (e : Ed) : Prop := (0 ≤ e.a ∧ e.a ≤ 9) ∧ (0 ≤ e.b ∧ e.b ≤ 9)
theorem edges_nd {hs : List Ho} {ms : List Mv} (l1 : hs.length ≤ 9) (hm : ∀ x ∈ ms, x.fr ∈ hids hs ∧ x.to ∈ hids hs) {n : Nat} (hn : n < hs.length + hs.length + ms.length) : ndB (atE (edges hs ms) n) := by
  by_cases c1 : n < hs.length
  · rw [edges_st c1]; unfold eSt ndB; simp only; omega
  · by_cases c2 : n < hs.length + hs.length
    · obtain ⟨i, rfl⟩ : ∃ i, n = hs.length + i := ⟨n - hs.length, by omega⟩
      rw [edges_en (by omega)]; unfold eEn ndB; simp only; omega
    · obtain ⟨i, rfl⟩ : ∃ i, n = hs.length + hs.length + i := ⟨n - (hs.length + hs.length), by omega⟩
      have hi : i < ms.length := by omega
      rw [edges_mv hi]
      have e : atM ms i = ms[i] := by unfold atM; simp [hi]
      have := hm _ (List.getElem_mem hi)
      have b1 := plI_lo (l := hids hs) (n := (atM ms i).fr)
      have b2 := plI_hi (l := hids hs) (n := (atM ms i).fr)
      have b3 := plI_lo (l := hids hs) (n := (atM ms i).to)
      have b4 := plI_hi (l := hids hs) (n := (atM ms i).to)
      have e1 : (hids hs).length = hs.length := by simp [hids]
      rw [e1] at b2 b4
      unfold eMv ndB; simp only; omega
/-- what edge k adds to a node -/
def inc (ed : List Ed) (xs : List Int) (a k : Nat) : Int := (if (atE ed k).b = (a : Int) then atI xs k else 0) - (if (atE ed k).a = (a : Int) then atI xs k else 0)
theorem toNat_eq {z : Int} {a : Nat} (h : 0 ≤ z) : z.toNat = a ↔ z = (a : Int) := by omega
theorem nodes_at {ed : List Ed} {xs : List Int} (a : Nat) : ∀ n, (∀ k, k < n → ndB (atE ed k)) → atI (nodes ed xs n) a = sumF (inc ed xs a) (List.range n)
  | 0, _ => by
    unfold nodes atI sumF
    rw [List.getElem?_replicate]
    by_cases h : a < 10
    · rw [if_pos h]; rfl
    · rw [if_neg h]; rfl
  | n + 1, h => by
    have ih := nodes_at (ed := ed) (xs := xs) a n fun k hk => h k (by omega)
    obtain ⟨⟨a1, a2⟩, b1, b2⟩ := h n (by omega)
    have hl := nodes_len (ed := ed) (xs := xs) n
    rw [List.range_succ, sumF_snoc, ← ih]
    rw [nodes_succ]
    unfold inc
    rw [atI_set (by rw [List.length_set, hl]; omega), atI_set (by rw [hl]; omega), atI_set (by rw [hl]; omega)]
    simp only [toNat_eq a1, toNat_eq b1]
    by_cases ea : (atE ed n).a = (a : Int) <;> by_cases eb : (atE ed n).b = (a : Int)
    · have e2 : (atE ed n).a = ((atE ed n).b.toNat : Int) := by omega
      simp only [ea, eb, if_true, Int.toNat_natCast]
      omega
    · simp only [ea, eb, if_true, if_false, Int.toNat_natCast]
      omega
    · have e2 : ¬ (atE ed n).a = ((atE ed n).b.toNat : Int) := by omega
      simp only [ea, eb, if_true, if_false, Int.toNat_natCast]
      omega
    · simp only [ea, eb, if_false]
      omega
theorem nodes_sum {ed : List Ed} {xs : List Int} : ∀ n, (∀ k, k < n → ndB (atE ed k)) → (nodes ed xs n).sum = 0
  | 0, _ => by show (List.replicate 10 (0 : Int)).sum = 0; decide
  | n + 1, h => by
    have ih := nodes_sum (ed := ed) (xs := xs) n fun k hk => h k (by omega)
    obtain ⟨⟨a1, a2⟩, b1, b2⟩ := h n (by omega)
    have hl := nodes_len (ed := ed) (xs := xs) n
    rw [nodes_succ]
    rw [sum_set _ (by rw [List.length_set, hl]; omega), sum_set _ (by rw [hl]; omega), ih]
    omega
theorem zeros_of : ∀ {l : List Int}, l.sum = 0 → (∀ i, 1 ≤ i → i < l.length → atI l i = 0) → l = List.replicate l.length 0
  | [], _, _ => rfl
  | x :: r, h, hz => by
    have h1 : ∀ y ∈ r, y = 0 := fun y hy => by
      obtain ⟨i, hi, rfl⟩ := List.mem_iff_getElem.1 hy
      have := hz (i + 1) (by omega) (by simpa using hi)
      unfold atI at this
      simpa [hi] using this
    have h2 : r = List.replicate r.length 0 := List.eq_replicate_iff.2 ⟨rfl, h1⟩
    have h3 : r.sum = 0 := by rw [h2]; simp
    rw [List.sum_cons, h3] at h
    have : x = 0 := by omega
    subst this
    conv => lhs; rw [h2]
    rfl
theorem sum_zero {f : Nat → Int} : ∀ {n : Nat}, (∀ i, i < n → f i = 0) → sumF f (List.range n) = 0
  | 0, _ => rfl
  | n + 1, h => by rw [List.range_succ, sumF_snoc, sum_zero fun i hi => h i (by omega), h n (by omega)]; rfl
theorem sum_pick {f : Nat → Int} {x : Int} {j : Nat} : ∀ {n : Nat}, (∀ i, i < n → f i = if i = j then x else 0) → sumF f (List.range n) = if j < n then x else 0
  | 0, _ => by simp [sumF]
  | n + 1, h => by
    rw [List.range_succ, sumF_snoc, sum_pick fun i hi => h i (by omega), h n (by omega)]
    by_cases e : n = j
    · subst e; simp
    · by_cases c : j < n
      · simp [c, e, show j < n + 1 by omega]
      · simp [c, e, show ¬ j < n + 1 by omega]
theorem range_add (a b : Nat) : List.range (a + b) = List.range a ++ (List.range b).map (a + ·) := by
  rw [List.range_eq_range', List.range_eq_range', List.range_eq_range', ← List.range'_append_1, List.map_add_range', Nat.zero_add, Nat.add_zero]
theorem sum_range_add (f : Nat → Int) (a b : Nat) : sumF f (List.range (a + b)) = sumF f (List.range a) + sumF (fun i => f (a + i)) (List.range b) := by
  rw [range_add, sumF_app]
  congr 1
  unfold sumF
  rw [List.map_map]
  rfl
section
variable {hs : List Ho} {ms : List Mv} {ss es xs : List Int}
theorem all_st {i : Nat} (h1 : ss.length = hs.length) (hi : i < hs.length) : atI (ss ++ es ++ xs) i = atI ss i := by
  unfold atI
  rw [List.append_assoc, List.getElem?_append_left (by omega)]
theorem all_en {i : Nat} (h1 : ss.length = hs.length) (h2 : es.length = hs.length) (hi : i < hs.length) : atI (ss ++ es ++ xs) (hs.length + i) = atI es i := by
  unfold atI
  rw [List.append_assoc, List.getElem?_append_right (by omega), List.getElem?_append_left (by omega), h1, Nat.add_sub_cancel_left]
theorem all_mv {i : Nat} (h1 : ss.length = hs.length) (h2 : es.length = hs.length) : atI (ss ++ es ++ xs) (hs.length + hs.length + i) = atI xs i := by
  unfold atI
  rw [List.getElem?_append_right (by rw [List.length_append]; omega), List.length_append, h1, h2, Nat.add_sub_cancel_left]
/-- a holder's node: what it is held by, less what it has in the end -/
theorem node_holder (hd : (hids hs).Nodup) (l1 : hs.length ≤ 9) (hm : ∀ x ∈ ms, x.fr ∈ hids hs ∧ x.to ∈ hids hs) (h1 : ss.length = hs.length) (h2 : es.length = hs.length) {i : Nat} (hi : i < hs.length) :
    atI (nodes (edges hs ms) (ss ++ es ++ xs) (hs.length + hs.length + ms.length)) (i + 1) = heldTo hs ms ss xs i ms.length - atI es i := by
  rw [nodes_at _ _ fun k hk => edges_nd l1 hm hk, sum_range_add, sum_range_add]
  rw [sum_pick (x := atI ss i) (j := i) fun k hk => ?_, sum_pick (x := -atI es i) (j := i) fun k hk => ?_, if_pos hi, if_pos hi]
  · unfold heldTo
    have : sumF (fun k => inc (edges hs ms) (ss ++ es ++ xs) (i + 1) (hs.length + hs.length + k)) (List.range ms.length) = sumF (mvd ms xs (atH hs i).id) (List.range ms.length) := sumF_congr fun k hk => by
      have hk := List.mem_range.1 hk
      have e : atM ms k = ms[k] := by unfold atM; simp [hk]
      have eh : (atH hs i).id = (hids hs)[i]'(by simpa [hids] using hi) := by unfold atH hids; simp [hi]
      have hmm := hm _ (List.getElem_mem hk)
      rw [← e] at hmm
      unfold inc mvd
      rw [edges_mv hk, all_mv h1 h2]
      unfold eMv
      simp only
      have q : ∀ n, (plI (hids hs) n + 1 = ((i + 1 : Nat) : Int)) ↔ n = (atH hs i).id := fun n => by
        rw [eh, show (plI (hids hs) n + 1 = ((i + 1 : Nat) : Int)) ↔ plI (hids hs) n = (i : Int) by omega, plI_idx hd (by simpa [hids] using hi)]
        exact eq_comm
      simp only [q]
    rw [this]
    omega
  · unfold inc
    rw [edges_en hk, all_en h1 h2 hk]
    unfold eEn
    simp only
    by_cases e : k = i
    · subst e
      rw [if_neg (show ¬ (0 : Int) = ((k + 1 : Nat) : Int) by omega), if_pos (show ((k : Int) + 1) = ((k + 1 : Nat) : Int) by omega), if_pos rfl]
      omega
    · rw [if_neg (show ¬ (0 : Int) = ((i + 1 : Nat) : Int) by omega), if_neg (show ¬ ((k : Int) + 1) = ((i + 1 : Nat) : Int) by omega), if_neg e]
      omega
  · unfold inc
    rw [edges_st hk, all_st h1 hk]
    unfold eSt
    simp only
    by_cases e : k = i
    · subst e
      rw [if_neg (show ¬ (0 : Int) = ((k + 1 : Nat) : Int) by omega), if_pos (show ((k : Int) + 1) = ((k + 1 : Nat) : Int) by omega), if_pos rfl]
      omega
    · rw [if_neg (show ¬ (0 : Int) = ((i + 1 : Nat) : Int) by omega), if_neg (show ¬ ((k : Int) + 1) = ((i + 1 : Nat) : Int) by omega), if_neg e]
      omega
theorem node_none (l1 : hs.length ≤ 9) (hm : ∀ x ∈ ms, x.fr ∈ hids hs ∧ x.to ∈ hids hs) {a : Nat} (ha : hs.length < a) :
    atI (nodes (edges hs ms) (ss ++ es ++ xs) (hs.length + hs.length + ms.length)) a = 0 := by
  rw [nodes_at _ _ fun k hk => edges_nd l1 hm hk]
  refine sum_zero fun k hk => ?_
  unfold inc
  have e : ¬ (atE (edges hs ms) k).a = (a : Int) ∧ ¬ (atE (edges hs ms) k).b = (a : Int) := by
    by_cases c1 : k < hs.length
    · rw [edges_st c1]; unfold eSt; simp only; omega
    · by_cases c2 : k < hs.length + hs.length
      · obtain ⟨i, rfl⟩ : ∃ i, k = hs.length + i := ⟨k - hs.length, by omega⟩
        rw [edges_en (by omega)]; unfold eEn; simp only; omega
      · obtain ⟨i, rfl⟩ : ∃ i, k = hs.length + hs.length + i := ⟨k - (hs.length + hs.length), by omega⟩
        rw [edges_mv (by omega)]
        have b2 := plI_hi (l := hids hs) (n := (atM ms i).fr)
        have b4 := plI_hi (l := hids hs) (n := (atM ms i).to)
        have e1 : (hids hs).length = hs.length := by simp [hids]
        rw [e1] at b2 b4
        unfold eMv; simp only; omega
  simp [e.1, e.2]
/-- a course: all masses lie in their spans, and nothing is left in any node -/
def inAll (hs : List Ho) (ms : List Mv) (xs : List Int) (n : Nat) : Prop := ∀ k, k < n → inB (atI xs k) (atE (edges hs ms) k).lo (atE (edges hs ms) k).hi = true
theorem fits_of_nodes (hd : (hids hs).Nodup) (l1 : hs.length ≤ 9) (hm : ∀ x ∈ ms, x.fr ∈ hids hs ∧ x.to ∈ hids hs) (h1 : ss.length = hs.length) (h2 : es.length = hs.length) (h3 : xs.length = ms.length) (hin : inAll hs ms (ss ++ es ++ xs) (hs.length + hs.length + ms.length)) :
    fits hs ms ss es xs = decide (nodes (edges hs ms) (ss ++ es ++ xs) (hs.length + hs.length + ms.length) = List.replicate 10 0) := by
  have g0 : lensB hs ms ss es xs = true := by unfold lensB; simp [h1, h2, h3]
  have g1 : allB hs.length (fitI hs ss es) = true := allB_yes fun i hi => by
    have a := hin i (by omega)
    have b := hin (hs.length + i) (by omega)
    rw [edges_st hi, all_st h1 hi] at a
    rw [edges_en hi, all_en h1 h2 hi] at b
    unfold fitI
    rw [Bool.and_eq_true]
    exact ⟨a, b⟩
  have g2 : allB ms.length (fitM ms xs) = true := allB_yes fun i hi => by
    have a := hin (hs.length + hs.length + i) (by omega)
    rw [edges_mv hi, all_mv h1 h2] at a
    exact a
  unfold fits
  rw [g0, g1, g2, Bool.true_and, Bool.true_and, Bool.true_and, Bool.eq_iff_iff, decide_eq_true_eq]
  constructor
  · intro h
    have hl := nodes_len (ed := edges hs ms) (xs := ss ++ es ++ xs) (hs.length + hs.length + ms.length)
    have := zeros_of (nodes_sum (ed := edges hs ms) (xs := ss ++ es ++ xs) (hs.length + hs.length + ms.length) fun k hk => edges_nd l1 hm hk) fun i hi1 hi2 => by
      by_cases c : hs.length < i
      · exact node_none l1 hm c
      · obtain ⟨j, rfl⟩ : ∃ j, i = j + 1 := ⟨i - 1, by omega⟩
        rw [node_holder hd l1 hm h1 h2 (by omega)]
        have := allB_at h (i := j) (by omega)
        simp at this
        omega
    rwa [hl] at this
  · intro h
    refine allB_yes fun i hi => ?_
    have := node_holder (xs := xs) hd l1 hm h1 h2 hi
    rw [h] at this
    have e : atI (List.replicate 10 (0 : Int)) (i + 1) = 0 := by unfold atI; rw [List.getElem?_replicate]; simp [show i + 1 < 10 by omega]
    rw [e] at this
    simp
    omega
theorem fits_out (h1 : ss.length = hs.length) (h2 : es.length = hs.length) {k : Nat} (hk : k < hs.length + hs.length + ms.length) (hout : inB (atI (ss ++ es ++ xs) k) (atE (edges hs ms) k).lo (atE (edges hs ms) k).hi = false) : fits hs ms ss es xs = false := by
  unfold fits
  by_cases c1 : k < hs.length
  · rw [edges_st c1, all_st h1 c1] at hout
    have : fitI hs ss es k = false := by unfold fitI; rw [show inB (atI ss k) (atH hs k).sl (atH hs k).sh = false from hout]; rfl
    rw [allB_no c1 this]; simp
  · by_cases c2 : k < hs.length + hs.length
    · obtain ⟨i, rfl⟩ : ∃ i, k = hs.length + i := ⟨k - hs.length, by omega⟩
      have hi : i < hs.length := by omega
      rw [edges_en hi, all_en h1 h2 hi] at hout
      have : fitI hs ss es i = false := by unfold fitI; rw [show inB (atI es i) (atH hs i).el (atH hs i).eh = false from hout]; simp
      rw [allB_no hi this]; simp
    · obtain ⟨i, rfl⟩ : ∃ i, k = hs.length + hs.length + i := ⟨k - (hs.length + hs.length), by omega⟩
      have hi : i < ms.length := by omega
      rw [edges_mv hi, all_mv h1 h2] at hout
      rw [allB_no hi (show fitM ms xs i = false from hout)]; simp
end
/-- what lies in a node is bounded -/
theorem nodes_bd {ed : List Ed} {xs : List Int} {n : Nat} (hnd : ∀ k, k < n → ndB (atE ed k)) (hb : ∀ k, k < n → 0 ≤ atI xs k ∧ atI xs k ≤ 65536) (a : Nat) : -(65536 * (n : Int)) ≤ atI (nodes ed xs n) a ∧ atI (nodes ed xs n) a ≤ 65536 * (n : Int) := by
  rw [nodes_at a n hnd]
  refine sum_range_bd fun k hk => ?_
  have := hb k hk
  unfold inc
  by_cases c1 : (atE ed k).a = (a : Int) <;> by_cases c2 : (atE ed k).b = (a : Int) <;> simp only [c1, c2, if_true, if_false] <;> omega
end Go.Proofs.Ytjlpoomjgidgaaa
