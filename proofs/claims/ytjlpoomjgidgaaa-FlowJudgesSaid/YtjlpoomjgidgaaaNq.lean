/- Plain facts of layer 5: formed cuts, what goes through a cut. No walk, no number of a function. -/
import Derived.Test.YtjlpoomjgidgaaaNp
namespace Go.Proofs.Ytjlpoomjgidgaaa
/-- number i of a cut is bad: no holder's, or not greater than the one before -/
def cutBad (ids l : List Int) (i : Nat) : Bool := Bool.or (!decide (l[i]?.getD default ∈ ids)) (decide (0 < i) && decide (l[i]?.getD default ≤ l[i - 1]?.getD default))
def frm (ids : List Int) (way : Int) (l : List Int) : Bool := (Bool.or (decide (way = 1)) (decide (way = 2))) && (!decide (l.length = 0) && (List.range l.length).all fun i => !cutBad ids l i)
theorem frm_yes {ids : List Int} {way : Int} {l : List Int} (h1 : way = 1 ∨ way = 2) (h2 : l.length ≠ 0) (h3 : ∀ i, i < l.length → cutBad ids l i = false) : frm ids way l = true := by
  unfold frm
  rw [Bool.and_eq_true, Bool.and_eq_true]
  refine ⟨?_, ?_, ?_⟩
  · rcases h1 with h | h <;> simp [h]
  · simp [h2]
  · rw [List.all_eq_true]
    intro i hi
    rw [h3 i (List.mem_range.1 hi)]
    rfl
theorem frm_way {ids : List Int} {way : Int} {l : List Int} (h1 : ¬ (way = 1 ∨ way = 2)) : frm ids way l = false := by
  unfold frm
  have : (Bool.or (decide (way = 1)) (decide (way = 2))) = false := by simp; omega
  rw [this]; rfl
theorem frm_nil {ids : List Int} {way : Int} {l : List Int} (h : l.length = 0) : frm ids way l = false := by
  unfold frm
  simp [h]
theorem frm_bad {ids : List Int} {way : Int} {l : List Int} {i : Nat} (hi : i < l.length) (h : cutBad ids l i = true) : frm ids way l = false := by
  unfold frm
  have : ((List.range l.length).all fun i => !cutBad ids l i) = false := by
    rw [List.all_eq_false]
    exact ⟨i, List.mem_range.2 hi, by simp [h]⟩
  rw [this]
  simp
theorem frm_mem {ids : List Int} {way : Int} {l : List Int} (h : frm ids way l = true) : (way = 1 ∨ way = 2) ∧ ∀ x ∈ l, x ∈ ids := by
  unfold frm at h
  rw [Bool.and_eq_true, Bool.and_eq_true] at h
  obtain ⟨h1, _, h3⟩ := h
  refine ⟨by simpa using h1, fun x hx => ?_⟩
  obtain ⟨i, hi, rfl⟩ := List.mem_iff_getElem.1 hx
  rw [List.all_eq_true] at h3
  have := h3 i (List.mem_range.2 hi)
  unfold cutBad at this
  simp [hi] at this
  exact this.1
def sumF {α : Type} (f : α → Int) (xs : List α) : Int := (xs.map f).sum
section
variable {α : Type}
theorem sumF_app (f : α → Int) (xs ys : List α) : sumF f (xs ++ ys) = sumF f xs + sumF f ys := by simp [sumF]
theorem sumF_snoc (f : α → Int) (xs : List α) (x : α) : sumF f (xs ++ [x]) = sumF f xs + f x := by simp [sumF]
theorem sumF_cons (f : α → Int) (xs : List α) (x : α) : sumF f (x :: xs) = f x + sumF f xs := by simp [sumF]
theorem sumF_congr {f g : α → Int} : ∀ {xs : List α}, (∀ x ∈ xs, f x = g x) → sumF f xs = sumF g xs
  | [], _ => rfl
  | x :: r, h => by rw [sumF_cons, sumF_cons, h x (by simp), sumF_congr (xs := r) fun y hy => h y (by simp [hy])]
theorem sumF_neg (f : α → Int) : ∀ xs : List α, sumF (fun x => -f x) xs = -sumF f xs
  | [] => rfl
  | x :: r => by rw [sumF_cons, sumF_cons, sumF_neg f r]; omega
theorem sumF_sub (f g : α → Int) : ∀ xs : List α, sumF (fun x => f x - g x) xs = sumF f xs - sumF g xs
  | [] => rfl
  | x :: r => by rw [sumF_cons, sumF_cons, sumF_cons, sumF_sub f g r]; omega
theorem sumF_bd {f : α → Int} : ∀ {xs : List α}, (∀ x ∈ xs, -65536 ≤ f x ∧ f x ≤ 65536) → -(65536 * (xs.length : Int)) ≤ sumF f xs ∧ sumF f xs ≤ 65536 * (xs.length : Int)
  | [], _ => by simp [sumF]
  | x :: r, h => by
    have h1 := h x (by simp)
    have h2 := sumF_bd (xs := r) fun y hy => h y (by simp [hy])
    rw [sumF_cons, List.length_cons]
    omega
end
/-- what an edge adds to what goes through a cut -/
def ctr (way : Int) (l : List Int) (e : Ed) : Int := if decide (e.fr ∈ l) = decide (e.to ∈ l) then 0 else if decide (e.fr ∈ l) = decide (way = 1) then e.lo else -e.hi
def olH (l : List Int) (h : Ho) : Int := if h.id ∈ l then h.el else 0
def ohH (l : List Int) (h : Ho) : Int := if h.id ∈ l then h.eh else 0
def ilH (l : List Int) (h : Ho) : Int := if h.id ∈ l then h.sl else 0
def ihH (l : List Int) (h : Ho) : Int := if h.id ∈ l then h.sh else 0
def olM (l : List Int) (m : Mv) : Int := if m.fr ∈ l ∧ m.to ∉ l then m.lo else 0
def ohM (l : List Int) (m : Mv) : Int := if m.fr ∈ l ∧ m.to ∉ l then m.hi else 0
def ilM (l : List Int) (m : Mv) : Int := if m.to ∈ l ∧ m.fr ∉ l then m.lo else 0
def ihM (l : List Int) (m : Mv) : Int := if m.to ∈ l ∧ m.fr ∉ l then m.hi else 0
/-- what goes through a cut, by holders and movements -/
def thrR (way : Int) (hs : List Ho) (ms : List Mv) (l : List Int) : Int := if way = 1 then (sumF (olH l) hs + sumF (olM l) ms) - (sumF (ihH l) hs + sumF (ihM l) ms) else (sumF (ilH l) hs + sumF (ilM l) ms) - (sumF (ohH l) hs + sumF (ohM l) ms)
theorem sum_st (f : Ed → Int) (g : Ho → Int) (h : ∀ i x, f (eSt i x) = g x) (hs : List Ho) : ∀ k, k ≤ hs.length → sumF f (stTo hs k) = sumF g (hs.take k)
  | 0, _ => rfl
  | k + 1, hk => by
    have hlt : k < hs.length := by omega
    rw [stTo_succ, sumF_snoc, sum_st f g h hs k (by omega), List.take_succ_eq_append_getElem hlt, sumF_snoc, h]
    simp [hlt]
theorem sum_en (f : Ed → Int) (g : Ho → Int) (h : ∀ i x, f (eEn i x) = g x) (hs : List Ho) : ∀ k, k ≤ hs.length → sumF f (enTo hs k) = sumF g (hs.take k)
  | 0, _ => rfl
  | k + 1, hk => by
    have hlt : k < hs.length := by omega
    rw [enTo_succ, sumF_snoc, sum_en f g h hs k (by omega), List.take_succ_eq_append_getElem hlt, sumF_snoc, h]
    simp [hlt]
theorem thr_eq {way : Int} {hs : List Ho} {ms : List Mv} {l : List Int} (hz : (0 : Int) ∉ l) (hw : way = 1 ∨ way = 2) : sumF (ctr way l) (edges hs ms) = thrR way hs ms l := by
  unfold edges
  rw [sumF_app, sumF_app]
  have em : ∀ f : Mv → Int, (∀ m, ctr way l (eMv hs m) = f m) → sumF (ctr way l) (ms.map (eMv hs)) = sumF f ms := fun f hf => by
    unfold sumF
    rw [List.map_map]
    congr 1
    exact List.map_congr_left fun m _ => hf m
  rcases hw with rfl | rfl
  · rw [sum_st _ (fun h => -ihH l h) (fun i x => ?_) hs _ (Nat.le_refl _), sum_en _ (olH l) (fun i x => ?_) hs _ (Nat.le_refl _), em (fun m => olM l m - ihM l m) (fun m => ?_), List.take_length, sumF_neg, sumF_sub]
    · unfold thrR
      rw [if_pos rfl]
      omega
    · unfold ctr eMv olM ihM
      by_cases a : m.fr ∈ l <;> by_cases b : m.to ∈ l <;> simp [a, b]
    · unfold ctr eEn olH
      by_cases a : x.id ∈ l <;> simp [a, hz]
    · unfold ctr eSt ihH
      by_cases a : x.id ∈ l <;> simp [a, hz]
  · rw [sum_st _ (ilH l) (fun i x => ?_) hs _ (Nat.le_refl _), sum_en _ (fun h => -ohH l h) (fun i x => ?_) hs _ (Nat.le_refl _), em (fun m => ilM l m - ohM l m) (fun m => ?_), List.take_length, sumF_neg, sumF_sub]
    · unfold thrR
      rw [if_neg (by decide)]
      omega
    · unfold ctr eMv ilM ohM
      by_cases a : m.fr ∈ l <;> by_cases b : m.to ∈ l <;> simp [a, b]
    · unfold ctr eEn ohH
      by_cases a : x.id ∈ l <;> simp [a, hz]
    · unfold ctr eSt ilH
      by_cases a : x.id ∈ l <;> simp [a, hz]
/-- masses of a checked trade -/
def hoB (h : Ho) : Prop := (0 ≤ h.sl ∧ h.sl ≤ 65536) ∧ (0 ≤ h.sh ∧ h.sh ≤ 65536) ∧ (0 ≤ h.el ∧ h.el ≤ 65536) ∧ (0 ≤ h.eh ∧ h.eh ≤ 65536) ∧ 1 ≤ h.id
def mvB (m : Mv) : Prop := (0 ≤ m.lo ∧ m.lo ≤ 65536) ∧ (0 ≤ m.hi ∧ m.hi ≤ 65536)
theorem chkHo_bd : ∀ {l : List Ho} {seen : List Int}, chkHo seen l = 0 → ∀ x ∈ l, hoB x
  | y :: r, seen, h, x, hx => by
    rw [chkHo] at h
    split at h
    · cases h
    · rename_i hok
      split at h
      · cases h
      · rcases List.mem_cons.1 hx with rfl | hx
        · have h1 : hoOk x = true := by simpa using hok
          unfold hoOk idB msB maB at h1
          simp at h1
          unfold hoB
          omega
        · exact chkHo_bd h x hx
theorem chkMv_bd {hs : List Ho} : ∀ {l : List Mv} {seen : List Int}, chkMv hs seen l = 0 → ∀ x ∈ l, mvB x
  | y :: r, seen, h, x, hx => by
    rw [chkMv] at h
    split at h
    · rename_i hne; exact absurd h hne
    · rename_i hok
      split at h
      · cases h
      · rcases List.mem_cons.1 hx with rfl | hx
        · have h1 : mvErr hs x = 0 := by omega
          unfold mvErr at h1
          split at h1
          · cases h1
          · rename_i h2
            have h3 : mvOk x = true := by simpa using h2
            unfold mvOk msB maB at h3
            simp at h3
            unfold mvB
            omega
        · exact chkMv_bd h x hx
theorem chkT_bd {hs : List Ho} {ms : List Mv} (h : chkT hs ms = 0) : (∀ x ∈ hs, hoB x) ∧ ∀ x ∈ ms, mvB x := by
  unfold chkT at h
  split at h
  · cases h
  · split at h
    · rename_i h1; exact absurd h h1
    · rename_i h1
      exact ⟨chkHo_bd (seen := []) (by omega), chkMv_bd h⟩
end Go.Proofs.Ytjlpoomjgidgaaa
