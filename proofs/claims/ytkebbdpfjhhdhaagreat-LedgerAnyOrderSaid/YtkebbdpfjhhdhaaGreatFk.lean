/- Layer 8: a map's keys in order, sorting numbers, growing a list of items: as contracts. -/
import Derived.Test.YtkebbdpfjhhdhaaGreatFi
import Derived.Test.YtkebbdpfjhhdhaaGreatDv
import Derived.Test.YtkebbdpfjhhdhaaGreatDo
import Derived.Test.YtkebbdpfjhhdhaaGreatDf
/- Layer 8, plain: what holds of each book. -/
namespace Go.Proofs.YtkebbdpfjhhdhaaGreat
open Go.Proofs.YtkebbdpfjhhdhaaGreat.Ev

/-- how an argument's items may be cut at their ends -/
def ArgS (v : AV) (n : Nat) : Prop := v = .slice0 ∨ ∃ b off m, v = .slice b off n (.k m) ∧ n ≤ m
/-- what holds of each posting -/
structure PoOk (p : Po) : Prop where
  it : 1 ≤ p.it ∧ p.it ≤ 1099511627776
  dy : 0 ≤ p.dy ∧ p.dy ≤ 728
  ac : 1 ≤ p.ac ∧ p.ac ≤ 1099511627776
  am : -16777216 ≤ p.am ∧ p.am ≤ 16777216
theorem frm_id {x : Im} (h : frmI x = true) : (1 ≤ x.id ∧ x.id ≤ 1099511627776) ∧ 0 ≤ x.kn ∧ x.kn ≤ 728 := by
  simp only [frmI, idB, dyB, inB, Bool.and_eq_true, decide_eq_true_eq] at h
  omega
theorem frm_ac {x : Im} (h : frmI x = true) (h2 : x.kd ≠ 2) (h7 : x.kd ≠ 7) : 10 ≤ x.ac ∧ x.ac ≤ 1099511627776 := by
  simp only [frmI, Bool.and_eq_true, kndI] at h
  have := h.2.2
  repeat' split at this
  all_goals try simp only [Bool.and_eq_true, otB, inB, decide_eq_true_eq] at this
  all_goals first | omega | contradiction
theorem frm_bl {x : Im} (h : frmI x = true) : (x.kd = 1 ∨ x.kd = 2 → 1 ≤ x.bl ∧ x.bl ≤ 1099511627776) ∧ (x.kd ≠ 1 → x.kd ≠ 2 → x.bl = 0) := by
  simp only [frmI, Bool.and_eq_true, kndI] at h
  have := h.2.2
  repeat' split at this
  all_goals try simp only [Bool.and_eq_true, idB, inB, decide_eq_true_eq] at this
  all_goals first | omega | contradiction
theorem amtL_snoc (l : List Im) (x : Im) (n : Int) : amtL (l ++ [x]) n = amtL l n ++ if x.bl = n then [x] else [] := by
  unfold amtL
  rw [List.filter_append]
  congr 1
  by_cases h : x.bl = n <;> simp [h]
/-- the items of a bill begin with the bill; all others are corrections -/
def HdOk (l : List Im) : Prop := ∀ n, 1 ≤ n → ∀ y ys, amtL l n = y :: ys → y.kd = 1 ∧ ∀ z ∈ ys, z.kd = 2
theorem HdOk.snoc {l : List Im} {x : Im} (k : HdOk l) (hx : frmI x = true) (h1 : x.kd = 1 → amtL l x.bl = []) (h2 : x.kd = 2 → amtL l x.bl ≠ []) : HdOk (l ++ [x]) := by
  intro n hn y ys h
  rw [amtL_snoc] at h
  obtain ⟨g1, g2⟩ := frm_bl hx
  by_cases hb : x.bl = n
  · rw [if_pos hb] at h
    by_cases e1 : x.kd = 1
    · rw [← hb, h1 e1, List.nil_append] at h
      cases h
      exact ⟨e1, fun z hz => by cases hz⟩
    · by_cases e2 : x.kd = 2
      · have := h2 e2
        rw [hb] at this
        cases hq : amtL l n with
        | nil => exact absurd hq this
        | cons y' ys' =>
          rw [hq] at h
          cases h
          obtain ⟨q1, q2⟩ := k n hn _ _ hq
          refine ⟨q1, fun z hz => ?_⟩
          rcases List.mem_append.1 hz with hz | hz
          · exact q2 z hz
          · rw [List.mem_singleton.1 hz]; exact e2
      · have := g2 e1 e2
        omega
  · rw [if_neg hb, List.append_nil] at h
    exact k n hn y ys h
/-- what holds of each book -/
structure BkP (b : Bk) : Prop where
  cl : -1 ≤ b.cl ∧ b.cl ≤ 728
  fr : ∀ x ∈ b.tk, frmI x = true
  hd : HdOk b.tk
  po : ∀ p ∈ b.ps, PoOk p
theorem trB_po {b c : Bk} {it dy am to fr : Int} (h : trB b it dy am to fr = some c) (hp : ∀ p ∈ b.ps, PoOk p) (hc : -1 ≤ b.cl) (h1 : 1 ≤ it ∧ it ≤ 1099511627776) (h2 : 0 ≤ dy) (h3 : -16777216 ≤ am ∧ am ≤ 16777216) (h4 : 1 ≤ to ∧ to ≤ 1099511627776) (h5 : 1 ≤ fr ∧ fr ≤ 1099511627776) : ∀ p ∈ c.ps, PoOk p := by
  obtain ⟨_, _, _, h6, h7⟩ := trB_tk h
  rw [h7]
  intro p hp'
  rcases List.mem_append.1 hp' with hp' | hp'
  · exact hp p hp'
  · simp only [List.mem_cons, List.not_mem_nil, or_false] at hp'
    rcases hp' with rfl | rfl
    · exact ⟨h1, by simp only; omega, h4, h3⟩
    · exact ⟨h1, by simp only; omega, h5, by simp only; omega⟩
theorem amt_hd {l : List Im} {n : Int} (h : ¬ (amtL l n).length = 0) : ∃ ys, amtL l n = headE (amtL l n) :: ys := by
  cases hq : amtL l n with
  | nil => rw [hq] at h; simp at h
  | cons y ys => exact ⟨ys, by simp [headE, nthE]⟩
theorem amt_last {l : List Im} {n : Int} (h : ¬ (amtL l n).length = 0) : lastE (amtL l n) ∈ l ∧ headE (amtL l n) ∈ l := by
  refine ⟨(amtL_mem (nthE_mem (l := amtL l n) (by omega))).1, (amtL_mem (nthE_mem (l := amtL l n) (by omega))).1⟩
theorem BkP.step {b : Bk} {x : Im} (k : BkP b) (hx : frmI x = true) : BkP (stepB b x) := by
  unfold stepB
  cases h : doB b x with
  | none => exact ⟨k.cl, k.fr, k.hd, k.po⟩
  | some c =>
    obtain ⟨g1, g2, g3, g4⟩ := doB_ok k.cl hx h
    have hid := frm_id hx
    have ham := frm_am hx
    have hdy := frm_dy hx
    refine ⟨g1, fun y hy => ?_, ?_, ?_⟩
    · simp only [g2, List.mem_append, List.mem_singleton] at hy
      rcases hy with hy | rfl
      · exact k.fr y hy
      · exact hx
    · simp only [g2]
      refine k.hd.snoc hx (fun e => ?_) (fun e => ?_)
      · unfold doB at h
        rw [if_pos e] at h
        split at h
        · rename_i h0; exact List.length_eq_zero_iff.1 h0
        · cases h
      · unfold doB at h
        rw [if_neg (by omega), if_pos e] at h
        split at h
        · cases h
        · rename_i h0; exact fun q => h0 (by rw [q]; rfl)
    · simp only
      have hac := frm_ac hx
      unfold doB at h
      by_cases e1 : x.kd = 1
      · rw [if_pos e1] at h
        split at h
        · exact trB_po h k.po (by have := k.cl; omega) (by omega) (by omega) (by omega) (by have := hac (by omega) (by omega); omega) (by omega)
        · cases h
      rw [if_neg e1] at h
      by_cases e2 : x.kd = 2
      · rw [if_pos e2] at h
        split at h
        · cases h
        · rename_i h0
          obtain ⟨ys, hy⟩ := amt_hd h0
          obtain ⟨m1, m2⟩ := amt_last h0
          have f1 := k.fr _ m1
          have f2 := k.fr _ m2
          have hk := (k.hd x.bl ((frm_bl hx).1 (.inr e2)).1 _ _ hy).1
          have := frm_ac f2 (by omega) (by omega)
          exact trB_po h k.po (by have := k.cl; omega) (by omega) (by have := frm_dy f2; omega) (by have := frm_am f1; omega) (by omega) (by omega)
      rw [if_neg e2] at h
      by_cases e3 : x.kd = 3
      · rw [if_pos e3] at h
        exact trB_po h k.po (by have := k.cl; omega) (by omega) (by omega) (by omega) (by omega) (by have := hac (by omega) (by omega); omega)
      rw [if_neg e3] at h
      by_cases e4 : x.kd = 4
      · rw [if_pos e4] at h
        split at h
        · exact trB_po h k.po (by have := k.cl; omega) (by omega) (by omega) (by omega) (by have := hac (by omega) (by omega); omega) (by omega)
        · cases h
      rw [if_neg e4] at h
      by_cases e5 : x.kd = 5
      · rw [if_pos e5] at h
        exact trB_po h k.po (by have := k.cl; omega) (by omega) (by omega) (by omega) (by omega) (by omega)
      rw [if_neg e5] at h
      by_cases e6 : x.kd = 6
      · rw [if_pos e6] at h
        split at h
        · exact trB_po h k.po (by have := k.cl; omega) (by omega) (by omega) (by omega) (by omega) (by omega)
        · cases h
      rw [if_neg e6] at h
      split at h
      · cases h
      · cases h
        exact k.po
theorem BkP.list : ∀ {l : List Im} {b : Bk}, BkP b → (∀ x ∈ l, frmI x = true) → BkP (bookL b l)
  | [], _, k, _ => k
  | x :: l, b, k, h => BkP.list (l := l) (k.step (h x (List.mem_cons_self ..))) fun y hy => h y (List.mem_cons_of_mem _ hy)
theorem knB_mem {l : List Im} (h1 : OneJ l) {k : Int} {x : Im} : x ∈ knB l k ↔ x ∈ l ∧ x.kn ≤ k := by
  unfold knB
  rw [List.mem_filter, (comp_ok h1).2]
  simp
theorem knB_len (l : List Im) (k : Int) : (knB l k).length ≤ l.length := Nat.le_trans (List.length_filter_le _ _) (cleanJ_len l)
theorem chk_ok {l : List Im} (h : chkI l = 0) : l.length ≤ 60 ∧ OneJ l ∧ ∀ x ∈ l, frmI x = true := by
  refine ⟨?_, one_of_chk h, ?_⟩
  · unfold chkI at h
    split at h
    · simp at h
    · omega
  · unfold chkI at h
    split at h
    · simp at h
    · exact (errI_ok h).1
theorem book_n {l : List Im} (h : chkI l = 0) (k : Int) : BkN (bookB l k) (knB l k).length := by
  have := bk0_n.list (l := knB l k) fun x hx => (chk_ok h).2.2 x ((knB_mem (chk_ok h).2.1).1 hx).1
  rwa [Nat.zero_add] at this
theorem book_o {l : List Im} (h : chkI l = 0) (k : Int) : BkOk (bookB l k) := (book_n h k).ok (by have := knB_len l k; have := (chk_ok h).1; omega)
theorem book_pl {l : List Im} (h : chkI l = 0) (k : Int) : (bookB l k).ps.length ≤ 120 := by
  have := (book_n h k).pl
  have := knB_len l k
  have := (chk_ok h).1
  omega
end Go.Proofs.YtkebbdpfjhhdhaaGreat

/- Layer 8: a map's keys in order, sorting numbers, growing a list of items: as contracts. -/
namespace Go.Proofs.YtkebbdpfjhhdhaaGreat
open Go.Proofs.YtkebbdpfjhhdhaaGreat.Ev

end Go.Proofs.YtkebbdpfjhhdhaaGreat
