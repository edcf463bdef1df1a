/- Layer 8, plain: books as known on two days; lists that are checked. -/
import Derived.Test.YtkebbdpfjhhdhaaGreatFn
/- Layer 8, plain: postings are in pairs that are together 0. -/
namespace Go.Proofs.YtkebbdpfjhhdhaaGreat
open Go.Proofs.YtkebbdpfjhhdhaaGreat.Ev

inductive Prs : List Po → Prop
  | nil : Prs []
  | snoc {l : List Po} (p q : Po) : Prs l → p.it = q.it → p.dy = q.dy → q.am = 0 - p.am → Prs (l ++ [p, q])
theorem Prs.doB {b c : Bk} {x : Im} (k : Prs b.ps) (h : doB b x = some c) : Prs c.ps := by
  have ht : ∀ {it dy am to fr}, trB b it dy am to fr = some c → Prs c.ps := fun h => by
    rw [(trB_tk h).2.2.2.2]
    exact .snoc _ _ k rfl rfl rfl
  unfold Proofs.YtkebbdpfjhhdhaaGreat.doB at h
  repeat' split at h
  all_goals first | (cases h; done) | (cases h; exact k) | exact ht h
theorem Prs.list : ∀ {l : List Im} {b : Bk}, Prs b.ps → Prs (bookL b l).ps
  | [], _, k => k
  | x :: l, b, k => Prs.list (l := l) (b := stepB b x) (by
    unfold stepB
    cases h : Proofs.YtkebbdpfjhhdhaaGreat.doB b x with
    | none => exact k
    | some c =>
      have h2 := k.doB h
      exact h2)
theorem Prs.at_ {l : List Po} (k : Prs l) : l.length % 2 = 0 ∧ ∀ i, i < l.length → i % 2 = 0 → (nthE l (i + 1)).it = (nthE l i).it ∧ (nthE l (i + 1)).am = 0 - (nthE l i).am := by
  induction k with
  | nil => exact ⟨rfl, fun i h => by simp at h⟩
  | @snoc l p q k h1 h2 h3 ih =>
    obtain ⟨i1, i2⟩ := ih
    refine ⟨by simp; omega, fun i hi he => ?_⟩
    by_cases hl : i < l.length
    · have h4 : i + 1 < l.length := by omega
      have e1 : nthE (l ++ [p, q]) i = nthE l i := by unfold nthE; rw [List.getElem?_append_left hl]
      have e2 : nthE (l ++ [p, q]) (i + 1) = nthE l (i + 1) := by unfold nthE; rw [List.getElem?_append_left h4]
      rw [e1, e2]
      exact i2 i hl he
    · have h4 : i = l.length := by simp at hi; omega
      subst h4
      have e1 : nthE (l ++ [p, q]) l.length = p := by simp [nthE]
      have e2 : nthE (l ++ [p, q]) (l.length + 1) = q := by simp [nthE]
      rw [e1, e2]
      exact ⟨h1.symm, h3⟩
theorem Prs.sum {l : List Po} (k : Prs l) (d : Int) : ((hldP l d).map (·.2)).sum = 0 := by
  induction k with
  | nil => rfl
  | @snoc l p q k h1 h2 h3 ih =>
    unfold hldP at *
    rw [List.filter_append, List.map_append, List.map_append, List.sum_append, ih]
    by_cases h : p.dy ≤ d
    · have h' : q.dy ≤ d := by omega
      simp [h, h']
      omega
    · have h' : ¬ q.dy ≤ d := by omega
      simp [h, h']
end Go.Proofs.YtkebbdpfjhhdhaaGreat

/- Layer 8, plain: books as known on two days; lists that are checked. -/
namespace Go.Proofs.YtkebbdpfjhhdhaaGreat
open Go.Proofs.YtkebbdpfjhhdhaaGreat.Ev

/-- a list without an error -/
structure ChkP (l : List Im) : Prop where
  len : l.length ≤ 60
  fr : ∀ x ∈ l, frmI x = true
  id : ∀ x ∈ l, ∀ y ∈ l, x.id = y.id → x = y
theorem errI_p : ∀ {l pre : List Im}, (∀ x ∈ l, frmI x = true) → (∀ x ∈ pre ++ l, ∀ y ∈ pre ++ l, x.id = y.id → x = y) → errI pre l = 0
  | [], _, _, _ => rfl
  | x :: r, pre, h1, h2 => by
    unfold errI
    rw [if_neg (by rw [h1 x (List.mem_cons_self ..)]; simp), if_neg ?_]
    · exact errI_p (fun y hy => h1 y (List.mem_cons_of_mem _ hy)) (by simpa using h2)
    · intro h3
      obtain ⟨y, hy, h4⟩ := List.any_eq_true.1 h3
      simp only [twI, Bool.and_eq_true, decide_eq_true_eq, Bool.not_eq_true', decide_eq_false_iff_not] at h4
      exact h4.2 (h2 y (List.mem_append_left _ hy) x (List.mem_append_right _ (List.mem_cons_self ..)) h4.1)
theorem chk_iff {l : List Im} : chkI l = 0 ↔ ChkP l := by
  constructor
  · intro h
    obtain ⟨h1, h2, h3⟩ := chk_ok h
    refine ⟨h1, h3, ?_⟩
    unfold chkI at h
    rw [if_neg (by omega)] at h
    obtain ⟨_, h4⟩ := errI_ok h
    have key : ∀ i j (hi : i < l.length) (hj : j < l.length), i < j → l[i].id = l[j].id → l[i] = l[j] := fun i j hi hj hij e => by
      have := h4 j hj
      rw [List.nil_append, List.any_eq_false] at this
      have h3 := this l[i] (List.mem_iff_getElem.2 ⟨i, by rw [List.length_take]; omega, by simp⟩)
      simpa [twI, e] using h3
    intro x hx y hy e
    obtain ⟨i, hi, rfl⟩ := List.mem_iff_getElem.1 hx
    obtain ⟨j, hj, rfl⟩ := List.mem_iff_getElem.1 hy
    rcases Nat.lt_trichotomy i j with h | h | h
    · exact key i j hi hj h e
    · subst h; rfl
    · exact (key j i hj hi h e.symm).symm
  · intro k
    have := k.len
    unfold chkI
    rw [if_neg (by omega)]
    exact errI_p k.fr (by simpa using k.id)
theorem ChkP.one {l : List Im} (k : ChkP l) : OneJ l := one_of_chk (chk_iff.2 k)
theorem ChkP.filter {l : List Im} (k : ChkP l) (p : Im → Bool) : ChkP (l.filter p) := ⟨Nat.le_trans (List.length_filter_le _ _) k.len, fun x hx => k.fr x (List.mem_filter.1 hx).1, fun x hx y hy => k.id x (List.mem_filter.1 hx).1 y (List.mem_filter.1 hy).1⟩
theorem knB_pw {l : List Im} (h : OneJ l) (k : Int) : (knB l k).Pairwise LtJ := (comp_ok h).1.filter _
/-- what is known of the items of one day and before, on a later one -/
theorem knB_early {l : List Im} (k : ChkP l) {f t : Int} (h : f ≤ t) : knB (l.filter fun x => decide (x.kn ≤ f)) t = knB l f := by
  refine strict_uniq (knB_pw (k.filter _).one t) (knB_pw k.one f) fun x => ?_
  rw [knB_mem (k.filter _).one, knB_mem k.one, List.mem_filter]
  simp only [decide_eq_true_eq]
  constructor
  · exact fun h => h.1
  · exact fun h2 => ⟨h2, by omega⟩
theorem filter_split {m : List Im} (hm : m.Pairwise LtJ) {f t : Int} (h : f ≤ t) : m.filter (fun x => decide (x.kn ≤ t)) = m.filter (fun x => decide (x.kn ≤ f)) ++ m.filter (fun x => decide (f < x.kn ∧ x.kn ≤ t)) := by
  induction m with
  | nil => rfl
  | cons x m ih =>
    rw [List.pairwise_cons] at hm
    have ih := ih hm.2
    by_cases h1 : x.kn ≤ f
    · have h2 : x.kn ≤ t := by omega
      have h3 : ¬ (f < x.kn ∧ x.kn ≤ t) := by omega
      simp [h1, h2, ih]
      try omega
    · have e1 : m.filter (fun x => decide (x.kn ≤ f)) = [] := by
        rw [List.filter_eq_nil_iff]
        intro y hy
        have := hm.1 y hy
        unfold LtJ at this
        simp
        omega
      rw [e1, List.nil_append] at ih
      by_cases h2 : x.kn ≤ t
      · have h3 : f < x.kn := by omega
        simp [h1, h2, h3, e1, ih]
      · simp [h1, h2, e1, ih]
theorem knB_split {l : List Im} (h1 : OneJ l) {f t : Int} (h : f ≤ t) : ∃ r, knB l t = knB l f ++ r ∧ ∀ x ∈ r, x ∈ l := by
  refine ⟨_, filter_split (comp_ok h1).1 h, fun x hx => ?_⟩
  exact ((comp_ok h1).2 x).1 (List.mem_filter.1 hx).1
theorem bookL_app (b : Bk) (l m : List Im) : bookL b (l ++ m) = bookL (bookL b l) m := by simp [bookL]
theorem doB_grow {b c : Bk} {x : Im} (hb : -1 ≤ b.cl ∧ b.cl ≤ 728) (h : doB b x = some c) : ∃ r, c.ps = b.ps ++ r ∧ (∀ p ∈ r, b.cl < p.dy) ∧ b.cl ≤ c.cl := by
  have ht : ∀ {it dy am to fr}, trB b it dy am to fr = some c → ∃ r, c.ps = b.ps ++ r ∧ (∀ p ∈ r, b.cl < p.dy) ∧ b.cl ≤ c.cl := fun h => by
    obtain ⟨_, _, h1, h2, h3⟩ := trB_tk h
    refine ⟨_, h3, fun p hp => ?_, by omega⟩
    simp only [List.mem_cons, List.not_mem_nil, or_false] at hp
    rcases hp with rfl | rfl <;> simp only <;> omega
  unfold doB at h
  repeat' split at h
  all_goals first | (cases h; done) | exact ht h | (cases h; exact ⟨[], by simp, (fun p hp => by cases hp), by simp only; omega⟩)
theorem bookL_grow : ∀ {l : List Im} {b : Bk}, -1 ≤ b.cl ∧ b.cl ≤ 728 → (∀ x ∈ l, frmI x = true) → ∃ r, (bookL b l).ps = b.ps ++ r ∧ (∀ p ∈ r, b.cl < p.dy) ∧ b.cl ≤ (bookL b l).cl
  | [], b, _, _ => ⟨[], by simp [bookL], (fun p hp => by cases hp), Int.le_refl _⟩
  | x :: l, b, hb, hf => by
    have h1 : ∃ r, (stepB b x).ps = b.ps ++ r ∧ (∀ p ∈ r, b.cl < p.dy) ∧ b.cl ≤ (stepB b x).cl ∧ (stepB b x).cl ≤ 728 := by
      unfold stepB
      cases h : doB b x with
      | none => exact ⟨[], by simp, (fun p hp => by cases hp), Int.le_refl _, hb.2⟩
      | some c =>
        obtain ⟨r, h1, h2, h3⟩ := doB_grow hb h
        have := (doB_ok hb (hf x (List.mem_cons_self ..)) h).1
        exact ⟨r, h1, h2, h3, this.2⟩
    obtain ⟨r, g1, g2, g3, g4⟩ := h1
    obtain ⟨r2, k1, k2, k3⟩ := bookL_grow (l := l) (b := stepB b x) (by omega) fun y hy => hf y (List.mem_cons_of_mem _ hy)
    refine ⟨r ++ r2, ?_, fun p hp => ?_, ?_⟩
    · show (bookL (stepB b x) l).ps = _
      rw [k1, g1, List.append_assoc]
    · rcases List.mem_append.1 hp with hp | hp
      · exact g2 p hp
      · have := k2 p hp; omega
    · show b.cl ≤ (bookL (stepB b x) l).cl
      omega
/-- a book as known on a later day goes on with postings behind what was closed -/
theorem book_two {l : List Im} (h : chkI l = 0) {f t : Int} (hft : f ≤ t) : ∃ r, (bookB l t).ps = (bookB l f).ps ++ r ∧ (∀ p ∈ r, (bookB l f).cl < p.dy) ∧ (bookB l f).cl ≤ (bookB l t).cl := by
  obtain ⟨r, h1, h2⟩ := knB_split (one_of_chk h) hft
  have := bookL_grow (l := r) (b := bookB l f) (book_p h f).cl fun x hx => (chk_ok h).2.2 x (h2 x hx)
  unfold bookB at *
  rw [h1, bookL_app]
  exact this
theorem book_early {l : List Im} (h : chkI l = 0) {f t : Int} (hft : f ≤ t) : bookB (l.filter fun x => decide (x.kn ≤ f)) t = bookB l f := by
  unfold bookB
  rw [knB_early (chk_iff.1 h) hft]
theorem hldP_more {ps r : List Po} {d : Int} (h : ∀ p ∈ r, d < p.dy) : hldP (ps ++ r) d = hldP ps d := by
  unfold hldP
  have : r.filter (fun p => decide (p.dy ≤ d)) = [] := by
    rw [List.filter_eq_nil_iff]
    intro p hp
    have := h p hp
    simp
    omega
  rw [List.filter_append, this, List.append_nil]
end Go.Proofs.YtkebbdpfjhhdhaaGreat
