/- Layer 8, plain: Final of a ledger. -/
import Derived.Test.YtkebbdpfjhhdhaaGreatFs
import Derived.Test.YtkebbdpfjhhdhaaGreatF1
/- Layer 8, plain: books as known on two days; lists that are checked. -/
namespace Go.Proofs.YtkebbdpfjhhdhaaGreat
open Go.Proofs.YtkebbdpfjhhdhaaGreat.Ev

/-- a list without an error -/
structure ChkP (l : List Im) : Prop where
  len : l.length ≤ 60
  fr : ∀ x ∈ l, frmI x = true
  id : ∀ x ∈ l, ∀ y ∈ l, x.id = y.id → x = y
theorem errI_p : ∀ {l pre : List Im}, (∀ x ∈ l, frmI x = true) → (∀ x ∈ pre ++ l, ∀ y ∈ pre ++ l, x.id = y.id → x = y) → errI pre l = 0
  | [], _, _, _ => rfl
  | x :: r, pre, h1, h2 => by
    unfold errI
    rw [if_neg (by rw [h1 x (List.mem_cons_self ..)]; simp), if_neg ?_]
    · exact errI_p (fun y hy => h1 y (List.mem_cons_of_mem _ hy)) (by simpa using h2)
    · intro h3
      obtain ⟨y, hy, h4⟩ := List.any_eq_true.1 h3
      simp only [twI, Bool.and_eq_true, decide_eq_true_eq, Bool.not_eq_true', decide_eq_false_iff_not] at h4
      exact h4.2 (h2 y (List.mem_append_left _ hy) x (List.mem_append_right _ (List.mem_cons_self ..)) h4.1)
theorem chk_iff {l : List Im} : chkI l = 0 ↔ ChkP l := by
  constructor
  · intro h
    obtain ⟨h1, h2, h3⟩ := chk_ok h
    refine ⟨h1, h3, ?_⟩
    unfold chkI at h
    rw [if_neg (by omega)] at h
    obtain ⟨_, h4⟩ := errI_ok h
    have key : ∀ i j (hi : i < l.length) (hj : j < l.length), i < j → l[i].id = l[j].id → l[i] = l[j] := fun i j hi hj hij e => by
      have := h4 j hj
      rw [List.nil_append, List.any_eq_false] at this
      have h3 := this l[i] (List.mem_iff_getElem.2 ⟨i, by rw [List.length_take]; omega, by simp⟩)
      simpa [twI, e] using h3
    intro x hx y hy e
    obtain ⟨i, hi, rfl⟩ := List.mem_iff_getElem.1 hx
    obtain ⟨j, hj, rfl⟩ := List.mem_iff_getElem.1 hy
    rcases Nat.lt_trichotomy i j with h | h | h
    · exact key i j hi hj h e
    · subst h; rfl
    · exact (key j i hj hi h e.symm).symm
  · intro k
    have := k.len
    unfold chkI
    rw [if_neg (by omega)]
    exact errI_p k.fr (by simpa using k.id)
theorem ChkP.one {l : List Im} (k : ChkP l) : OneJ l := one_of_chk (chk_iff.2 k)
theorem ChkP.filter {l : List Im} (k : ChkP l) (p : Im → Bool) : ChkP (l.filter p) := ⟨Nat.le_trans (List.length_filter_le _ _) k.len, fun x hx => k.fr x (List.mem_filter.1 hx).1, fun x hx y hy => k.id x (List.mem_filter.1 hx).1 y (List.mem_filter.1 hy).1⟩
theorem knB_pw {l : List Im} (h : OneJ l) (k : Int) : (knB l k).Pairwise LtJ := (comp_ok h).1.filter _
end Go.Proofs.YtkebbdpfjhhdhaaGreat

/- Layer 8, plain: Final of a ledger. -/
namespace Go.Proofs.YtkebbdpfjhhdhaaGreat
open Go.Proofs.YtkebbdpfjhhdhaaGreat.Ev

/-- what an item posts (a correction: nothing of its own) -/
def c2 (x : Im) : List (Int × Int) :=
  if x.kd = 1 then [(x.ac, x.am), (2, 0 - x.am)] else if x.kd = 3 then [(1, x.am), (x.ac, 0 - x.am)] else if x.kd = 4 then [(x.ac, x.am), (1, 0 - x.am)]
  else if x.kd = 5 then [(1, x.am), (3, 0 - x.am)] else if x.kd = 6 then [(3, x.am), (1, 0 - x.am)] else []
def pA (p : Po) : Int × Int := (p.ac, p.am)
def sA (a : Int) : List (Int × Int) → Int
  | [] => 0
  | p :: l => (if p.1 = a then p.2 else 0) + sA a l
theorem sA_app (a : Int) : ∀ l m : List (Int × Int), sA a (l ++ m) = sA a l + sA a m
  | [], m => by simp [sA]
  | p :: l, m => by simp only [List.cons_append, sA, sA_app a l m]; omega
theorem sA_eq (a : Int) : ∀ l : List (Int × Int), sA a l = ((l.filter fun p => decide (p.1 = a)).map (·.2)).sum
  | [] => rfl
  | p :: l => by
    simp only [sA, sA_eq a l]
    by_cases h : p.1 = a <;> simp [h]
theorem sumQ_sA (l : List (Int × Int)) (a : Int) : getQ (sumQ l) a = sA a l := by rw [sumQ_get, sA_eq]
theorem amB_snoc_ne {tk : List Im} {x : Im} {n : Int} (h : x.bl ≠ n) : amB (tk ++ [x]) n = amB tk n := by
  unfold amB
  rw [amtL_snoc, if_neg h, List.append_nil]
theorem amB_snoc_eq {tk : List Im} {x : Im} : amB (tk ++ [x]) x.bl = (x.am, true) := by
  unfold amB
  rw [amtL_snoc, if_pos rfl, if_neg (by simp)]
  congr 2
  simp [lastE, nthE]
theorem finL_snoc {tk : List Im} {x : Im} (h2 : x.kd ≠ 2) (h : ∀ y ∈ tk, y.kd = 1 → x.bl ≠ y.bl) : finL (tk ++ [x]) = finL tk ++ [x] := by
  unfold finL
  rw [List.filter_append, List.map_append]
  have e1 : (tk.filter fun x => decide (x.kd ≠ 2)).map (finI (tk ++ [x])) = (tk.filter fun x => decide (x.kd ≠ 2)).map (finI tk) := List.map_congr_left fun y hy => by
    unfold finI
    split
    · rename_i hk
      rw [amB_snoc_ne (h y (List.mem_filter.1 hy).1 hk)]
    · rfl
  rw [e1]
  have e2 : ([x].filter fun x => decide (x.kd ≠ 2)) = [x] := by simp [h2]
  rw [e2]
  simp only [List.map_cons, List.map_nil]
  congr 2
  unfold finI
  split
  · rw [amB_snoc_eq]
  · rfl
/-- a correction changes its bill, and nothing else -/
theorem finL_mend {tk : List Im} {x y : Im} {ys : List Im} (hk : x.kd = 2) (ha : amtL tk x.bl = y :: ys) (hy : y.kd = 1) (hys : ∀ z ∈ ys, z.kd = 2) : ∃ A B, finL tk = A ++ { y with am := (lastE (amtL tk x.bl)).am } :: B ∧ finL (tk ++ [x]) = A ++ { y with am := x.am } :: B := by
  have hf : (tk.filter fun z => decide (z.kd ≠ 2)).filter (fun z => decide (z.bl = x.bl)) = [y] := by
    have e : (tk.filter fun z => decide (z.kd ≠ 2)).filter (fun z => decide (z.bl = x.bl)) = (amtL tk x.bl).filter fun z => decide (z.kd ≠ 2) := by
      unfold amtL
      rw [List.filter_filter, List.filter_filter]
      congr 1
      funext z
      exact Bool.and_comm _ _
    rw [e, ha, List.filter_cons, if_pos (by simp [hy])]
    congr 1
    rw [List.filter_eq_nil_iff]
    intro z hz
    simp [hys z hz]
  obtain ⟨A, B, e1, h1, h2, h3⟩ := List.filter_eq_cons_iff.1 hf
  have h4 : y.bl = x.bl := by simpa using h2
  have hB : ∀ z ∈ B, z.bl ≠ x.bl := fun z hz e => by
    have : z ∈ B.filter (fun z => decide (z.bl = x.bl)) := List.mem_filter.2 ⟨hz, by simpa using e⟩
    rw [h3] at this
    cases this
  have hA : ∀ z ∈ A, z.bl ≠ x.bl := fun z hz e => by
    have := h1 z hz
    simp [e] at this
  have hne : ∀ z, z.bl ≠ x.bl → finI (tk ++ [x]) z = finI tk z := fun z hz => by
    unfold finI
    rw [amB_snoc_ne (fun e => hz e.symm)]
  refine ⟨A.map (finI tk), B.map (finI tk), ?_, ?_⟩
  · unfold finL
    rw [e1, List.map_append, List.map_cons]
    congr 2
    unfold finI
    rw [if_pos hy, h4]
    unfold amB
    rw [if_neg (by rw [ha]; simp)]
  · unfold finL
    rw [List.filter_append]
    have : ([x].filter fun x => decide (x.kd ≠ 2)) = [] := by simp [hk]
    rw [this, List.append_nil, e1, List.map_append, List.map_cons, List.map_congr_left (fun z hz => hne z (hA z hz)), List.map_congr_left (fun z hz => hne z (hB z hz))]
    congr 2
    unfold finI
    rw [if_pos hy, h4, amB_snoc_eq]
theorem c2_bill (y : Im) (hy : y.kd = 1) (a : Int) : c2 { y with am := a } = [(y.ac, a), (2, 0 - a)] := by simp [c2, hy]
/-- what is held by a book's postings, and by what its items are at last -/
def SameH (b : Bk) : Prop := (∀ a, sA a (b.ps.map pA) = sA a ((finL b.tk).flatMap c2)) ∧ ∀ a, a ∈ (b.ps.map pA).map (·.1) ↔ a ∈ ((finL b.tk).flatMap c2).map (·.1)
theorem trB_ps {b c : Bk} {it dy am to fr : Int} (h : trB b it dy am to fr = some c) : c.ps.map pA = b.ps.map pA ++ [(to, am), (fr, 0 - am)] := by
  rw [(trB_tk h).2.2.2.2]
  simp [pA]
theorem sameH_two {b c : Bk} {x : Im} {to fr : Int} (k : SameH b) (hs : finL (b.tk ++ [x]) = finL b.tk ++ [x]) (hc : c2 x = [(to, x.am), (fr, 0 - x.am)]) (ht : c.tk = b.tk) (hp : c.ps.map pA = b.ps.map pA ++ [(to, x.am), (fr, 0 - x.am)]) : SameH { c with tk := c.tk ++ [x] } := by
  have e : finL (c.tk ++ [x]) = finL b.tk ++ [x] := by rw [ht, hs]
  refine ⟨fun a => ?_, fun a => ?_⟩
  · simp only [e, hp]
    rw [sA_app, k.1, List.flatMap_append, sA_app, List.flatMap_singleton, hc]
  · simp only [e, hp]
    rw [List.map_append, List.mem_append, k.2, List.flatMap_append, List.map_append, List.mem_append, List.flatMap_singleton, hc]
theorem SameH.step {b : Bk} {x : Im} (kp : BkP b) (hx : frmI x = true) (k : SameH b) : SameH (stepB b x) := by
  unfold stepB
  cases h : doB b x with
  | none => exact k
  | some c =>
    have ht := (doB_tk h).1
    have hbl := frm_bl hx
    have hne : x.kd ≠ 1 → x.kd ≠ 2 → ∀ y ∈ b.tk, y.kd = 1 → x.bl ≠ y.bl := fun h1 h2 y hy hk => by
      have := hbl.2 h1 h2
      have := (frm_bl (kp.fr y hy)).1 (.inl hk)
      omega
    simp only
    have h0 := h
    unfold doB at h
    by_cases e1 : x.kd = 1
    · rw [if_pos e1] at h
      split at h
      · rename_i h1
        have h1 := List.length_eq_zero_iff.1 h1
        refine sameH_two k (finL_snoc (by omega) fun y hy hk e => ?_) (by simp [c2, e1]) ht (trB_ps h)
        have : y ∈ amtL b.tk x.bl := List.mem_filter.2 ⟨hy, by simpa using e.symm⟩
        rw [h1] at this
        cases this
      · cases h
    rw [if_neg e1] at h
    by_cases e2 : x.kd = 2
    · rw [if_pos e2] at h
      split at h
      · cases h
      · rename_i h1
        obtain ⟨ys, hy⟩ := amt_hd h1
        obtain ⟨hk1, hk2⟩ := kp.hd x.bl (hbl.1 (.inr e2)).1 _ _ hy
        obtain ⟨A, B, f1, f2⟩ := finL_mend e2 hy hk1 hk2
        have hps := trB_ps h
        refine ⟨fun a => ?_, fun a => ?_⟩
        · simp only [ht, hps, f2]
          rw [sA_app, k.1, f1]
          simp only [List.flatMap_append, List.flatMap_cons, sA_app, c2_bill _ hk1]
          simp only [sA]
          by_cases g1 : (headE (amtL b.tk x.bl)).ac = a <;> by_cases g2 : 2 = a <;> simp [g1, g2] <;> omega
        · simp only [ht, hps, f2]
          rw [List.map_append, List.mem_append, k.2, f1]
          simp only [List.flatMap_append, List.flatMap_cons, c2_bill _ hk1, List.map_append, List.mem_append, List.map_cons, List.mem_cons, List.map_nil, List.not_mem_nil, or_false]
          constructor
          · rintro ((h | (h | h) | h) | (h | h))
            · exact .inl h
            · exact .inr (.inl (.inl h))
            · exact .inr (.inl (.inr h))
            · exact .inr (.inr h)
            · exact .inr (.inl (.inl h))
            · exact .inr (.inl (.inr h))
          · exact .inl
    rw [if_neg e2] at h
    by_cases e3 : x.kd = 3
    · rw [if_pos e3] at h
      exact sameH_two k (finL_snoc (by omega) (hne (by omega) (by omega))) (by simp [c2, e3]) ht (trB_ps h)
    rw [if_neg e3] at h
    by_cases e4 : x.kd = 4
    · rw [if_pos e4] at h
      split at h
      · exact sameH_two k (finL_snoc (by omega) (hne (by omega) (by omega))) (by simp [c2, e4]) ht (trB_ps h)
      · cases h
    rw [if_neg e4] at h
    by_cases e5 : x.kd = 5
    · rw [if_pos e5] at h
      exact sameH_two k (finL_snoc (by omega) (hne (by omega) (by omega))) (by simp [c2, e5]) ht (trB_ps h)
    rw [if_neg e5] at h
    by_cases e6 : x.kd = 6
    · rw [if_pos e6] at h
      split at h
      · exact sameH_two k (finL_snoc (by omega) (hne (by omega) (by omega))) (by simp [c2, e6]) ht (trB_ps h)
      · cases h
    rw [if_neg e6] at h
    split at h
    · cases h
    · cases h
      have hz : c2 x = [] := by unfold c2; rw [if_neg e1, if_neg e3, if_neg e4, if_neg e5, if_neg e6]
      have hs := finL_snoc (tk := b.tk) (x := x) (by omega) (hne (by omega) (by omega))
      refine ⟨fun a => ?_, fun a => ?_⟩
      · simp only [hs]
        rw [k.1, List.flatMap_append, List.flatMap_singleton, hz, List.append_nil]
      · simp only [hs]
        rw [k.2, List.flatMap_append, List.flatMap_singleton, hz, List.append_nil]
theorem SameH.list : ∀ {l : List Im} {b : Bk}, BkP b → (∀ x ∈ l, frmI x = true) → SameH b → SameH (bookL b l)
  | [], _, _, _, k => k
  | x :: l, b, kp, hf, k => SameH.list (l := l) (kp.step (hf x (List.mem_cons_self ..))) (fun y hy => hf y (List.mem_cons_of_mem _ hy)) (k.step kp (hf x (List.mem_cons_self ..)))
theorem book_same {l : List Im} (h : chkI l = 0) (k : Int) : SameH (bookB l k) := SameH.list bk0_p (fun x hx => (chk_ok h).2.2 x ((knB_mem (chk_ok h).2.1).1 hx).1) ⟨fun _ => rfl, fun _ => Iff.rfl⟩
/-- two books with the same items at last have the same balances -/
theorem bal_same {b c : Bk} (hb : SameH b) (hc : SameH c) (hf : finL b.tk = finL c.tk) (pb : ∀ p ∈ b.ps, PoOk p) (pc : ∀ p ∈ c.ps, PoOk p) : balL (sumQ (hldP b.ps 728)) = balL (sumQ (hldP c.ps 728)) := by
  have e : ∀ ps : List Po, (∀ p ∈ ps, PoOk p) → hldP ps 728 = ps.map pA := fun ps hp => by
    unfold hldP
    rw [List.filter_eq_self.2 fun p h => by simpa using (hp p h).dy.2]
    rfl
  rw [e _ pb, e _ pc]
  have hk : srtI ((sumQ (b.ps.map pA)).map (·.1)) = srtI ((sumQ (c.ps.map pA)).map (·.1)) := by
    have n1 := srtI_lt (sumQ_nd (b.ps.map pA))
    have n2 := srtI_lt (sumQ_nd (c.ps.map pA))
    refine List.Perm.eq_of_pairwise (le := fun a b => a < b) (fun a b _ _ h1 h2 => by omega) n1 n2 ((List.perm_ext_iff_of_nodup (n1.imp fun h => by omega) (n2.imp fun h => by omega)).2 fun a => ?_)
    rw [(srtI_perm _).mem_iff, (srtI_perm _).mem_iff, sumQ_mem, sumQ_mem, hb.2, hc.2, hf]
  unfold balL
  rw [hk]
  refine List.map_congr_left fun a _ => ?_
  rw [sumQ_sA, sumQ_sA, hb.1, hc.1, hf]
end Go.Proofs.YtkebbdpfjhhdhaaGreat
