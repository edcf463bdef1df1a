/- Layer 8: the law of LedgerBalanced. -/
import Derived.Test.YtkebbdpfjhhdhaaGreatF2
import Derived.Test.YtkebbdpfjhhdhaaGreatFs
/- Layer 8, plain: Final of Final; what was posted of a bill. -/
namespace Go.Proofs.YtkebbdpfjhhdhaaGreat
open Go.Proofs.YtkebbdpfjhhdhaaGreat.Ev

/-- the items that were taken, without corrections, with what is known at last -/
def gF (TK tk : List Im) : List Im := (tk.filter fun x => decide (x.kd ≠ 2)).map (finI TK)
theorem finI_id (TK : List Im) (x : Im) : (finI TK x).id = x.id ∧ (finI TK x).kn = x.kn ∧ (finI TK x).kd = x.kd ∧ (finI TK x).dy = x.dy ∧ (finI TK x).bl = x.bl ∧ (finI TK x).ac = x.ac ∧ (x.kd ≠ 1 → finI TK x = x) := by
  unfold finI
  split
  · rename_i h; exact ⟨rfl, rfl, rfl, rfl, rfl, rfl, fun q => absurd h q⟩
  · exact ⟨rfl, rfl, rfl, rfl, rfl, rfl, fun _ => rfl⟩
theorem gF_snoc {TK tk : List Im} {x : Im} (h : x.kd ≠ 2) : gF TK (tk ++ [x]) = gF TK tk ++ [finI TK x] := by simp [gF, h]
theorem gF_snoc2 {TK tk : List Im} {x : Im} (h : x.kd = 2) : gF TK (tk ++ [x]) = gF TK tk := by simp [gF, h]
theorem gF_mem {TK tk : List Im} {y : Im} (h : y ∈ gF TK tk) : ∃ x ∈ tk, x.kd ≠ 2 ∧ finI TK x = y := by
  obtain ⟨x, hx, e⟩ := List.mem_map.1 h
  exact ⟨x, (List.mem_filter.1 hx).1, by simpa using (List.mem_filter.1 hx).2, e⟩
theorem leftL_gF (TK : List Im) {i o : Int} (h1 : i ≠ 1) (h2 : o ≠ 1) (h3 : i ≠ 2) (h4 : o ≠ 2) (a : Int) : ∀ tk : List Im, leftL i o a (gF TK tk) = leftL i o a tk
  | [] => rfl
  | x :: tk => by
    have ih := leftL_gF TK h1 h2 h3 h4 a tk
    obtain ⟨_, _, e3, _, _, e6, e7⟩ := finI_id TK x
    unfold gF at *
    by_cases hk : x.kd = 2
    · rw [List.filter_cons, if_neg (by simp [hk]), ih, leftL]
      rw [if_neg (show ¬ x.kd = o by omega), if_neg (show ¬ x.kd = i by omega)]
      simp
    · rw [List.filter_cons, if_pos (by simp [hk]), List.map_cons, leftL, leftL, ih, e6, e3]
      by_cases hk1 : x.kd = 1
      · rw [if_neg (show ¬ x.kd = o by omega), if_neg (show ¬ x.kd = i by omega), if_neg (show ¬ x.kd = o by omega), if_neg (show ¬ x.kd = i by omega)]
      · rw [e7 hk1]
theorem amtL_gF {TK tk : List Im} {n : Int} (h : amtL tk n = []) : amtL (gF TK tk) n = [] := by
  unfold amtL
  rw [List.filter_eq_nil_iff]
  intro y hy hb
  obtain ⟨x, hx, _, rfl⟩ := gF_mem hy
  have : x ∈ amtL tk n := List.mem_filter.2 ⟨hx, by simpa [(finI_id TK x).2.2.2.2.1] using hb⟩
  rw [h] at this
  cases this
theorem trB_some {b c b' : Bk} {it dy am to fr am' : Int} (h : trB b it dy am to fr = some c) (hc : b'.cl = b.cl) : ∃ c', trB b' it dy am' to fr = some c' ∧ c'.cl = b.cl ∧ c'.tk = b'.tk ∧ c'.rf = b'.rf := by
  have h1 := (trB_tk h).2.2.2.1
  unfold trB
  rw [hc, if_neg (by omega)]
  exact ⟨_, rfl, by first | rfl | exact hc, rfl, rfl⟩
theorem refin_step {TK : List Im} {b c b' : Bk} {x : Im} (hx : frmI x = true) (h2 : x.kd ≠ 2) (h : doB b x = some c) (hc : b'.cl = b.cl) (ht : b'.tk = gF TK b.tk) : ∃ c', doB b' (finI TK x) = some c' ∧ c'.cl = c.cl ∧ c'.tk = b'.tk := by
  obtain ⟨i1, _, i3, i4, i5, i6, i7⟩ := finI_id TK x
  unfold doB at h ⊢
  rw [i3]
  by_cases e1 : x.kd = 1
  · rw [if_pos e1] at h ⊢
    split at h
    · rename_i h1
      have h1 := List.length_eq_zero_iff.1 h1
      have hz : (amtL b'.tk (finI TK x).bl).length = 0 := by rw [i5, ht, amtL_gF h1]; rfl
      rw [if_pos hz, i1, i4, i6]
      obtain ⟨c', g1, g2, g3, _⟩ := trB_some (am' := (finI TK x).am) h hc
      exact ⟨c', g1, by rw [g2, (trB_tk h).2.2.1], g3⟩
    · cases h
  rw [i7 e1]
  rw [if_neg e1, if_neg h2] at h ⊢
  have fin : ∀ {it dy am to fr}, trB b it dy am to fr = some c → ∃ c', trB b' it dy am to fr = some c' ∧ c'.cl = c.cl ∧ c'.tk = b'.tk := fun h => by
    obtain ⟨c', g1, g2, g3, _⟩ := trB_some h hc
    exact ⟨c', g1, by rw [g2, (trB_tk h).2.2.1], g3⟩
  by_cases e3 : x.kd = 3
  · rw [if_pos e3] at h ⊢
    exact fin h
  rw [if_neg e3] at h ⊢
  by_cases e4 : x.kd = 4
  · rw [if_pos e4] at h ⊢
    have hl := leftL_gF TK (i := 3) (o := 4) (by omega) (by omega) (by omega) (by omega) x.ac b.tk
    rw [← ht] at hl
    rw [hl]
    split at h
    · rename_i h1
      rw [if_pos h1]
      exact fin h
    · cases h
  rw [if_neg e4] at h ⊢
  by_cases e5 : x.kd = 5
  · rw [if_pos e5] at h ⊢
    exact fin h
  rw [if_neg e5] at h ⊢
  by_cases e6 : x.kd = 6
  · rw [if_pos e6] at h ⊢
    have hl := leftL_gF TK (i := 5) (o := 6) (by omega) (by omega) (by omega) (by omega) x.ac b.tk
    rw [← ht] at hl
    rw [hl]
    split at h
    · rename_i h1
      rw [if_pos h1]
      exact fin h
    · cases h
  rw [if_neg e6] at h ⊢
  rw [hc]
  split at h
  · cases h
  · rename_i h1
    cases h
    rw [if_neg h1]
    exact ⟨_, rfl, rfl, rfl⟩
theorem refin (TK : List Im) (pre : List Im) : (∀ x ∈ pre, frmI x = true) → (bookL bk0 (gF TK (bookL bk0 pre).tk)).cl = (bookL bk0 pre).cl ∧ (bookL bk0 (gF TK (bookL bk0 pre).tk)).tk = gF TK (bookL bk0 pre).tk := by
  induction pre using List.reverseRecOn' with
  | nil => exact fun _ => ⟨rfl, rfl⟩
  | append_singleton pre x ih =>
    intro hf
    obtain ⟨i1, i2⟩ := ih fun y hy => hf y (List.mem_append_left _ hy)
    have hx := hf x (by simp)
    rw [bookL_snoc]
    cases h : doB (bookL bk0 pre) x with
    | none =>
      have e : stepB (bookL bk0 pre) x = { bookL bk0 pre with rf := (bookL bk0 pre).rf ++ [x.id] } := by simp [stepB, h]
      rw [e]
      exact ⟨i1, i2⟩
    | some c =>
      have e : stepB (bookL bk0 pre) x = { c with tk := c.tk ++ [x] } := by simp [stepB, h]
      obtain ⟨t1, _⟩ := doB_tk h
      rw [e]
      simp only [t1]
      by_cases hk : x.kd = 2
      · have hcl : c.cl = (bookL bk0 pre).cl := by
          unfold doB at h
          rw [if_neg (by omega), if_pos hk] at h
          split at h
          · cases h
          · exact (trB_tk h).2.2.1
        rw [gF_snoc2 hk]
        exact ⟨by rw [i1, hcl], i2⟩
      · rw [gF_snoc hk, bookL_snoc]
        obtain ⟨c', g1, g2, g3⟩ := refin_step (TK := TK) hx hk h i1 i2
        have e2 : stepB (bookL bk0 (gF TK (bookL bk0 pre).tk)) (finI TK x) = { c' with tk := c'.tk ++ [finI TK x] } := by simp [stepB, g1]
        rw [e2]
        exact ⟨g2, by rw [g3, i2]⟩
theorem tk_sub (pre : List Im) : (bookL bk0 pre).tk.Sublist pre := by
  induction pre using List.reverseRecOn' with
  | nil => exact List.Sublist.refl _
  | append_singleton pre x ih =>
    rw [bookL_snoc]
    unfold stepB
    cases h : doB (bookL bk0 pre) x with
    | none => exact ih.trans (List.sublist_append_left _ _)
    | some c =>
      simp only [(doB_tk h).1]
      exact ih.append (List.Sublist.refl _)
theorem amB_bd {tk : List Im} (hf : ∀ x ∈ tk, frmI x = true) (n : Int) : 0 ≤ (amB tk n).1 ∧ (amB tk n).1 ≤ 16777216 := by
  unfold amB
  split
  · simp
  · rename_i h
    exact frm_am (hf _ (amt_last h).1)
theorem frm_fin {tk : List Im} {x : Im} (hf : ∀ x ∈ tk, frmI x = true) (hx : frmI x = true) : frmI (finI tk x) = true := by
  unfold finI
  split
  · rename_i hk
    have hb := amB_bd hf x.bl
    simp only [frmI, kndI, hk, if_true, Bool.and_eq_true] at hx ⊢
    refine ⟨hx.1, hx.2.1, hx.2.2.1, hx.2.2.2.1, hx.2.2.2.2.1, ?_⟩
    simp only [inB, decide_eq_true_eq]
    exact hb
  · exact hx
theorem tk_mem {l : List Im} (h : chkI l = 0) {k : Int} {x : Im} (hx : x ∈ (bookB l k).tk) : x ∈ l ∧ x.kn ≤ k := (knB_mem (one_of_chk h)).1 ((tk_sub _).subset hx)
/-- Final has no error -/
theorem fin_chk {l : List Im} (h : chkI l = 0) (k : Int) : ChkP (finL (bookB l k).tk) := by
  have hfr := (book_p h k).fr
  refine ⟨?_, fun x hx => ?_, fun x hx y hy e => ?_⟩
  · unfold finL
    rw [List.length_map]
    refine Nat.le_trans (List.length_filter_le _ _) (Nat.le_trans (tk_sub (knB l k)).length_le (Nat.le_trans (knB_len l k) (chk_ok h).1))
  · obtain ⟨z, hz, _, rfl⟩ := gF_mem (TK := (bookB l k).tk) (tk := (bookB l k).tk) hx
    exact frm_fin hfr (hfr z hz)
  · obtain ⟨z, hz, _, rfl⟩ := gF_mem (TK := (bookB l k).tk) (tk := (bookB l k).tk) hx
    obtain ⟨w, hw, _, rfl⟩ := gF_mem (TK := (bookB l k).tk) (tk := (bookB l k).tk) hy
    rw [(finI_id _ z).1, (finI_id _ w).1] at e
    rw [(chk_iff.1 h).id z (tk_mem h hz).1 w (tk_mem h hw).1 e]
theorem fin_pw {l : List Im} (h : chkI l = 0) (k : Int) : (finL (bookB l k).tk).Pairwise LtJ := by
  unfold finL
  refine List.pairwise_map.2 (((knB_pw (one_of_chk h) k).sublist ((List.filter_sublist).trans (tk_sub _))).imp fun {a b} hab => ?_)
  have ea := finI_id (bookB l k).tk a
  have eb := finI_id (bookB l k).tk b
  unfold LtJ at *
  rw [ea.1, ea.2.1, eb.1, eb.2.1]
  exact hab
theorem fin_kn {l : List Im} (h : chkI l = 0) (k : Int) : knB (finL (bookB l k).tk) k = finL (bookB l k).tk := by
  have hp := fin_chk h k
  refine strict_uniq (knB_pw hp.one k) (fin_pw h k) fun x => ?_
  rw [knB_mem hp.one]
  refine ⟨fun q => q.1, fun q => ⟨q, ?_⟩⟩
  obtain ⟨z, hz, _, rfl⟩ := gF_mem (TK := (bookB l k).tk) (tk := (bookB l k).tk) q
  rw [(finI_id _ z).2.1]
  exact (tk_mem h hz).2
theorem fin_tk {l : List Im} (h : chkI l = 0) (k : Int) : (bookB (finL (bookB l k).tk) k).tk = finL (bookB l k).tk := by
  show (bookL bk0 (knB (finL (bookB l k).tk) k)).tk = _
  rw [fin_kn h k]
  exact (refin (bookB l k).tk (knB l k) fun x hx => (chk_ok h).2.2 x ((knB_mem (one_of_chk h)).1 hx).1).2
/-- Final of Final is the same -/
theorem fin_fin {l : List Im} (h : chkI l = 0) (k : Int) : finL (finL (bookB l k).tk) = finL (bookB l k).tk := by
  have hc := chk_iff.2 (fin_chk h k)
  have hp := (book_p hc k).hd
  rw [fin_tk h k] at hp
  have h2 : ∀ x ∈ finL (bookB l k).tk, x.kd ≠ 2 := fun x hx => by
    obtain ⟨z, _, hz2, rfl⟩ := gF_mem (TK := (bookB l k).tk) (tk := (bookB l k).tk) hx
    rw [(finI_id _ z).2.2.1]
    exact hz2
  have hfr := (fin_chk h k).fr
  generalize finL (bookB l k).tk = m at *
  unfold finL
  rw [List.filter_eq_self.2 fun x hx => by simpa using h2 x hx]
  conv => rhs; rw [← List.map_id m]
  refine List.map_congr_left fun x hx => ?_
  unfold finI
  split
  · rename_i hk
    have hb := (frm_bl (hfr x hx)).1 (.inl hk)
    have hxm : x ∈ amtL m x.bl := List.mem_filter.2 ⟨hx, by simp⟩
    have hone : amtL m x.bl = [x] := by
      cases hq : amtL m x.bl with
      | nil => rw [hq] at hxm; cases hxm
      | cons y ys =>
        obtain ⟨_, hys⟩ := hp x.bl hb.1 y ys hq
        have : ys = [] := by
          cases ys with
          | nil => rfl
          | cons z zs =>
            have hz : z ∈ amtL m x.bl := by rw [hq]; simp
            exact absurd (hys z (by simp)) (h2 z (amtL_mem hz).1)
        subst this
        rw [hq] at hxm
        rw [List.mem_singleton.1 hxm]
    unfold amB
    rw [hone]
    simp [lastE, nthE]
  · rfl
/-- both books hold the same -/
theorem fin_bal {l : List Im} (h : chkI l = 0) (k : Int) : balL (sumQ (hldP (bookB (finL (bookB l k).tk) k).ps 728)) = balL (sumQ (hldP (bookB l k).ps 728)) := by
  have hc := chk_iff.2 (fin_chk h k)
  refine bal_same (book_same hc k) (book_same h k) ?_ (book_p hc k).po (book_p h k).po
  rw [fin_tk h k, fin_fin h k]
/-! what was posted of a bill -/
/-- whether an item is one of a bill -/
def ofL (l : List Im) (id n : Int) : Bool :=
  match l with
  | [] => false
  | x :: r => if x.id = id then decide (x.bl = n) && (decide (x.kd = 1 ∨ x.kd = 2)) else ofL r id n
theorem ofL_of : ∀ {l : List Im} {x : Im} {n : Int}, (∀ y ∈ l, x.id = y.id → x = y) → x ∈ l → ofL l x.id n = (decide (x.bl = n) && decide (x.kd = 1 ∨ x.kd = 2))
  | y :: r, x, n, h, hx => by
    unfold ofL
    by_cases e : y.id = x.id
    · rw [if_pos e, h y (List.mem_cons_self ..) e.symm]
    · rw [if_neg e]
      have hxr : x ∈ r := by
        rcases List.mem_cons.1 hx with rfl | hx
        · exact absurd rfl e
        · exact hx
      exact ofL_of (fun z hz => h z (List.mem_cons_of_mem _ hz)) hxr
/-- what the postings of a bill are together -/
def sumO (l : List Im) (n : Int) : List Po → Int
  | [] => 0
  | p :: r => (if p.ac ≥ 10 ∧ ofL l p.it n = true then p.am else 0) + sumO l n r
theorem sumO_app (l : List Im) (n : Int) : ∀ a b : List Po, sumO l n (a ++ b) = sumO l n a + sumO l n b
  | [], b => by simp [sumO]
  | p :: a, b => by simp only [List.cons_append, sumO, sumO_app l n a b]; omega
theorem bill_step {l : List Im} {n : Int} (hn : 1 ≤ n) {b : Bk} {x : Im} (kp : BkP b) (hx : frmI x = true) (hof : ofL l x.id n = (decide (x.bl = n) && decide (x.kd = 1 ∨ x.kd = 2))) (k : sumO l n b.ps = (amB b.tk n).1) : sumO l n (stepB b x).ps = (amB (stepB b x).tk n).1 := by
  unfold stepB
  cases h : doB b x with
  | none => exact k
  | some c =>
    have ht := (doB_tk h).1
    have hbl := frm_bl hx
    simp only [ht]
    have hno : x.kd ≠ 1 → x.kd ≠ 2 → ∀ {it dy am to fr}, it = x.id → trB b it dy am to fr = some c → sumO l n c.ps = (amB (b.tk ++ [x]) n).1 := fun h1 h2 {it dy am to fr} hi h => by
      have h0 := hbl.2 h1 h2
      have hof2 : ofL l x.id n = false := by rw [hof]; simp; omega
      rw [amB_snoc_ne (by omega), (trB_tk h).2.2.2.2, sumO_app, k]
      simp [sumO, hi, hof2]
    unfold doB at h
    by_cases e1 : x.kd = 1
    · rw [if_pos e1] at h
      split at h
      · rename_i h1
        have hac := frm_ac hx (by omega) (by omega)
        rw [(trB_tk h).2.2.2.2, sumO_app, k]
        by_cases hb : x.bl = n
        · have hof2 : ofL l x.id n = true := by rw [hof]; simp [hb, e1]
          have h3 : (amB b.tk n).1 = 0 := by unfold amB; rw [← hb, if_pos h1]
          rw [h3, ← hb, amB_snoc_eq]
          rw [hb]
          simp [sumO, hof2]
          omega
        · have hof2 : ofL l x.id n = false := by rw [hof]; simp [hb]
          rw [amB_snoc_ne hb]
          simp [sumO, hof2]
      · cases h
    rw [if_neg e1] at h
    by_cases e2 : x.kd = 2
    · rw [if_pos e2] at h
      split at h
      · cases h
      · rename_i h1
        obtain ⟨ys, hy⟩ := amt_hd h1
        obtain ⟨hk1, hk2⟩ := kp.hd x.bl (hbl.1 (.inr e2)).1 _ _ hy
        have hac := frm_ac (kp.fr _ (amt_last h1).2) (by omega) (by omega)
        rw [(trB_tk h).2.2.2.2, sumO_app, k]
        by_cases hb : x.bl = n
        · have hof2 : ofL l x.id n = true := by rw [hof]; simp [hb, e2]
          have h3 : (amB b.tk n).1 = (lastE (amtL b.tk x.bl)).am := by unfold amB; rw [← hb, if_neg h1]
          rw [h3, ← hb, amB_snoc_eq]
          rw [hb] at hac ⊢
          simp [sumO, hof2]
          omega
        · have hof2 : ofL l x.id n = false := by rw [hof]; simp [hb]
          rw [amB_snoc_ne hb]
          simp [sumO, hof2]
    rw [if_neg e2] at h
    repeat' split at h
    all_goals first | (cases h; done) | exact hno e1 e2 rfl h | (cases h; rw [amB_snoc_ne (by have := hbl.2 e1 e2; omega)]; exact k)
theorem bill_list {l : List Im} {n : Int} (hn : 1 ≤ n) : ∀ {m : List Im} {b : Bk}, BkP b → (∀ x ∈ m, frmI x = true ∧ ofL l x.id n = (decide (x.bl = n) && decide (x.kd = 1 ∨ x.kd = 2))) → sumO l n b.ps = (amB b.tk n).1 → sumO l n (bookL b m).ps = (amB (bookL b m).tk n).1
  | [], _, _, _, k => k
  | x :: m, b, kp, hm, k => bill_list hn (m := m) (kp.step (hm x (List.mem_cons_self ..)).1) (fun y hy => hm y (List.mem_cons_of_mem _ hy)) (bill_step hn kp (hm x (List.mem_cons_self ..)).1 (hm x (List.mem_cons_self ..)).2 k)
theorem bill_sum {l : List Im} (h : chkI l = 0) {n : Int} (hn : 1 ≤ n) (k : Int) : sumO l n (bookB l k).ps = (amB (bookB l k).tk n).1 := by
  refine bill_list hn bk0_p (fun x hx => ?_) rfl
  have hxl := ((knB_mem (one_of_chk h)).1 hx).1
  exact ⟨(chk_ok h).2.2 x hxl, ofL_of (fun y hy e => (chk_iff.1 h).id x hxl y hy e) hxl⟩
end Go.Proofs.YtkebbdpfjhhdhaaGreat

/- Layer 8: the law of LedgerBalanced. -/
namespace Go.Proofs.YtkebbdpfjhhdhaaGreat
open Go.Proofs.YtkebbdpfjhhdhaaGreat.Ev

set_option maxRecDepth 100000 in
theorem few_con (h : Heap) (g : Gd h) (v : AV) (l : List Im) (hv : ImV h v l) : Con Tryz.prog Bs 17 [v] h [] (.bool (decide (l.length ≤ 30) || (decide (60 < l.length) && decide (l.length ≤ 80)))) [] := by
  refine Con.start rfl Tryz.func17 rfl rfl Tryz.ntmps17 rfl rfl g ?_
  (refine WK.seq ?_; refine WK.region ?_; refine St.assign ?_; refine WO.nil ?_; refine WK.seq ?_; refine WK.region ?_; refine St.move ?_)
  refine St.lenG rfl hv.llen ?_
  (refine St.bin ?_; refine St.move ?_)
  refine St.split (fun q => ?_) (fun q => ?_)
  · have h1 : l.length ≤ 30 := by simp at q; omega
    (refine St.skip ?_; refine St.skip ?_; refine St.skip ?_; refine St.skip ?_; refine St.skip ?_; refine St.skip ?_; refine St.skip ?_; refine St.skip ?_; refine St.pickT ?_; refine St.assign ?_; refine WO.nil ?_)
    refine St.ret (by first | exact .tmp .nil | exact .cell .nil | exact .cell (.tmp .nil) | exact .tmp (.tmp .nil) | exact .cell (.cell .nil) | exact .tmp (.cell .nil) | exact .nil | exact .tmp (.cell (.tmp .nil)) | exact .cell (.tmp (.tmp .nil)) | exact .cell (.cell (.tmp .nil)) | exact .tmp (.tmp (.tmp .nil)) | exact .tmp (.tmp (.tmp (.tmp .nil))) | exact .cell (.cell (.cell .nil))) ?_
    simp [oneOf, h1]
  have h1 : ¬ l.length ≤ 30 := by simp at q; omega
  (refine St.move ?_)
  refine St.lenG rfl hv.llen ?_
  (refine St.bin ?_; refine St.move ?_)
  refine St.split (fun q => ?_) (fun q => ?_)
  · have h2 : 60 < l.length := by simp at q; omega
    (refine St.move ?_)
    refine St.lenG rfl hv.llen ?_
    (refine St.bin ?_; refine St.pickT ?_; refine St.pickF ?_; refine St.assign ?_; refine WO.nil ?_)
    refine St.ret (by first | exact .tmp .nil | exact .cell .nil | exact .cell (.tmp .nil) | exact .tmp (.tmp .nil) | exact .cell (.cell .nil) | exact .tmp (.cell .nil) | exact .nil | exact .tmp (.cell (.tmp .nil)) | exact .cell (.tmp (.tmp .nil)) | exact .cell (.cell (.tmp .nil)) | exact .tmp (.tmp (.tmp .nil)) | exact .tmp (.tmp (.tmp (.tmp .nil))) | exact .cell (.cell (.cell .nil))) ?_
    simp [oneOf, h1, h2]
    try omega
  · have h2 : ¬ 60 < l.length := by simp at q; omega
    (refine St.skip ?_; refine St.skip ?_; refine St.skip ?_; refine St.pickF ?_; refine St.pickF ?_; refine St.assign ?_; refine WO.nil ?_)
    refine St.ret (by first | exact .tmp .nil | exact .cell .nil | exact .cell (.tmp .nil) | exact .tmp (.tmp .nil) | exact .cell (.cell .nil) | exact .tmp (.cell .nil) | exact .nil | exact .tmp (.cell (.tmp .nil)) | exact .cell (.tmp (.tmp .nil)) | exact .cell (.cell (.tmp .nil)) | exact .tmp (.tmp (.tmp .nil)) | exact .tmp (.tmp (.tmp (.tmp .nil))) | exact .cell (.cell (.cell .nil))) ?_
    simp [oneOf, h1, h2]
end Go.Proofs.YtkebbdpfjhhdhaaGreat
