/- Plain facts of layer 9: what was said in a case, each once, tells the same as all that was said. No walk, no number of a function. -/
import Derived.WalkKit
import Derived.Below
/- Plain facts of layer 9: courts, rounds, letters. No walk, no number of a function. -/
namespace Go.Proofs.Ytilpinmbngikgaa
def inB (n lo hi : Int) : Bool := decide (lo ≤ n) && decide (n ≤ hi)
def crt (c : Int) : Bool := inB c 3 7
def chkC (c : Int) : Int := bif crt c then 0 else 1
def maj (c : Int) : Int := bif crt c then c.tdiv 2 + 1 else 0
def rdB (r : Int) : Bool := inB r 1 1048576
def chairI (c r : Int) : Int := bif crt c && rdB r then (r - 1).tmod c else 0
/-- an arbiter of the court -/
def arB (c n : Int) : Bool := decide (0 ≤ n) && decide (n < c)
structure Le where
  id : Int
  cs : Int
  kd : Int
  rd : Int
  fr : Int
  to : Int
  vo : Int
  fi : Int
instance : Inhabited Le := ⟨⟨0, 0, 0, 0, 0, 0, 0, 0⟩⟩
def headB (c : Int) (l : Le) : Bool := crt c && (inB l.cs 1 1099511627776 && (rdB l.rd && (inB l.id 0 1099511627776 && (arB c l.fr && (arB c l.to && inB l.fi 0 65536)))))
def kindB (c : Int) (l : Le) : Bool :=
  if l.kd = 1 then decide (l.fr = chairI c l.rd) && (decide (l.vo = 0) && decide (l.fi = 0))
  else if l.kd = 2 then decide (l.to = chairI c l.rd) && (inB l.vo 0 (l.rd - 1) && (decide (l.vo > 0) || decide (l.fi = 0)))
  else if l.kd = 3 then decide (l.fr = chairI c l.rd) && decide (l.vo = 0)
  else decide (l.kd = 4) && decide (l.vo = 0)
/-- whether a letter is formed -/
def frmB (c : Int) (l : Le) : Bool := headB c l && kindB c l
def alikeB (a b : Le) : Bool := decide (a.cs = b.cs) && (decide (a.kd = b.kd) && (decide (a.rd = b.rd) && (decide (a.fr = b.fr) && (decide (a.vo = b.vo) && decide (a.fi = b.fi)))))
/-- the next round of an arbiter -/
def nextR (c a r : Int) : Int := r + 1 + (a - r.tmod c + c).tmod c
def nextN (c a r : Int) : Int := bif crt c && (arB c a && (inB r 0 1048576 && rdB (nextR c a r))) then nextR c a r else 0
def nextE (c a r : Int) : Int := bif crt c && (arB c a && inB r 0 1048576) then (bif rdB (nextR c a r) then 0 else 2) else 1
theorem inB_yes {n lo hi : Int} (h : inB n lo hi = true) : lo ≤ n ∧ n ≤ hi := by simpa [inB] using h
theorem arB_yes {c n : Int} (h : arB c n = true) : 0 ≤ n ∧ n < c := by simpa [arB] using h
end Go.Proofs.Ytilpinmbngikgaa

/- Plain facts of layer 9: lists of letters, what a chair picks. No walk, no number of a function. -/
namespace Go.Proofs.Ytilpinmbngikgaa
/-- the place of the first letter that passes a test -/
def idxF (t : Le → Bool) : List Le → Nat → Int
  | [], _ => -1
  | x :: r, k => if t x = true then (k : Int) else idxF t r (k + 1)
theorem idxF_any {t : Le → Bool} : ∀ {l : List Le} {k : Nat}, decide (idxF t l k ≥ 0) = l.any t
  | [], _ => by simp [idxF]
  | x :: r, k => by
    rw [idxF, List.any_cons]
    cases h : t x
    · simpa using idxF_any
    · simp
/-- the error of a court and letters -/
def errL (c : Int) (l : List Le) : Int := bif crt c then (if 2000 < l.length then 2 else bif l.any (fun x => !frmB c x) then 7 else 0) else 1
theorem errL_ok {c : Int} {l : List Le} (h : errL c l = 0) : crt c = true ∧ l.length ≤ 2000 ∧ ∀ x ∈ l, frmB c x = true := by
  unfold errL at h
  cases hc : crt c
  · rw [hc] at h; simp at h
  · rw [hc] at h
    simp only [cond_true] at h
    split at h
    · simp at h
    · cases ha : l.any (fun x => !frmB c x)
      · refine ⟨rfl, by omega, fun x hx => ?_⟩
        rw [List.any_eq_false] at ha
        simpa using ha x hx
      · rw [ha] at h; simp at h
def atL (l : List Le) (i : Nat) : Le := l[i]?.getD default
/-- a letter against one that was there before: two promises that do not agree -/
def badB (x y : Le) : Bool := decide (y.fr = x.fr) || (decide (y.vo = x.vo) && !decide (y.fi = x.fi))
def badR (x y : Le) : Bool := decide (y.fr = x.fr) || (decide (y.vo > 0) && (decide (y.vo = x.vo) && !decide (y.fi = x.fi)))
/-- letter i is a promise of the first one's case and round, and agrees with those before it -/
def headA (l : List Le) (i : Nat) : Bool := decide ((atL l i).kd = 2) && (decide ((atL l i).cs = (atL l 0).cs) && decide ((atL l i).rd = (atL l 0).rd))
def okA (l : List Le) (i : Nat) : Bool := headA l i && !(l.take i).any (badB (atL l i))
def agB (l : List Le) : Bool := (List.range l.length).all (okA l)
/-- the promise that binds, among the first k -/
def bestL (l : List Le) : Nat → Le
  | 0 => default
  | k + 1 => if (atL l k).vo > (bestL l k).vo then atL l k else bestL l k
def pkN (c : Int) (l : List Le) : Int := if errL c l ≠ 0 ∨ agB l = false ∨ (l.length : Int) < maj c then 0 else (bestL l l.length).fi
def pkB (c : Int) (l : List Le) : Bool := if errL c l ≠ 0 ∨ agB l = false ∨ (l.length : Int) < maj c then false else decide ((bestL l l.length).vo > 0)
def pkE (c : Int) (l : List Le) : Int := if errL c l ≠ 0 then errL c l else if agB l = false then 1 else if (l.length : Int) < maj c then 5 else 0
theorem less_succ' {p : Nat → Prop} {k : Nat} (h : ∀ i, i < k → p i) (hk : p k) : ∀ i, i < k + 1 → p i := fun i hi => by
  by_cases q : i = k
  · subst q; exact hk
  · exact h i (by omega)
end Go.Proofs.Ytilpinmbngikgaa

/- Plain facts of layer 9: the words of an arbiter, proposals. No walk, no number of a function. -/
namespace Go.Proofs.Ytilpinmbngikgaa
def caseB (y : Le) (a cs : Int) : Bool := decide (y.cs = cs) && decide (y.fr = a)
def wordB (y : Le) (a cs : Int) : Bool := caseB y a cs && Bool.or (decide (y.kd = 2)) (decide (y.kd = 4))
/-- a vote of an arbiter in a case -/
def voteB (y : Le) (a cs : Int) : Bool := decide (y.kd = 4) && caseB y a cs
theorem vote_word (y : Le) (a cs : Int) : (decide (y.kd = 4) && wordB y a cs) = voteB y a cs := by
  unfold wordB voteB
  by_cases h : y.kd = 4 <;> simp [h]
/-- the round and the finding of the last vote among the first k letters -/
def lvR (l : List Le) (a cs : Int) : Nat → Int
  | 0 => 0
  | k + 1 => if voteB (atL l k) a cs = true ∧ (atL l k).rd > lvR l a cs k then (atL l k).rd else lvR l a cs k
def lvF (l : List Le) (a cs : Int) : Nat → Int
  | 0 => 0
  | k + 1 => if voteB (atL l k) a cs = true ∧ (atL l k).rd > lvR l a cs k then (atL l k).fi else lvF l a cs k
/-- the greatest round of the words among the first k letters -/
def lwR (l : List Le) (a cs : Int) : Nat → Int
  | 0 => 0
  | k + 1 => if wordB (atL l k) a cs = true then max (lwR l a cs k) (atL l k).rd else lwR l a cs k
def vR (l : List Le) (a cs : Int) : Int := lvR l a cs l.length
def vF (l : List Le) (a cs : Int) : Int := lvF l a cs l.length
def wR (l : List Le) (a cs : Int) : Int := lwR l a cs l.length
/-- a letter of a kind in a round of a case -/
def ofB (kd cs rd : Int) (y : Le) : Bool := decide (y.kd = kd) && (decide (y.cs = cs) && decide (y.rd = rd))
def thereB (l : List Le) (kd cs rd : Int) : Bool := l.any (ofB kd cs rd)
/-- the finding of the first proposal -/
def prI (l : List Le) (cs rd : Int) : Int := idxF (ofB 3 cs rd) l 0
def prB (l : List Le) (cs rd : Int) : Bool := decide (prI l cs rd ≥ 0)
def prF (l : List Le) (cs rd : Int) : Int := if prI l cs rd < 0 then 0 else (atL l (prI l cs rd).toNat).fi
theorem idxF_lt {t : Le → Bool} : ∀ {l : List Le} {k : Nat}, idxF t l k < (k : Int) + l.length
  | [], k => by simp [idxF]; omega
  | x :: r, k => by
    rw [idxF, List.length_cons]
    split
    · omega
    · have := idxF_lt (t := t) (l := r) (k := k + 1)
      omega
theorem prI_lt (l : List Le) (cs rd : Int) : prI l cs rd < l.length := by
  have := idxF_lt (t := ofB 3 cs rd) (l := l) (k := 0)
  unfold prI
  omega
theorem pr_there (l : List Le) (cs rd : Int) : prB l cs rd = thereB l 3 cs rd := by
  unfold prB prI thereB
  exact idxF_any
/-- open in a round -/
def openB (l : List Le) (a cs rd : Int) : Bool := decide (vR l a cs < rd) && decide (wR l a cs ≤ rd)
def canPr (l : List Le) (x : Le) : Bool := thereB l 1 x.cs x.rd && (decide (wR l x.fr x.cs < x.rd) && (decide (x.vo = vR l x.fr x.cs) && decide (x.fi = vF l x.fr x.cs)))
def canVo (l : List Le) (x : Le) : Bool := prB l x.cs x.rd && (decide (prF l x.cs x.rd = x.fi) && openB l x.fr x.cs x.rd)
end Go.Proofs.Ytilpinmbngikgaa

/- Plain facts of layer 9: groups of arbiters as bits, the promises of a round. No walk, no number of a function. -/
namespace Go.Proofs.Ytilpinmbngikgaa
/-- how many arbiters are in a group -/
def popN (g : Nat) : Nat := ((List.range 7).filter fun i => g.testBit i).length
def prmB (rd : Int) (y : Le) : Bool := decide (y.kd = 2) && decide (y.rd = rd)
/-- the promises of a round, in a list of one case -/
def prms (l : List Le) (rd : Int) : List Le := l.filter (prmB rd)
theorem prms_at {l : List Le} {rd : Int} {i : Nat} (hi : i < l.length) (h : prmB rd (atL l i) = true) : (prms (l.take i) rd).length < (prms l rd).length ∧ atL (prms l rd) (prms (l.take i) rd).length = atL l i ∧ (prms (l.take (i + 1)) rd).length = (prms (l.take i) rd).length + 1 := by
  have e : atL l i = l[i] := by unfold atL; simp [hi]
  rw [e] at h
  have h1 : prms l rd = prms (l.take i) rd ++ (l[i] :: prms (l.drop (i + 1)) rd) := by
    unfold prms
    conv => lhs; rw [← List.take_append_drop i l]
    rw [List.filter_append, List.drop_eq_getElem_cons hi, List.filter_cons, if_pos h]
  refine ⟨?_, ?_, ?_⟩
  · rw [h1, List.length_append, List.length_cons]; omega
  · rw [h1]
    unfold atL
    rw [List.getElem?_append_right (Nat.le_refl _), Nat.sub_self]
    simp [hi]
  · unfold prms
    rw [List.take_succ_eq_append_getElem hi, List.filter_append, List.filter_cons, if_pos h, List.length_append]
    rfl
theorem prms_no {l : List Le} {rd : Int} {i : Nat} (hi : i < l.length) (h : prmB rd (atL l i) = false) : (prms (l.take (i + 1)) rd).length = (prms (l.take i) rd).length := by
  have e : atL l i = l[i] := by unfold atL; simp [hi]
  rw [e] at h
  unfold prms
  rw [List.take_succ_eq_append_getElem hi, List.filter_append, List.filter_cons, if_neg (by rw [h]; simp), List.length_append]
  rfl
theorem prms_mem {l : List Le} {rd : Int} {k : Nat} (h : k < (prms l rd).length) : atL (prms l rd) k ∈ l ∧ prmB rd (atL (prms l rd) k) = true := by
  have e : atL (prms l rd) k = (prms l rd)[k] := by unfold atL; simp [h]
  rw [e]
  exact List.mem_filter.1 (List.getElem_mem h)
/-- the arbiters of the first k promises whose Voted is at most a round -/
def bitsTo (p : List Le) (last : Int) : Nat → Nat
  | 0 => 0
  | k + 1 => if (atL p k).vo ≤ last then bitsTo p last k ||| 2 ^ (atL p k).fr.toNat else bitsTo p last k
def vBits (l : List Le) (rd last : Int) : Nat := bitsTo (prms l rd) last (prms l rd).length
theorem or_lt {g a : Nat} (hg : g < 128) (ha : a < 7) : g ||| 2 ^ a < 128 := by
  have h2 : 2 ^ a < 2 ^ 7 := Nat.pow_lt_pow_right (by omega) ha
  exact Nat.or_lt_two_pow (n := 7) hg h2
theorem bits_lt {p : List Le} {last : Int} : ∀ {k : Nat}, (∀ i, i < k → 0 ≤ (atL p i).fr ∧ (atL p i).fr < 7) → bitsTo p last k < 128
  | 0, _ => by simp [bitsTo]
  | k + 1, h => by
    have ih := bits_lt (p := p) (last := last) (k := k) fun i hi => h i (by omega)
    have := h k (by omega)
    rw [bitsTo]
    split
    · exact or_lt ih (by omega)
    · exact ih
end Go.Proofs.Ytilpinmbngikgaa

/- Plain facts of layer 9: what was said in a case, each once; the first letter that is not lawful. No walk, no number of a function. -/
namespace Go.Proofs.Ytilpinmbngikgaa
def stepD (A : List Le) (y : Le) (cs : Int) : List Le := if y.cs = cs then (if A.any (alikeB y) = true then A else A ++ [y]) else A
/-- the letters of a case among the first k, each once -/
def dedT (l : List Le) (cs : Int) : Nat → List Le
  | 0 => []
  | k + 1 => stepD (dedT l cs k) (atL l k) cs
theorem ded_mem {l : List Le} {cs : Int} {y : Le} : ∀ {k : Nat}, y ∈ dedT l cs k → ∃ i, i < k ∧ y = atL l i ∧ y.cs = cs
  | 0, h => by cases h
  | k + 1, h => by
    rw [dedT, stepD] at h
    split at h
    · rename_i hc
      split at h
      · obtain ⟨i, h1, h2⟩ := ded_mem h
        exact ⟨i, by omega, h2⟩
      · rcases List.mem_append.1 h with h | h
        · obtain ⟨i, h1, h2⟩ := ded_mem h
          exact ⟨i, by omega, h2⟩
        · have := List.mem_singleton.1 h
          subst this
          exact ⟨k, by omega, rfl, hc⟩
    · obtain ⟨i, h1, h2⟩ := ded_mem h
      exact ⟨i, by omega, h2⟩
theorem ded_len {l : List Le} {cs : Int} : ∀ {k : Nat}, (dedT l cs k).length ≤ k
  | 0 => Nat.le_refl _
  | k + 1 => by
    have := ded_len (l := l) (cs := cs) (k := k)
    rw [dedT, stepD]
    split
    · split
      · omega
      · rw [List.length_append, List.length_singleton]; omega
    · omega
/-- the first number below a bound that passes a test -/
def fstN (t : Nat → Bool) : Nat → Nat → Int
  | 0, _ => -1
  | n + 1, k => if t k = true then (k : Int) else fstN t n (k + 1)
theorem fstN_at {t : Nat → Bool} : ∀ {n k m : Nat}, m ≤ n → (∀ i, i < m → t (k + i) = false) → fstN t n k = fstN t (n - m) (k + m)
  | n, k, 0, _, _ => rfl
  | 0, k, m + 1, h, _ => by omega
  | n + 1, k, m + 1, h, hf => by
    have h0 := hf 0 (by omega)
    rw [Nat.add_zero] at h0
    rw [fstN, if_neg (by rw [h0]; simp), fstN_at (n := n) (k := k + 1) (m := m) (by omega) fun i hi => by
      have := hf (i + 1) (by omega)
      rwa [show k + (i + 1) = k + 1 + i by omega] at this]
    congr 1 <;> omega
theorem fstN_yes {t : Nat → Bool} {n m : Nat} (hm : m < n) (h : ∀ i, i < m → t i = false) (h2 : t m = true) : fstN t n 0 = m := by
  rw [fstN_at (m := m) (by omega) (fun i hi => by rw [Nat.zero_add]; exact h i hi), Nat.zero_add]
  obtain ⟨q, hq⟩ : ∃ q, n - m = q + 1 := ⟨n - m - 1, by omega⟩
  rw [hq, fstN, if_pos h2]
theorem fstN_no {t : Nat → Bool} {n : Nat} (h : ∀ i, i < n → t i = false) : fstN t n 0 = -1 := by
  rw [fstN_at (m := n) (Nat.le_refl _) (fun i hi => by rw [Nat.zero_add]; exact h i hi), Nat.sub_self]
  rfl
/-! what was said in each case, in a list of cases -/
abbrev CT := List (Int × Nat × List Le)
/-- a case stands in the list, or it doesn't -/
theorem ct_split (cs : Int) : ∀ T : CT, (∀ e ∈ T, e.1 ≠ cs) ∨ ∃ A j ls B, T = A ++ (cs, j, ls) :: B ∧ ∀ e ∈ A, e.1 ≠ cs
  | [] => .inl fun e h => by cases h
  | (k, j, ls) :: r => by
    by_cases h : k = cs
    · subst h
      exact .inr ⟨[], j, ls, r, rfl, fun e h => by cases h⟩
    · rcases ct_split cs r with h2 | ⟨A, j2, ls2, B, rfl, h2⟩
      · exact .inl fun e he => by
          rcases List.mem_cons.1 he with rfl | he
          · exact h
          · exact h2 e he
      · exact .inr ⟨(k, j, ls) :: A, j2, ls2, B, rfl, fun e he => by
          rcases List.mem_cons.1 he with rfl | he
          · exact h
          · exact h2 e he⟩
/-- the list of cases says what the first k letters said -/
structure CtOk (l : List Le) (k : Nat) (T : CT) : Prop where
  nd : (T.map (·.1)).Nodup
  is : ∀ e ∈ T, e.2.2 = dedT l e.1 k ∧ 0 < e.2.2.length
  no : ∀ cs, (∀ e ∈ T, e.1 ≠ cs) → dedT l cs k = []
theorem ctOk_nil (l : List Le) : CtOk l 0 [] := ⟨List.nodup_nil, fun e h => (by cases h), fun _ _ => rfl⟩
theorem ded_other {l : List Le} {k : Nat} {cs : Int} (h : (atL l k).cs ≠ cs) : dedT l cs (k + 1) = dedT l cs k := by rw [dedT, stepD, if_neg h]
theorem ded_alike {l : List Le} {k : Nat} (h : (dedT l (atL l k).cs k).any (alikeB (atL l k)) = true) : dedT l (atL l k).cs (k + 1) = dedT l (atL l k).cs k := by rw [dedT, stepD, if_pos rfl, if_pos h]
theorem ded_new {l : List Le} {k : Nat} (h : (dedT l (atL l k).cs k).any (alikeB (atL l k)) = false) : dedT l (atL l k).cs (k + 1) = dedT l (atL l k).cs k ++ [atL l k] := by rw [dedT, stepD, if_pos rfl, if_neg (by rw [h]; simp)]
theorem CtOk.same {l : List Le} {k : Nat} {T : CT} (q : CtOk l k T) (h : (dedT l (atL l k).cs k).any (alikeB (atL l k)) = true) : CtOk l (k + 1) T := by
  have e : ∀ cs, dedT l cs (k + 1) = dedT l cs k := fun cs => by
    by_cases hc : (atL l k).cs = cs
    · subst hc; exact ded_alike h
    · exact ded_other hc
  exact ⟨q.nd, fun x hx => by rw [e]; exact q.is x hx, fun cs hc => by rw [e]; exact q.no cs hc⟩
theorem CtOk.upd {l : List Le} {k j j' : Nat} {A B : CT} {ls : List Le} (q : CtOk l k (A ++ ((atL l k).cs, j, ls) :: B)) (h : (dedT l (atL l k).cs k).any (alikeB (atL l k)) = false) : CtOk l (k + 1) (A ++ ((atL l k).cs, j', ls ++ [atL l k]) :: B) := by
  have hn := q.nd
  rw [List.map_append, List.map_cons] at hn
  have hne : ∀ e, e ∈ A ∨ e ∈ B → e.1 ≠ (atL l k).cs := fun e he hc => by
    obtain ⟨_, h2, h3⟩ := List.nodup_append.1 hn
    rcases he with he | he
    · exact h3 e.1 (List.mem_map.2 ⟨e, he, rfl⟩) _ (List.mem_cons_self ..) hc
    · rw [List.nodup_cons] at h2
      exact h2.1 (List.mem_map.2 ⟨e, he, hc⟩)
  refine ⟨by rw [List.map_append, List.map_cons]; exact hn, fun e he => ?_, fun cs hc => ?_⟩
  · rcases List.mem_append.1 he with he | he
    · rw [ded_other (fun e2 => hne e (.inl he) e2.symm)]
      exact q.is e (List.mem_append.2 (.inl he))
    · rcases List.mem_cons.1 he with rfl | he
      · refine ⟨?_, by simp⟩
        rw [ded_new h]
        have := (q.is _ (List.mem_append.2 (.inr (List.mem_cons_self ..)))).1
        rw [← this]
      · rw [ded_other (fun e2 => hne e (.inr he) e2.symm)]
        exact q.is e (List.mem_append.2 (.inr (List.mem_cons_of_mem _ he)))
  · have h1 : (atL l k).cs ≠ cs := hc ((atL l k).cs, j', ls ++ [atL l k]) (by simp)
    rw [ded_other h1]
    refine q.no cs fun e he => ?_
    rcases List.mem_append.1 he with he | he
    · exact hc e (by simp [he])
    · rcases List.mem_cons.1 he with rfl | he
      · exact h1
      · exact hc e (by simp [he])
theorem CtOk.new {l : List Le} {k j' : Nat} {T : CT} (q : CtOk l k T) (hno : ∀ e ∈ T, e.1 ≠ (atL l k).cs) : CtOk l (k + 1) (T ++ [((atL l k).cs, j', [atL l k])]) := by
  have hd := q.no _ hno
  refine ⟨?_, fun e he => ?_, fun cs hc => ?_⟩
  · rw [List.map_append, List.map_cons, List.map_nil, List.nodup_append]
    refine ⟨q.nd, by simp, fun a ha b hb => ?_⟩
    obtain ⟨e, he, rfl⟩ := List.mem_map.1 ha
    rw [List.mem_singleton.1 hb]
    exact hno e he
  · rcases List.mem_append.1 he with he | he
    · rw [ded_other (fun e2 => hno e he e2.symm)]
      exact q.is e he
    · have := List.mem_singleton.1 he
      subst this
      refine ⟨?_, by simp⟩
      rw [ded_new (by rw [hd]; rfl), hd]
      rfl
  · have h1 : (atL l k).cs ≠ cs := hc ((atL l k).cs, j', [atL l k]) (by simp)
    rw [ded_other h1]
    exact q.no cs fun e he => hc e (by simp [he])
end Go.Proofs.Ytilpinmbngikgaa

/- Plain facts of layer 9: what the specification of a lawful letter asks. No walk, no number of a function. -/
namespace Go.Proofs.Ytilpinmbngikgaa
theorem idxF_first {t : Le → Bool} {l : List Le} {k : Nat} (hk : k < l.length) (h : ∀ i, i < k → t (atL l i) = false) (h2 : t (atL l k) = true) : idxF t l 0 = (k : Int) := by
  have key : ∀ (l : List Le) (k c : Nat), k < l.length → (∀ i, i < k → t (atL l i) = false) → t (atL l k) = true → idxF t l c = ((c + k : Nat) : Int) := by
    intro l
    induction l with
    | nil => intro k c hk _ _; simp at hk
    | cons x r ih =>
      intro k c hk h h2
      rw [idxF]
      cases k with
      | zero =>
        have : t x = true := h2
        rw [if_pos this]
        rfl
      | succ k =>
        have h0 : t x = false := h 0 (by omega)
        rw [if_neg (by rw [h0]; simp), ih k (c + 1) (by simpa using hk) (fun i hi => h (i + 1) (by omega)) h2]
        congr 1
        omega
  have := key l k 0 hk h h2
  rwa [Nat.zero_add] at this
theorem idxF_none {t : Le → Bool} {l : List Le} (h : ∀ i, i < l.length → t (atL l i) = false) : idxF t l 0 = -1 := by
  have key : ∀ (l : List Le) (c : Nat), (∀ i, i < l.length → t (atL l i) = false) → idxF t l c = -1 := by
    intro l
    induction l with
    | nil => intro c _; rfl
    | cons x r ih =>
      intro c h
      have h0 : t x = false := h 0 (by simp)
      rw [idxF, if_neg (by rw [h0]; simp)]
      exact ih (c + 1) fun i hi => h (i + 1) (by simpa using hi)
  exact key l 0 h
/-- how many have a Voted of at most a round -/
def upT (l : List Le) (n : Int) : Nat → Int
  | 0 => 0
  | k + 1 => if (atL l k).vo ≤ n then upT l n k + 1 else upT l n k
def upN (l : List Le) (n : Int) : Int := upT l n l.length
def letR (c : Int) (l : List Le) (fi : Int) (y : Le) : Bool := decide (y.vo > 0) && (decide (y.fi = fi) && decide (upN l y.vo ≥ maj c))
def propR (c : Int) (l : List Le) (fi : Int) : Bool := if upN l 0 ≥ maj c then true else l.any (letR c l fi)
/-- a promise of an arbiter in a round of a case -/
def isP (cs rd a : Int) (y : Le) : Bool := decide (y.kd = 2) && (decide (y.cs = cs) && (decide (y.rd = rd) && decide (y.fr = a)))
/-- the first promises of the first k arbiters -/
def prR (l : List Le) (cs rd : Int) (k : Nat) : List Le := (List.range k).filterMap fun (a : Nat) => l.find? (isP cs rd (a : Int))
theorem prR_succ (l : List Le) (cs rd : Int) (k : Nat) : prR l cs rd (k + 1) = prR l cs rd k ++ (l.find? (isP cs rd (k : Int))).toList := by
  unfold prR
  rw [List.range_succ, List.filterMap_append]
  cases h : l.find? (isP cs rd (k : Int)) <;> simp [h]
/-- whether a letter is lawful behind others -/
def lawR (c : Int) (l : List Le) (x : Le) : Bool :=
  if l.any (fun y => alikeB y x) = true then true
  else if x.kd = 1 then true
  else if x.kd = 2 then canPr l x
  else if x.kd = 3 then (if thereB l 3 x.cs x.rd = true then false else propR c (prR l x.cs x.rd c.toNat) x.fi)
  else prB l x.cs x.rd && (decide (prF l x.cs x.rd = x.fi) && (decide (wR l x.fr x.cs ≤ x.rd) && decide (vR l x.fr x.cs < x.rd)))
end Go.Proofs.Ytilpinmbngikgaa

/- Plain facts of layer 9: a group's bits are counted as its arbiters. No walk, no number of a function. -/
namespace Go.Proofs.Ytilpinmbngikgaa
theorem bits_test {p : List Le} {last : Int} {a : Nat} : ∀ {k : Nat}, (bitsTo p last k).testBit a = true ↔ ∃ i, i < k ∧ (atL p i).vo ≤ last ∧ (atL p i).fr.toNat = a
  | 0 => by simp [bitsTo]
  | k + 1 => by
    have ih := bits_test (p := p) (last := last) (a := a) (k := k)
    rw [bitsTo]
    split
    · rename_i hle
      rw [Nat.testBit_or, Bool.or_eq_true, ih, Nat.testBit_two_pow]
      simp only [decide_eq_true_eq]
      constructor
      · rintro (⟨i, h1, h2, h3⟩ | h)
        · exact ⟨i, by omega, h2, h3⟩
        · exact ⟨k, by omega, hle, h⟩
      · rintro ⟨i, h1, h2, h3⟩
        by_cases e : i = k
        · subst e; exact .inr h3
        · exact .inl ⟨i, by omega, h2, h3⟩
    · rename_i hle
      rw [ih]
      constructor
      · rintro ⟨i, h1, h2, h3⟩; exact ⟨i, by omega, h2, h3⟩
      · rintro ⟨i, h1, h2, h3⟩
        by_cases e : i = k
        · subst e; exact absurd h2 hle
        · exact ⟨i, by omega, h2, h3⟩
theorem count_le {t : Nat → Bool} {m : Nat} : ∀ {n : Nat}, m ≤ n → (∀ a, m ≤ a → a < n → t a = false) → ((List.range n).filter t).length = ((List.range m).filter t).length
  | 0, h, _ => by rw [show m = 0 by omega]
  | n + 1, h, hf => by
    by_cases e : m = n + 1
    · rw [e]
    · rw [List.range_succ, List.filter_append, List.length_append, count_le (n := n) (by omega) fun a h1 h2 => hf a h1 (by omega)]
      have := hf n (by omega) (by omega)
      simp [this]
theorem upT_snoc {l : List Le} {n : Int} {y : Le} : ∀ {k : Nat}, k ≤ l.length → upT (l ++ [y]) n k = upT l n k
  | 0, _ => rfl
  | k + 1, h => by
    have ih := upT_snoc (l := l) (n := n) (y := y) (k := k) (by omega)
    have e : atL (l ++ [y]) k = atL l k := by unfold atL; rw [List.getElem?_append_left (by omega)]
    rw [upT, upT, ih, e]
theorem upN_snoc {l : List Le} {n : Int} {y : Le} : upN (l ++ [y]) n = upN l n + if y.vo ≤ n then 1 else 0 := by
  unfold upN
  rw [List.length_append, List.length_singleton, upT, upT_snoc (Nat.le_refl _)]
  have e : atL (l ++ [y]) l.length = y := by unfold atL; simp
  rw [e]
  split <;> omega
/-- how many first promises have a Voted of at most a round -/
theorem upN_count {l : List Le} {cs rd n : Int} : ∀ k : Nat, upN (prR l cs rd k) n = (((List.range k).filter fun (a : Nat) => match l.find? (isP cs rd (a : Int)) with | some y => decide (y.vo ≤ n) | none => false).length : Int)
  | 0 => rfl
  | k + 1 => by
    have ih := upN_count (l := l) (cs := cs) (rd := rd) (n := n) k
    rw [prR_succ, List.range_succ, List.filter_append, List.length_append]
    cases h : l.find? (isP cs rd (k : Int)) with
    | none =>
      rw [show (none : Option Le).toList = [] from rfl, List.append_nil, ih]
      simp [h]
    | some y =>
      rw [show (some y).toList = [y] from rfl, upN_snoc, ih]
      by_cases hy : y.vo ≤ n <;> simp [h, hy]
end Go.Proofs.Ytilpinmbngikgaa

/- Plain facts of layer 9: what was said in a case, each once, tells the same as all that was said. No walk, no number of a function. -/
namespace Go.Proofs.Ytilpinmbngikgaa
theorem alike_iff {a b : Le} : alikeB a b = true ↔ a.cs = b.cs ∧ a.kd = b.kd ∧ a.rd = b.rd ∧ a.fr = b.fr ∧ a.vo = b.vo ∧ a.fi = b.fi := by unfold alikeB; simp
theorem alike_symm (a b : Le) : alikeB a b = alikeB b a := by
  rw [Bool.eq_iff_iff, alike_iff, alike_iff]
  constructor <;> (rintro ⟨h1, h2, h3, h4, h5, h6⟩; exact ⟨h1.symm, h2.symm, h3.symm, h4.symm, h5.symm, h6.symm⟩)
theorem atL_take {l : List Le} {i k : Nat} (h : k < i) : atL (l.take i) k = atL l k := by unfold atL; simp [List.getElem?_take, h]
theorem atL_app {A : List Le} {y : Le} {k : Nat} (h : k < A.length) : atL (A ++ [y]) k = atL A k := by unfold atL; rw [List.getElem?_append_left h]
theorem atL_last {A : List Le} {y : Le} : atL (A ++ [y]) A.length = y := by unfold atL; simp
theorem take_step {l : List Le} {i : Nat} (h : i < l.length) : l.take (i + 1) = l.take i ++ [atL l i] := by
  rw [List.take_succ_eq_append_getElem h]
  unfold atL
  simp [h]
/-! the last vote, the last word -/
theorem lv_take {l : List Le} {a cs : Int} {i : Nat} : ∀ {k : Nat}, k ≤ i → lvR (l.take i) a cs k = lvR l a cs k ∧ lvF (l.take i) a cs k = lvF l a cs k ∧ lwR (l.take i) a cs k = lwR l a cs k
  | 0, _ => ⟨rfl, rfl, rfl⟩
  | k + 1, h => by
    obtain ⟨h1, h2, h3⟩ := lv_take (l := l) (a := a) (cs := cs) (i := i) (k := k) (by omega)
    simp only [lvR, lvF, lwR, h1, h2, h3, atL_take (show k < i by omega), and_self]
theorem lv_app {A : List Le} {y : Le} {a cs : Int} : ∀ {k : Nat}, k ≤ A.length → lvR (A ++ [y]) a cs k = lvR A a cs k ∧ lvF (A ++ [y]) a cs k = lvF A a cs k ∧ lwR (A ++ [y]) a cs k = lwR A a cs k
  | 0, _ => ⟨rfl, rfl, rfl⟩
  | k + 1, h => by
    obtain ⟨h1, h2, h3⟩ := lv_app (A := A) (y := y) (a := a) (cs := cs) (k := k) (by omega)
    simp only [lvR, lvF, lwR, h1, h2, h3, atL_app (show k < A.length by omega), and_self]
theorem vR_snoc {A : List Le} {y : Le} {a cs : Int} : vR (A ++ [y]) a cs = (if voteB y a cs = true ∧ y.rd > vR A a cs then y.rd else vR A a cs) ∧ vF (A ++ [y]) a cs = (if voteB y a cs = true ∧ y.rd > vR A a cs then y.fi else vF A a cs) ∧ wR (A ++ [y]) a cs = (if wordB y a cs = true then max (wR A a cs) y.rd else wR A a cs) := by
  obtain ⟨h1, h2, h3⟩ := lv_app (A := A) (y := y) (a := a) (cs := cs) (Nat.le_refl _)
  unfold vR vF wR
  rw [List.length_append, List.length_singleton]
  simp only [lvR, lvF, lwR, h1, h2, h3, atL_last, and_self]
theorem lv_mono {l : List Le} {a cs : Int} : ∀ {k i : Nat}, i < k → (voteB (atL l i) a cs = true → (atL l i).rd ≤ lvR l a cs k) ∧ (wordB (atL l i) a cs = true → (atL l i).rd ≤ lwR l a cs k)
  | 0, i, h => by omega
  | k + 1, i, h => by
    by_cases e : i = k
    · subst e
      refine ⟨fun hv => ?_, fun hw => ?_⟩
      · rw [lvR]
        split
        · omega
        · rename_i hn
          have : ¬ (atL l i).rd > lvR l a cs i := fun g => hn ⟨hv, g⟩
          omega
      · rw [lwR, if_pos hw]
        omega
    · obtain ⟨h1, h2⟩ := lv_mono (l := l) (a := a) (cs := cs) (k := k) (i := i) (by omega)
      refine ⟨fun hv => ?_, fun hw => ?_⟩
      · have := h1 hv
        rw [lvR]
        split <;> omega
      · have := h2 hw
        rw [lwR]
        split <;> omega
theorem vR_ge {A : List Le} {a cs : Int} {z : Le} (hz : z ∈ A) : (voteB z a cs = true → z.rd ≤ vR A a cs) ∧ (wordB z a cs = true → z.rd ≤ wR A a cs) := by
  obtain ⟨i, hi, rfl⟩ := List.mem_iff_getElem.1 hz
  have := lv_mono (l := A) (a := a) (cs := cs) (k := A.length) (i := i) hi
  rw [show atL A i = A[i] by unfold atL; simp [hi]] at this
  exact this
theorem vote_alike {y z : Le} (h : alikeB y z = true) (a cs : Int) : voteB y a cs = voteB z a cs ∧ wordB y a cs = wordB z a cs := by
  obtain ⟨h1, h2, h3, h4, h5, h6⟩ := alike_iff.1 h
  unfold voteB wordB caseB
  rw [h1, h2, h4]
  exact ⟨rfl, rfl⟩
theorem word_case {y : Le} {a cs : Int} (h : y.cs ≠ cs) : voteB y a cs = false ∧ wordB y a cs = false := by
  unfold voteB wordB caseB
  simp [h]
/-- of a case the last vote and the last word are those of all letters -/
theorem ded_lv {l : List Le} {a cs : Int} : ∀ i, vR (dedT l cs i) a cs = lvR l a cs i ∧ vF (dedT l cs i) a cs = lvF l a cs i ∧ wR (dedT l cs i) a cs = lwR l a cs i
  | 0 => ⟨rfl, rfl, rfl⟩
  | i + 1 => by
    obtain ⟨h1, h2, h3⟩ := ded_lv (l := l) (a := a) (cs := cs) i
    rw [dedT, stepD, lvR, lvF, lwR, ← h1, ← h2, ← h3]
    by_cases hc : (atL l i).cs = cs
    · rw [if_pos hc]
      cases ha : (dedT l cs i).any (alikeB (atL l i))
      · rw [if_neg (by simp)]
        exact vR_snoc
      · rw [if_pos rfl]
        obtain ⟨z, hz, hal⟩ := List.any_eq_true.1 ha
        obtain ⟨g1, g2⟩ := vote_alike hal a cs
        obtain ⟨k1, k2⟩ := vR_ge (a := a) (cs := cs) hz
        have hrd := (alike_iff.1 hal).2.2.1
        have hn : ¬ (voteB (atL l i) a cs = true ∧ (atL l i).rd > vR (dedT l cs i) a cs) := fun ⟨g3, g4⟩ => by
          rw [g1] at g3
          have := k1 g3
          omega
        rw [if_neg hn, if_neg hn]
        refine ⟨rfl, rfl, ?_⟩
        split
        · rename_i hw
          rw [g2] at hw
          have := k2 hw
          omega
        · rfl
    · rw [if_neg hc]
      obtain ⟨g1, g2⟩ := word_case (a := a) hc
      rw [g1, g2]
      simp
/-! what is asked of all letters of a case, the same for letters that say the same -/
structure Inv {β : Type} (cs : Int) (t : Le → Bool) (w : Le → β) : Prop where
  cs : ∀ y, t y = true → y.cs = cs
  t : ∀ y z, alikeB y z = true → t y = t z
  w : ∀ y z, alikeB y z = true → w y = w z
theorem ded_find {β : Type} {l : List Le} {cs : Int} {t : Le → Bool} {w : Le → β} (v : Inv cs t w) : ∀ {i : Nat}, i ≤ l.length → ((dedT l cs i).find? t).map w = ((l.take i).find? t).map w
  | 0, _ => by simp [dedT]
  | i + 1, h => by
    have ih := ded_find v (l := l) (i := i) (by omega)
    rw [dedT, stepD, take_step (show i < l.length by omega), List.find?_append]
    by_cases hc : (atL l i).cs = cs
    · rw [if_pos hc]
      cases ha : (dedT l cs i).any (alikeB (atL l i))
      · rw [if_neg (by simp), List.find?_append]
        cases h1 : (dedT l cs i).find? t with
        | some z =>
          rw [h1] at ih
          cases h2 : (l.take i).find? t with
          | some z2 => rw [h2] at ih; simpa using ih
          | none => rw [h2] at ih; simp at ih
        | none =>
          rw [h1] at ih
          cases h2 : (l.take i).find? t with
          | some z2 => rw [h2] at ih; simp at ih
          | none => rfl
      · rw [if_pos rfl]
        obtain ⟨z, hz, hal⟩ := List.any_eq_true.1 ha
        cases h2 : (l.take i).find? t with
        | some z2 => rw [h2] at ih; simpa using ih
        | none =>
          rw [h2] at ih
          have h1 : (dedT l cs i).find? t = none := by
            cases h1 : (dedT l cs i).find? t with
            | none => rfl
            | some _ => rw [h1] at ih; simp at ih
          rw [h1]
          have hz2 : t z = false := by
            have := List.find?_eq_none.1 h1 z hz
            simpa using this
          have hy : t (atL l i) = false := by rw [v.t _ _ hal]; exact hz2
          simp [List.find?_cons, hy]
    · rw [if_neg hc, ih]
      have hy : t (atL l i) = false := by
        cases h1 : t (atL l i)
        · rfl
        · exact absurd (v.cs _ h1) hc
      simp [List.find?_cons, hy]
theorem any_find {l : List Le} {t : Le → Bool} : l.any t = (l.find? t).isSome := by
  rw [Bool.eq_iff_iff, List.any_eq_true, List.find?_isSome]
theorem ded_any {l : List Le} {cs : Int} {t : Le → Bool} (v : Inv cs t (fun _ => ())) {i : Nat} (h : i ≤ l.length) : (dedT l cs i).any t = (l.take i).any t := by
  rw [any_find, any_find]
  have := congrArg Option.isSome (ded_find v h)
  simpa using this
theorem inv_of (kd cs rd : Int) {β : Type} {w : Le → β} (hw : ∀ y z, alikeB y z = true → w y = w z) : Inv cs (ofB kd cs rd) w where
  cs := fun y h => by unfold ofB at h; simp at h; exact h.2.1
  t := fun y z h => by obtain ⟨h1, h2, h3, _⟩ := alike_iff.1 h; unfold ofB; rw [h1, h2, h3]
  w := hw
theorem inv_alike (x : Le) : Inv x.cs (fun y => alikeB y x) (fun _ => ()) where
  cs := fun y h => (alike_iff.1 h).1
  t := fun y z h => by
    obtain ⟨h1, h2, h3, h4, h5, h6⟩ := alike_iff.1 h
    rw [Bool.eq_iff_iff, alike_iff, alike_iff, h1, h2, h3, h4, h5, h6]
  w := fun _ _ _ => rfl
theorem inv_isP (cs rd a : Int) : Inv cs (isP cs rd a) (fun y => (y.vo, y.fi)) where
  cs := fun y h => by unfold isP at h; simp at h; exact h.2.1
  t := fun y z h => by obtain ⟨h1, h2, h3, h4, _⟩ := alike_iff.1 h; unfold isP; rw [h1, h2, h3, h4]
  w := fun y z h => by obtain ⟨_, _, _, _, h5, h6⟩ := alike_iff.1 h; rw [h5, h6]
theorem pr_find (l : List Le) (cs rd : Int) : prB l cs rd = (l.find? (ofB 3 cs rd)).isSome ∧ prF l cs rd = ((l.find? (ofB 3 cs rd)).map (·.fi)).getD 0 := by
  refine ⟨by rw [pr_there]; exact any_find, ?_⟩
  cases h : l.find? (ofB 3 cs rd) with
  | none =>
    have : prI l cs rd = -1 := idxF_none fun i hi => by
      have := List.find?_eq_none.1 h l[i] (List.getElem_mem hi)
      rw [show atL l i = l[i] by unfold atL; simp [hi]]
      simpa using this
    unfold prF
    rw [this, if_pos (by omega)]
    rfl
  | some z =>
    obtain ⟨hz, i, hi, e, hb⟩ := List.find?_eq_some_iff_getElem.1 h
    have ha : ∀ j (hj : j < l.length), atL l j = l[j] := fun j hj => by unfold atL; simp [hj]
    have : prI l cs rd = (i : Int) := idxF_first hi (fun j hj => by
      have := hb j hj
      rw [ha j (by omega)]
      simpa using this) (by rw [ha i hi, e]; exact hz)
    unfold prF
    rw [this, if_neg (by omega), Int.toNat_natCast, ha i hi, e]
    rfl
theorem ded_pr {l : List Le} {cs rd : Int} {i : Nat} (h : i ≤ l.length) : prB (dedT l cs i) cs rd = prB (l.take i) cs rd ∧ prF (dedT l cs i) cs rd = prF (l.take i) cs rd := by
  obtain ⟨a1, a2⟩ := pr_find (dedT l cs i) cs rd
  obtain ⟨b1, b2⟩ := pr_find (l.take i) cs rd
  have hf := ded_find (inv_of 3 cs rd (w := fun y => y.fi) (fun y z h => (alike_iff.1 h).2.2.2.2.2)) h
  rw [a1, a2, b1, b2, hf]
  refine ⟨?_, rfl⟩
  have := congrArg Option.isSome hf
  simpa using this
end Go.Proofs.Ytilpinmbngikgaa
