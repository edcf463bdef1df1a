/- Plain facts of layer 9: what was said in a case, each once, tells the same as all that was said. No walk, no number of a function. -/
import Derived.WalkKit
import Derived.Below
/- Plain facts of layer 9: courts, rounds, letters. No walk, no number of a function. -/
namespace Go.Proofs.YtilpinmbngikgaaGreat
def inB (n lo hi : Int) : Bool := decide (lo ≤ n) && decide (n ≤ hi)
def crt (c : Int) : Bool := inB c 3 7
def chkC (c : Int) : Int := bif crt c then 0 else 1
def maj (c : Int) : Int := bif crt c then c.tdiv 2 + 1 else 0
def rdB (r : Int) : Bool := inB r 1 1048576
def chairI (c r : Int) : Int := bif crt c && rdB r then (r - 1).tmod c else 0
/-- an arbiter of the court -/
def arB (c n : Int) : Bool := decide (0 ≤ n) && decide (n < c)
structure Le where
  id : Int
  cs : Int
  kd : Int
  rd : Int
  fr : Int
  to : Int
  vo : Int
  fi : Int
instance : Inhabited Le := ⟨⟨0, 0, 0, 0, 0, 0, 0, 0⟩⟩
def headB (c : Int) (l : Le) : Bool := crt c && (inB l.cs 1 1099511627776 && (rdB l.rd && (inB l.id 0 1099511627776 && (arB c l.fr && (arB c l.to && inB l.fi 0 65536)))))
def kindB (c : Int) (l : Le) : Bool :=
  if l.kd = 1 then decide (l.fr = chairI c l.rd) && (decide (l.vo = 0) && decide (l.fi = 0))
  else if l.kd = 2 then decide (l.to = chairI c l.rd) && (inB l.vo 0 (l.rd - 1) && (decide (l.vo > 0) || decide (l.fi = 0)))
  else if l.kd = 3 then decide (l.fr = chairI c l.rd) && decide (l.vo = 0)
  else decide (l.kd = 4) && decide (l.vo = 0)
/-- whether a letter is formed -/
def frmB (c : Int) (l : Le) : Bool := headB c l && kindB c l
def alikeB (a b : Le) : Bool := decide (a.cs = b.cs) && (decide (a.kd = b.kd) && (decide (a.rd = b.rd) && (decide (a.fr = b.fr) && (decide (a.vo = b.vo) && decide (a.fi = b.fi)))))
/-- the next round of an arbiter -/
def nextR (c a r : Int) : Int := r + 1 + (a - r.tmod c + c).tmod c
def nextN (c a r : Int) : Int := bif crt c && (arB c a && (inB r 0 1048576 && rdB (nextR c a r))) then nextR c a r else 0
def nextE (c a r : Int) : Int := bif crt c && (arB c a && inB r 0 1048576) then (bif rdB (nextR c a r) then 0 else 2) else 1
theorem inB_yes {n lo hi : Int} (h : inB n lo hi = true) : lo ≤ n ∧ n ≤ hi := by simpa [inB] using h
theorem arB_in {c n : Int} : inB n 0 (c - 1) = arB c n := by
  rw [Bool.eq_iff_iff]
  simp [inB, arB]
  omega
theorem arB_yes {c n : Int} (h : arB c n = true) : 0 ≤ n ∧ n < c := by simpa [arB] using h
end Go.Proofs.YtilpinmbngikgaaGreat

/- Plain facts of layer 9: lists of letters, what a chair picks. No walk, no number of a function. -/
namespace Go.Proofs.YtilpinmbngikgaaGreat
/-- the place of the first letter that passes a test -/
def idxF (t : Le → Bool) : List Le → Nat → Int
  | [], _ => -1
  | x :: r, k => if t x = true then (k : Int) else idxF t r (k + 1)
theorem idxF_any {t : Le → Bool} : ∀ {l : List Le} {k : Nat}, decide (idxF t l k ≥ 0) = l.any t
  | [], _ => by simp [idxF]
  | x :: r, k => by
    rw [idxF, List.any_cons]
    cases h : t x
    · simpa using idxF_any
    · simp
/-- the error of a court and letters -/
def errL (c : Int) (l : List Le) : Int := bif crt c then (if 2000 < l.length then 2 else bif l.any (fun x => !frmB c x) then 7 else 0) else 1
theorem errL_ok {c : Int} {l : List Le} (h : errL c l = 0) : crt c = true ∧ l.length ≤ 2000 ∧ ∀ x ∈ l, frmB c x = true := by
  unfold errL at h
  cases hc : crt c
  · rw [hc] at h; simp at h
  · rw [hc] at h
    simp only [cond_true] at h
    split at h
    · simp at h
    · cases ha : l.any (fun x => !frmB c x)
      · refine ⟨rfl, by omega, fun x hx => ?_⟩
        rw [List.any_eq_false] at ha
        simpa using ha x hx
      · rw [ha] at h; simp at h
def atL (l : List Le) (i : Nat) : Le := l[i]?.getD default
/-- a letter against one that was there before: two promises that do not agree -/
def badB (x y : Le) : Bool := decide (y.fr = x.fr) || (decide (y.vo = x.vo) && !decide (y.fi = x.fi))
def badR (x y : Le) : Bool := decide (y.fr = x.fr) || (decide (y.vo > 0) && (decide (y.vo = x.vo) && !decide (y.fi = x.fi)))
/-- letter i is a promise of the first one's case and round, and agrees with those before it -/
def headA (l : List Le) (i : Nat) : Bool := decide ((atL l i).kd = 2) && (decide ((atL l i).cs = (atL l 0).cs) && decide ((atL l i).rd = (atL l 0).rd))
def okA (l : List Le) (i : Nat) : Bool := headA l i && !(l.take i).any (badB (atL l i))
def agB (l : List Le) : Bool := (List.range l.length).all (okA l)
/-- the promise that binds, among the first k -/
def bestL (l : List Le) : Nat → Le
  | 0 => default
  | k + 1 => if (atL l k).vo > (bestL l k).vo then atL l k else bestL l k
def pkN (c : Int) (l : List Le) : Int := if errL c l ≠ 0 ∨ agB l = false ∨ (l.length : Int) < maj c then 0 else (bestL l l.length).fi
def pkB (c : Int) (l : List Le) : Bool := if errL c l ≠ 0 ∨ agB l = false ∨ (l.length : Int) < maj c then false else decide ((bestL l l.length).vo > 0)
def pkE (c : Int) (l : List Le) : Int := if errL c l ≠ 0 then errL c l else if agB l = false then 1 else if (l.length : Int) < maj c then 5 else 0
theorem less_succ' {p : Nat → Prop} {k : Nat} (h : ∀ i, i < k → p i) (hk : p k) : ∀ i, i < k + 1 → p i := fun i hi => by
  by_cases q : i = k
  · subst q; exact hk
  · exact h i (by omega)
end Go.Proofs.YtilpinmbngikgaaGreat

/- Plain facts of layer 9: the words of an arbiter, proposals. No walk, no number of a function. -/
namespace Go.Proofs.YtilpinmbngikgaaGreat
def caseB (y : Le) (a cs : Int) : Bool := decide (y.cs = cs) && decide (y.fr = a)
def wordB (y : Le) (a cs : Int) : Bool := caseB y a cs && Bool.or (decide (y.kd = 2)) (decide (y.kd = 4))
/-- a vote of an arbiter in a case -/
def voteB (y : Le) (a cs : Int) : Bool := decide (y.kd = 4) && caseB y a cs
theorem vote_word (y : Le) (a cs : Int) : (decide (y.kd = 4) && wordB y a cs) = voteB y a cs := by
  unfold wordB voteB
  by_cases h : y.kd = 4 <;> simp [h]
/-- the round and the finding of the last vote among the first k letters -/
def lvR (l : List Le) (a cs : Int) : Nat → Int
  | 0 => 0
  | k + 1 => if voteB (atL l k) a cs = true ∧ (atL l k).rd > lvR l a cs k then (atL l k).rd else lvR l a cs k
def lvF (l : List Le) (a cs : Int) : Nat → Int
  | 0 => 0
  | k + 1 => if voteB (atL l k) a cs = true ∧ (atL l k).rd > lvR l a cs k then (atL l k).fi else lvF l a cs k
/-- the greatest round of the words among the first k letters -/
def lwR (l : List Le) (a cs : Int) : Nat → Int
  | 0 => 0
  | k + 1 => if wordB (atL l k) a cs = true then max (lwR l a cs k) (atL l k).rd else lwR l a cs k
def vR (l : List Le) (a cs : Int) : Int := lvR l a cs l.length
def vF (l : List Le) (a cs : Int) : Int := lvF l a cs l.length
def wR (l : List Le) (a cs : Int) : Int := lwR l a cs l.length
/-- a letter of a kind in a round of a case -/
def ofB (kd cs rd : Int) (y : Le) : Bool := decide (y.kd = kd) && (decide (y.cs = cs) && decide (y.rd = rd))
def thereB (l : List Le) (kd cs rd : Int) : Bool := l.any (ofB kd cs rd)
/-- the finding of the first proposal -/
def prI (l : List Le) (cs rd : Int) : Int := idxF (ofB 3 cs rd) l 0
def prB (l : List Le) (cs rd : Int) : Bool := decide (prI l cs rd ≥ 0)
def prF (l : List Le) (cs rd : Int) : Int := if prI l cs rd < 0 then 0 else (atL l (prI l cs rd).toNat).fi
theorem idxF_lt {t : Le → Bool} : ∀ {l : List Le} {k : Nat}, idxF t l k < (k : Int) + l.length
  | [], k => by simp [idxF]; omega
  | x :: r, k => by
    rw [idxF, List.length_cons]
    split
    · omega
    · have := idxF_lt (t := t) (l := r) (k := k + 1)
      omega
theorem prI_lt (l : List Le) (cs rd : Int) : prI l cs rd < l.length := by
  have := idxF_lt (t := ofB 3 cs rd) (l := l) (k := 0)
  unfold prI
  omega
/-- open in a round -/
def openB (l : List Le) (a cs rd : Int) : Bool := decide (vR l a cs < rd) && decide (wR l a cs ≤ rd)
def canPr (l : List Le) (x : Le) : Bool := thereB l 1 x.cs x.rd && (decide (wR l x.fr x.cs < x.rd) && (decide (x.vo = vR l x.fr x.cs) && decide (x.fi = vF l x.fr x.cs)))
def canVo (l : List Le) (x : Le) : Bool := prB l x.cs x.rd && (decide (prF l x.cs x.rd = x.fi) && openB l x.fr x.cs x.rd)
end Go.Proofs.YtilpinmbngikgaaGreat

/- Plain facts of layer 9: groups of arbiters as bits, the promises of a round. No walk, no number of a function. -/
namespace Go.Proofs.YtilpinmbngikgaaGreat
/-- how many arbiters are in a group -/
def popN (g : Nat) : Nat := ((List.range 7).filter fun i => g.testBit i).length
def prmB (rd : Int) (y : Le) : Bool := decide (y.kd = 2) && decide (y.rd = rd)
/-- the promises of a round, in a list of one case -/
def prms (l : List Le) (rd : Int) : List Le := l.filter (prmB rd)
/-- the arbiters of the first k promises whose Voted is at most a round -/
def bitsTo (p : List Le) (last : Int) : Nat → Nat
  | 0 => 0
  | k + 1 => if (atL p k).vo ≤ last then bitsTo p last k ||| 2 ^ (atL p k).fr.toNat else bitsTo p last k
def vBits (l : List Le) (rd last : Int) : Nat := bitsTo (prms l rd) last (prms l rd).length
theorem or_lt {g a : Nat} (hg : g < 128) (ha : a < 7) : g ||| 2 ^ a < 128 := by
  have h2 : 2 ^ a < 2 ^ 7 := Nat.pow_lt_pow_right (by omega) ha
  exact Nat.or_lt_two_pow (n := 7) hg h2
end Go.Proofs.YtilpinmbngikgaaGreat

/- Plain facts of layer 9: what was said in a case, each once; the first letter that is not lawful. No walk, no number of a function. -/
namespace Go.Proofs.YtilpinmbngikgaaGreat
def stepD (A : List Le) (y : Le) (cs : Int) : List Le := if y.cs = cs then (if A.any (alikeB y) = true then A else A ++ [y]) else A
/-- the letters of a case among the first k, each once -/
def dedT (l : List Le) (cs : Int) : Nat → List Le
  | 0 => []
  | k + 1 => stepD (dedT l cs k) (atL l k) cs
/-- the first number below a bound that passes a test -/
def fstN (t : Nat → Bool) : Nat → Nat → Int
  | 0, _ => -1
  | n + 1, k => if t k = true then (k : Int) else fstN t n (k + 1)
abbrev CT := List (Int × Nat × List Le)
/-- the list of cases says what the first k letters said -/
structure CtOk (l : List Le) (k : Nat) (T : CT) : Prop where
  nd : (T.map (·.1)).Nodup
  is : ∀ e ∈ T, e.2.2 = dedT l e.1 k ∧ 0 < e.2.2.length
  no : ∀ cs, (∀ e ∈ T, e.1 ≠ cs) → dedT l cs k = []
theorem ded_other {l : List Le} {k : Nat} {cs : Int} (h : (atL l k).cs ≠ cs) : dedT l cs (k + 1) = dedT l cs k := by rw [dedT, stepD, if_neg h]
theorem ded_alike {l : List Le} {k : Nat} (h : (dedT l (atL l k).cs k).any (alikeB (atL l k)) = true) : dedT l (atL l k).cs (k + 1) = dedT l (atL l k).cs k := by rw [dedT, stepD, if_pos rfl, if_pos h]
theorem ded_new {l : List Le} {k : Nat} (h : (dedT l (atL l k).cs k).any (alikeB (atL l k)) = false) : dedT l (atL l k).cs (k + 1) = dedT l (atL l k).cs k ++ [atL l k] := by rw [dedT, stepD, if_pos rfl, if_neg (by rw [h]; simp)]
theorem CtOk.same {l : List Le} {k : Nat} {T : CT} (q : CtOk l k T) (h : (dedT l (atL l k).cs k).any (alikeB (atL l k)) = true) : CtOk l (k + 1) T := by
  have e : ∀ cs, dedT l cs (k + 1) = dedT l cs k := fun cs => by
    by_cases hc : (atL l k).cs = cs
    · subst hc; exact ded_alike h
    · exact ded_other hc
  exact ⟨q.nd, fun x hx => by rw [e]; exact q.is x hx, fun cs hc => by rw [e]; exact q.no cs hc⟩
theorem CtOk.new {l : List Le} {k j' : Nat} {T : CT} (q : CtOk l k T) (hno : ∀ e ∈ T, e.1 ≠ (atL l k).cs) : CtOk l (k + 1) (T ++ [((atL l k).cs, j', [atL l k])]) := by
  have hd := q.no _ hno
  refine ⟨?_, fun e he => ?_, fun cs hc => ?_⟩
  · rw [List.map_append, List.map_cons, List.map_nil, List.nodup_append]
    refine ⟨q.nd, by simp, fun a ha b hb => ?_⟩
    obtain ⟨e, he, rfl⟩ := List.mem_map.1 ha
    rw [List.mem_singleton.1 hb]
    exact hno e he
  · rcases List.mem_append.1 he with he | he
    · rw [ded_other (fun e2 => hno e he e2.symm)]
      exact q.is e he
    · have := List.mem_singleton.1 he
      subst this
      refine ⟨?_, by simp⟩
      rw [ded_new (by rw [hd]; rfl), hd]
      rfl
  · have h1 : (atL l k).cs ≠ cs := hc ((atL l k).cs, j', [atL l k]) (by simp)
    rw [ded_other h1]
    exact q.no cs fun e he => hc e (by simp [he])
end Go.Proofs.YtilpinmbngikgaaGreat

/- Plain facts of layer 9: what the specification of a lawful letter asks. No walk, no number of a function. -/
namespace Go.Proofs.YtilpinmbngikgaaGreat
theorem idxF_first {t : Le → Bool} {l : List Le} {k : Nat} (hk : k < l.length) (h : ∀ i, i < k → t (atL l i) = false) (h2 : t (atL l k) = true) : idxF t l 0 = (k : Int) := by
  have key : ∀ (l : List Le) (k c : Nat), k < l.length → (∀ i, i < k → t (atL l i) = false) → t (atL l k) = true → idxF t l c = ((c + k : Nat) : Int) := by
    intro l
    induction l with
    | nil => intro k c hk _ _; simp at hk
    | cons x r ih =>
      intro k c hk h h2
      rw [idxF]
      cases k with
      | zero =>
        have : t x = true := h2
        rw [if_pos this]
        rfl
      | succ k =>
        have h0 : t x = false := h 0 (by omega)
        rw [if_neg (by rw [h0]; simp), ih k (c + 1) (by simpa using hk) (fun i hi => h (i + 1) (by omega)) h2]
        congr 1
        omega
  have := key l k 0 hk h h2
  rwa [Nat.zero_add] at this
theorem idxF_none {t : Le → Bool} {l : List Le} (h : ∀ i, i < l.length → t (atL l i) = false) : idxF t l 0 = -1 := by
  have key : ∀ (l : List Le) (c : Nat), (∀ i, i < l.length → t (atL l i) = false) → idxF t l c = -1 := by
    intro l
    induction l with
    | nil => intro c _; rfl
    | cons x r ih =>
      intro c h
      have h0 : t x = false := h 0 (by simp)
      rw [idxF, if_neg (by rw [h0]; simp)]
      exact ih (c + 1) fun i hi => h (i + 1) (by simpa using hi)
  exact key l 0 h
/-- how many have a Voted of at most a round -/
def upT (l : List Le) (n : Int) : Nat → Int
  | 0 => 0
  | k + 1 => if (atL l k).vo ≤ n then upT l n k + 1 else upT l n k
def upN (l : List Le) (n : Int) : Int := upT l n l.length
def letR (c : Int) (l : List Le) (fi : Int) (y : Le) : Bool := decide (y.vo > 0) && (decide (y.fi = fi) && decide (upN l y.vo ≥ maj c))
def propR (c : Int) (l : List Le) (fi : Int) : Bool := if upN l 0 ≥ maj c then true else l.any (letR c l fi)
/-- a promise of an arbiter in a round of a case -/
def isP (cs rd a : Int) (y : Le) : Bool := decide (y.kd = 2) && (decide (y.cs = cs) && (decide (y.rd = rd) && decide (y.fr = a)))
/-- the first promises of the first k arbiters -/
def prR (l : List Le) (cs rd : Int) (k : Nat) : List Le := (List.range k).filterMap fun (a : Nat) => l.find? (isP cs rd (a : Int))
theorem prR_succ (l : List Le) (cs rd : Int) (k : Nat) : prR l cs rd (k + 1) = prR l cs rd k ++ (l.find? (isP cs rd (k : Int))).toList := by
  unfold prR
  rw [List.range_succ, List.filterMap_append]
  cases h : l.find? (isP cs rd (k : Int)) <;> simp [h]
/-- whether a letter is lawful behind others -/
def lawR (c : Int) (l : List Le) (x : Le) : Bool :=
  if l.any (fun y => alikeB y x) = true then true
  else if x.kd = 1 then true
  else if x.kd = 2 then canPr l x
  else if x.kd = 3 then (if thereB l 3 x.cs x.rd = true then false else propR c (prR l x.cs x.rd c.toNat) x.fi)
  else prB l x.cs x.rd && (decide (prF l x.cs x.rd = x.fi) && (decide (wR l x.fr x.cs ≤ x.rd) && decide (vR l x.fr x.cs < x.rd)))
end Go.Proofs.YtilpinmbngikgaaGreat

/- Plain facts of layer 9: a group's bits are counted as its arbiters. No walk, no number of a function. -/
namespace Go.Proofs.YtilpinmbngikgaaGreat
theorem count_le {t : Nat → Bool} {m : Nat} : ∀ {n : Nat}, m ≤ n → (∀ a, m ≤ a → a < n → t a = false) → ((List.range n).filter t).length = ((List.range m).filter t).length
  | 0, h, _ => by rw [show m = 0 by omega]
  | n + 1, h, hf => by
    by_cases e : m = n + 1
    · rw [e]
    · rw [List.range_succ, List.filter_append, List.length_append, count_le (n := n) (by omega) fun a h1 h2 => hf a h1 (by omega)]
      have := hf n (by omega) (by omega)
      simp [this]
theorem upT_snoc {l : List Le} {n : Int} {y : Le} : ∀ {k : Nat}, k ≤ l.length → upT (l ++ [y]) n k = upT l n k
  | 0, _ => rfl
  | k + 1, h => by
    have ih := upT_snoc (l := l) (n := n) (y := y) (k := k) (by omega)
    have e : atL (l ++ [y]) k = atL l k := by unfold atL; rw [List.getElem?_append_left (by omega)]
    rw [upT, upT, ih, e]
theorem upN_snoc {l : List Le} {n : Int} {y : Le} : upN (l ++ [y]) n = upN l n + if y.vo ≤ n then 1 else 0 := by
  unfold upN
  rw [List.length_append, List.length_singleton, upT, upT_snoc (Nat.le_refl _)]
  have e : atL (l ++ [y]) l.length = y := by unfold atL; simp
  rw [e]
  split <;> omega
/-- how many first promises have a Voted of at most a round -/
theorem upN_count {l : List Le} {cs rd n : Int} : ∀ k : Nat, upN (prR l cs rd k) n = (((List.range k).filter fun (a : Nat) => match l.find? (isP cs rd (a : Int)) with | some y => decide (y.vo ≤ n) | none => false).length : Int)
  | 0 => rfl
  | k + 1 => by
    have ih := upN_count (l := l) (cs := cs) (rd := rd) (n := n) k
    rw [prR_succ, List.range_succ, List.filter_append, List.length_append]
    cases h : l.find? (isP cs rd (k : Int)) with
    | none =>
      rw [show (none : Option Le).toList = [] from rfl, List.append_nil, ih]
      simp [h]
    | some y =>
      rw [show (some y).toList = [y] from rfl, upN_snoc, ih]
      by_cases hy : y.vo ≤ n <;> simp [h, hy]
end Go.Proofs.YtilpinmbngikgaaGreat

/- Plain facts of layer 9: what was said in a case, each once, tells the same as all that was said. No walk, no number of a function. -/
namespace Go.Proofs.YtilpinmbngikgaaGreat
theorem lv_mono {l : List Le} {a cs : Int} : ∀ {k i : Nat}, i < k → (voteB (atL l i) a cs = true → (atL l i).rd ≤ lvR l a cs k) ∧ (wordB (atL l i) a cs = true → (atL l i).rd ≤ lwR l a cs k)
  | 0, i, h => by omega
  | k + 1, i, h => by
    by_cases e : i = k
    · subst e
      refine ⟨fun hv => ?_, fun hw => ?_⟩
      · rw [lvR]
        split
        · omega
        · rename_i hn
          have : ¬ (atL l i).rd > lvR l a cs i := fun g => hn ⟨hv, g⟩
          omega
      · rw [lwR, if_pos hw]
        omega
    · obtain ⟨h1, h2⟩ := lv_mono (l := l) (a := a) (cs := cs) (k := k) (i := i) (by omega)
      refine ⟨fun hv => ?_, fun hw => ?_⟩
      · have := h1 hv
        rw [lvR]
        split <;> omega
      · have := h2 hw
        rw [lwR]
        split <;> omega
theorem vR_ge {A : List Le} {a cs : Int} {z : Le} (hz : z ∈ A) : (voteB z a cs = true → z.rd ≤ vR A a cs) ∧ (wordB z a cs = true → z.rd ≤ wR A a cs) := by
  obtain ⟨i, hi, rfl⟩ := List.mem_iff_getElem.1 hz
  have := lv_mono (l := A) (a := a) (cs := cs) (k := A.length) (i := i) hi
  rw [show atL A i = A[i] by unfold atL; simp [hi]] at this
  exact this
structure Inv {β : Type} (cs : Int) (t : Le → Bool) (w : Le → β) : Prop where
  cs : ∀ y, t y = true → y.cs = cs
  t : ∀ y z, alikeB y z = true → t y = t z
  w : ∀ y z, alikeB y z = true → w y = w z
end Go.Proofs.YtilpinmbngikgaaGreat
