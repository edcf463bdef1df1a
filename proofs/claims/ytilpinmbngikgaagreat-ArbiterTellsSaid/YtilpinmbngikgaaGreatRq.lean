/- Layer 9: the answer of rulings, as a base. -/
import Derived.Test.YtilpinmbngikgaaGreatKt
import Derived.Test.YtilpinmbngikgaaGreatEvX
import Derived.Test.YtilpinmbngikgaaGreatProg
/- Layer 9, plain: rulings (case, round, finding) in order; a tally's entries. -/
namespace Go.Proofs.YtilpinmbngikgaaGreat
open Go.Proofs.YtilpinmbngikgaaGreat.Ev

abbrev Rl3 := Int × Int × Int
def leT (x y : Rl3) : Bool := decide (x.1 < y.1) || (x.1 == y.1 && (decide (x.2.1 < y.2.1) || (x.2.1 == y.2.1 && decide (x.2.2 ≤ y.2.2))))
theorem leT_iff {x y : Rl3} : leT x y = true ↔ x.1 < y.1 ∨ (x.1 = y.1 ∧ (x.2.1 < y.2.1 ∨ (x.2.1 = y.2.1 ∧ x.2.2 ≤ y.2.2))) := by
  unfold leT
  simp
theorem leT_trans (x y z : Rl3) (h1 : leT x y = true) (h2 : leT y z = true) : leT x z = true := by
  rw [leT_iff] at *
  omega
theorem leT_total (x y : Rl3) : (leT x y || leT y x) = true := by
  rw [Bool.or_eq_true, leT_iff, leT_iff]
  omega
theorem leT_anti {x y : Rl3} (h1 : leT x y = true) (h2 : leT y x = true) : x = y := by
  rw [leT_iff] at *
  obtain ⟨a, b, c⟩ := x
  obtain ⟨d, e, f⟩ := y
  simp only [Prod.mk.injEq] at *
  omega
theorem uniqT : ∀ {l m : List Rl3}, l.Perm m → l.Pairwise (fun x y => leT x y = true) → m.Pairwise (fun x y => leT x y = true) → l = m
  | [], m, hp, _, _ => (List.nil_perm.1 hp).symm
  | a :: l, m, hp, h1, h2 => by
    cases m with
    | nil => exact absurd hp.length_eq (by simp)
    | cons b m =>
      have e : a = b := by
        have ha : a ∈ b :: m := hp.subset (List.mem_cons_self ..)
        have hb : b ∈ a :: l := hp.symm.subset (List.mem_cons_self ..)
        rcases List.mem_cons.1 ha with e | ha
        · exact e
        rcases List.mem_cons.1 hb with e | hb
        · exact e.symm
        exact leT_anti ((List.pairwise_cons.1 h1).1 b hb) ((List.pairwise_cons.1 h2).1 a ha)
      subst e
      rw [uniqT (List.perm_cons a |>.1 hp) (List.pairwise_cons.1 h1).2 (List.pairwise_cons.1 h2).2]
def srtT (l : List Rl3) : List Rl3 := l.mergeSort leT
theorem srtT_perm (l : List Rl3) : (srtT l).Perm l := List.mergeSort_perm l leT
theorem srtT_pw (l : List Rl3) : (srtT l).Pairwise fun x y => leT x y = true := List.pairwise_mergeSort leT_trans leT_total l
theorem srtT_eq {l m : List Rl3} (h : l.Perm m) : srtT l = srtT m := uniqT ((srtT_perm l).trans (h.trans (srtT_perm m).symm)) (srtT_pw l) (srtT_pw m)
/-! flat -/
def flT (ps : List Rl3) : List Int := ps.flatMap fun p => [p.1, p.2.1, p.2.2]
def unT : List Int → List Rl3
  | a :: b :: c :: l => (a, b, c) :: unT l
  | _ => []
def okT : List Int → Bool
  | [] => true
  | _ :: _ :: _ :: l => okT l
  | _ => false
theorem flT_cons (p : Rl3) (ps : List Rl3) : flT (p :: ps) = p.1 :: p.2.1 :: p.2.2 :: flT ps := by simp [flT]
theorem flT_un : ∀ {zs : List Int}, okT zs = true → flT (unT zs) = zs
  | [], _ => rfl
  | [_], h => by simp [okT] at h
  | [_, _], h => by simp [okT] at h
  | a :: b :: c :: l, h => by
    simp only [okT] at h
    simp only [unT]
    rw [flT_cons, flT_un h]
theorem unT_fl : ∀ ps : List Rl3, unT (flT ps) = ps
  | [] => rfl
  | p :: ps => by rw [flT_cons]; simp only [unT]; rw [unT_fl ps]
theorem okT_fl : ∀ ps : List Rl3, okT (flT ps) = true
  | [] => rfl
  | p :: ps => by rw [flT_cons]; simp only [okT]; exact okT_fl ps
theorem flT_len (ps : List Rl3) : (flT ps).length = ps.length * 3 := by
  induction ps with
  | nil => rfl
  | cons p ps ih => rw [flT_cons]; simp [ih]; omega
def srtZ (zs : List Int) : List Int := if okT zs = true then flT (srtT (unT zs)) else zs
theorem srtZ_fl (ps : List Rl3) : srtZ (flT ps) = flT (srtT ps) := by
  unfold srtZ
  rw [if_pos (okT_fl ps), unT_fl]
theorem srtZ_len (zs : List Int) : (srtZ zs).length = zs.length := by
  unfold srtZ
  split
  · rename_i h
    rw [flT_len, (srtT_perm _).length_eq, ← flT_len, flT_un h]
  · rfl
def rlC (x : Rl3) : List AV := [.int .i64 x.1, .int .i64 x.2.1, .int .i64 x.2.2]
theorem enF_flT (l : List Rl3) : enF rlC l = (flT l).map (AV.int .i64) := by
  induction l with
  | nil => rfl
  | cons x l ih => rw [flT_cons]; simp only [enF, List.map_cons, List.flatten_cons] at *; rw [ih]; rfl
/-! a tally: rulings with the arbiters that have voted for them -/
abbrev Te := Rl3 × Nat
def teE (e : Te) (c : Nat) : AV × AV × Nat := (.agg (rlC e.1), .int .u64 (e.2 : Int), c)
def tlE : List Te → Nat → List (AV × AV × Nat)
  | [], _ => []
  | e :: l, c => teE e c :: tlE l (c + 1)
def bigT (c : Int) (e : Te) : Bool := decide ((popN e.2 : Int) ≥ maj c)
/-- what a majority has voted for, of some entries -/
def ofT (c : Int) (l : List Te) : List Rl3 := (l.filter (bigT c)).map (·.1)
theorem tlE_mem {x : AV × AV × Nat} : ∀ {l : List Te} {c : Nat}, x ∈ tlE l c → ∃ i e, l[i]? = some e ∧ x = teE e (c + i)
  | [], _, h => by cases h
  | e :: l, c, h => by
    simp only [tlE, List.mem_cons] at h
    rcases h with rfl | h
    · exact ⟨0, e, rfl, rfl⟩
    · obtain ⟨i, e', h1, h2⟩ := tlE_mem h
      exact ⟨i + 1, e', by simpa using h1, by rw [h2]; congr 1; omega⟩
theorem leftE_mem {seen : List Nat} {x : AV × AV × Nat} : ∀ {es : List (AV × AV × Nat)}, x ∈ leftE seen es → x ∈ es ∧ x.2.2 ∉ seen
  | [], h => by cases h
  | e :: es, h => by
    simp only [leftE] at h
    split at h
    · exact ⟨List.mem_cons_of_mem _ (leftE_mem h).1, (leftE_mem h).2⟩
    · rename_i hn
      rcases List.mem_cons.1 h with rfl | h
      · exact ⟨List.mem_cons_self .., by simpa using hn⟩
      · exact ⟨List.mem_cons_of_mem _ (leftE_mem h).1, (leftE_mem h).2⟩
theorem leftE_nil {seen : List Nat} : ∀ {es : List (AV × AV × Nat)}, leftE seen es = [] → ∀ x ∈ es, x.2.2 ∈ seen
  | [], _, x, h => by cases h
  | e :: es, hl, x, h => by
    simp only [leftE] at hl
    split at hl
    · rename_i hn
      rcases List.mem_cons.1 h with rfl | h
      · simpa using hn
      · exact leftE_nil hl x h
    · cases hl
theorem tlE_at : ∀ {l : List Te} {c i : Nat} {e : Te}, l[i]? = some e → teE e (c + i) ∈ tlE l c
  | [], _, i, _, h => by simp at h
  | x :: l, c, 0, e, h => by simp at h; subst h; exact List.mem_cons_self ..
  | x :: l, c, i + 1, e, h => by
    have := tlE_at (l := l) (c := c + 1) (i := i) (by simpa using h)
    rw [show c + (i + 1) = c + 1 + i by omega]
    exact List.mem_cons_of_mem _ this
theorem bornE_at : ∀ {l : List Te} {c i : Nat} {e : Te}, l[i]? = some e → bornE (c + i) (tlE l c) = some (teE e (c + i))
  | [], _, i, _, h => by simp at h
  | x :: l, c, 0, e, h => by simp at h; subst h; simp [tlE, bornE, teE]
  | x :: l, c, i + 1, e, h => by
    have := bornE_at (l := l) (c := c + 1) (i := i) (by simpa using h)
    rw [show c + (i + 1) = c + 1 + i by omega]
    simp only [tlE, bornE]
    rw [show Nat.beq (teE x c).2.2 (c + 1 + i) = false from by
      cases hb : Nat.beq (teE x c).2.2 (c + 1 + i) with
      | false => rfl
      | true => have := Nat.eq_of_beq_eq_true hb; simp only [teE] at this; omega]
    exact this
/-- the entries in the order in which they came out -/
def inOrd (l : List Te) (seen : List Nat) : List Te := seen.filterMap fun i => l[i]?
theorem inOrd_perm {l : List Te} {seen : List Nat} (hn : seen.Nodup) (hall : ∀ i, i < l.length → i ∈ seen) (hlt : ∀ i ∈ seen, i < l.length) : (inOrd l seen).Perm l := by
  have hp : seen.Perm (List.range l.length) := (List.perm_ext_iff_of_nodup hn List.nodup_range).2 fun i => ⟨fun h => List.mem_range.2 (hlt i h), fun h => hall i (List.mem_range.1 h)⟩
  have h1 : (inOrd l seen).Perm (inOrd l (List.range l.length)) := hp.filterMap _
  have h3 : ∀ r : List Nat, (∀ i ∈ r, i < l.length) → (r.filterMap fun i => l[i]?) = r.map fun i => l[i]?.getD default := by
    intro r
    induction r with
    | nil => intro _; rfl
    | cons a r ih =>
      intro hr'
      have ha := hr' a (List.mem_cons_self ..)
      rw [List.filterMap_cons, List.getElem?_eq_getElem ha, List.map_cons, ih (fun i h => hr' i (List.mem_cons_of_mem _ h)), List.getElem?_eq_getElem ha]
      rfl
  have h2 : inOrd l (List.range l.length) = l := by
    unfold inOrd
    rw [h3 _ fun i h => List.mem_range.1 h]
    apply List.ext_getElem (by simp)
    intro k h4 h5
    simp [h5]
  rw [h2] at h1
  exact h1
theorem nodup_le : ∀ {n : Nat} {l : List Nat}, l.Nodup → (∀ i ∈ l, i < n) → l.length ≤ n
  | 0, [], _, _ => Nat.le_refl _
  | 0, a :: l, _, hl => by have := hl a (List.mem_cons_self ..); omega
  | n + 1, l, h, hl => by
    have h1 := nodup_le (n := n) (h.erase n) fun i hi => by
      have h2 := (h.mem_erase_iff).1 hi
      have := hl i h2.2
      have := h2.1
      omega
    have h2 : l.length ≤ (l.erase n).length + 1 := by
      rw [List.length_erase]
      split <;> omega
    omega
theorem ofT_snoc {c : Int} {l : List Te} {seen : List Nat} {i : Nat} {e : Te} (h : l[i]? = some e) : ofT c (inOrd l (seen ++ [i])) = ofT c (inOrd l seen) ++ (if bigT c e then [e.1] else []) := by
  unfold ofT inOrd
  rw [List.filterMap_append, List.filter_append, List.map_append]
  congr 1
  simp only [List.filterMap_cons, List.filterMap_nil, h]
  by_cases hb : bigT c e = true
  · simp [hb]
  · simp [hb]
theorem srtT_nil : srtT [] = [] := (srtT_perm []).eq_nil
end Go.Proofs.YtilpinmbngikgaaGreat

/- Layer 9: the answer of rulings, as a base. -/
namespace Go.Proofs.YtilpinmbngikgaaGreat
open Go.Proofs.YtilpinmbngikgaaGreat.Ev

def unTl : List (AV × AV × Nat) → Nat → Option (List Te)
  | [], _ => some []
  | (.agg [.int .i64 a, .int .i64 b, .int .i64 d], .int .u64 n, k) :: l, i => if k = i ∧ 0 ≤ n ∧ n < 128 then (unTl l (i + 1)).map fun T => ((a, b, d), n.toNat) :: T else none
  | _, _ => none
theorem unTl_eq : ∀ {es : List (AV × AV × Nat)} {i : Nat} {T : List Te}, unTl es i = some T → es = tlE T i ∧ ∀ e ∈ T, e.2 < 128 := by
  intro es
  induction es with
  | nil => intro i T h; simp only [unTl, Option.some.injEq] at h; subst h; exact ⟨rfl, fun _ h => by cases h⟩
  | cons x l ih =>
    intro i T h
    unfold unTl at h
    split at h
    · rename_i he; cases he
    · rename_i he
      cases he
      split at h
      · rename_i hc
        obtain ⟨rfl, h0, h1⟩ := hc
        simp only [Option.map_eq_some_iff] at h
        obtain ⟨T', h2, rfl⟩ := h
        obtain ⟨h3, h4⟩ := ih h2
        refine ⟨?_, fun e he => ?_⟩
        · rw [h3]
          simp only [tlE, teE, rlC]
          rw [Int.toNat_of_nonneg h0]
        · rcases List.mem_cons.1 he with rfl | he
          · show Int.toNat _ < 128
            omega
          · exact h4 e he
      · cases h
    · cases h
theorem unTl_mk : ∀ {T : List Te} {i : Nat}, (∀ e ∈ T, e.2 < 128) → unTl (tlE T i) i = some T
  | [], _, _ => rfl
  | e :: l, i, h => by
    simp only [tlE, teE, rlC, unTl]
    have h1 := h e (List.mem_cons_self ..)
    rw [if_pos (by refine ⟨?_, ?_, ?_⟩ <;> first | trivial | omega), unTl_mk fun x hx => h x (List.mem_cons_of_mem _ hx)]
    simp
def rulA (f : Nat) (e : TypeId) : Nat → List AV → Heap → Option (AV × Heap) := fun g args h => bif Nat.beq g f then (match args with
  | [.map m, .agg [.int .i64 c]] => match h.get m with
    | some (.map es ck) => match unTl es 0 with
      | some T => if T.length = ck ∧ T.length ≤ 1000 then (if (ofT c T).length = 0 then some (.slice0, h) else some (.slice h.next 0 (ofT c T).length (.m 0), (h.new (.row ((flT (srtT (ofT c T))).map (AV.int .i64)) e 3)).2)) else none
      | none => none
    | _ => none
  | _ => none) else none
theorem rulA_eq {f g : Nat} {t : TypeId} {args : List AV} {h h' : Heap} {v : AV} (k : rulA f t g args h = some (v, h')) : ∃ m c T, args = [.map m, .agg [.int .i64 c]] ∧ h.get m = some (.map (tlE T 0) T.length) ∧ (∀ e ∈ T, e.2 < 128) ∧ T.length ≤ 1000 ∧ g = f ∧ ((ofT c T = [] ∧ v = .slice0 ∧ h' = h) ∨ (0 < (ofT c T).length ∧ v = .slice h.next 0 (ofT c T).length (.m 0) ∧ h' = (h.new (.row ((flT (srtT (ofT c T))).map (AV.int .i64)) t 3)).2)) := by
  unfold rulA at k
  cases hg : Nat.beq g f with
  | false => rw [hg] at k; cases k
  | true =>
  rw [hg] at k
  have hg := Nat.eq_of_beq_eq_true hg
  simp only [cond_true] at k
  split at k
  · rename_i m c
    split at k
    · rename_i es ck hm
      split at k
      · rename_i T hT
        obtain ⟨rfl, h2⟩ := unTl_eq hT
        split at k
        · rename_i hc
          obtain ⟨rfl, hl⟩ := hc
          split at k
          · rename_i h0
            cases k
            exact ⟨m, c, T, rfl, hm, h2, hl, hg, .inl ⟨List.length_eq_zero_iff.1 h0, rfl, rfl⟩⟩
          · rename_i h0
            cases k
            exact ⟨m, c, T, rfl, hm, h2, hl, hg, .inr ⟨by omega, rfl, rfl⟩⟩
        · cases k
      · cases k
    · cases k
  · cases k
def rulB : Base := ⟨rulA 24 52, fun e => by
  obtain ⟨m, c, T, _, _, _, _, _, ⟨_, _, rfl⟩ | ⟨_, _, rfl⟩⟩ := rulA_eq e
  · exact Abs.refl _
  · exact Abs.new _ _⟩
end Go.Proofs.YtilpinmbngikgaaGreat
