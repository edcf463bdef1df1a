/- Layer 8: Chain of both, the law of LedgerChains. -/
import Derived.Test.YtkebbdpfjhhdhaaGreatFg
import Derived.Test.YtkebbdpfjhhdhaaGreatDb
import Derived.Test.YtkebbdpfjhhdhaaGreatDo
/- Layer 8, plain: sums by accounts, in the order in which the accounts came, as a map's entries. -/
namespace Go.Proofs.YtkebbdpfjhhdhaaGreat
open Go.Proofs.YtkebbdpfjhhdhaaGreat.Ev

theorem _root_.List.reverseRecOn' {α : Type} {motive : List α → Prop} (l : List α) (nil : motive []) (append_singleton : ∀ (l : List α) (a : α), motive l → motive (l ++ [a])) : motive l := by
  have key : ∀ n (l : List α), l.length = n → motive l := by
    intro n
    induction n with
    | zero => intro l h; rw [List.length_eq_zero_iff.1 h]; exact nil
    | succ n ih =>
      intro l h
      have hne : l ≠ [] := fun e => by rw [e] at h; simp at h
      rw [← List.dropLast_concat_getLast hne]
      exact append_singleton _ _ (ih _ (by rw [List.length_dropLast]; omega))
  exact key _ l rfl
def getQ : List (Int × Int) → Int → Int
  | [], _ => 0
  | p :: l, k => if k = p.1 then p.2 else getQ l k
def accQ : List (Int × Int) → Int → Int → List (Int × Int)
  | [], k, d => [(k, d)]
  | p :: l, k, d => if k = p.1 then (k, p.2 + d) :: l else p :: accQ l k d
def sumQ (ps : List (Int × Int)) : List (Int × Int) := ps.foldl (fun q p => accQ q p.1 p.2) []
theorem sumQ_snoc (ps : List (Int × Int)) (p : Int × Int) : sumQ (ps ++ [p]) = accQ (sumQ ps) p.1 p.2 := by simp [sumQ]
/-- as entries of a map -/
def mapQ : List (Int × Int) → Nat → List (AV × AV × Nat)
  | [], _ => []
  | p :: l, c => (.int .i64 p.1, .int .i64 p.2, c) :: mapQ l (c + 1)
theorem accQ_get : ∀ (l : List (Int × Int)) (k d a : Int), getQ (accQ l k d) a = getQ l a + if a = k then d else 0
  | [], k, d, a => by
    simp only [accQ, getQ]
    split <;> simp
  | p :: l, k, d, a => by
    unfold accQ
    by_cases h : k = p.1
    · rw [if_pos h]
      simp only [getQ]
      by_cases h2 : a = k
      · rw [if_pos h2, if_pos (by omega), if_pos h2]
      · rw [if_neg h2, if_neg (by omega), if_neg h2, Int.add_zero]
    · rw [if_neg h]
      simp only [getQ]
      by_cases h2 : a = p.1
      · rw [if_pos h2, if_pos h2, if_neg (by omega), Int.add_zero]
      · rw [if_neg h2, if_neg h2, accQ_get l k d a]
theorem sumQ_get : ∀ (ps : List (Int × Int)) (a : Int), getQ (sumQ ps) a = ((ps.filter fun p => decide (p.1 = a)).map (·.2)).sum := by
  intro ps
  induction ps using List.reverseRecOn' with
  | nil => intro a; rfl
  | append_singleton l p ih =>
    intro a
    rw [sumQ_snoc, accQ_get, ih, List.filter_append, List.map_append, List.sum_append]
    congr 1
    by_cases h : a = p.1
    · simp [h]
    · rw [if_neg h]
      have : ¬ p.1 = a := fun e => h e.symm
      simp [this]
theorem accQ_bd {l : List (Int × Int)} {k d b c : Int} (hc : -c ≤ d ∧ d ≤ c) (hb : 0 ≤ b) (h : ∀ p ∈ l, -b ≤ p.2 ∧ p.2 ≤ b) : ∀ p ∈ accQ l k d, -(b + c) ≤ p.2 ∧ p.2 ≤ b + c := by
  induction l with
  | nil =>
    intro p hp
    simp only [accQ, List.mem_singleton] at hp
    subst hp
    simp only
    omega
  | cons q l ih =>
    intro p hp
    unfold accQ at hp
    have hq := h q (List.mem_cons_self ..)
    split at hp
    · rcases List.mem_cons.1 hp with rfl | hp
      · simp only
        omega
      · have := h p (List.mem_cons_of_mem _ hp)
        omega
    · rcases List.mem_cons.1 hp with rfl | hp
      · omega
      · exact ih (fun p hp => h p (List.mem_cons_of_mem _ hp)) p hp
theorem getQ_bd {l : List (Int × Int)} {b a : Int} (hb : 0 ≤ b) (h : ∀ p ∈ l, -b ≤ p.2 ∧ p.2 ≤ b) : -b ≤ getQ l a ∧ getQ l a ≤ b := by
  induction l with
  | nil => simp only [getQ]; omega
  | cons q l ih =>
    unfold getQ
    split
    · exact h q (List.mem_cons_self ..)
    · exact ih fun p hp => h p (List.mem_cons_of_mem _ hp)
theorem sumQ_bd {ps : List (Int × Int)} {c : Int} (h : ∀ p ∈ ps, -c ≤ p.2 ∧ p.2 ≤ c) (hc : 0 ≤ c) : ∀ p ∈ sumQ ps, -(ps.length * c) ≤ p.2 ∧ p.2 ≤ ps.length * c := by
  induction ps using List.reverseRecOn' with
  | nil => intro p hp; simp [sumQ] at hp
  | append_singleton l p ih =>
    rw [sumQ_snoc]
    have := accQ_bd (l := sumQ l) (k := p.1) (d := p.2) (b := l.length * c) (c := c) (h p (by simp)) (Int.mul_nonneg (by omega) hc) (ih fun q hq => h q (by simp [hq]))
    intro q hq
    have := this q hq
    simp only [List.length_append, List.length_cons, List.length_nil]
    rw [show ((l.length + (0 + 1) : Nat) : Int) * c = l.length * c + c by rw [Int.natCast_add, Int.add_mul]; simp]
    exact this
/-! as a map -/
theorem findE_mapQ {k : Int} : ∀ {l : List (Int × Int)} {c i : Nat}, (k ∉ l.map (·.1) ∧ findE (.int .i64 k) (mapQ l c) i = some none) ∨ ∃ j, j < l.length ∧ (∀ d, accQ l k d = l.set j (k, getQ l k + d)) ∧ k ∈ l.map (·.1) ∧ findE (.int .i64 k) (mapQ l c) i = some (some (i + j, .int .i64 (getQ l k), c + j))
  | [], _, _ => .inl ⟨by simp, rfl⟩
  | p :: l, c, i => by
    have hs : findE (.int .i64 k) (mapQ (p :: l) c) i = (match sameKey (AV.int .i64 k) (AV.int .i64 p.1) with
      | some true => some (some (i, (AV.int .i64 p.2, c)))
      | some false => findE (.int .i64 k) (mapQ l (c + 1)) (i + 1)
      | none => none) := rfl
    by_cases h : k = p.1
    · refine .inr ⟨0, by simp, fun d => by simp [accQ, getQ, h], by simp [h], ?_⟩
      rw [hs]
      simp [sameKey, getQ, h]
    · have h1 : (k == p.1) = false := by simpa using h
      rcases findE_mapQ (k := k) (l := l) (c := c + 1) (i := i + 1) with ⟨h2, h3⟩ | ⟨j, hj, h2, h3, h4⟩
      · refine .inl ⟨by simp only [List.map_cons, List.mem_cons, not_or]; exact ⟨h, h2⟩, ?_⟩
        rw [hs]
        simp only [sameKey, if_true, h1]
        exact h3
      · refine .inr ⟨j + 1, by simpa using hj, fun d => ?_, by simp only [List.map_cons, List.mem_cons]; exact .inr h3, ?_⟩
        · rw [accQ, if_neg h, getQ, if_neg h, h2 d]
          rfl
        · rw [hs]
          simp only [sameKey, if_true, h1]
          rw [h4, getQ, if_neg h, show i + 1 + j = i + (j + 1) by omega, show c + 1 + j = c + (j + 1) by omega]
theorem accQ_new {k d : Int} : ∀ {l : List (Int × Int)}, k ∉ l.map (·.1) → accQ l k d = l ++ [(k, d)] ∧ getQ l k = 0
  | [], _ => ⟨rfl, rfl⟩
  | p :: l, h => by
    simp only [List.map_cons, List.mem_cons, not_or] at h
    obtain ⟨h1, h2⟩ := accQ_new (d := d) h.2
    rw [accQ, if_neg h.1, getQ, if_neg h.1, h1, h2]
    exact ⟨rfl, rfl⟩
theorem mapQ_snoc (p : Int × Int) : ∀ (l : List (Int × Int)) (c : Nat), mapQ (l ++ [p]) c = mapQ l c ++ [(.int .i64 p.1, .int .i64 p.2, c + l.length)]
  | [], c => rfl
  | q :: l, c => by
    show (AV.int .i64 q.1, AV.int .i64 q.2, c) :: mapQ (l ++ [p]) (c + 1) = _
    rw [mapQ_snoc p l (c + 1)]
    simp only [mapQ, List.cons_append, List.length_cons]
    rw [show c + 1 + l.length = c + (l.length + 1) by omega]
theorem setE_mapQ (k v : Int) : ∀ (l : List (Int × Int)) (j c : Nat), j < l.length → setE j (.int .i64 k) (.int .i64 v) (mapQ l c) = mapQ (l.set j (k, v)) c
  | [], j, _, h => by simp at h
  | q :: l, 0, c, _ => rfl
  | q :: l, j + 1, c, h => by
    show (AV.int .i64 q.1, AV.int .i64 q.2, c) :: setE j (.int .i64 k) (.int .i64 v) (mapQ l (c + 1)) = _
    rw [setE_mapQ k v l j (c + 1) (by simpa using h)]
    rfl
end Go.Proofs.YtkebbdpfjhhdhaaGreat

/- Layer 8: Chain of both, the law of LedgerChains. -/
namespace Go.Proofs.YtkebbdpfjhhdhaaGreat
open Go.Proofs.YtkebbdpfjhhdhaaGreat.Ev

theorem rem_at {t : TypeId} {x y : Int} (h : y ≠ 0) : evBin Tryz.prog .rem t (.int .i64 x) (.int .i64 y) = some (.int .i64 (x.tmod y)) := by
  unfold evBin
  simp only [evInt]
  simp [h]
set_option maxRecDepth 100000 in
theorem within_con (h : Heap) (g : Gd h) (n lo hi : Int) : Con Tryz.prog Bs 94 [.int .i64 n, .int .i64 lo, .int .i64 hi] h [] (.bool (inB n lo hi)) [] := by
  refine Con.start rfl Tryz.func94 rfl rfl Tryz.ntmps94 rfl rfl g ?_
  (refine WK.seq ?_; refine WK.region ?_; refine St.assign ?_; refine WO.nil ?_; refine WK.seq ?_; refine WK.region ?_; refine St.move ?_; refine St.move ?_; refine St.bin ?_; refine St.move ?_)
  refine St.split (fun q => ?_) (fun q => ?_)
  · (refine St.move ?_; refine St.move ?_; refine St.bin ?_; refine St.pickT ?_; refine St.assign ?_; refine WO.nil ?_)
    refine St.ret (by first | exact .tmp .nil | exact .cell .nil | exact .cell (.tmp .nil) | exact .tmp (.tmp .nil) | exact .cell (.cell .nil) | exact .tmp (.cell .nil) | exact .nil | exact .tmp (.cell (.tmp .nil)) | exact .cell (.tmp (.tmp .nil)) | exact .cell (.cell (.tmp .nil)) | exact .tmp (.tmp (.tmp .nil)) | exact .tmp (.tmp (.tmp (.tmp .nil))) | exact .cell (.cell (.cell .nil))) ?_
    simp at q
    simp [oneOf, inB, q]
  · (refine St.skip ?_; refine St.skip ?_; refine St.skip ?_; refine St.pickF ?_; refine St.assign ?_; refine WO.nil ?_)
    refine St.ret (by first | exact .tmp .nil | exact .cell .nil | exact .cell (.tmp .nil) | exact .tmp (.tmp .nil) | exact .cell (.cell .nil) | exact .tmp (.cell .nil) | exact .nil | exact .tmp (.cell (.tmp .nil)) | exact .cell (.tmp (.tmp .nil)) | exact .cell (.cell (.tmp .nil)) | exact .tmp (.tmp (.tmp .nil)) | exact .tmp (.tmp (.tmp (.tmp .nil))) | exact .cell (.cell (.cell .nil))) ?_
    simp at q
    have : ¬ lo ≤ n := by omega
    simp [oneOf, inB, this]
set_option maxRecDepth 100000 in
theorem isID_con (h : Heap) (g : Gd h) (n : Int) : Con Tryz.prog Bs 99 [.int .i64 n] h [] (.bool (inB n 1 1099511627776)) [] := by
  refine Con.start rfl Tryz.func99 rfl rfl Tryz.ntmps99 rfl rfl g ?_
  (refine WK.seq ?_; refine WK.region ?_; refine St.assign ?_; refine WO.nil ?_; refine WK.seq ?_; refine WK.region ?_; refine St.move ?_)
  refine St.call (fun _ => rfl) (fun h2 hh => within_con h2 hh.gd n 1 1099511627776) ?_
  (refine St.assign ?_; refine WO.nil ?_)
  refine St.ret (by first | exact .tmp .nil | exact .cell .nil | exact .cell (.tmp .nil) | exact .tmp (.tmp .nil) | exact .cell (.cell .nil) | exact .tmp (.cell .nil) | exact .nil | exact .tmp (.cell (.tmp .nil)) | exact .cell (.tmp (.tmp .nil)) | exact .cell (.cell (.tmp .nil)) | exact .tmp (.tmp (.tmp .nil)) | exact .tmp (.tmp (.tmp (.tmp .nil))) | exact .cell (.cell (.cell .nil))) ?_
  rfl
set_option maxRecDepth 100000 in
theorem isDay_con (h : Heap) (g : Gd h) (n : Int) : Con Tryz.prog Bs 78 [.int .i64 n] h [] (.bool (inB n 0 728)) [] := by
  refine Con.start rfl Tryz.func78 rfl rfl Tryz.ntmps78 rfl rfl g ?_
  (refine WK.seq ?_; refine WK.region ?_; refine St.assign ?_; refine WO.nil ?_; refine WK.seq ?_; refine WK.region ?_; refine St.move ?_)
  refine St.call (fun _ => rfl) (fun h2 hh => within_con h2 hh.gd n 0 728) ?_
  (refine St.assign ?_; refine WO.nil ?_)
  refine St.ret (by first | exact .tmp .nil | exact .cell .nil | exact .cell (.tmp .nil) | exact .tmp (.tmp .nil) | exact .cell (.cell .nil) | exact .tmp (.cell .nil) | exact .nil | exact .tmp (.cell (.tmp .nil)) | exact .cell (.tmp (.tmp .nil)) | exact .cell (.cell (.tmp .nil)) | exact .tmp (.tmp (.tmp .nil)) | exact .tmp (.tmp (.tmp (.tmp .nil))) | exact .cell (.cell (.cell .nil))) ?_
  rfl
end Go.Proofs.YtkebbdpfjhhdhaaGreat
