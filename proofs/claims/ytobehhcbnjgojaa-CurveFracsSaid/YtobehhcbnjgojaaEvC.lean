/- What the calculator's values and memory stand for. -/
import Derived.Test.YtobehhcbnjgojaaEvB
import Derived.RangeFuncRecord
namespace Go.Proofs.Ytobehhcbnjgojaa.Ev

/-! ### the tree -/
theorem half_lt {k f : Nat} (h : k + 1 < f + 1) : Nat.div k 2 < f := Nat.lt_of_le_of_lt (Nat.div_le_self k 2) (by omega)
theorem half_inj {m k : Nat} (h : Nat.beq (Nat.mod m 2) 0 = Nat.beq (Nat.mod k 2) 0) (e : Nat.div m 2 = Nat.div k 2) : m = k := by
  have e' : m / 2 = k / 2 := e
  have h' : (m % 2 = 0) ↔ (k % 2 = 0) := by
    have := congrArg (· = true) h
    simp only [Nat.beq_eq] at this
    exact iff_of_eq this
  omega
theorem T.get_put {α : Type} (x : Option α) : ∀ (f : Nat) (t : T α) (n m : Nat), n < f → (T.put x f t n).get m = if m = n then x else t.get m
  | 0, _, _, _, h => absurd h (Nat.not_lt_zero _)
  | f + 1, .nil, 0, m, _ => by
    cases m with
    | zero => simp [T.put, T.get]
    | succ m => simp only [T.put, T.get]; cases Nat.beq (Nat.mod m 2) 0 <;> simp
  | f + 1, .nil, k + 1, m, h => by
    have ih := T.get_put x f .nil (Nat.div k 2)
    cases m with
    | zero => simp only [T.put]; cases Nat.beq (Nat.mod k 2) 0 <;> simp [T.get]
    | succ m =>
      have h2 := half_inj (m := m) (k := k)
      cases hk : Nat.beq (Nat.mod k 2) 0 <;> cases hm : Nat.beq (Nat.mod m 2) 0 <;> simp only [T.put, T.get, hk, hm, cond_true, cond_false, ih _ (half_lt h)]
      · by_cases e : Nat.div m 2 = Nat.div k 2
        · simp [h2 (by rw [hk, hm]) e]
        · rw [if_neg e, if_neg (fun e' => e (by cases e'; rfl))]
      · rw [if_neg (fun e' => by cases e'; rw [hk] at hm; cases hm)]
      · rw [if_neg (fun e' => by cases e'; rw [hk] at hm; cases hm)]
      · by_cases e : Nat.div m 2 = Nat.div k 2
        · simp [h2 (by rw [hk, hm]) e]
        · rw [if_neg e, if_neg (fun e' => e (by cases e'; rfl))]
  | f + 1, .node l v r, 0, m, _ => by
    cases m with
    | zero => simp [T.put, T.get]
    | succ m => simp [T.put, T.get]
  | f + 1, .node l v r, k + 1, m, h => by
    have ihl := T.get_put x f l (Nat.div k 2)
    have ihr := T.get_put x f r (Nat.div k 2)
    cases m with
    | zero => simp only [T.put]; cases Nat.beq (Nat.mod k 2) 0 <;> simp [T.get]
    | succ m =>
      have h2 := half_inj (m := m) (k := k)
      cases hk : Nat.beq (Nat.mod k 2) 0 <;> cases hm : Nat.beq (Nat.mod m 2) 0 <;> simp only [T.put, T.get, hk, hm, cond_true, cond_false, ihl _ (half_lt h), ihr _ (half_lt h)]
      · by_cases e : Nat.div m 2 = Nat.div k 2
        · simp [h2 (by rw [hk, hm]) e]
        · rw [if_neg e, if_neg (fun e' => e (by cases e'; rfl))]
      · rw [if_neg (fun e' => by cases e'; rw [hk] at hm; cases hm)]
      · rw [if_neg (fun e' => by cases e'; rw [hk] at hm; cases hm)]
      · by_cases e : Nat.div m 2 = Nat.div k 2
        · simp [h2 (by rw [hk, hm]) e]
        · rw [if_neg e, if_neg (fun e' => e (by cases e'; rfl))]
theorem T.get_set {α : Type} (t : T α) (n m : Nat) (x : α) : (t.set n x).get m = if m = n then some x else t.get m := T.get_put _ _ _ _ _ (Nat.lt_succ_self n)
theorem T.get_del {α : Type} (t : T α) (n m : Nat) : (t.del n).get m = if m = n then none else t.get m := T.get_put _ _ _ _ _ (Nat.lt_succ_self n)

/-! ### lists -/
theorem takeN_eq {α : Type} : ∀ {n : Nat} {l r : List α}, takeN n l = some r → n ≤ l.length ∧ r = l.take n
  | 0, l, r, h => by simp [takeN] at h; simp [h]
  | n + 1, [], r, h => by simp [takeN] at h
  | n + 1, x :: l, r, h => by
    simp only [takeN, Option.map_eq_some_iff] at h
    obtain ⟨q, hq, rfl⟩ := h
    obtain ⟨h1, rfl⟩ := takeN_eq hq
    exact ⟨by simp; omega, by simp⟩
theorem dropN_eq {α : Type} : ∀ (n : Nat) (l : List α), dropN n l = l.drop n
  | 0, l => by simp [dropN]
  | n + 1, [] => by simp [dropN]
  | n + 1, x :: l => by simp [dropN, dropN_eq n l]
theorem nthN_eq {α : Type} : ∀ (n : Nat) (l : List α), nthN n l = l[n]?
  | _, [] => by simp [nthN]
  | 0, x :: l => by simp [nthN]
  | n + 1, x :: l => by simp [nthN, nthN_eq n l]
theorem overN_eq {α : Type} : ∀ {n : Nat} {xs l r : List α}, overN n xs l = some r → n + xs.length ≤ l.length ∧ r = l.take n ++ xs ++ l.drop (n + xs.length)
  | 0, [], l, r, h => by simp [overN] at h; simp [h]
  | 0, x :: xs, [], r, h => by simp [overN] at h
  | 0, x :: xs, y :: l, r, h => by
    simp only [overN, Option.map_eq_some_iff] at h
    obtain ⟨q, hq, rfl⟩ := h
    obtain ⟨h1, rfl⟩ := overN_eq hq
    exact ⟨by simp at h1 ⊢; omega, by simp⟩
  | n + 1, xs, [], r, h => by simp [overN] at h
  | n + 1, xs, y :: l, r, h => by
    simp only [overN, Option.map_eq_some_iff] at h
    obtain ⟨q, hq, rfl⟩ := h
    obtain ⟨h1, rfl⟩ := overN_eq hq
    refine ⟨by simp at h1 ⊢; omega, ?_⟩
    rw [show n + 1 + xs.length = (n + xs.length) + 1 from by omega]
    simp

/-! ### values -/
abbrev Env := Nat → Option (Nat × Nat)
def Env.le (E E' : Env) : Prop := ∀ i x, E i = some x → E' i = some x
theorem Env.le_refl (E : Env) : E.le E := fun _ _ h => h
theorem Env.le_trans {E E' E'' : Env} (h : E.le E') (h' : E'.le E'') : E.le E'' := fun i x hx => h' i x (h i x hx)

mutual
def VR (E : Env) : AV → Value → Prop
  | .bool b, V => V = .bool b
  | .int k n, V => V = .int k n
  | .str s, V => V = .string ⟨s.toArray⟩
  | .ptr0, V => V = .pointer none
  | .ptr i off, V => ∃ b c, E i = some (b, c) ∧ V = .pointer (some ⟨b, off, none⟩)
  | .slice0, V => V = .slice none 0 0
  | .slice i off len cap, V => ∃ b c, E i = some (b, c) ∧ V = .slice (some ⟨b, off, none⟩) len (match cap with | .k n => n | .m d => c - d)
  | .map0, V => V = .map none
  | .map i, V => ∃ b c, E i = some (b, c) ∧ V = .map (some b)
  | .fn f a c, V => ∃ fn As Cs, V = .func fn As.toArray Cs.toArray ∧ VRs E a As ∧ VRs E c Cs ∧ (match f with | .func g => fn = .func g | .yield l => ∃ b d, E l = some (b, d) ∧ fn = .yield b)
  | .fn0, V => V = .nilFunc
  | .nilI, V => V = .nilIface
  | .iface t v, V => ∃ U, V = .iface t U ∧ VR E v U
  | .agg l, V => ∃ L, V = .agg L.toArray ∧ VRs E l L
  | .tup l, V => ∃ L, V = .tuple L.toArray ∧ VRs E l L
def VRs (E : Env) : List AV → List Value → Prop
  | [], L => L = []
  | v :: l, L => ∃ V L', L = V :: L' ∧ VR E v V ∧ VRs E l L'
end

mutual
theorem VR.mono {E E' : Env} (h : E.le E') : ∀ {v : AV} {V : Value}, VR E v V → VR E' v V
  | .bool _, _, hv | .int _ _, _, hv | .str _, _, hv | .ptr0, _, hv | .slice0, _, hv | .map0, _, hv | .fn0, _, hv | .nilI, _, hv => by simpa only [VR] using hv
  | .ptr _ _, _, hv => by simp only [VR] at hv ⊢; obtain ⟨b, c, e, rfl⟩ := hv; exact ⟨b, c, h _ _ e, rfl⟩
  | .slice _ _ _ _, _, hv => by simp only [VR] at hv ⊢; obtain ⟨b, c, e, rfl⟩ := hv; exact ⟨b, c, h _ _ e, rfl⟩
  | .map _, _, hv => by simp only [VR] at hv ⊢; obtain ⟨b, c, e, rfl⟩ := hv; exact ⟨b, c, h _ _ e, rfl⟩
  | .fn f a c, _, hv => by
    simp only [VR] at hv ⊢
    obtain ⟨fn, As, Cs, rfl, h1, h2, h3⟩ := hv
    refine ⟨fn, As, Cs, rfl, VRs.mono h h1, VRs.mono h h2, ?_⟩
    cases f with
    | func g => exact h3
    | yield l => obtain ⟨b, d, e, rfl⟩ := h3; exact ⟨b, d, h _ _ e, rfl⟩
  | .iface t v, _, hv => by simp only [VR] at hv ⊢; obtain ⟨U, rfl, h1⟩ := hv; exact ⟨U, rfl, VR.mono h h1⟩
  | .agg l, _, hv => by simp only [VR] at hv ⊢; obtain ⟨L, rfl, h1⟩ := hv; exact ⟨L, rfl, VRs.mono h h1⟩
  | .tup l, _, hv => by simp only [VR] at hv ⊢; obtain ⟨L, rfl, h1⟩ := hv; exact ⟨L, rfl, VRs.mono h h1⟩
theorem VRs.mono {E E' : Env} (h : E.le E') : ∀ {l : List AV} {L : List Value}, VRs E l L → VRs E' l L
  | [], _, hv => by simpa only [VRs] using hv
  | v :: l, _, hv => by simp only [VRs] at hv ⊢; obtain ⟨V, L, rfl, h1, h2⟩ := hv; exact ⟨V, L, rfl, VR.mono h h1, VRs.mono h h2⟩
end

theorem VRs.nil {E : Env} : VRs E [] [] := by simp only [VRs]
theorem VRs.cons {E : Env} {v V l L} (h : VR E v V) (h' : VRs E l L) : VRs E (v :: l) (V :: L) := by simp only [VRs]; exact ⟨V, L, rfl, h, h'⟩
theorem VRs.len {E : Env} : ∀ {l L}, VRs E l L → L.length = l.length
  | [], _, h => by simp only [VRs] at h; simp [h]
  | v :: l, _, h => by simp only [VRs] at h; obtain ⟨V, L, rfl, _, h2⟩ := h; simp [h2.len]
theorem VRs.append {E : Env} : ∀ {l L m M}, VRs E l L → VRs E m M → VRs E (l ++ m) (L ++ M)
  | [], _, _, _, h, h' => by simp only [VRs] at h; subst h; simpa using h'
  | v :: l, _, _, _, h, h' => by simp only [VRs] at h; obtain ⟨V, L, rfl, h1, h2⟩ := h; exact VRs.cons h1 (h2.append h')
theorem VRs.take {E : Env} : ∀ {l L} (n : Nat), VRs E l L → VRs E (l.take n) (L.take n)
  | [], _, n, h => by simp only [VRs] at h; subst h; simp [VRs.nil]
  | v :: l, _, 0, h => by simp [VRs.nil]
  | v :: l, _, n + 1, h => by simp only [VRs] at h; obtain ⟨V, L, rfl, h1, h2⟩ := h; simpa using VRs.cons h1 (h2.take n)
theorem VRs.drop {E : Env} : ∀ {l L} (n : Nat), VRs E l L → VRs E (l.drop n) (L.drop n)
  | [], _, n, h => by simp only [VRs] at h; subst h; simp [VRs.nil]
  | v :: l, _, 0, h => by simpa using h
  | v :: l, _, n + 1, h => by simp only [VRs] at h; obtain ⟨V, L, rfl, h1, h2⟩ := h; simpa using h2.drop n
theorem VRs.get {E : Env} : ∀ {l L} {n : Nat} {v : AV}, VRs E l L → l[n]? = some v → ∃ V, L[n]? = some V ∧ VR E v V
  | [], _, n, v, h, hv => by simp at hv
  | w :: l, _, 0, v, h, hv => by simp only [VRs] at h; obtain ⟨V, L, rfl, h1, h2⟩ := h; simp at hv; subst hv; exact ⟨V, by simp, h1⟩
  | w :: l, _, n + 1, v, h, hv => by simp only [VRs] at h; obtain ⟨V, L, rfl, h1, h2⟩ := h; simp at hv; simpa using h2.get hv
theorem VRs.rep {E : Env} {l L} (h : VRs E l L) : ∀ n, VRs E (rep l n) (List.replicate n L).flatten
  | 0 => by simpa [Ev.rep] using VRs.nil
  | n + 1 => by rw [List.replicate_succ, List.flatten_cons]; exact h.append (VRs.rep h n)
theorem VRs.split {E : Env} : ∀ {l m L}, VRs E (l ++ m) L → ∃ A B, L = A ++ B ∧ VRs E l A ∧ VRs E m B
  | [], m, L, h => ⟨[], L, rfl, VRs.nil, h⟩
  | v :: l, m, L, h => by
    simp only [List.cons_append, VRs] at h
    obtain ⟨V, L, rfl, h1, h2⟩ := h
    obtain ⟨A, B, rfl, h3, h4⟩ := VRs.split h2
    exact ⟨V :: A, B, rfl, VRs.cons h1 h3, h4⟩

/-- a value's cells -/
theorem VR.cells {E : Env} {v : AV} {V : Value} (h : VR E v V) : VRs E v.cells V.cells.toList := by
  cases v with
  | agg l => simp only [VR] at h; obtain ⟨L, rfl, h1⟩ := h; simpa [AV.cells, Value.cells] using h1
  | fn f a c => 
    have h0 := h
    simp only [VR] at h; obtain ⟨fn, As, Cs, rfl, h1⟩ := h; exact VRs.cons h0 VRs.nil
  | tup l => have h0 := h; simp only [VR] at h; obtain ⟨L, rfl, h1⟩ := h; exact VRs.cons h0 VRs.nil
  | iface t v => have h0 := h; simp only [VR] at h; obtain ⟨L, rfl, h1⟩ := h; exact VRs.cons h0 VRs.nil
  | ptr i o => have h0 := h; simp only [VR] at h; obtain ⟨b, c, e, rfl⟩ := h; exact VRs.cons h0 VRs.nil
  | slice i o n c => have h0 := h; simp only [VR] at h; obtain ⟨b, c, e, rfl⟩ := h; exact VRs.cons h0 VRs.nil
  | map i => have h0 := h; simp only [VR] at h; obtain ⟨b, c, e, rfl⟩ := h; exact VRs.cons h0 VRs.nil
  | bool b => have h0 := h; simp only [VR] at h; subst h; exact VRs.cons h0 VRs.nil
  | int k n => have h0 := h; simp only [VR] at h; subst h; exact VRs.cons h0 VRs.nil
  | str s => have h0 := h; simp only [VR] at h; subst h; exact VRs.cons h0 VRs.nil
  | ptr0 => have h0 := h; simp only [VR] at h; subst h; exact VRs.cons h0 VRs.nil
  | slice0 => have h0 := h; simp only [VR] at h; subst h; exact VRs.cons h0 VRs.nil
  | map0 => have h0 := h; simp only [VR] at h; subst h; exact VRs.cons h0 VRs.nil
  | fn0 => have h0 := h; simp only [VR] at h; subst h; exact VRs.cons h0 VRs.nil
  | nilI => have h0 := h; simp only [VR] at h; subst h; exact VRs.cons h0 VRs.nil

theorem mapM_VRs {E : Env} {d : Nat} (ih : ∀ {x : Value} {v : AV}, abs d x = some v → VR E v x) : ∀ {L : List Value} {l : List AV}, L.mapM (abs d) = some l → VRs E l L
  | [], l, h => by simp at h; subst h; exact VRs.nil
  | x :: L, l, h => by
    rw [List.mapM_cons] at h
    simp only [Option.bind_eq_bind, Option.bind_eq_some_iff, Option.pure_def, Option.some.injEq] at h
    obtain ⟨v, hv, l', hl, rfl⟩ := h
    exact VRs.cons (ih hv) (mapM_VRs ih hl)
theorem abs_VR {E : Env} : ∀ {d : Nat} {x : Value} {v : AV}, abs d x = some v → VR E v x
  | d, x, v, h => by
    unfold abs at h
    split at h
    · cases h; simp [VR]
    · cases h; simp [VR]
    · cases h; rename_i s; simp only [VR]
    · cases h; simp [VR]
    · cases h; simp [VR]
    · cases h; simp [VR]
    · cases h; simp [VR]
    · cases h; simp [VR]
    · rename_i d cs
      simp only [Option.map_eq_some_iff] at h
      obtain ⟨l, hl, rfl⟩ := h
      simp only [VR]
      exact ⟨cs.toList, rfl, mapM_VRs (fun h => abs_VR h) hl⟩
    · rename_i d cs
      simp only [Option.map_eq_some_iff] at h
      obtain ⟨l, hl, rfl⟩ := h
      simp only [VR]
      exact ⟨cs.toList, rfl, mapM_VRs (fun h => abs_VR h) hl⟩
    · cases h
end Go.Proofs.Ytobehhcbnjgojaa.Ev
