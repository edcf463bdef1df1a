/- A map of ints in the model, as the library reads it. -/
import Derived.Test.YtkebbdpfjhhdhaaGreatProg
import Derived.Test.YtkebbdpfjhhdhaaGreatEvX
import Derived.Shelf.SlIterI.Nil
/- Keys of a map of ints, in order: plain. -/
namespace Go.Proofs.YtkebbdpfjhhdhaaGreat
open Go.Proofs.YtkebbdpfjhhdhaaGreat.Ev

def insI (x : Int) : List Int → List Int
  | [] => [x]
  | y :: l => if x ≤ y then x :: y :: l else y :: insI x l
def srtI : List Int → List Int
  | [] => []
  | x :: l => insI x (srtI l)
theorem insI_perm (x : Int) : ∀ l : List Int, (insI x l).Perm (x :: l)
  | [] => List.Perm.refl _
  | y :: l => by
    unfold insI
    split
    · exact List.Perm.refl _
    · exact ((insI_perm x l).cons y).trans (List.Perm.swap x y l)
theorem srtI_perm : ∀ l : List Int, (srtI l).Perm l
  | [] => List.Perm.refl _
  | x :: l => (insI_perm x (srtI l)).trans ((srtI_perm l).cons x)
theorem insI_pw (x : Int) : ∀ {l : List Int}, l.Pairwise (fun a b => a ≤ b) → (insI x l).Pairwise (fun a b => a ≤ b)
  | [], _ => List.pairwise_singleton _ _
  | y :: l, h => by
    unfold insI
    rw [List.pairwise_cons] at h
    split
    · rename_i hc
      refine List.pairwise_cons.2 ⟨fun z hz => ?_, List.pairwise_cons.2 h⟩
      rcases List.mem_cons.1 hz with rfl | hz
      · exact hc
      · exact Int.le_trans hc (h.1 z hz)
    · rename_i hc
      refine List.pairwise_cons.2 ⟨fun z hz => ?_, insI_pw x h.2⟩
      rcases List.mem_cons.1 ((insI_perm x l).mem_iff.1 hz) with rfl | hz
      · omega
      · exact h.1 z hz
theorem srtI_pw : ∀ l : List Int, (srtI l).Pairwise (fun a b => a ≤ b)
  | [] => List.Pairwise.nil
  | x :: l => insI_pw x (srtI_pw l)
theorem srtI_len (l : List Int) : (srtI l).length = l.length := (srtI_perm l).length_eq
theorem srtI_eq {ss ks : List Int} (hp : ss.Perm ks) : ss.mergeSort (fun x y => decide (x ≤ y)) = srtI ks := by
  refine List.Perm.eq_of_pairwise (le := fun a b => a ≤ b) (fun a b _ _ h1 h2 => Int.le_antisymm h1 h2) ?_ (srtI_pw ks) (((List.mergeSort_perm ss _).trans hp).trans (srtI_perm ks).symm)
  have := List.pairwise_mergeSort (le := fun (x y : Int) => decide (x ≤ y)) (fun a b c h1 h2 => by simp at h1 h2 ⊢; omega) (fun a b => by simp; omega) ss
  exact this.imp fun h => by simpa using h
def inI (x : Int) : List Int → Bool
  | [] => false
  | y :: l => bif decide (x = y) then true else inI x l
def ndI : List Int → Bool
  | [] => true
  | x :: l => bif inI x l then false else ndI l
theorem inI_mem {x : Int} : ∀ {l : List Int}, inI x l = false → x ∉ l
  | [], _ => by simp
  | y :: l, h => by
    unfold inI at h
    cases hc : decide (x = y) with
    | true => rw [hc] at h; cases h
    | false =>
      rw [hc] at h
      have h1 := inI_mem h
      simp only [decide_eq_false_iff_not] at hc
      simp [hc, h1]
theorem ndI_nd : ∀ {l : List Int}, ndI l = true → l.Nodup
  | [], _ => List.nodup_nil
  | x :: l, h => by
    unfold ndI at h
    cases hc : inI x l with
    | true => rw [hc] at h; cases h
    | false =>
      rw [hc] at h
      exact List.nodup_cons.2 ⟨inI_mem hc, ndI_nd h⟩
/-- the keys of a map of ints that was only added to -/
def unKs : List (AV × AV × Nat) → Nat → Option (List Int)
  | [], _ => some []
  | (.int .i64 a, _, k) :: l, i => if k = i ∧ -9223372036854775808 ≤ a ∧ a < 9223372036854775808 then (unKs l (i + 1)).map fun T => a :: T else none
  | _, _ => none
theorem unKs_es {E : Env} : ∀ {es : List (AV × AV × Nat)} {i : Nat} {ks : List Int} {Es : List MapEntry}, unKs es i = some ks → ERs E es Es → Es.map (·.key) = ks.map (Value.int .i64) ∧ Es.map (·.born) = List.range' i ks.length ∧ ∀ a ∈ ks, -9223372036854775808 ≤ a ∧ a < 9223372036854775808 := by
  intro es
  induction es with
  | nil => intro i ks Es h hE; simp only [unKs, Option.some.injEq] at h; subst h; simp only [ERs] at hE; subst hE; exact ⟨rfl, rfl, fun _ h => by cases h⟩
  | cons x l ih =>
    intro i ks Es h hE
    unfold unKs at h
    split at h
    · rename_i he; cases he
    · rename_i he
      cases he
      split at h
      · rename_i hc
        obtain ⟨rfl, h0, h1⟩ := hc
        simp only [Option.map_eq_some_iff] at h
        obtain ⟨T, h2, rfl⟩ := h
        obtain ⟨F, L, rfl, ⟨hk, hv, hb⟩, h3⟩ := hE
        obtain ⟨e1, e2, e3⟩ := ih h2 h3
        simp only [VR] at hk
        refine ⟨by simp only [List.map_cons, e1, hk], ?_, fun a ha => ?_⟩
        · simp only [List.map_cons, List.length_cons, List.range'_succ, e2, hb]
        · rcases List.mem_cons.1 ha with rfl | ha
          · exact ⟨h0, h1⟩
          · exact e3 a ha
      · cases h
    · cases h
def keyA (f g : Nat) (e : TypeId) : Nat → List AV → Heap → Option (AV × Heap) := fun q args h => bif Nat.beq q f then (match args with
  | [.fn (.func g1) [] [.ptr p 0]] => if g1 = g then (match h.get p with
    | some (.cells [.map m] _) => (match h.get m with
      | some (.map es ck) => (match unKs es 0 with
        | some ks => if ck = ks.length ∧ ks.length ≤ 1000 ∧ ndI ks = true then (if ks.length = 0 then some (.slice0, h) else some (.slice h.next 0 ks.length (.m 0), (h.new (.row ((srtI ks).map (AV.int .i64)) e 1)).2)) else none
        | none => none)
      | _ => none)
    | _ => none) else none
  | _ => none) else none
theorem keyA_eq {f g q : Nat} {e : TypeId} {args : List AV} {h h' : Heap} {v : AV} (k : keyA f g e q args h = some (v, h')) : ∃ p t m es ks, args = [.fn (.func g) [] [.ptr p 0]] ∧ h.get p = some (.cells [.map m] t) ∧ h.get m = some (.map es ks.length) ∧ unKs es 0 = some ks ∧ ks.length ≤ 1000 ∧ ks.Nodup ∧ q = f ∧ ((ks = [] ∧ v = .slice0 ∧ h' = h) ∨ (0 < ks.length ∧ v = .slice h.next 0 ks.length (.m 0) ∧ h' = (h.new (.row ((srtI ks).map (AV.int .i64)) e 1)).2)) := by
  unfold keyA at k
  cases hg : Nat.beq q f with
  | false => rw [hg] at k; cases k
  | true =>
  rw [hg] at k
  have hg := Nat.eq_of_beq_eq_true hg
  simp only [cond_true] at k
  split at k
  · rename_i g1 p
    split at k
    · rename_i hgg
      subst hgg
      split at k
      · rename_i m t hp
        split at k
        · rename_i es ck hm
          split at k
          · rename_i ks hu
            split at k
            · rename_i hc
              obtain ⟨rfl, hl, hnd⟩ := hc
              split at k
              · rename_i h0
                cases k
                exact ⟨p, t, m, es, ks, rfl, hp, hm, hu, hl, ndI_nd hnd, hg, .inl ⟨List.length_eq_zero_iff.1 h0, rfl, rfl⟩⟩
              · rename_i h0
                cases k
                exact ⟨p, t, m, es, ks, rfl, hp, hm, hu, hl, ndI_nd hnd, hg, .inr ⟨by omega, rfl, rfl⟩⟩
            · cases k
          · cases k
        · cases k
      · cases k
    · cases k
  · cases k
def keyB (f g : Nat) (e : TypeId) : Base := ⟨keyA f g e, fun k => by
  obtain ⟨_, _, _, _, _, _, _, _, _, _, _, _, ⟨_, _, rfl⟩ | ⟨_, _, rfl⟩⟩ := keyA_eq k
  · exact Abs.refl _
  · exact Abs.new _ _⟩
end Go.Proofs.YtkebbdpfjhhdhaaGreat

/- A map of ints in the model, as the library reads it. -/
namespace Go.Proofs.YtkebbdpfjhhdhaaGreat
open Go.Proofs.YtkebbdpfjhhdhaaGreat.Ev Go.RowKit Go.Maps Go.Sort Go.Shelf

def rdAny : Value → Option (DataW Nat × List MemPlace) := fun _ => some (.nil, [])
theorem fit_ints {t : TypeId} (hu : Tryz.prog.underlying t = some (.int .i64)) {Es : List MapEntry} {ks : List Int} (h1 : Es.map (·.key) = ks.map (Value.int .i64)) (h2 : Es.map (·.born) = List.range' 0 ks.length) (h3 : ∀ a ∈ ks, -9223372036854775808 ≤ a ∧ a < 9223372036854775808) (hl : ks.length ≤ 1000) (hnd : ks.Nodup) :
    Go.WideElems.Fit Tryz.prog t rdAny Es.toArray ks.length ∧ Es.length = ks.length ∧ (intKeys (.map ((Es.map (Go.WideElems.rg Tryz.prog t rdAny)).foldr DataW.insert []) : DataW Nat)).Perm ks := by
  have hlen : Es.length = ks.length := by simpa using congrArg List.length h1
  have hkey : ∀ x ∈ Es, ∃ a ∈ ks, x.key = .int .i64 a := fun x hx => by
    have : x.key ∈ Es.map (·.key) := List.mem_map_of_mem hx
    rw [h1] at this
    obtain ⟨a, ha, e⟩ := List.mem_map.1 this
    exact ⟨a, ha, e.symm⟩
  have hrd : ∀ x ∈ Es, ∃ a ∈ ks, x.key = .int .i64 a ∧ Go.WideElems.rd Tryz.prog t rdAny x = some (.int .i64 a, .nil) := fun x hx => by
    obtain ⟨a, ha, e⟩ := hkey x hx
    refine ⟨a, ha, e, ?_⟩
    have hw : (Lit.int .i64 a).wf = true := by
      have := h3 a ha
      show (decide (IntKind.i64.min ≤ a) && decide (a ≤ IntKind.i64.max)) = true
      rw [show IntKind.i64.min = -9223372036854775808 from by decide, show IntKind.i64.max = 9223372036854775807 from by decide]
      simp only [Bool.and_eq_true, decide_eq_true_eq]
      omega
    unfold Go.WideElems.rd
    rw [e]
    simp [keyOf, hu, hw, rdAny, mapKey]
  refine ⟨⟨?_, ⟨fun x hx => ?_, ?_, ?_⟩, fun x hx => ?_⟩, hlen, ?_⟩
  · simp [maxLen]; omega
  · have : x.born ∈ Es.map (·.born) := List.mem_map_of_mem hx
    rw [h2] at this
    have := List.mem_range'.1 this
    omega
  · show (Es.map (·.born)).Nodup
    rw [h2]
    exact List.nodup_range' ..
  · show (Es.map (·.key)).Nodup
    rw [h1]
    exact (List.pairwise_map.2 (List.Pairwise.imp (fun {a b} hab e => hab (by simpa using e)) hnd))
  · obtain ⟨a, _, _, e⟩ := hrd x hx
    exact ⟨_, e⟩
  · have hp := (Go.WideShapes.sorted_perm (Es.map (Go.WideElems.rg Tryz.prog t rdAny))).map fun p : Lit × DataW Nat => intOf p.1
    refine hp.trans ?_
    have : (Es.map (Go.WideElems.rg Tryz.prog t rdAny)).map (fun p : Lit × DataW Nat => intOf p.1) = ks := by
      have hinj : ∀ {l l' : List Int}, l.map (Value.int .i64) = l'.map (Value.int .i64) → l = l' := by
        intro l
        induction l with
        | nil => intro l' h; cases l' <;> simp_all
        | cons x l ih => intro l' h; cases l' with
          | nil => simp at h
          | cons y l' => simp only [List.map_cons, List.cons.injEq, Value.int.injEq, true_and] at h; rw [h.1, ih h.2]
      apply hinj
      rw [← h1, List.map_map, List.map_map]
      refine List.map_congr_left fun x hx => ?_
      obtain ⟨a, _, e1, e2⟩ := hrd x hx
      simp [Go.WideElems.rg, e2, intOf, e1]
    rw [this]
end Go.Proofs.YtkebbdpfjhhdhaaGreat
