/- A map of ints in the model, as the library reads it. -/
import Derived.Test.YtnihpojigpomkaaGreatDa
import Derived.Shelf.SlIterI.Nil
namespace Go.Proofs.YtnihpojigpomkaaGreat
open Go.Proofs.YtnihpojigpomkaaGreat.Ev Go.RowKit Go.Maps Go.Sort Go.Shelf

def rdAny : Value → Option (DataW Nat × List MemPlace) := fun _ => some (.nil, [])
theorem fit_ints {t : TypeId} (hu : Tryz.prog.underlying t = some (.int .i64)) {Es : List MapEntry} {ks : List Int} (h1 : Es.map (·.key) = ks.map (Value.int .i64)) (h2 : Es.map (·.born) = List.range' 0 ks.length) (h3 : ∀ a ∈ ks, -9223372036854775808 ≤ a ∧ a < 9223372036854775808) (hl : ks.length ≤ 1000) (hnd : ks.Nodup) :
    Go.WideElems.Fit Tryz.prog t rdAny Es.toArray ks.length ∧ Es.length = ks.length ∧ (intKeys (.map ((Es.map (Go.WideElems.rg Tryz.prog t rdAny)).foldr DataW.insert []) : DataW Nat)).Perm ks := by
  have hlen : Es.length = ks.length := by simpa using congrArg List.length h1
  have hkey : ∀ x ∈ Es, ∃ a ∈ ks, x.key = .int .i64 a := fun x hx => by
    have : x.key ∈ Es.map (·.key) := List.mem_map_of_mem hx
    rw [h1] at this
    obtain ⟨a, ha, e⟩ := List.mem_map.1 this
    exact ⟨a, ha, e.symm⟩
  have hrd : ∀ x ∈ Es, ∃ a ∈ ks, x.key = .int .i64 a ∧ Go.WideElems.rd Tryz.prog t rdAny x = some (.int .i64 a, .nil) := fun x hx => by
    obtain ⟨a, ha, e⟩ := hkey x hx
    refine ⟨a, ha, e, ?_⟩
    have hw : (Lit.int .i64 a).wf = true := by
      have := h3 a ha
      show (decide (IntKind.i64.min ≤ a) && decide (a ≤ IntKind.i64.max)) = true
      rw [show IntKind.i64.min = -9223372036854775808 from by decide, show IntKind.i64.max = 9223372036854775807 from by decide]
      simp only [Bool.and_eq_true, decide_eq_true_eq]
      omega
    unfold Go.WideElems.rd
    rw [e]
    simp [keyOf, hu, hw, rdAny, mapKey]
  refine ⟨⟨?_, ⟨fun x hx => ?_, ?_, ?_⟩, fun x hx => ?_⟩, hlen, ?_⟩
  · simp [maxLen]; omega
  · have : x.born ∈ Es.map (·.born) := List.mem_map_of_mem hx
    rw [h2] at this
    have := List.mem_range'.1 this
    omega
  · show (Es.map (·.born)).Nodup
    rw [h2]
    exact List.nodup_range' ..
  · show (Es.map (·.key)).Nodup
    rw [h1]
    exact (List.pairwise_map.2 (List.Pairwise.imp (fun {a b} hab e => hab (by simpa using e)) hnd))
  · obtain ⟨a, _, _, e⟩ := hrd x hx
    exact ⟨_, e⟩
  · have hp := (Go.WideShapes.sorted_perm (Es.map (Go.WideElems.rg Tryz.prog t rdAny))).map fun p : Lit × DataW Nat => intOf p.1
    refine hp.trans ?_
    have : (Es.map (Go.WideElems.rg Tryz.prog t rdAny)).map (fun p : Lit × DataW Nat => intOf p.1) = ks := by
      have hinj : ∀ {l l' : List Int}, l.map (Value.int .i64) = l'.map (Value.int .i64) → l = l' := by
        intro l
        induction l with
        | nil => intro l' h; cases l' <;> simp_all
        | cons x l ih => intro l' h; cases l' with
          | nil => simp at h
          | cons y l' => simp only [List.map_cons, List.cons.injEq, Value.int.injEq, true_and] at h; rw [h.1, ih h.2]
      apply hinj
      rw [← h1, List.map_map, List.map_map]
      refine List.map_congr_left fun x hx => ?_
      obtain ⟨a, _, e1, e2⟩ := hrd x hx
      simp [Go.WideElems.rg, e2, intOf, e1]
    rw [this]
end Go.Proofs.YtnihpojigpomkaaGreat
