/- Layer 8: bookOf. -/
import Derived.Test.YtkebbdpfjhhdhaaGreatFf
/- Layer 8: the book of items, over the calculator's memory. -/
namespace Go.Proofs.YtkebbdpfjhhdhaaGreat
open Go.Proofs.YtkebbdpfjhhdhaaGreat.Ev

/-- the list that sorting made can be read -/
theorem ClnR.eV {h0 h : Heap} {W : List Nat} {V : Ob} {l : List Im} {u : AV} {L : Ob} (k : ClnR l u L) (hh : Vw h0 W V h) (hm : ∀ x ∈ L, x ∈ V) : ImV h u (cleanJ l) := by
  rcases k with ⟨rfl, rfl, rfl⟩ | ⟨rfl, j, t, rfl, rfl⟩ | ⟨hn, j, rest, rfl, rfl⟩
  · exact .inl ⟨.inl rfl, cleanJ_nil⟩
  · rw [cleanJ_nil]
    exact .inr ⟨j, 0, .k 0, rfl, fun i hi => by simp at hi⟩
  · refine .inr ⟨j, 0, .m 0, rfl, fun i hi => ?_⟩
    rw [Nat.zero_add]
    have := enF_drop imC_len (cleanJ l ++ rest) i (by rw [List.length_append]; omega)
    rw [show nthE (cleanJ l ++ rest) i = nthE (cleanJ l) i by unfold nthE; rw [List.getElem?_append_left hi]] at this
    exact hh.rdsEn (hm _ (List.mem_cons_self ..)) (AObj.has_row _ _ _) _ _ _ this
/-- the methods by kinds -/
def takE (j : Nat) : List (AV × AV × Nat) := [(.int .i64 1, .fn (.func 127) [.ptr j 0] [], 0), (.int .i64 2, .fn (.func 128) [.ptr j 0] [], 1), (.int .i64 3, .fn (.func 129) [.ptr j 0] [], 2), (.int .i64 4, .fn (.func 130) [.ptr j 0] [], 3), (.int .i64 5, .fn (.func 131) [.ptr j 0] [], 4), (.int .i64 6, .fn (.func 132) [.ptr j 0] [], 5), (.int .i64 7, .fn (.func 133) [.ptr j 0] [], 6)]
theorem doB_ok {b c : Bk} {x : Im} (hb : -1 ≤ b.cl ∧ b.cl ≤ 728) (hx : frmI x = true) (h : doB b x = some c) : (-1 ≤ c.cl ∧ c.cl ≤ 728) ∧ c.tk = b.tk ∧ c.rf = b.rf ∧ c.ps.length ≤ b.ps.length + 2 := by
  have hd := frm_dy hx
  have ht := doB_tk h
  refine ⟨?_, ht.1, ht.2, ?_⟩
  · unfold doB at h
    repeat' split at h
    all_goals first | (cases h; done) | (cases h; simp only; omega) | (have := trB_tk h; omega)
  · unfold doB at h
    repeat' split at h
    all_goals first | (cases h; done) | (cases h; simp only; omega) | (have := (trB_tk h).2.2.2.2; rw [this]; simp)
/-- a book of so many items -/
structure BkN (b : Bk) (n : Nat) : Prop where
  cl : -1 ≤ b.cl ∧ b.cl ≤ 728
  fr : ∀ x ∈ b.tk, frmI x = true
  tl : b.tk.length + b.rf.length = n
  pl : b.ps.length ≤ 2 * n
theorem BkN.ok {b : Bk} {n : Nat} (k : BkN b n) (hn : n ≤ 1000) : BkOk b := ⟨k.cl, k.fr, by have := k.tl; omega, by have := k.pl; omega, by have := k.tl; omega⟩
theorem BkN.step {b : Bk} {n : Nat} {x : Im} (k : BkN b n) (hx : frmI x = true) : BkN (stepB b x) (n + 1) := by
  have h1 := k.tl
  have h2 := k.pl
  unfold stepB
  cases h : doB b x with
  | none => exact ⟨k.cl, k.fr, by simp; omega, by simp only; omega⟩
  | some c =>
    obtain ⟨g1, g2, g3, g4⟩ := doB_ok k.cl hx h
    refine ⟨g1, fun y hy => ?_, by simp [g2, g3]; omega, by simp only; omega⟩
    simp only [g2, List.mem_append, List.mem_singleton] at hy
    rcases hy with hy | rfl
    · exact k.fr y hy
    · exact hx
theorem BkN.list : ∀ {l : List Im} {b : Bk} {n : Nat}, BkN b n → (∀ x ∈ l, frmI x = true) → BkN (bookL b l) (n + l.length)
  | [], _, _, k, _ => k
  | x :: l, b, n, k, h => by
    have := BkN.list (l := l) (k.step (h x (List.mem_cons_self ..))) fun y hy => h y (List.mem_cons_of_mem _ hy)
    rw [List.length_cons, show n + (l.length + 1) = n + 1 + l.length by omega]
    exact this
theorem cleanJ_len (l : List Im) : (cleanJ l).length ≤ l.length := by
  unfold cleanJ compP
  have := cmpTo_len (srtJ l) (srtJ l).length
  rw [srtJ_len] at this
  rwa [srtJ_len]
end Go.Proofs.YtkebbdpfjhhdhaaGreat

/- Layer 8: bookOf. -/
namespace Go.Proofs.YtkebbdpfjhhdhaaGreat
open Go.Proofs.YtkebbdpfjhhdhaaGreat.Ev

end Go.Proofs.YtkebbdpfjhhdhaaGreat
