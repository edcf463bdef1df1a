/- Layer 8: the methods by kinds. -/
import Derived.Test.YtkebbdpfjhhdhaaGreatFx
/- Layer 8: transfer and what each kind of item brings, over the calculator's memory. -/
namespace Go.Proofs.YtkebbdpfjhhdhaaGreat
open Go.Proofs.YtkebbdpfjhhdhaaGreat.Ev

/-- a book in memory -/
def BkC (cl : Int) (vp vt vr : AV) : AObj := .cells [.int .i64 cl, vp, vt, vr] 129
/-- what transfer did -/
def TrR (j : Nat) (cl : Int) (ps : List Po) (vp vt vr : AV) (Lp : Ob) (it dy am to fr : Int) (v : AV) (L : Ob) : Prop :=
  (max dy (cl + 1) > 728 ∧ v = .bool false ∧ L = (j, BkC cl vp vt vr) :: Lp) ∨ (max dy (cl + 1) ≤ 728 ∧ v = .bool true ∧ ∃ q, L = [(q, .row (enF poC (ps ++ [⟨it, max dy (cl + 1), to, am⟩, ⟨it, max dy (cl + 1), fr, 0 - am⟩])) 72 4), (j, BkC cl (.slice q 0 (ps.length + 2) (.m 0)) vt vr)])
/-- a book and its lists in memory -/
def BkM (j : Nat) (b : Bk) (L : Ob) : Prop := ∃ vp vt vr Lp Lt Lr, IsR 72 4 b.ps.length (enF poC b.ps) vp Lp ∧ IsR 114 7 b.tk.length (enF imC b.tk) vt Lt ∧ IsR 3 1 b.rf.length (b.rf.map (AV.int .i64)) vr Lr ∧ L = (j, BkC b.cl vp vt vr) :: (Lp ++ (Lt ++ Lr))
/-- as a book is, whose items are formed -/
structure BkOk (b : Bk) : Prop where
  cl : -1 ≤ b.cl ∧ b.cl ≤ 728
  fr : ∀ x ∈ b.tk, frmI x = true
  tl : b.tk.length ≤ 1000
  pl : b.ps.length ≤ 10000
  rl : b.rf.length ≤ 1000
/-- what a kind's method does -/
def DoR (j : Nat) (b : Bk) (x : Im) (v : AV) (L : Ob) : Prop := (doB b x = none ∧ v = .bool false ∧ BkM j b L) ∨ ∃ c, doB b x = some c ∧ v = .bool true ∧ BkM j c L
theorem frm_am {x : Im} (h : frmI x = true) : 0 ≤ x.am ∧ x.am ≤ 16777216 := by
  simp only [frmI, Bool.and_eq_true, kndI] at h
  have := h.2.2
  repeat' split at this
  all_goals try simp only [Bool.and_eq_true, inB, decide_eq_true_eq] at this
  all_goals first | omega | (exact absurd this (by simp))
theorem frm_dy {x : Im} (h : frmI x = true) : 0 ≤ x.dy ∧ x.dy ≤ 728 := by
  simp only [frmI, Bool.and_eq_true, kndI] at h
  have := h.2.2
  repeat' split at this
  all_goals try simp only [Bool.and_eq_true, dyB, inB, decide_eq_true_eq] at this
  all_goals first | omega | (exact absurd this (by simp))
end Go.Proofs.YtkebbdpfjhhdhaaGreat

/- Layer 8: the methods by kinds. -/
namespace Go.Proofs.YtkebbdpfjhhdhaaGreat
open Go.Proofs.YtkebbdpfjhhdhaaGreat.Ev

/-- what a method by kind must do -/
def MethC (F : Nat) (P : Im → Prop) : Prop := ∀ (h : Heap) (j : Nat) (b : Bk) (L : Ob) (x : Im), P x → frmI x = true → BkOk b → BkM j b L → SS h (L.map (·.1)) L h → ∃ v L', Con Tryz.prog Bs F [.ptr j 0, .agg (imC x)] h (L.map (·.1)) v L' ∧ DoR j b x v L'
theorem amtL_mem {l : List Im} {n : Int} {y : Im} (h : y ∈ amtL l n) : y ∈ l ∧ y.bl = n := by
  obtain ⟨h1, h2⟩ := List.mem_filter.1 h
  exact ⟨h1, by simpa using h2⟩
end Go.Proofs.YtkebbdpfjhhdhaaGreat
