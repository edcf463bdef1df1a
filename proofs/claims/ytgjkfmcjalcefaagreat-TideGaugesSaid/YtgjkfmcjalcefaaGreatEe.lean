/- The law TideExcludes over the calculator's memory: the walk. -/
import Derived.Test.YtgjkfmcjalcefaaGreatQg
import Derived.Test.YtgjkfmcjalcefaaGreatZb
import Derived.Test.YtgjkfmcjalcefaaGreatUe
import Derived.Test.YtgjkfmcjalcefaaGreatJe
import Derived.Test.YtgjkfmcjalcefaaGreatTd
/- Cycles that may be sliced; rows of cycles; a right water without one of its cycles. -/
namespace Go.Proofs.YtgjkfmcjalcefaaGreat
open Go.Proofs.YtgjkfmcjalcefaaGreat.Ev

/-- cycles that may be sliced -/
def CyA (h : Heap) (v : AV) (l : List Cw) : Prop := ((v = .slice0 ∨ v = .sliceZ) ∧ l = []) ∨ ∃ b off m, v = .slice b off l.length (.k m) ∧ l.length ≤ m ∧ CyH h b off l
theorem CyA.vw {h0 h : Heap} {V : Ob} {v : AV} {l : List Cw} (k : CyA h0 v l) (hh : Vw h0 [] V h) : CyA h v l := by
  rcases k with k | ⟨b, off, m, rfl, hm, k⟩
  · exact .inl k
  · exact .inr ⟨b, off, m, rfl, hm, k.vw hh⟩
def cyC (w : Cw) : List AV := [.int .i64 w.c.id, .int .i64 w.c.bg, .int .i64 w.c.ev, w.v]
def cyF (l : List Cw) : List AV := (l.map cyC).flatten
/-- heights that lie somewhere -/
def Its (h : Heap) (l : List Cw) : Prop := ∀ w ∈ l, ItV h w.v w.c.hs
theorem Its.vw {h0 h : Heap} {V : Ob} {l : List Cw} (k : Its h0 l) (hh : Vw h0 [] V h) : Its h l := fun w hw => (k w hw).vw hh
theorem CyH.its {h : Heap} {b off : Nat} {l : List Cw} (k : CyH h b off l) : Its h l := fun w hw => by
  obtain ⟨i, hi, rfl⟩ := List.getElem_of_mem hw
  have := (k i hi).2
  rwa [nthW_eq hi] at this
theorem CyH.tak {h : Heap} {b off k : Nat} {l : List Cw} (q : CyH h b off l) : CyH h b off (l.take k) := fun i hi => by
  have h1 : i < l.length := by rw [List.length_take] at hi; omega
  have h2 : i < k := by rw [List.length_take] at hi; omega
  have e : nthW (l.take k) i = nthW l i := by simp [nthW, List.getElem?_take, h2]
  rw [e]
  exact q i h1
theorem CyH.drp {h : Heap} {b off k : Nat} {l : List Cw} (q : CyH h b off l) : CyH h b (off + k * 4) (l.drop k) := fun i hi => by
  have h1 : k + i < l.length := by rw [List.length_drop] at hi; omega
  have e : nthW (l.drop k) i = nthW l (k + i) := by simp [nthW]
  rw [e, show off + k * 4 + i * 4 = off + (k + i) * 4 by rw [Nat.add_mul]; omega]
  exact q _ h1
theorem chkC_sub : ∀ {a b : List Cy}, a.Sublist b → ∀ {s t : List Int}, (∀ x ∈ s, x ∈ t) → chkC t b = 0 → chkC s a = 0 := by
  intro a b hs
  induction hs with
  | slnil => intros; rfl
  | cons x h ih =>
    intro s t hst hb
    rw [chkC] at hb
    split at hb
    · cases hb
    · split at hb
      · cases hb
      · exact ih (fun y hy => List.mem_append_left _ (hst y hy)) hb
  | cons_cons x h ih =>
    intro s t hst hb
    rw [chkC] at hb ⊢
    split at hb
    · cases hb
    · rename_i h1
      split at hb
      · cases hb
      · rename_i h2
        rw [if_neg h1, if_neg (fun q => h2 (hst _ q))]
        refine ih (fun y hy => ?_) hb
        rcases List.mem_append.1 hy with hy | hy
        · exact List.mem_append_left _ (hst y hy)
        · exact List.mem_append_right _ hy
theorem WOk.less {lv : Int} {cl : List Cw} {ss : List Sh} (w : WOk lv (cys cl) ss) (i : Nat) : WOk lv (cys (cl.eraseIdx i)) ss := by
  have hs : (cys (cl.eraseIdx i)).Sublist (cys cl) := (List.eraseIdx_sublist ..).map _
  exact ⟨w.l1, w.l2, Nat.le_trans hs.length_le w.n1, w.n2, chkC_sub hs (fun _ h => h) w.cs, w.ss⟩
/-- the cycles without each of which the gauges agree, or don't -/
def decTo (ss : List Sh) (l : List Ga) (cl : List Cw) (b : Bool) : Nat → List Int
  | 0 => []
  | k + 1 => decTo ss l cl b k ++ if (fitG (cys (cl.eraseIdx k)) ss l == b) = true then [(nthW cl k).c.id] else []
def shownR (lv : Int) (cl : List Cw) (ss : List Sh) (l : List Ga) : List Int × Int :=
  if chkGs lv (cys cl) ss l ≠ 0 then ([], chkGs lv (cys cl) ss l) else if fitG (cys cl) ss l = false then ([], 9) else (sortX (decTo ss l cl false cl.length), 0)
def exclR (lv : Int) (cl : List Cw) (ss : List Sh) (l : List Ga) : List Int × Int :=
  if chkGs lv (cys cl) ss l ≠ 0 then ([], chkGs lv (cys cl) ss l) else if fitG (cys cl) ss l = true then ([], 0) else (sortX (decTo ss l cl true cl.length), 0)
end Go.Proofs.YtgjkfmcjalcefaaGreat

/- Cycles: slices.Concat, without. -/
namespace Go.Proofs.YtgjkfmcjalcefaaGreat
open Go.Proofs.YtgjkfmcjalcefaaGreat.Ev

def CyL (v : AV) (n : Nat) : Prop := ∀ h2, lenA Tryz.prog 22 h2 v = some (.int .i64 (n : Int))
end Go.Proofs.YtgjkfmcjalcefaaGreat

/- The program's decisive, Shown, Excluded. -/
namespace Go.Proofs.YtgjkfmcjalcefaaGreat
open Go.Proofs.YtgjkfmcjalcefaaGreat.Ev

theorem Ev.IsL.okv {e : TypeId} {sz len : Nat} {l : List AV} {v : AV} {Lv : Ob} (k : IsL e sz len l v Lv) : okCell v = true := by
  rcases k.open_ with ⟨rfl, _⟩ | ⟨i, c, o, rfl, _⟩ <;> rfl
end Go.Proofs.YtgjkfmcjalcefaaGreat

/- The reference's Shown and Excluded; the law TideExcludes over the calculator's memory. -/
namespace Go.Proofs.YtgjkfmcjalcefaaGreat
open Go.Proofs.YtgjkfmcjalcefaaGreat.Ev

theorem Ev.Rds.head {h : Heap} {b off : Nat} {x : AV} {l : List AV} (k : Rds h b off (x :: l)) : Rd h b (off + 0) x := k.1
end Go.Proofs.YtgjkfmcjalcefaaGreat

/- The law TideExcludes over the calculator's memory: the walk. -/
namespace Go.Proofs.YtgjkfmcjalcefaaGreat
open Go.Proofs.YtgjkfmcjalcefaaGreat.Ev

theorem isl_it {h0 h : Heap} {W : List Nat} {V : Ob} {C : List Int} {v : AV} {Lv : Ob} (hw : IsL 3 1 C.length (C.map (AV.int .i64)) v Lv) (k : Vw h0 W V h) (hs : ∀ x ∈ Lv, x ∈ V) : ItV h v C := by
  rcases hw.open_ with ⟨rfl, _, h1, _⟩ | ⟨i, c, o, rfl, rfl, ho, _⟩
  · exact .inl ⟨.inl rfl, List.length_eq_zero_iff.1 h1⟩
  · exact .inr ⟨i, 0, c, rfl, k.ins (hs _ (List.mem_cons_self ..)) ho⟩
theorem store_i {P : Program} {t ty : TypeId} {x y v : AV} {a : Int} (hs : sizeT P t = some 2) (hv : okCell v = true) {off : Nat} (hoff : off = 0) : (AObj.cells [x, y] ty).store P t off (.agg [v, .int .i64 a]) = some (.cells [v, .int .i64 a] ty) := by
  subst hoff
  have h1 : okCell (.int .i64 a) = true := rfl
  simp [AObj.store, hs, AV.cells, h1, hv, AObj.put, overN]
end Go.Proofs.YtgjkfmcjalcefaaGreat
