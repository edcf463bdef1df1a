/- Layer 9: Alike of both. -/
import Derived.Test.YtilpinmbngikgaaLb
namespace Go.Proofs.Ytilpinmbngikgaa
open Go.Proofs.Ytilpinmbngikgaa.Ev

def leC (x : Le) : List AV := [.int .i64 x.id, .int .i64 x.cs, .int .i64 x.kd, .int .i64 x.rd, .int .i64 x.fr, .int .i64 x.to, .int .i64 x.vo, .int .i64 x.fi]
theorem eqFs_of {cs ys : List AV} {d : Nat} : ∀ {fs : List Field} {i : Nat} {b : Bool}, intFields Try.prog fs i = true → i + fs.length = cs.length → sameI (cs.drop i) (ys.drop i) = some b → eqFs Try.prog (eqT Try.prog (d + 1)) fs cs ys = some b
  | [], i, b, _, hl, h => by
    rw [List.drop_eq_nil_of_le (by simp at hl; omega)] at h
    cases hy : ys.drop i with
    | nil => rw [hy] at h; simp [sameI] at h; subst h; rfl
    | cons y r => rw [hy] at h; simp [sameI] at h
  | f :: fs, i, b, hf, hl, h => by
    obtain ⟨g1, g2, ⟨j, g3⟩, g4⟩ := intFields_at hf 0 f rfl
    rw [Nat.add_zero] at g2
    have hf' : intFields Try.prog fs (i + 1) = true := by
      unfold intFields at hf
      simp only [Bool.and_eq_true] at hf
      exact hf.2.2.2
    have hi : i < cs.length := by simp at hl; omega
    rw [List.drop_eq_getElem_cons hi] at h
    cases hy : ys.drop i with
    | nil => rw [hy] at h; cases hx : cs[i] <;> rw [hx] at h <;> simp [sameI] at h
    | cons y r =>
      rw [hy] at h
      have hyl : i < ys.length := by
        have := congrArg List.length hy
        simp at this
        omega
      rw [List.drop_eq_getElem_cons hyl] at hy
      obtain ⟨hy1, hy2⟩ := List.cons.inj hy
      subst hy2
      cases hx : cs[i] with
      | int k a =>
        rw [hx] at h
        cases y with
        | int k2 c =>
          simp only [sameI] at h
          split at h
          · rename_i hkk
            subst hkk
            split at h
            · rename_i r0 h0
              cases h
              have ih := eqFs_of (d := d) hf' (by simp at hl; omega) h0
              have p1 : partE Try.prog f.type cs i = some (.int k a) := partE_int g3 (by rw [List.getElem?_eq_getElem hi, hx])
              have p2 : partE Try.prog f.type ys i = some (.int k c) := partE_int g3 (by rw [List.getElem?_eq_getElem hyl, hy1])
              have p3 : eqT Try.prog (d + 1) f.type (.int k a) (.int k c) = some (a == c) := by unfold eqT; rw [g3]; simp
              unfold eqFs
              rw [if_neg g1, g2, p1, p2]
              simp only [p3]
              cases hac : (a == c)
              · rfl
              · rw [ih, Bool.true_and]
            · cases h
          · cases h
        | _ => simp [sameI] at h
      | _ => rw [hx] at h; cases y <;> simp [sameI] at h
/-- two letters are equal -/
def sameB (a b : Le) : Bool := a.id == b.id && (a.cs == b.cs && (a.kd == b.kd && (a.rd == b.rd && (a.fr == b.fr && (a.to == b.to && (a.vo == b.vo && a.fi == b.fi))))))
theorem le_eq (a b : Le) : evBin Try.prog .eql 38 (.agg (leC a)) (.agg (leC b)) = some (.bool (sameB a b)) := by
  have hs : sameI (leC a) (leC b) = some (sameB a b) := by simp [leC, sameI, sameB]
  obtain ⟨fs, h1⟩ : ∃ fs, Try.prog.underlying 38 = some (.struct fs) := ⟨_, Try.underlying38⟩
  have h2 : Try.prog.stoodInHeld 38 = false := by decide +kernel
  have h3 : (match Try.prog.underlying 38 with | some (.struct fs) => intFields Try.prog fs.toList 0 && Nat.beq fs.size 8 | _ => false) = true := by decide +kernel
  rw [h1] at h3
  simp only [Bool.and_eq_true] at h3
  have h4 := Nat.eq_of_beq_eq_true h3.2
  have hg : guardOk Try.prog 38 (.agg (leC a)) = true := by show (!(Try.prog.eqGuardType Try.prog.depth 38)) = true; decide +kernel
  have he : eqT Try.prog 40 38 (.agg (leC a)) (.agg (leC b)) = some (sameB a b) := by
    unfold eqT
    rw [h1]
    simp only [h2, Bool.false_eq_true, if_false]
    exact eqFs_of h3.1 (by simp [leC, h4]) hs
  show evEq Try.prog .eql 38 (.agg (leC a)) (.agg (leC b)) = _
  unfold evEq
  rw [if_pos hg, he]
  rfl
set_option maxRecDepth 100000 in
set_option maxHeartbeats 4000000 in
theorem alike_con (h : Heap) (g : Gd h) (a b : Le) : Con Try.prog Bs 51 [.agg (leC a), .agg (leC b)] h [] (.bool (alikeB a b)) [] := by
  refine Con.start rfl Try.func51 rfl rfl Try.ntmps51 rfl rfl g ?_
  (refine WK.seq ?_; refine WK.region ?_; refine St.box fun _ _ => ?_; refine St.box fun _ _ => ?_; refine St.assign ?_; refine WO.nil ?_; refine WK.seq ?_)
  rename_i x2 hx2 x3 hx3
  refine WK.regionE (n := 2) [(x3, .cells (leC b) 38), (x2, .cells (leC a) 38)] (by exact List.Sublist.refl _) ?_
  refine WE.fieldAddr ?_
  refine WE.load 1 ?_
  refine WE.fieldAddr ?_
  refine WE.load 1 ?_
  refine WE.fieldAddr ?_
  refine WE.store (A := []) 0 rfl ?_
  refine WE.fieldAddr ?_
  refine WE.store (A := []) 0 rfl ?_
  refine WE.nil ?_
  (refine WK.seq ?_; refine WK.region ?_; refine St.load ?_; refine St.load ?_)
  refine St.binX (le_eq a { b with id := a.id, to := a.to }) rfl rfl ?_
  (refine St.assign ?_; refine WO.nil ?_)
  refine St.ret (by first | exact .tmp .nil | exact .cell .nil | exact .cell (.tmp .nil) | exact .tmp (.tmp .nil) | exact .cell (.cell .nil) | exact .tmp (.cell .nil) | exact .nil | exact .tmp (.cell (.tmp .nil)) | exact .cell (.tmp (.tmp .nil)) | exact .cell (.cell (.tmp .nil)) | exact .tmp (.tmp (.tmp .nil)) | exact .cell (.cell (.cell .nil))) ?_
  simp [oneOf, sameB, alikeB]
  rw [Bool.eq_iff_iff]
  simp
end Go.Proofs.Ytilpinmbngikgaa
