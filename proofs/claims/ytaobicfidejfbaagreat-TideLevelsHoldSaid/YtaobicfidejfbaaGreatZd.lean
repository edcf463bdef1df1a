/- The law TideLevelsHold over the calculator's memory. -/
import Derived.Test.YtaobicfidejfbaaGreatZc
import Derived.Test.YtaobicfidejfbaaGreatUe
namespace Go.Proofs.YtaobicfidejfbaaGreat
open Go.Proofs.YtaobicfidejfbaaGreat.Ev

theorem Ev.WO.cut0 {P : Program} {B : Base} {Q : Post} {h0 : Heap} {W : List Nat} {N : Nat} {D : List Nat} {K : List Fr} {s : Sl} {L : Ob} {T : Tg} {md : Bool} {ops : Array Oper} {l : List Oper} (S : Sl) (O : Ob) (h2 : WK P B Q h0 W N D K S O) (h1 : ∀ K', WK P B Q h0 W N D K' S O → WO P B Q h0 W N D K' md ops l s L T) : WO P B Q h0 W N D K md ops l s L T := h1 K h2
theorem GaH.id_ {h : Heap} {b off l} (k : GaH h b off l) {z : Int} {n : Nat} (e : z.toNat = n) (hi : n < l.length) : Rd h b (off + z.toNat * 4 + 0) (.int .i64 (nthG l n).id) := (k.at_ e hi).1
theorem GaH.tk_ {h : Heap} {b off l} (k : GaH h b off l) {z : Int} {n : Nat} (e : z.toNat = n) (hi : n < l.length) : Rd h b (off + z.toNat * 4 + 1) (.int .i64 (nthG l n).tk) := (k.at_ e hi).2.1
theorem GaH.lo_ {h : Heap} {b off l} (k : GaH h b off l) {z : Int} {n : Nat} (e : z.toNat = n) (hi : n < l.length) : Rd h b (off + z.toNat * 4 + 2 + 0) (.int .i64 (nthG l n).lo) := (k.at_ e hi).2.2.1
theorem GaH.hi_ {h : Heap} {b off l} (k : GaH h b off l) {z : Int} {n : Nat} (e : z.toNat = n) (hi : n < l.length) : Rd h b (off + z.toNat * 4 + 2 + 1) (.int .i64 (nthG l n).hi) := (k.at_ e hi).2.2.2.1
theorem IsL.lenT {t e : TypeId} {sz n : Nat} {l : List AV} {v : AV} {Lv : Ob} (k : IsL e sz n l v Lv) {q : TypeId} (ht : Tryz.prog.underlying t = some (.slice q)) : ∀ h2, lenA Tryz.prog t h2 v = some (.int .i64 (n : Int)) := by
  intro h2
  unfold lenA
  rw [ht]
  rcases k.open_ with ⟨rfl, _, h1, _⟩ | ⟨i, c, o, rfl, _⟩
  · rw [h1]; rfl
  · rfl
/-! plain: what the law asks -/
theorem susR_snd {lv cs ss l} : (susR lv cs ss l).2 = chkGs lv cs ss l := by
  unfold susR
  by_cases h : chkGs lv cs ss l = 0
  · rw [if_neg (by simp [h])]
    split <;> exact h.symm
  · rw [if_pos h]
/-- does the water's height with a level lie in what the gauge reads? -/
def readB (cs : List Cy) (ss : List Sh) (v : Int) (g : Ga) : Bool := Bool.and (decide (g.lo ≤ v + bareV cs ss g.tk)) (decide (v + bareV cs ss g.tk ≤ g.hi))
theorem readB_iff {cs ss} {v : Int} (h1 : -4000 ≤ v) (h2 : v ≤ 4000) {g : Ga} : readB cs ss v g = true ↔ (lvG cs ss g).1 ≤ v ∧ v ≤ (lvG cs ss g).2 := by
  unfold readB lvG
  simp only [Bool.and_eq_true, decide_eq_true_eq]
  constructor <;> (rintro ⟨a, b⟩; constructor <;> omega)
def readsK (cs : List Cy) (ss : List Sh) (v : Int) (l : List Ga) (k : Nat) : Bool := (l.take k).all (readB cs ss v)
theorem readsK_succ {cs ss} {v : Int} {l : List Ga} {k : Nat} (h : k < l.length) : readsK cs ss v l (k + 1) = Bool.and (readsK cs ss v l k) (readB cs ss v (nthG l k)) := by
  unfold readsK
  rw [List.take_succ_eq_append_getElem h, List.all_append, nthG_eq h]
  simp
theorem reads_com {cs ss} {v : Int} {l : List Ga} (h1 : -4000 ≤ v) (h2 : v ≤ 4000) : readsK cs ss v l l.length = true ↔ (comG cs ss l).1 ≤ v ∧ v ≤ (comG cs ss l).2 := by
  unfold readsK
  rw [List.take_length, com_iff, List.all_eq_true]
  constructor
  · intro h
    exact ⟨⟨h1, h2⟩, fun g hg => (readB_iff h1 h2).1 (h g hg)⟩
  · rintro ⟨_, h⟩ g hg
    exact (readB_iff h1 h2).2 (h g hg)
theorem height_at {lv v : Int} {cs : List Cy} {ss : List Sh} (w : WOk lv cs ss) (h1 : -4000 ≤ v) (h2 : v ≤ 4000) {t : Int} (t0 : 0 ≤ t) (t1 : t ≤ 1048576) : heightR v cs ss t = (v + bareV cs ss t, 0) := by
  have e : chkW v cs ss = 0 := by
    unfold chkW
    rw [if_neg (by simp [inB]; omega), if_neg (by have := w.n1; have := w.n2; omega), if_neg (by simp [w.cs])]
    exact w.ss
  unfold heightR
  rw [if_neg (by simp [e]), if_neg (by simp; omega)]
/-- does a gauge stand in all of the first k pairs? -/
def inK (ps : List (Int × Int)) (id : Int) (k : Nat) : Bool := Bool.and (decide (0 < ps.length)) ((ps.take k).all fun p => Bool.or (p.1 == id) (p.2 == id))
def nthP (l : List (Int × Int)) (i : Nat) : Int × Int := l[i]?.getD (0, 0)
theorem nthP_eq {l : List (Int × Int)} {i : Nat} (h : i < l.length) : nthP l i = l[i] := by simp [nthP, h]
theorem inK_succ {ps : List (Int × Int)} {id : Int} {k : Nat} (h : k < ps.length) : inK ps id (k + 1) = Bool.and (inK ps id k) (Bool.or ((nthP ps k).1 == id) ((nthP ps k).2 == id)) := by
  unfold inK
  rw [List.take_succ_eq_append_getElem h, List.all_append, nthP_eq h]
  simp [Bool.and_assoc]
def suK (us : List Int) (id : Int) (k : Nat) : Bool := (us.take k).any (· == id)
def nthU (l : List Int) (i : Nat) : Int := l[i]?.getD 0
theorem nthU_eq {l : List Int} {i : Nat} (h : i < l.length) : nthU l i = l[i] := by simp [nthU, h]
theorem suK_succ {us : List Int} {id : Int} {k : Nat} (h : k < us.length) : suK us id (k + 1) = Bool.or (suK us id k) (nthU us k == id) := by
  unfold suK
  rw [List.take_succ_eq_append_getElem h, List.any_append, nthU_eq h]
  simp
theorem sus_mem {cs ss} {l : List Ga} {x : Int} : ∀ {k : Nat}, x ∈ susTo cs ss l k ↔ ∃ i, i < k ∧ fitG cs ss (l.eraseIdx i) = true ∧ x = (nthG l i).id
  | 0 => by simp [susTo]
  | k + 1 => by
    rw [susTo, List.mem_append, sus_mem (k := k)]
    constructor
    · rintro (⟨i, h1, h2⟩ | h)
      · exact ⟨i, by omega, h2⟩
      · split at h
        · rename_i hf
          exact ⟨k, by omega, hf, by simpa using h⟩
        · cases h
    · rintro ⟨i, h1, h2, h3⟩
      by_cases e : i = k
      · subst e; right; rw [if_pos h2]; simp [h3]
      · exact .inl ⟨i, by omega, h2, h3⟩
/-- the law's last comparison: who stands in all clashes is suspected -/
theorem in_sus {lv cs ss} {l m : List Ga} (hp : m.Perm l) (h0 : chkGs lv cs ss l = 0) {i : Nat} (hi : i < l.length) : inK (clTo cs ss m m.length) (nthG l i).id (clTo cs ss m m.length).length = suK (susR lv cs ss l).1 (nthG l i).id (susR lv cs ss l).1.length := by
  have hid : (gids l).Nodup := by
    unfold chkGs at h0
    split at h0
    · rename_i q; exact absurd h0 q
    · split at h0
      · cases h0
      · exact (chkG_ids h0).1
  have hfm : fitG cs ss m = fitG cs ss l := by
    have : fitG cs ss m = true ↔ fitG cs ss l = true := by
      rw [fit_iff, fit_iff]
      constructor
      · rintro ⟨a, b⟩
        exact ⟨fun x hx => a x (hp.symm.subset hx), fun x hx y hy => b x (hp.symm.subset hx) y (hp.symm.subset hy)⟩
      · rintro ⟨a, b⟩
        exact ⟨fun x hx => a x (hp.subset hx), fun x hx y hy => b x (hp.subset hx) y (hp.subset hy)⟩
    exact Bool.eq_iff_iff.2 this
  have es : susR lv cs ss l = if fitG cs ss l = true then ([], 0) else (sortX (susTo cs ss l l.length), 0) := if_neg (by simp [h0])
  unfold inK suK
  rw [List.take_length, List.take_length]
  by_cases hf : fitG cs ss l = true
  · rw [es, if_pos hf, cl_empty.2 (hfm.trans hf)]
    simp
  · have hne : clTo cs ss m m.length ≠ [] := fun e => hf (hfm ▸ cl_empty.1 e)
    rw [es, if_neg hf, decide_eq_true (List.length_pos_iff.2 hne), Bool.true_and]
    refine Bool.eq_iff_iff.2 ?_
    rw [List.all_eq_true, List.any_eq_true]
    constructor
    · intro h
      refine ⟨(nthG l i).id, ?_, by simp⟩
      simp only
      rw [sortX_mem, sus_mem]
      refine ⟨i, hi, (suspect_iff hp hid hi).2 fun p hp2 => ?_, rfl⟩
      have := h p hp2
      simpa using this
    · rintro ⟨x, hx, hxe⟩ p hp2
      simp only at hx
      rw [sortX_mem, sus_mem] at hx
      obtain ⟨j, hj, h2, h3⟩ := hx
      have e1 : x = (nthG l i).id := by simpa using hxe
      have e2 : (nthG l i).id = (nthG l j).id := by rw [← e1, h3]
      have := (suspect_iff hp hid hj).1 h2 p hp2
      rw [e2]
      simpa using this
end Go.Proofs.YtaobicfidejfbaaGreat
