/- Layer 8: the program's Sorted. -/
import Derived.Test.YtkebbdpfjhhdhaaGreatDq
/- Layer 8, plain: a list in order without twins is one. -/
namespace Go.Proofs.YtkebbdpfjhhdhaaGreat
open Go.Proofs.YtkebbdpfjhhdhaaGreat.Ev

def LtJ (x y : Im) : Prop := x.kn < y.kn ∨ (x.kn = y.kn ∧ x.id < y.id)
theorem strict_uniq {l m : List Im} (hl : l.Pairwise LtJ) (hm : m.Pairwise LtJ) (hmem : ∀ x, x ∈ l ↔ x ∈ m) : l = m := by
  have hne : ∀ {a b : Im}, LtJ a b → a ≠ b := fun {a b} h e => by subst e; unfold LtJ at h; omega
  have n1 : l.Nodup := hl.imp hne
  have n2 : m.Nodup := hm.imp hne
  refine List.Perm.eq_of_pairwise (le := LtJ) (fun a b _ _ h1 h2 => ?_) hl hm ((List.perm_ext_iff_of_nodup n1 n2).2 hmem)
  unfold LtJ at h1 h2
  omega
theorem cmpTo_ok {ps : List Im} (h1 : OneJ ps) (hs : ps.Pairwise fun x y => leJ x y = true) : ∀ k, k ≤ ps.length → (cmpTo ps k).Pairwise LtJ ∧ ∀ x, x ∈ cmpTo ps k ↔ x ∈ ps.take k
  | 0, _ => by simp [cmpTo]
  | k + 1, hk => by
    obtain ⟨i1, i2⟩ := cmpTo_ok h1 hs k (by omega)
    have hkl : k < ps.length := hk
    have hle : ∀ i j (hi : i < ps.length) (hj : j < ps.length), i < j → leJ (nthE ps i) (nthE ps j) = true := fun i j hi hj hij => by
      rw [nthE_eq hi, nthE_eq hj]
      exact List.pairwise_iff_getElem.1 hs i j hi hj hij
    by_cases hd : k ≠ 0 ∧ nthE ps k = nthE ps (k - 1)
    · rw [cmpTo_dup hd, take_succE hkl]
      refine ⟨i1, fun x => ?_⟩
      rw [i2, List.mem_append, List.mem_singleton]
      refine ⟨.inl, fun h => h.elim id fun h => ?_⟩
      rw [h, hd.2, ← nthE_take (k := k) (by omega)]
      exact nthE_mem (by rw [List.length_take]; omega)
    · rw [cmpTo_new hd, take_succE hkl]
      refine ⟨List.pairwise_append.2 ⟨i1, List.pairwise_singleton _ _, fun x hx y hy => ?_⟩, fun x => ?_⟩
      · rw [List.mem_singleton] at hy
        subst hy
        have hxt := (i2 x).1 hx
        obtain ⟨i, hi, e⟩ := List.mem_iff_getElem.1 hxt
        have hik : i < k := by rw [List.length_take] at hi; omega
        have hil : i < ps.length := by omega
        have hxi : x = nthE ps i := by rw [← e, nthE_eq hil]; simp
        have h2 := hle i k hil hkl hik
        rw [← hxi] at h2
        rw [leJ_iff] at h2
        unfold LtJ
        rcases h2 with h2 | ⟨h2, h3⟩
        · exact .inl h2
        · by_cases h4 : x.id < (nthE ps k).id
          · exact .inr ⟨h2, h4⟩
          · exfalso
            have h5 : leJ x (nthE ps (k - 1)) = true := by
              by_cases e2 : i = k - 1
              · rw [hxi, e2, leJ_iff]; omega
              · rw [hxi]; exact hle i (k - 1) hil (by omega) (by omega)
            have h6 := hle (k - 1) k (by omega) hkl (by omega)
            rw [leJ_iff] at h5 h6
            exact hd ⟨by omega, h1 _ (nthE_mem hkl) _ (nthE_mem (by omega)) (by omega) (by omega)⟩
      · rw [List.mem_append, List.mem_append, i2]
theorem comp_ok {ps : List Im} (h1 : OneJ ps) : (compP (srtJ ps)).Pairwise LtJ ∧ ∀ x, x ∈ compP (srtJ ps) ↔ x ∈ ps := by
  have hp := srtJ_perm ps
  obtain ⟨a, b⟩ := cmpTo_ok (ps := srtJ ps) (fun x hx y hy => h1 x (hp.subset hx) y (hp.subset hy)) (srtJ_pw ps) (srtJ ps).length (Nat.le_refl _)
  refine ⟨a, fun x => ?_⟩
  unfold compP
  rw [b, List.take_length, hp.mem_iff]
/-- an item's place among others: how many came in ahead of it -/
def atJ (x : Im) : List Im → Nat
  | [] => 0
  | y :: l => if y.kn < x.kn ∨ (y.kn = x.kn ∧ y.id < x.id) then atJ x l + 1 else 0
/-- an item put into a list in order -/
def putJ (x : Im) : List Im → List Im
  | [] => [x]
  | y :: l => if y.kn < x.kn ∨ (y.kn = x.kn ∧ y.id < x.id) then y :: putJ x l else if y = x then y :: l else x :: y :: l
def insJ : List Im → List Im → List Im
  | out, [] => out
  | out, x :: l => insJ (putJ x out) l
/-- a list without an error has one item of each number -/
theorem one_of_chk {l : List Im} (h : chkI l = 0) : OneJ l := by
  unfold chkI at h
  split at h
  · simp at h
  obtain ⟨_, h2⟩ := errI_ok h
  have key : ∀ i j (hi : i < l.length) (hj : j < l.length), i < j → l[i].id = l[j].id → l[i] = l[j] := fun i j hi hj hij e => by
    have := h2 j hj
    rw [List.nil_append, List.any_eq_false] at this
    have h3 := this l[i] (List.mem_iff_getElem.2 ⟨i, by rw [List.length_take]; omega, by simp⟩)
    simpa [twI, e] using h3
  intro x hx y hy _ e
  obtain ⟨i, hi, rfl⟩ := List.mem_iff_getElem.1 hx
  obtain ⟨j, hj, rfl⟩ := List.mem_iff_getElem.1 hy
  rcases Nat.lt_trichotomy i j with h | h | h
  · exact key i j hi hj h e
  · subst h; rfl
  · exact (key j i hj hi h e.symm).symm
end Go.Proofs.YtkebbdpfjhhdhaaGreat

/- Layer 8: the program's Sorted. -/
namespace Go.Proofs.YtkebbdpfjhhdhaaGreat
open Go.Proofs.YtkebbdpfjhhdhaaGreat.Ev

theorem CutV.vw {h0 h : Heap} {V : Ob} {v : AV} {l : List Im} (k : CutV h0 v l) (hh : Vw h0 [] V h) : CutV h v l := fun q hq => by
  obtain ⟨u, h1, h2⟩ := k q hq
  exact ⟨u, h1.vw hh, fun h3 V3 hh3 => h2 h3 _ (Ev.Vw.trans' hh hh3 (by simp))⟩
/-- what Sorted returns: nothing and an error, or the items in order -/
def SrtR (l : List Im) (u : AV) (L : Ob) : Prop := (chkI l ≠ 0 ∧ u = .slice0 ∧ L = []) ∨ (chkI l = 0 ∧ ClnR l u L)
set_option maxRecDepth 100000 in
set_option maxHeartbeats 4000000 in
theorem psorted_con (h : Heap) (g : Gd h) (v : AV) (l : List Im) (hv : ImZ h v l) (hs : CutV h v l) :
    ∃ w L, Con Tryz.prog Bs 19 [v] h [] w L ∧ ∃ u, w = .tup [u, .int .i64 (chkI l)] ∧ SrtR l u L := by
  refine Con.startR rfl Tryz.func19 rfl rfl Tryz.ntmps19 rfl rfl (SS.init g) ?_
  (refine WK.seq ?_; refine WK.region ?_; refine St.assign ?_; refine St.assign ?_; refine WO.nil ?_; refine WK.seq ?_; refine WK.seq ?_; refine WK.region ?_; refine St.move ?_)
  refine St.call (fun _ => rfl) (fun h2 hh => check_con h2 hh.gd v l (hv.eV.vw hh) (hs.vw hh)) ?_
  (refine St.assign ?_; refine WO.nil ?_; refine WK.seq ?_; refine WK.region ?_; refine St.move ?_; refine St.bin ?_; refine WO.nil ?_)
  refine St.splitC (fun q => ?_) (fun q => ?_)
  · have e : ¬ chkI l = 0 := by simpa using q
    (refine WK.seq ?_; refine WK.region ?_; refine St.move ?_; refine St.assign ?_; refine St.assign ?_; refine WO.nil ?_)
    refine St.ret (by first | exact .tmp .nil | exact .cell .nil | exact .cell (.tmp .nil) | exact .tmp (.tmp .nil) | exact .cell (.cell .nil) | exact .tmp (.cell .nil) | exact .nil | exact .tmp (.cell (.tmp .nil)) | exact .cell (.tmp (.tmp .nil)) | exact .cell (.cell (.tmp .nil)) | exact .tmp (.tmp (.tmp .nil)) | exact .tmp (.tmp (.tmp (.tmp .nil))) | exact .cell (.cell (.cell .nil))) ?_
    exact ⟨_, rfl, .inl ⟨e, rfl, rfl⟩⟩
  · have e : chkI l = 0 := by simpa using q
    have hl : l.length ≤ 60 := by
      have := e
      unfold chkI at this
      split at this
      · simp at this
      · omega
    (refine WK.skip ?_; refine WK.seq ?_; refine WK.region ?_; refine St.move ?_)
    refine St.callR (fun _ => rfl) (fun h2 hh => sorted_con h2 hh.gd v l (hv.vw hh) (by omega) (one_of_chk e)) ?_
    rintro u L1 hu
    (refine St.assign ?_; refine St.assign ?_; refine WO.nil ?_)
    refine St.ret (by first | exact .tmp .nil | exact .cell .nil | exact .cell (.tmp .nil) | exact .tmp (.tmp .nil) | exact .cell (.cell .nil) | exact .tmp (.cell .nil) | exact .nil | exact .tmp (.cell (.tmp .nil)) | exact .cell (.tmp (.tmp .nil)) | exact .cell (.cell (.tmp .nil)) | exact .tmp (.tmp (.tmp .nil)) | exact .tmp (.tmp (.tmp (.tmp .nil))) | exact .cell (.cell (.cell .nil))) ?_
    exact ⟨u, by rw [e]; rfl, .inr ⟨e, by rw [List.append_nil]; exact hu⟩⟩
end Go.Proofs.YtkebbdpfjhhdhaaGreat
