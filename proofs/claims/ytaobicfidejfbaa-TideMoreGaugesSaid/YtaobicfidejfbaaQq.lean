/- Plain facts: gauges against a level, those on which the least and the greatest level rest. No walk. -/
import Derived.Test.YtaobicfidejfbaaQp
namespace Go.Proofs.Ytaobicfidejfbaa

def agG (cs : List Cy) (ss : List Sh) (g : Ga) (v : Int) : Bool := decide ((lvG cs ss g).1 ≤ v) && decide (v ≤ (lvG cs ss g).2)
/-- the least ID of those that do not agree -/
def agF (cs : List Cy) (ss : List Sh) (v : Int) (x : Int) (g : Ga) : Int := if agG cs ss g v = true then x else min x g.id
def agsR (cs : List Cy) (ss : List Sh) (l : List Ga) (v : Int) : Int := if inB v 4000 = true then l.foldl (agF cs ss v) 1099511627776 else 0
theorem ags_succ {cs ss} {l : List Ga} {v : Int} {k : Nat} (h : k < l.length) : (l.take (k + 1)).foldl (agF cs ss v) 1099511627776 = agF cs ss v ((l.take k).foldl (agF cs ss v) 1099511627776) (nthG l k) := by
  rw [List.take_succ_eq_append_getElem h, List.foldl_append, nthG_eq h]
  rfl
def restsR (level : Int) (cs : List Cy) (ss : List Sh) (l : List Ga) : Int × Int × Int :=
  if (levelsR level cs ss l).2 ≠ 0 then (0, 0, (levelsR level cs ss l).2) else (agsR cs ss l ((levelsR level cs ss l).1.1 - 1), agsR cs ss l ((levelsR level cs ss l).1.2 + 1), 0)
theorem agF_fold {cs ss} {v : Int} : ∀ (l : List Ga) (x : Int), (l.foldl (agF cs ss v) x = x ∧ ∀ g ∈ l, agG cs ss g v = false → x ≤ g.id) ∨ ∃ g ∈ l, agG cs ss g v = false ∧ l.foldl (agF cs ss v) x = g.id
  | [], x => .inl ⟨rfl, fun _ h => by cases h⟩
  | g :: r, x => by
    rw [List.foldl_cons]
    by_cases ha : agG cs ss g v = true
    · have e : agF cs ss v x g = x := if_pos ha
      rw [e]
      rcases agF_fold r x with ⟨h1, h2⟩ | ⟨d, h1, h2, h3⟩
      · refine .inl ⟨h1, fun d hd hn => ?_⟩
        rcases List.mem_cons.1 hd with rfl | hd
        · rw [ha] at hn; cases hn
        · exact h2 d hd hn
      · exact .inr ⟨d, List.mem_cons_of_mem _ h1, h2, h3⟩
    · have e : agF cs ss v x g = min x g.id := if_neg ha
      rw [e]
      rcases agF_fold r (min x g.id) with ⟨h1, h2⟩ | ⟨d, h1, h2, h3⟩
      · by_cases hx : x ≤ g.id
        · refine .inl ⟨by rw [h1]; omega, fun d hd hn => ?_⟩
          rcases List.mem_cons.1 hd with rfl | hd
          · exact hx
          · have := h2 d hd hn
            omega
        · exact .inr ⟨g, List.mem_cons_self .., by simpa using ha, by rw [h1]; omega⟩
      · exact .inr ⟨d, List.mem_cons_of_mem _ h1, h2, h3⟩
/-- where one does not agree, the least ID is that of one that does not -/
theorem agsR_mem {cs ss} {l : List Ga} {v : Int} (hv : inB v 4000 = true) (hg : ∀ g ∈ l, GaOk g) (hn : ∃ g ∈ l, agG cs ss g v = false) : ∃ g ∈ l, agG cs ss g v = false ∧ agsR cs ss l v = g.id := by
  unfold agsR
  rw [if_pos hv]
  rcases agF_fold (cs := cs) (ss := ss) (v := v) l 1099511627776 with ⟨h1, h2⟩ | h
  · obtain ⟨g, hm, hna⟩ := hn
    have := h2 g hm hna
    have := (hg g hm).id2
    exact ⟨g, hm, hna, by rw [h1]; omega⟩
  · exact h
/-- the levels of a part of gauges -/
theorem com_sub {cs ss} {l m : List Ga} (hs : ∀ g ∈ m, g ∈ l) (h : (comG cs ss l).1 ≤ (comG cs ss l).2) : (comG cs ss m).1 ≤ (comG cs ss l).1 ∧ (comG cs ss l).2 ≤ (comG cs ss m).2 := by
  have h1 := (com_iff cs ss l (comG cs ss l).1).1 ⟨by omega, h⟩
  have h2 := (com_iff cs ss l (comG cs ss l).2).1 ⟨h, by omega⟩
  have h3 := (com_iff cs ss m (comG cs ss l).1).2 ⟨h1.1, fun g hg => h1.2 g (hs g hg)⟩
  have h4 := (com_iff cs ss m (comG cs ss l).2).2 ⟨h2.1, fun g hg => h2.2 g (hs g hg)⟩
  omega
theorem levels_ok {lv cs ss l} (h : (levelsR lv cs ss l).2 = 0) : chkGs lv cs ss l = 0 ∧ (levelsR lv cs ss l).1 = comG cs ss l ∧ (comG cs ss l).1 ≤ (comG cs ss l).2 := by
  unfold levelsR at h ⊢
  by_cases h0 : chkGs lv cs ss l = 0
  · rw [if_neg (by simp [h0])] at h ⊢
    by_cases h1 : (comG cs ss l).1 ≤ (comG cs ss l).2
    · rw [if_pos h1]
      exact ⟨h0, rfl, h1⟩
    · rw [if_neg h1] at h
      cases h
  · rw [if_pos h0] at h
    exact absurd h h0
theorem chkGs_sub {lv cs ss} {l m : List Ga} (hs : m.Sublist l) (h : chkGs lv cs ss l = 0) : chkGs lv cs ss m = 0 := by
  unfold chkGs at h ⊢
  by_cases hw : chkW lv cs ss = 0
  · rw [if_neg (by simp [hw])] at h ⊢
    by_cases h40 : 40 < l.length
    · rw [if_pos h40] at h; cases h
    · rw [if_neg h40] at h
      have := hs.length_le
      rw [if_neg (by omega)]
      exact chkG_sub hs h
  · rw [if_pos hw] at h
    exact absurd h hw
/-- without some gauges there are no fewer levels -/
theorem levels_sub {lv cs ss} {l m : List Ga} (hs : m.Sublist l) (h : (levelsR lv cs ss l).2 = 0) : (levelsR lv cs ss m).2 = 0 ∧ (levelsR lv cs ss m).1.1 ≤ (levelsR lv cs ss l).1.1 ∧ (levelsR lv cs ss l).1.2 ≤ (levelsR lv cs ss m).1.2 ∧ (levelsR lv cs ss m).1 = comG cs ss m := by
  obtain ⟨h0, h1, h2⟩ := levels_ok h
  have h3 := com_sub (cs := cs) (ss := ss) (l := l) (m := m) (fun g hg => hs.subset hg) h2
  have e : levelsR lv cs ss m = (comG cs ss m, 0) := by
    unfold levelsR
    rw [if_neg (by simp [chkGs_sub hs h0]), if_pos (by omega)]
  rw [e, h1]
  exact ⟨rfl, h3.1, h3.2, rfl⟩
/-- the gauges on which the least and the greatest level rest have the same levels -/
theorem levels_rest {lv cs ss} {l m : List Ga} (hs : m.Sublist l) (h : (levelsR lv cs ss l).2 = 0) (hm : ∀ g ∈ l, g.id = (restsR lv cs ss l).1 ∨ g.id = (restsR lv cs ss l).2.1 → g ∈ m) : levelsR lv cs ss m = levelsR lv cs ss l := by
  obtain ⟨h0, h1, h2⟩ := levels_ok h
  obtain ⟨e0, e1, e2, e3⟩ := levels_sub (lv := lv) hs h
  have hga : ∀ g ∈ l, GaOk g := by
    unfold chkGs at h0
    split at h0
    · rename_i q; exact absurd h0 q
    · split at h0
      · cases h0
      · exact chkG_all h0
  unfold restsR at hm
  rw [if_neg (by simp [h])] at hm
  rw [h1] at hm e1 e2
  rw [e3] at e1 e2
  simp only at hm
  have b1 := (com_iff cs ss l (comG cs ss l).1).1 ⟨by omega, h2⟩
  have b2 := (com_iff cs ss l (comG cs ss l).2).1 ⟨h2, by omega⟩
  have n1 := (com_iff cs ss m (comG cs ss m).1).1 ⟨by omega, by omega⟩
  have n2 := (com_iff cs ss m (comG cs ss m).2).1 ⟨by omega, by omega⟩
  have k1 : (comG cs ss m).1 = (comG cs ss l).1 := by
    by_cases hb : (comG cs ss l).1 = -4000
    · omega
    have hin : inB ((comG cs ss l).1 - 1) 4000 = true := inB_iff.2 ⟨by omega, by omega⟩
    have hnot : ¬ ((-4000 ≤ (comG cs ss l).1 - 1 ∧ (comG cs ss l).1 - 1 ≤ 4000) ∧ ∀ g ∈ l, (lvG cs ss g).1 ≤ (comG cs ss l).1 - 1 ∧ (comG cs ss l).1 - 1 ≤ (lvG cs ss g).2) := fun q => by
      have := (com_iff cs ss l ((comG cs ss l).1 - 1)).2 q
      omega
    have hex : ∃ g ∈ l, agG cs ss g ((comG cs ss l).1 - 1) = false := by
      refine Classical.byContradiction fun hno => hnot ⟨inB_iff.1 hin, fun g hg => ?_⟩
      have : agG cs ss g ((comG cs ss l).1 - 1) = true := by
        cases hq : agG cs ss g ((comG cs ss l).1 - 1) with
        | true => rfl
        | false => exact absurd ⟨g, hg, hq⟩ hno
      simpa [agG] using this
    obtain ⟨g, hg, hna, hid⟩ := agsR_mem hin hga hex
    have hgm := hm g hg (.inl hid.symm)
    have q1 := n1.2 g hgm
    have q2 := b1.2 g hg
    have q3 : ¬ ((lvG cs ss g).1 ≤ (comG cs ss l).1 - 1 ∧ (comG cs ss l).1 - 1 ≤ (lvG cs ss g).2) := fun q => by
      unfold agG at hna
      rw [decide_eq_true q.1, decide_eq_true q.2] at hna
      cases hna
    omega
  have k2 : (comG cs ss m).2 = (comG cs ss l).2 := by
    by_cases hb : (comG cs ss l).2 = 4000
    · omega
    have hin : inB ((comG cs ss l).2 + 1) 4000 = true := inB_iff.2 ⟨by omega, by omega⟩
    have hnot : ¬ ((-4000 ≤ (comG cs ss l).2 + 1 ∧ (comG cs ss l).2 + 1 ≤ 4000) ∧ ∀ g ∈ l, (lvG cs ss g).1 ≤ (comG cs ss l).2 + 1 ∧ (comG cs ss l).2 + 1 ≤ (lvG cs ss g).2) := fun q => by
      have := (com_iff cs ss l ((comG cs ss l).2 + 1)).2 q
      omega
    have hex : ∃ g ∈ l, agG cs ss g ((comG cs ss l).2 + 1) = false := by
      refine Classical.byContradiction fun hno => hnot ⟨inB_iff.1 hin, fun g hg => ?_⟩
      have : agG cs ss g ((comG cs ss l).2 + 1) = true := by
        cases hq : agG cs ss g ((comG cs ss l).2 + 1) with
        | true => rfl
        | false => exact absurd ⟨g, hg, hq⟩ hno
      simpa [agG] using this
    obtain ⟨g, hg, hna, hid⟩ := agsR_mem hin hga hex
    have hgm := hm g hg (.inr hid.symm)
    have q1 := n2.2 g hgm
    have q2 := b2.2 g hg
    have q3 : ¬ ((lvG cs ss g).1 ≤ (comG cs ss l).2 + 1 ∧ (comG cs ss l).2 + 1 ≤ (lvG cs ss g).2) := fun q => by
      unfold agG at hna
      rw [decide_eq_true q.1, decide_eq_true q.2] at hna
      cases hna
    omega
  have e4 : levelsR lv cs ss m = ((levelsR lv cs ss m).1, (levelsR lv cs ss m).2) := rfl
  have e5 : levelsR lv cs ss l = ((levelsR lv cs ss l).1, (levelsR lv cs ss l).2) := rfl
  rw [e4, e5, e0, h, e3, h1, Prod.ext k1 k2]
end Go.Proofs.Ytaobicfidejfbaa
