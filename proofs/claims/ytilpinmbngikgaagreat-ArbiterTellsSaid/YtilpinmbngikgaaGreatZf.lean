/- Layer 9: the law ArbiterTells. -/
import Derived.Test.YtilpinmbngikgaaGreatVc
import Derived.Test.YtilpinmbngikgaaGreatEvX
import Derived.Test.YtilpinmbngikgaaGreatMd
/- Layer 9: the reference's votesFor, CheckRuling. -/
namespace Go.Proofs.YtilpinmbngikgaaGreat
open Go.Proofs.YtilpinmbngikgaaGreat.Ev

set_option maxRecDepth 100000 in
set_option maxHeartbeats 4000000 in
theorem rfor_con (h : Heap) (g : Gd h) (y : Le) (r : Rl3) : Con Tryz.prog Bs 37 [.agg (leC y), .agg (rlC r)] h [] (.bool (forB r y)) [] := by
  have hf : forB r y = (decide (y.kd = 4) && (decide (y.cs = r.1) && (decide (y.rd = r.2.1) && decide (y.fi = r.2.2)))) := by
    obtain ⟨a, b, c⟩ := r
    unfold forB rlOf
    congr 1
    rw [Bool.eq_iff_iff]
    simp
  rw [hf]
  refine Con.start rfl Tryz.func37 rfl rfl Tryz.ntmps37 rfl rfl g ?_
  (refine WK.seq ?_; refine WK.region ?_; refine St.box fun _ _ => ?_; refine St.box fun _ _ => ?_; refine St.assign ?_; refine WO.nil ?_; refine WK.seq ?_; refine WK.region ?_; refine St.fieldAddr ?_; refine St.load ?_; refine St.bin ?_; refine St.move ?_)
  refine St.split (fun q => ?_) (fun q => ?_)
  rotate_left
  · have e1 : ¬ y.kd = 4 := by simpa using q
    (refine St.skip ?_; refine St.skip ?_; refine St.skip ?_; refine St.skip ?_; refine St.skip ?_; refine St.pickF ?_; refine St.move ?_; refine St.skip ?_; refine St.skip ?_; refine St.skip ?_; refine St.skip ?_; refine St.skip ?_; refine St.pickF ?_; refine St.move ?_; refine St.skip ?_; refine St.skip ?_; refine St.skip ?_; refine St.skip ?_; refine St.skip ?_; refine St.pickF ?_; refine St.assign ?_; refine WO.nil ?_)
    refine St.ret (by first | exact .tmp .nil | exact .cell .nil | exact .cell (.tmp .nil) | exact .tmp (.tmp .nil) | exact .cell (.cell .nil) | exact .tmp (.cell .nil) | exact .nil | exact .tmp (.cell (.tmp .nil)) | exact .cell (.tmp (.tmp .nil)) | exact .cell (.cell (.tmp .nil)) | exact .tmp (.tmp (.tmp .nil)) | exact .tmp (.tmp (.tmp (.tmp .nil))) | exact .cell (.cell (.cell .nil))) ?_
    simp [oneOf, e1]
  have e1 : y.kd = 4 := by simpa using q
  (refine St.fieldAddr ?_; refine St.load ?_; refine St.fieldAddr ?_; refine St.load ?_; refine St.bin ?_; refine St.pickT ?_; refine St.move ?_)
  refine St.split (fun q => ?_) (fun q => ?_)
  rotate_left
  · have e2 : ¬ y.cs = r.1 := by simpa using q
    (refine St.skip ?_; refine St.skip ?_; refine St.skip ?_; refine St.skip ?_; refine St.skip ?_; refine St.pickF ?_; refine St.move ?_; refine St.skip ?_; refine St.skip ?_; refine St.skip ?_; refine St.skip ?_; refine St.skip ?_; refine St.pickF ?_; refine St.assign ?_; refine WO.nil ?_)
    refine St.ret (by first | exact .tmp .nil | exact .cell .nil | exact .cell (.tmp .nil) | exact .tmp (.tmp .nil) | exact .cell (.cell .nil) | exact .tmp (.cell .nil) | exact .nil | exact .tmp (.cell (.tmp .nil)) | exact .cell (.tmp (.tmp .nil)) | exact .cell (.cell (.tmp .nil)) | exact .tmp (.tmp (.tmp .nil)) | exact .tmp (.tmp (.tmp (.tmp .nil))) | exact .cell (.cell (.cell .nil))) ?_
    simp [oneOf, e2]
  have e2 : y.cs = r.1 := by simpa using q
  (refine St.fieldAddr ?_; refine St.load ?_; refine St.fieldAddr ?_; refine St.load ?_; refine St.bin ?_; refine St.pickT ?_; refine St.move ?_)
  refine St.split (fun q => ?_) (fun q => ?_)
  rotate_left
  · have e3 : ¬ y.rd = r.2.1 := by simpa using q
    (refine St.skip ?_; refine St.skip ?_; refine St.skip ?_; refine St.skip ?_; refine St.skip ?_; refine St.pickF ?_; refine St.assign ?_; refine WO.nil ?_)
    refine St.ret (by first | exact .tmp .nil | exact .cell .nil | exact .cell (.tmp .nil) | exact .tmp (.tmp .nil) | exact .cell (.cell .nil) | exact .tmp (.cell .nil) | exact .nil | exact .tmp (.cell (.tmp .nil)) | exact .cell (.tmp (.tmp .nil)) | exact .cell (.cell (.tmp .nil)) | exact .tmp (.tmp (.tmp .nil)) | exact .tmp (.tmp (.tmp (.tmp .nil))) | exact .cell (.cell (.cell .nil))) ?_
    simp [oneOf, e3]
  have e3 : y.rd = r.2.1 := by simpa using q
  (refine St.fieldAddr ?_; refine St.load ?_; refine St.fieldAddr ?_; refine St.load ?_; refine St.bin ?_; refine St.pickT ?_; refine St.assign ?_; refine WO.nil ?_)
  refine St.ret (by first | exact .tmp .nil | exact .cell .nil | exact .cell (.tmp .nil) | exact .tmp (.tmp .nil) | exact .cell (.cell .nil) | exact .tmp (.cell .nil) | exact .nil | exact .tmp (.cell (.tmp .nil)) | exact .cell (.tmp (.tmp .nil)) | exact .cell (.cell (.tmp .nil)) | exact .tmp (.tmp (.tmp .nil)) | exact .tmp (.tmp (.tmp (.tmp .nil))) | exact .cell (.cell (.cell .nil))) ?_
  simp [oneOf, e1, e2, e3]
  rw [Bool.eq_iff_iff]
  simp
end Go.Proofs.YtilpinmbngikgaaGreat

/- Layer 9, plain: a proof shows the first ruling of its case; votes of a list show one of its rulings. -/
namespace Go.Proofs.YtilpinmbngikgaaGreat
open Go.Proofs.YtilpinmbngikgaaGreat.Ev

theorem fst_first {rs : List Rl3} {id : Int} {i : Nat} (hi : i < rs.length) (h : (nthE rs i).1 = id) (hn : (rs.take i).any (fun r => decide (r.1 = id)) = false) : fstR rs id = nthE rs i := by
  have e : rs = rs.take i ++ nthE rs i :: rs.drop (i + 1) := by
    rw [← drop_consE hi, List.take_append_drop]
  unfold fstR
  rw [e, List.find?_append]
  have : (rs.take i).find? (fun r => decide (r.1 = id)) = none := List.find?_eq_none.2 fun x hx => by
    have := List.any_eq_false.1 hn x hx
    simpa using this
  rw [this]
  rw [← e]
  simp [h]
theorem take_any {rs : List Rl3} {t : Rl3 → Bool} {k : Nat} (h : k < rs.length) : (rs.take (k + 1)).any t = ((rs.take k).any t || t (nthE rs k)) := by
  rw [take_succE h, List.any_append]
  simp
end Go.Proofs.YtilpinmbngikgaaGreat

/- Layer 9, plain: the reference's rulings, in order, are the program's. -/
namespace Go.Proofs.YtilpinmbngikgaaGreat
open Go.Proofs.YtilpinmbngikgaaGreat.Ev

/-- how many of the first k arbiters vote for a ruling -/
def votN (l : List Le) (r : Rl3) (k : Nat) : Nat := ((List.range k).filter fun (a : Nat) => l.any fun y => forB r y && decide (y.fr = (a : Int))).length
theorem votN_succ (l : List Le) (r : Rl3) (k : Nat) : votN l r (k + 1) = votN l r k + (if (l.any fun y => forB r y && decide (y.fr = (k : Int))) = true then 1 else 0) := by
  unfold votN
  rw [List.range_succ, List.filter_append, List.length_append]
  congr 1
  by_cases h : (l.any fun y => forB r y && decide (y.fr = (k : Int))) = true
  · simp [h]
  · simp [h]
def befB (a b : Rl3) : Bool := if a.1 ≠ b.1 then decide (a.1 < b.1) else if a.2.1 ≠ b.2.1 then decide (a.2.1 < b.2.1) else decide (a.2.2 < b.2.2)
theorem bef_iff {a b : Rl3} : befB a b = true ↔ a.1 < b.1 ∨ (a.1 = b.1 ∧ (a.2.1 < b.2.1 ∨ (a.2.1 = b.2.1 ∧ a.2.2 < b.2.2))) := by
  unfold befB
  split
  · rename_i h
    simp only [decide_eq_true_eq]
    omega
  · rename_i h
    split
    · rename_i h2
      simp only [decide_eq_true_eq]
      omega
    · rename_i h2
      simp only [decide_eq_true_eq]
      omega
theorem bef_tot {a b : Rl3} (h : befB a b = false) : a = b ∨ befB b a = true := by
  by_cases e : befB b a = true
  · exact .inr e
  · left
    have h1 : ¬ befB a b = true := by simp [h]
    rw [bef_iff] at h1 e
    obtain ⟨x, y, z⟩ := a
    obtain ⟨u, v, w⟩ := b
    simp only [Prod.mk.injEq] at *
    omega
theorem bef_trans {a b c : Rl3} (h1 : befB a b = true) (h2 : befB b c = true) : befB a c = true := by
  rw [bef_iff] at *
  omega
theorem bef_irr {a b : Rl3} (h : befB a b = true) : a ≠ b := fun e => by
  subst e
  rw [bef_iff] at h
  omega
theorem bef_le {a b : Rl3} (h : befB a b = true) : leT a b = true := by
  rw [bef_iff] at h
  rw [leT_iff]
  omega
/-- where a ruling is put in -/
def insP : List Rl3 → Rl3 → Nat
  | [], _ => 0
  | x :: t, r => if befB x r = true then insP t r + 1 else 0
theorem insP_le {r : Rl3} : ∀ {l : List Rl3}, insP l r ≤ l.length
  | [] => Nat.le_refl _
  | x :: t => by
    have := insP_le (r := r) (l := t)
    rw [insP]
    split
    · rw [List.length_cons]; omega
    · omega
theorem insP_at {r : Rl3} : ∀ {l : List Rl3} {k : Nat}, k ≤ l.length → (∀ i, i < k → befB (nthE l i) r = true) → (k < l.length → befB (nthE l k) r = false) → insP l r = k
  | [], k, hk, _, _ => by simp at hk; subst hk; rfl
  | x :: t, 0, _, _, h => by
    have : befB x r = false := h (by simp)
    rw [insP, if_neg (by simp [this])]
  | x :: t, k + 1, hk, h1, h2 => by
    have h0 : befB x r = true := h1 0 (by omega)
    rw [insP, if_pos h0, insP_at (l := t) (k := k) (by simpa using hk) (fun i hi => by have := h1 (i + 1) (by omega); rwa [nthE_cons] at this) (fun hi => by have := h2 (by simpa using hi); rwa [nthE_cons] at this)]
def insR (l : List Rl3) (r : Rl3) : List Rl3 := if insP l r < l.length ∧ nthE l (insP l r) = r then l else l.take (insP l r) ++ r :: l.drop (insP l r)
def srtB (l : List Rl3) : Prop := l.Pairwise fun a b => befB a b = true
theorem insP_bef {r : Rl3} : ∀ {l : List Rl3}, (∀ x ∈ l.take (insP l r), befB x r = true) ∧ (insP l r < l.length → befB (nthE l (insP l r)) r = false)
  | [] => ⟨fun x hx => by simp at hx, fun h => by simp [insP] at h⟩
  | x :: t => by
    obtain ⟨h1, h2⟩ := insP_bef (r := r) (l := t)
    rw [insP]
    split
    · rename_i hx
      refine ⟨fun y hy => ?_, fun h => ?_⟩
      · rw [List.take_succ_cons] at hy
        rcases List.mem_cons.1 hy with rfl | hy
        · exact hx
        · exact h1 y hy
      · rw [nthE_cons]
        exact h2 (by simpa using h)
    · rename_i hx
      exact ⟨fun y hy => by simp at hy, fun _ => by simpa [nthE] using hx⟩
theorem insR_mem {l : List Rl3} {r x : Rl3} : x ∈ insR l r ↔ x ∈ l ∨ x = r := by
  unfold insR
  split
  · rename_i h
    constructor
    · exact .inl
    · rintro (h2 | rfl)
      · exact h2
      · rw [← h.2]; exact nthE_mem h.1
  · have e : l = l.take (insP l r) ++ l.drop (insP l r) := (List.take_append_drop _ _).symm
    constructor
    · intro hx
      rcases List.mem_append.1 hx with hx | hx
      · exact .inl (List.mem_of_mem_take hx)
      · rcases List.mem_cons.1 hx with rfl | hx
        · exact .inr rfl
        · exact .inl (List.mem_of_mem_drop hx)
    · rintro (hx | rfl)
      · rw [e] at hx
        rcases List.mem_append.1 hx with hx | hx
        · exact List.mem_append.2 (.inl hx)
        · exact List.mem_append.2 (.inr (List.mem_cons_of_mem _ hx))
      · exact List.mem_append.2 (.inr (List.mem_cons_self ..))
theorem insR_srt {l : List Rl3} {r : Rl3} (h : srtB l) : srtB (insR l r) := by
  unfold insR
  split
  · exact h
  · rename_i hn
    obtain ⟨h1, h2⟩ := insP_bef (l := l) (r := r)
    have e : l = l.take (insP l r) ++ l.drop (insP l r) := (List.take_append_drop _ _).symm
    have h3 : srtB (l.take (insP l r) ++ l.drop (insP l r)) := by rw [List.take_append_drop]; exact h
    obtain ⟨p1, p2, p3⟩ := List.pairwise_append.1 h3
    have hB : ∀ x ∈ l.drop (insP l r), befB r x = true := fun x hx => by
      have hlt : insP l r < l.length := by
        apply Classical.byContradiction
        intro h4
        rw [List.drop_eq_nil_of_le (by omega)] at hx
        cases hx
      have hd := drop_consE hlt
      have hr : befB r (nthE l (insP l r)) = true := by
        rcases bef_tot (h2 hlt) with h5 | h5
        · exact absurd ⟨hlt, h5⟩ hn
        · exact h5
      rw [hd] at hx p2
      rcases List.mem_cons.1 hx with rfl | hx
      · exact hr
      · exact bef_trans hr ((List.pairwise_cons.1 p2).1 x hx)
    refine List.pairwise_append.2 ⟨p1, List.pairwise_cons.2 ⟨hB, p2⟩, fun a ha b hb => ?_⟩
    rcases List.mem_cons.1 hb with rfl | hb
    · exact h1 a ha
    · exact p3 a ha b hb
/-- the reference's rulings of the first k letters -/
def rrN (c : Int) (l : List Le) : Nat → List Rl3
  | 0 => []
  | k + 1 => if (atL l k).kd = 4 ∧ ¬ (votN l (rlOf (atL l k)) c.toNat : Int) < maj c then insR (rrN c l k) (rlOf (atL l k)) else rrN c l k
theorem insR_len {l : List Rl3} {r : Rl3} : (insR l r).length ≤ l.length + 1 := by
  unfold insR
  split
  · omega
  · have := insP_le (l := l) (r := r)
    rw [List.length_append, List.length_cons, List.length_take, List.length_drop]; omega
theorem rrN_len {c : Int} {l : List Le} : ∀ k, (rrN c l k).length ≤ k
  | 0 => Nat.le_refl _
  | k + 1 => by
    have := rrN_len (c := c) (l := l) k
    rw [rrN]
    split
    · have := insR_len (l := rrN c l k) (r := rlOf (atL l k))
      omega
    · omega
theorem rrN_srt {c : Int} {l : List Le} : ∀ k, srtB (rrN c l k)
  | 0 => List.Pairwise.nil
  | k + 1 => by
    have := rrN_srt (c := c) (l := l) k
    rw [rrN]
    split
    · exact insR_srt this
    · exact this
theorem rrN_mem {c : Int} {l : List Le} {r : Rl3} : ∀ {k : Nat}, k ≤ l.length → (r ∈ rrN c l k ↔ ∃ i, i < k ∧ (atL l i).kd = 4 ∧ rlOf (atL l i) = r ∧ ¬ (votN l r c.toNat : Int) < maj c)
  | 0, _ => by simp [rrN]
  | k + 1, hk => by
    have ih := rrN_mem (c := c) (l := l) (r := r) (k := k) (by omega)
    rw [rrN]
    split
    · rename_i hc
      rw [insR_mem, ih]
      constructor
      · rintro (⟨i, h1, h2⟩ | rfl)
        · exact ⟨i, by omega, h2⟩
        · exact ⟨k, by omega, hc.1, rfl, hc.2⟩
      · rintro ⟨i, h1, h2, h3, h4⟩
        by_cases e : i = k
        · subst e; exact .inr h3.symm
        · exact .inl ⟨i, by omega, h2, h3, h4⟩
    · rename_i hc
      rw [ih]
      constructor
      · rintro ⟨i, h1, h2⟩; exact ⟨i, by omega, h2⟩
      · rintro ⟨i, h1, h2, h3, h4⟩
        by_cases e : i = k
        · subst e
          subst h3
          exact absurd ⟨h2, h4⟩ hc
        · exact ⟨i, by omega, h2, h3, h4⟩
theorem rls_nodup {c : Int} {l : List Le} : (rlsOf c l).Nodup := by
  have h1 : (ofT c (tlN l l.length)).Nodup := by
    unfold ofT
    exact (tlN_keys l.length).sublist (List.filter_sublist.map _)
  exact (srtT_perm _).nodup_iff.2 h1
theorem rr_eq {c : Int} {l : List Le} (he : errL c l = 0) : rrN c l l.length = rlsOf c l := by
  have hcb := crt_bd (errL_ok he).1
  have hm := maj_pos hcb
  have hfr := frm_fr he
  have hs := rrN_srt (c := c) (l := l) l.length
  have hnd : (rrN c l l.length).Nodup := List.Pairwise.imp (fun h => bef_irr h) hs
  have hmem : ∀ r, r ∈ rrN c l l.length ↔ r ∈ rlsOf c l := fun r => by
    rw [rrN_mem (Nat.le_refl _)]
    constructor
    · rintro ⟨i, h1, h2, h3, h4⟩
      unfold votN at h4
      refine ruled_rls (S := (List.range c.toNat).filter fun (a : Nat) => l.any fun y => forB r y && decide (y.fr = (a : Int))) hm (List.nodup_range.filter _) (fun a ha => ?_) (by omega) fun a ha => ?_
      · have := List.mem_range.1 (List.mem_filter.1 ha).1
        omega
      · obtain ⟨y, y1, y2⟩ := List.any_eq_true.1 (List.mem_filter.1 ha).2
        simp only [Bool.and_eq_true, decide_eq_true_eq] at y2
        exact ⟨y, y1, y2.1, by omega⟩
    · intro hr
      obtain ⟨S, k⟩ := rls_ruled (fun x hx => (hfr x hx).1) hr
      obtain ⟨a, ha⟩ : ∃ a, a ∈ S := by
        cases S with
        | nil => have := k.big; simp at this; omega
        | cons a S => exact ⟨a, List.mem_cons_self ..⟩
      have hrl : ∀ v : Le, v.cs = r.1 → v.rd = r.2.1 → v.fi = r.2.2 → rlOf v = r := fun v h1 h2 h3 => by
        unfold rlOf
        rw [h1, h2, h3]
      obtain ⟨v, v1, v2, v3, v4, v5, v6⟩ := k.is a ha
      obtain ⟨i, hi, rfl⟩ := in_atL v1
      refine ⟨i, hi, v2, hrl _ v3 v4 v6, ?_⟩
      have hle : S.length ≤ votN l r c.toNat := sub_len k.nd fun b hb => by
        obtain ⟨u, u1, u2, u3, u4, u5, u6⟩ := k.is b hb
        have := hfr u u1
        refine List.mem_filter.2 ⟨List.mem_range.2 (by omega), List.any_eq_true.2 ⟨u, u1, ?_⟩⟩
        rw [Bool.and_eq_true]
        exact ⟨forB_iff.2 ⟨u2, hrl u u3 u4 u6⟩, by simp [u5]⟩
      have := k.big
      omega
  exact uniqT ((List.perm_ext_iff_of_nodup hnd rls_nodup).2 hmem) (List.Pairwise.imp (fun h => bef_le h) hs) (srtT_pw _)
end Go.Proofs.YtilpinmbngikgaaGreat

/- Parts of a list that was made: its first elements, its last ones, as what an append takes. For all types of elements. -/
namespace Go.Proofs.YtilpinmbngikgaaGreat.Ev
section
variable {α : Type} [Inhabited α] {enc : α → List AV} {sz : Nat} {P : Program} {t e : TypeId} {h0 : Heap} {V : Ob}
theorem loadN_zero {h : Heap} {i off : Nat} {l : List AV} {t : TypeId} (hg : h.get i = some (.cells l t)) (ho : off ≤ l.length) : h.loadN i off 0 = some [] := by
  unfold Heap.loadN
  rw [hg]
  simp [takeN]
theorem loadN_zeroR {h : Heap} {i off : Nat} {l : List AV} {t : TypeId} {s : Nat} (hg : h.get i = some (.row l t s)) (ho : off ≤ l.length) : h.loadN i off 0 = some [] := by
  unfold Heap.loadN
  rw [hg]
  simp [takeN]
/-- the first ones -/
theorem IsL.part_to {n k : Nat} {l : List α} {w : AV} {L : Ob} (hw : IsL e sz n (enF enc l) w L) (hs : ∀ x, (enc x).length = sz) (hz : 0 < sz) (hok : ∀ x, (enc x).all okCell = true) (hn : l.length = n) (h2 : n ≤ 1000000) (hm : ∀ x ∈ L, x ∈ V) (hk : k ≤ n) (ht : P.underlying t = some (.slice e)) (hse : sizeT P e = some sz) :
    ∃ u, (∀ h, Vw h0 [] V h → evSlice P h t w none (some (.int .i64 (k : Int))) none = some u) ∧ ComesA h0 [] V u sz k (enF enc (l.take k)) := by
  have hln : (l.take k).length = k := by rw [List.length_take]; omega
  have hlen : (enF enc (l.take k)).length = k * sz := by rw [enF_len hs, hln]
  have hall : (enF enc (l.take k)).all okCell = true := enF_ok fun x _ => hok x
  cases hw with
  | nil h1 h2 =>
    have hk0 : k = 0 := by omega
    subst hk0
    refine ⟨.slice0, fun h hh => ?_, .inl ⟨rfl, by simp [enF], rfl, fun _ _ => rfl⟩⟩
    unfold evSlice
    rw [if_neg (by simp), ht]
    simp [hse, optB, boundIn]
  | cells i c rest t' h1 h3 h4 =>
    refine ⟨.slice i 0 k (.k c), fun h hh => slK_to ht hse (by omega) (by omega), ?_⟩
    have hg : ∀ h, Vw h0 [] V h → h.get i = some (.cells (enF enc l ++ rest) t') := fun h hh => (hh.own _ (hm _ (List.mem_cons_self ..))).1
    rcases Nat.eq_zero_or_pos k with hk0 | hk0
    · subst hk0
      exact .inl ⟨rfl, by simp [enF], rfl, fun h hh => by show h.loadN i 0 (0 * sz) = _; rw [Nat.zero_mul]; exact loadN_zero (hg h hh) (by omega)⟩
    · refine .inr ⟨hk0, i, 0, _, rfl, by omega, hlen, hall, fun h hh => ?_⟩
      have hE : EH enc sz h i 0 l := fun j hj => by
        rw [Nat.zero_add]
        exact hh.rdsEn (hm _ (List.mem_cons_self ..)) (AObj.has_cells _ _).left _ _ _ (enF_drop hs l j hj)
      have := EH.loadN hs hz (EH.tak (k := k) hE) (by omega)
      rwa [hln] at this
  | row i h1 =>
    have hg : ∀ h, Vw h0 [] V h → h.get i = some (.row (enF enc l) e sz) := fun h hh => (hh.own _ (hm _ (List.mem_cons_self ..))).1
    have hkn : ∀ h, Vw h0 [] V h → knownN h i sz = n := fun h hh => by
      unfold knownN
      rw [hg h hh]
      simp only [if_true]
      rw [h1, Nat.mul_div_cancel _ hz]
    refine ⟨.slice i 0 k (.m 0), fun h hh => ?_, ?_⟩
    · unfold evSlice
      rw [if_neg (by simp), ht]
      simp only [hse, hkn h hh, evSliceM, optB, boundIn]
      rw [if_pos (by omega)]
      simp
    rcases Nat.eq_zero_or_pos k with hk0 | hk0
    · subst hk0
      exact .inl ⟨rfl, by simp [enF], rfl, fun h hh => by show h.loadN i 0 (0 * sz) = _; rw [Nat.zero_mul]; exact loadN_zeroR (hg h hh) (by omega)⟩
    · refine .inr ⟨hk0, i, 0, _, rfl, by omega, hlen, hall, fun h hh => ?_⟩
      have hE : EH enc sz h i 0 l := fun j hj => by
        rw [Nat.zero_add]
        exact hh.rdsEn (hm _ (List.mem_cons_self ..)) (AObj.has_row _ _ _) _ _ _ (enF_drop hs l j hj)
      have := EH.loadN hs hz (EH.tak (k := k) hE) (by omega)
      rwa [hln] at this
/-- the last ones -/
theorem IsL.part_from {n k : Nat} {l : List α} {w : AV} {L : Ob} (hw : IsL e sz n (enF enc l) w L) (hs : ∀ x, (enc x).length = sz) (hz : 0 < sz) (hok : ∀ x, (enc x).all okCell = true) (hn : l.length = n) (h2 : n ≤ 1000000) (hm : ∀ x ∈ L, x ∈ V) (hk : k ≤ n) (ht : P.underlying t = some (.slice e)) (hse : sizeT P e = some sz) :
    ∃ u, (∀ h, Vw h0 [] V h → evSlice P h t w (some (.int .i64 (k : Int))) none none = some u) ∧ ComesA h0 [] V u sz (n - k) (enF enc (l.drop k)) := by
  have hln : (l.drop k).length = n - k := by rw [List.length_drop]; omega
  have hlen : (enF enc (l.drop k)).length = (n - k) * sz := by rw [enF_len hs, hln]
  have hall : (enF enc (l.drop k)).all okCell = true := enF_ok fun x _ => hok x
  have hd0 : n - k = 0 → enF enc (l.drop k) = [] := fun h => by rw [List.drop_eq_nil_of_le (by omega)]; simp [enF]
  cases hw with
  | nil h1 h2 =>
    have hk0 : k = 0 := by omega
    subst hk0
    refine ⟨.slice0, fun h hh => ?_, .inl ⟨by omega, hd0 (by omega), rfl, fun _ _ => rfl⟩⟩
    unfold evSlice
    rw [if_neg (by simp), ht]
    simp [hse, optB, boundIn]
  | cells i c rest t' h1 h3 h4 =>
    refine ⟨_, fun h hh => slK_from ht hse (by omega) (by omega), ?_⟩
    have hg : ∀ h, Vw h0 [] V h → h.get i = some (.cells (enF enc l ++ rest) t') := fun h hh => (hh.own _ (hm _ (List.mem_cons_self ..))).1
    rcases Nat.eq_zero_or_pos (n - k) with hk0 | hk0
    · refine .inl ⟨hk0, hd0 hk0, by simp [lenOfA, hk0], fun h hh => ?_⟩
      show h.loadN i _ (0 * sz) = _
      rw [Nat.zero_mul]
      refine loadN_zero (hg h hh) ?_
      have : k * sz ≤ (enF enc l ++ rest).length := by
        rw [h3]
        exact Nat.mul_le_mul_right _ (by omega)
      split <;> omega
    · refine .inr ⟨hk0, i, _, _, rfl, by omega, hlen, hall, fun h hh => ?_⟩
      have hE : EH enc sz h i 0 l := fun j hj => by
        rw [Nat.zero_add]
        exact hh.rdsEn (hm _ (List.mem_cons_self ..)) (AObj.has_cells _ _).left _ _ _ (enF_drop hs l j hj)
      have := EH.loadN hs hz (EH.drp (k := k) hE) (by omega)
      rw [if_neg (by omega)]
      rwa [hln] at this
  | row i h1 =>
    have hg : ∀ h, Vw h0 [] V h → h.get i = some (.row (enF enc l) e sz) := fun h hh => (hh.own _ (hm _ (List.mem_cons_self ..))).1
    have hkn : ∀ h, Vw h0 [] V h → knownN h i sz = n := fun h hh => by
      unfold knownN
      rw [hg h hh]
      simp only [if_true]
      rw [h1, Nat.mul_div_cancel _ hz]
    refine ⟨if k = 0 ∨ k < n then .slice i (k * sz) (n - k) (.m k) else .sliceE i (k * sz) k, fun h hh => ?_, ?_⟩
    · unfold evSlice
      rw [if_neg (by simp), ht]
      simp only [hse, hkn h hh, evSliceM, optB, boundIn]
      rw [if_pos (by omega)]
      simp only [Option.bind_some, Int.toNat_natCast, Nat.zero_add, Nat.add_zero]
      by_cases hc : k = 0 ∨ k < n
      · simp [hc]
      · have h5 : n = k := by omega
        have h6 : ¬ k = 0 := by omega
        subst h5
        simp [h6]
    rcases Nat.eq_zero_or_pos (n - k) with hk0 | hk0
    · by_cases hc : k = 0 ∨ k < n
      · rw [if_pos hc]
        refine .inl ⟨hk0, hd0 hk0, by simp [lenOfA, hk0], fun h hh => ?_⟩
        show h.loadN i _ (0 * sz) = _
        rw [Nat.zero_mul]
        exact loadN_zeroR (hg h hh) (by rw [h1]; exact Nat.mul_le_mul_right _ hk)
      · rw [if_neg hc]
        exact .inl ⟨hk0, hd0 hk0, rfl, fun _ _ => rfl⟩
    · rw [if_pos (by omega)]
      refine .inr ⟨hk0, i, _, _, rfl, by omega, hlen, hall, fun h hh => ?_⟩
      have hE : EH enc sz h i 0 l := fun j hj => by
        rw [Nat.zero_add]
        exact hh.rdsEn (hm _ (List.mem_cons_self ..)) (AObj.has_row _ _ _) _ _ _ (enF_drop hs l j hj)
      have := EH.loadN hs hz (EH.drp (k := k) hE) (by omega)
      rwa [hln, Nat.zero_add] at this
end
end Go.Proofs.YtilpinmbngikgaaGreat.Ev

/- Layer 9: the reference's votes, before, rulings. -/
namespace Go.Proofs.YtilpinmbngikgaaGreat
open Go.Proofs.YtilpinmbngikgaaGreat.Ev

set_option maxRecDepth 100000 in
set_option maxHeartbeats 4000000 in
theorem before_con (h : Heap) (g : Gd h) (a b : Rl3) : Con Tryz.prog Bs 62 [.agg (rlC a), .agg (rlC b)] h [] (.bool (befB a b)) [] := by
  refine Con.start rfl Tryz.func62 rfl rfl Tryz.ntmps62 rfl rfl g ?_
  (refine WK.seq ?_; refine WK.region ?_; refine St.box fun _ _ => ?_; refine St.box fun _ _ => ?_; refine St.assign ?_; refine WO.nil ?_; refine WK.seq ?_; refine WK.seq ?_; refine WK.region ?_; refine St.fieldAddr ?_; refine St.load ?_; refine St.fieldAddr ?_; refine St.load ?_; refine St.bin ?_; refine WO.nil ?_)
  refine St.splitC (fun q => ?_) (fun q => ?_)
  · have e1 : a.1 ≠ b.1 := by simpa using q
    (refine WK.seq ?_; refine WK.region ?_; refine St.fieldAddr ?_; refine St.load ?_; refine St.fieldAddr ?_; refine St.load ?_; refine St.bin ?_; refine St.assign ?_; refine WO.nil ?_)
    refine St.ret (by first | exact .tmp .nil | exact .cell .nil | exact .cell (.tmp .nil) | exact .tmp (.tmp .nil) | exact .cell (.cell .nil) | exact .tmp (.cell .nil) | exact .nil | exact .tmp (.cell (.tmp .nil)) | exact .cell (.tmp (.tmp .nil)) | exact .cell (.cell (.tmp .nil)) | exact .tmp (.tmp (.tmp .nil)) | exact .tmp (.tmp (.tmp (.tmp .nil))) | exact .cell (.cell (.cell .nil))) ?_
    simp [oneOf, befB, e1]
  have e1 : a.1 = b.1 := by simpa using q
  (refine WK.skip ?_; refine WK.seq ?_; refine WK.seq ?_; refine WK.region ?_; refine St.fieldAddr ?_; refine St.load ?_; refine St.fieldAddr ?_; refine St.load ?_; refine St.bin ?_; refine WO.nil ?_)
  refine St.splitC (fun q => ?_) (fun q => ?_)
  · have e2 : a.2.1 ≠ b.2.1 := by simpa using q
    (refine WK.seq ?_; refine WK.region ?_; refine St.fieldAddr ?_; refine St.load ?_; refine St.fieldAddr ?_; refine St.load ?_; refine St.bin ?_; refine St.assign ?_; refine WO.nil ?_)
    refine St.ret (by first | exact .tmp .nil | exact .cell .nil | exact .cell (.tmp .nil) | exact .tmp (.tmp .nil) | exact .cell (.cell .nil) | exact .tmp (.cell .nil) | exact .nil | exact .tmp (.cell (.tmp .nil)) | exact .cell (.tmp (.tmp .nil)) | exact .cell (.cell (.tmp .nil)) | exact .tmp (.tmp (.tmp .nil)) | exact .tmp (.tmp (.tmp (.tmp .nil))) | exact .cell (.cell (.cell .nil))) ?_
    simp [oneOf, befB, e1, e2]
  have e2 : a.2.1 = b.2.1 := by simpa using q
  (refine WK.skip ?_; refine WK.seq ?_; refine WK.region ?_; refine St.fieldAddr ?_; refine St.load ?_; refine St.fieldAddr ?_; refine St.load ?_; refine St.bin ?_; refine St.assign ?_; refine WO.nil ?_)
  refine St.ret (by first | exact .tmp .nil | exact .cell .nil | exact .cell (.tmp .nil) | exact .tmp (.tmp .nil) | exact .cell (.cell .nil) | exact .tmp (.cell .nil) | exact .nil | exact .tmp (.cell (.tmp .nil)) | exact .cell (.tmp (.tmp .nil)) | exact .cell (.cell (.tmp .nil)) | exact .tmp (.tmp (.tmp .nil)) | exact .tmp (.tmp (.tmp (.tmp .nil))) | exact .cell (.cell (.cell .nil))) ?_
  simp [oneOf, befB, e1, e2]
/-- a vote of an arbiter for a ruling -/
def vtB (r : Rl3) (a : Int) (y : Le) : Bool := forB r y && decide (y.fr = a)
set_option maxRecDepth 100000 in
set_option maxHeartbeats 16000000 in
theorem votes_con (h : Heap) (g : Gd h) (c : Int) (v : AV) (l : List Le) (r : Rl3) (hv : LeV h v l) (hl : l.length ≤ 1000000) (hc : 0 ≤ c ∧ c ≤ 7) : Con Tryz.prog Bs 61 [.agg [.int .i64 c], v, .agg (rlC r)] h [] (.int .i64 ((votN l r c.toNat : Nat) : Int)) [] := by
  refine Con.start rfl Tryz.func61 rfl rfl Tryz.ntmps61 rfl rfl g ?_
  (refine WK.seq ?_; refine WK.region ?_; refine St.box fun _ _ => ?_; refine St.box fun _ _ => ?_; refine St.assign ?_; refine WO.nil ?_; refine WK.seq ?_; refine WK.region ?_; refine St.assign ?_; refine WO.nil ?_; refine WK.seq ?_; refine WK.seq ?_; refine WK.region ?_; refine St.assign ?_; refine WO.nil ?_; refine WK.block ?_)
  rename_i p3 hp3 p5 hp5
  refine WK.inv (ι := Nat) (fun k => [(1, v), (3, .ptr p3 0), (5, .ptr p5 0), (7, .int .i64 ((votN l r k : Nat) : Int)), (8, .int .i64 k)]) (fun _ => [(p5, .cells (rlC r) 52), (p3, .cells [.int .i64 c] 23)]) (fun k => k ≤ c.toNat ∧ votN l r k ≤ k) (fun k => c.toNat - k) 0 ⟨Nat.zero_le _, Nat.le_refl _⟩ ⟨rfl, rfl, rfl, rfl, rfl, trivial⟩ (by (repeat (first | exact List.Sublist.refl _ | exact List.nil_sublist _ | apply List.Sublist.cons_cons | apply List.Sublist.cons))) ?_
  rintro k ⟨hk, hvk⟩ ih
  have hs := votN_succ l r k
  (refine WK.seq ?_; refine WK.seq ?_; refine WK.region ?_; refine St.move ?_; refine St.fieldAddr ?_; refine St.load ?_; refine St.bin ?_; refine WO.nil ?_)
  refine St.splitC (fun q => ?_) (fun q => ?_)
  rotate_left
  · have e : k = c.toNat := by simp at q; omega
    subst e
    (refine WK.exit ?_; refine WK.seq ?_; refine WK.region ?_; refine St.move ?_; refine St.assign ?_; refine WO.nil ?_)
    refine St.ret (by first | exact .tmp .nil | exact .cell .nil | exact .cell (.tmp .nil) | exact .tmp (.tmp .nil) | exact .cell (.cell .nil) | exact .tmp (.cell .nil) | exact .nil | exact .tmp (.cell (.tmp .nil)) | exact .cell (.tmp (.tmp .nil)) | exact .cell (.cell (.tmp .nil)) | exact .tmp (.tmp (.tmp .nil)) | exact .tmp (.tmp (.tmp (.tmp .nil))) | exact .cell (.cell (.cell .nil))) ?_
    rfl
  have hlt : (k : Int) < c := by simpa using q
  (refine WK.skip ?_; refine WK.seq ?_; refine WK.block ?_; refine WK.seq ?_; refine WK.region ?_; refine St.assign ?_; refine WO.nil ?_; refine WK.seq ?_; refine WK.seq ?_; refine WK.region ?_; refine St.assign ?_; refine WO.nil ?_; refine WK.block ?_)
  refine WK.inv (ι := Nat) (fun i => [(1, v), (3, .ptr p3 0), (5, .ptr p5 0), (7, .int .i64 ((votN l r k : Nat) : Int)), (8, .int .i64 k), (9, .bool ((l.take i).any (vtB r k))), (10, .int .i64 i)]) (fun _ => [(p5, .cells (rlC r) 52), (p3, .cells [.int .i64 c] 23)]) (fun i => i ≤ l.length) (fun i => l.length - i) 0 (Nat.zero_le _) ⟨rfl, rfl, rfl, rfl, rfl, rfl, rfl, trivial⟩ (by (repeat (first | exact List.Sublist.refl _ | exact List.nil_sublist _ | apply List.Sublist.cons_cons | apply List.Sublist.cons))) ?_
  intro i hi ih2
  (refine WK.seq ?_; refine WK.seq ?_; refine WK.region ?_; refine St.move ?_; refine St.move ?_)
  refine St.lenG rfl hv.llen ?_
  (refine St.bin ?_; refine WO.nil ?_)
  refine St.splitC (fun q2 => ?_) (fun q2 => ?_)
  · have hil : i < l.length := by simp at q2; omega
    have hv' := hv
    obtain ⟨b, off, m, rfl, hk2⟩ := hv'.ne (by omega)
    have hta : (l.take (i + 1)).any (vtB r k) = Bool.or ((l.take i).any (vtB r k)) (vtB r k (nthE l i)) := by
      rw [take_succE hil, List.any_append]
      simp
    have ih3 := ih2 (i + 1) hil (by omega)
    rw [hta] at ih3
    generalize (l.take i).any (vtB r k) = fl at ih3 ⊢
    cases fl
    rotate_left
    · (refine WK.skip ?_; refine WK.seq ?_; refine WK.block ?_; refine WK.regionD ?_; refine St.move ?_; refine St.move ?_; refine St.skip ?_; refine St.skip ?_; refine St.skip ?_; refine St.skip ?_; refine St.skip ?_; refine St.skip ?_; refine St.skip ?_; refine St.skip ?_; refine St.skip ?_; refine St.skip ?_; refine St.skip ?_; refine St.skip ?_; refine St.skip ?_; refine St.skip ?_; refine St.skip ?_; refine St.pickT ?_; refine St.assign ?_; refine WO.nil ?_; refine WK.blk ?_; refine WK.region ?_; refine St.move ?_; refine St.binI ?_; refine St.assign ?_; refine WO.nil ?_)
      refine WK.le ?_ (by (repeat (first | exact List.Sublist.refl _ | exact List.nil_sublist _ | apply List.Sublist.cons_cons | apply List.Sublist.cons))) ih3
      exact ⟨rfl, rfl, rfl, rfl, rfl, rfl, rfl, trivial⟩
    (refine WK.skip ?_; refine WK.seq ?_; refine WK.block ?_; refine WK.regionD ?_; refine St.move ?_; refine St.move ?_; refine St.move ?_; refine St.move ?_)
    refine St.at ?_
    refine St.loadX (fun h2 hh => ((hk2.vw hh).at_ (z := (i : Int)) (n := i) (by omega) hil).agg (by simp [leC]) rfl rfl rfl) ?_
    (refine St.load ?_)
    refine St.call (fun _ => rfl) (fun h2 hh => rfor_con h2 hh.gd (nthE l i) r) ?_
    cases hf : forB r (nthE l i)
    · (refine St.move ?_; refine St.skip ?_; refine St.skip ?_; refine St.skip ?_; refine St.skip ?_; refine St.skip ?_; refine St.skip ?_; refine St.skip ?_; refine St.pickF ?_; refine St.pickF ?_; refine St.assign ?_; refine WO.nil ?_; refine WK.blk ?_; refine WK.region ?_; refine St.move ?_; refine St.binI ?_; refine St.assign ?_; refine WO.nil ?_)
      refine WK.le ?_ (by (repeat (first | exact List.Sublist.refl _ | exact List.nil_sublist _ | apply List.Sublist.cons_cons | apply List.Sublist.cons))) ih3
      exact ⟨rfl, rfl, rfl, rfl, rfl, congrArg (fun z => some (AV.bool z)) (by unfold vtB; rw [hf]; rfl), rfl, trivial⟩
    · (refine St.move ?_; refine St.move ?_; refine St.move ?_)
      refine St.at ?_
      (refine St.fieldAddr ?_)
      refine St.loadX (fun h2 hh => (Rds.headG ((hk2.vw hh).at_ (z := (i : Int)) (n := i) (by omega) hil).2.2.2.2).one rfl) ?_
      (refine St.move ?_; refine St.bin ?_; refine St.pickT ?_; refine St.pickF ?_; refine St.assign ?_; refine WO.nil ?_; refine WK.blk ?_; refine WK.region ?_; refine St.move ?_; refine St.binI ?_; refine St.assign ?_; refine WO.nil ?_)
      refine WK.le ?_ (by (repeat (first | exact List.Sublist.refl _ | exact List.nil_sublist _ | apply List.Sublist.cons_cons | apply List.Sublist.cons))) ih3
      exact ⟨rfl, rfl, rfl, rfl, rfl, congrArg (fun z => some (AV.bool z)) (by unfold vtB; rw [hf, Bool.eq_iff_iff]; simp), rfl, trivial⟩
  have e : i = l.length := by simp at q2; omega
  subst e
  rw [List.take_length]
  have hs2 : votN l r (k + 1) = votN l r k + if l.any (vtB r k) = true then 1 else 0 := hs
  cases ha : l.any (vtB r k)
  · rw [ha, if_neg (by simp)] at hs2
    (refine WK.exit ?_; refine WK.seq ?_; refine WK.region ?_; refine St.move ?_; refine WO.nil ?_; refine WK.condF ?_; refine WK.skip ?_; refine WK.blk ?_; refine WK.region ?_; refine St.move ?_; refine St.binI ?_; refine St.assign ?_; refine WO.nil ?_)
    refine WK.le ?_ (by (repeat (first | exact List.Sublist.refl _ | exact List.nil_sublist _ | apply List.Sublist.cons_cons | apply List.Sublist.cons))) (ih (k + 1) ⟨by omega, by omega⟩ (by omega))
    exact ⟨rfl, rfl, rfl, congrArg (fun z : Nat => some (AV.int .i64 (z : Int))) hs2.symm, rfl, trivial⟩
  · rw [ha, if_pos rfl] at hs2
    (refine WK.exit ?_; refine WK.seq ?_; refine WK.region ?_; refine St.move ?_; refine WO.nil ?_; refine WK.condT ?_; refine WK.region ?_; refine St.move ?_; refine St.binI ?_; refine St.assign ?_; refine WO.nil ?_; refine WK.blk ?_; refine WK.region ?_; refine St.move ?_; refine St.binI ?_; refine St.assign ?_; refine WO.nil ?_)
    refine WK.le ?_ (by (repeat (first | exact List.Sublist.refl _ | exact List.nil_sublist _ | apply List.Sublist.cons_cons | apply List.Sublist.cons))) (ih (k + 1) ⟨by omega, by omega⟩ (by omega))
    exact ⟨rfl, rfl, rfl, congrArg (fun z : Nat => some (AV.int .i64 (z : Int))) hs2.symm, rfl, trivial⟩
theorem rl_eqz (r : Rl3) : evBin Tryz.prog .eql 52 (.agg (rlC r)) (.agg (rlC r)) = some (.bool true) := by
  simp [rlC, evBin, evEq, guardOk, eqT, eqFs, partE, isAggT, nthN]
theorem rl_nez {x r : Rl3} (e : ¬ x = r) : evBin Tryz.prog .eql 52 (.agg (rlC x)) (.agg (rlC r)) = some (.bool false) := by
  obtain ⟨a, b, c⟩ := x
  obtain ⟨d, f, g⟩ := r
  simp only [Prod.mk.injEq] at e
  simp [rlC, evBin, evEq, guardOk, eqT, eqFs, partE, isAggT, nthN]
  by_cases h1 : a = d <;> by_cases h2 : b = f <;> by_cases h3 : c = g <;> simp [h1, h2, h3]
  exact e ⟨h1, h2, h3⟩
theorem rlC_ok (x : Rl3) : (rlC x).all okCell = true := rfl
set_option maxRecDepth 100000 in
set_option maxHeartbeats 32000000 in
theorem rrulings_con (h : Heap) (g : Gd h) (c : Int) (v : AV) (l : List Le) (hv : LeV h v l) (hl : l.length ≤ 1000) (hc : 3 ≤ c ∧ c ≤ 7) : ∃ u L, Con Tryz.prog Bs 26 [.agg [.int .i64 c], v] h [] u L ∧ IsL 52 3 (rrN c l l.length).length (enF rlC (rrN c l l.length)) u L := by
  refine Con.subG (Con.startR rfl Tryz.func26 rfl rfl Tryz.ntmps26 rfl rfl (SS.init g) ?_)
  (refine WK.seq ?_; refine WK.region ?_; refine St.box fun _ _ => ?_; refine St.assign ?_; refine WO.nil ?_; refine WK.seq ?_; refine WK.region ?_; refine St.assign ?_; refine WO.nil ?_; refine WK.seq ?_; refine WK.seq ?_; refine WK.region ?_; refine St.assign ?_; refine WO.nil ?_; refine WK.block ?_)
  rename_i p2 hp2
  refine WK.inv (ι := Nat × AV × Ob) (fun z => [(1, v), (2, .ptr p2 0), (5, z.2.1), (6, .int .i64 z.1)]) (fun z => (p2, .cells [.int .i64 c] 23) :: z.2.2) (fun z => z.1 ≤ l.length ∧ IsL 52 3 (rrN c l z.1).length (enF rlC (rrN c l z.1)) z.2.1 z.2.2) (fun z => l.length - z.1) (0, .slice0, []) ⟨Nat.zero_le _, .nil rfl rfl⟩ ⟨rfl, rfl, rfl, rfl, trivial⟩ (by (repeat (first | exact List.Sublist.refl _ | exact List.nil_sublist _ | apply List.Sublist.cons_cons | apply List.Sublist.cons))) ?_
  rintro ⟨k, w, Lw⟩ ⟨hkl, hw⟩ ih
  simp only at hkl hw ih ⊢
  (refine WK.seq ?_; refine WK.seq ?_; refine WK.region ?_; refine St.move ?_; refine St.move ?_)
  refine St.lenG rfl hv.llen ?_
  (refine St.bin ?_; refine WO.nil ?_)
  refine St.splitC (fun q => ?_) (fun q => ?_)
  rotate_left
  · have e : k = l.length := by simp at q; omega
    subst e
    (refine WK.exit ?_; refine WK.seq ?_; refine WK.region ?_; refine St.move ?_; refine St.assign ?_; refine WO.nil ?_)
    refine St.ret (by first | exact .tmp .nil | exact .cell .nil | exact .cell (.tmp .nil) | exact .tmp (.tmp .nil) | exact .cell (.cell .nil) | exact .tmp (.cell .nil) | exact .nil | exact .tmp (.cell (.tmp .nil)) | exact .cell (.tmp (.tmp .nil)) | exact .cell (.cell (.tmp .nil)) | exact .tmp (.tmp (.tmp .nil)) | exact .tmp (.tmp (.tmp (.tmp .nil))) | exact .cell (.cell (.cell .nil))) ?_
    exact ⟨Lw, .cons _ (List.Sublist.refl _), hw⟩
  have hlt : k < l.length := by simp at q; omega
  have hv' := hv
  obtain ⟨b, off, m, rfl, hk⟩ := hv'.ne (by omega)
  have hs : rrN c l (k + 1) = if (nthE l k).kd = 4 ∧ ¬ ((votN l (rlOf (nthE l k)) c.toNat : Nat) : Int) < maj c then insR (rrN c l k) (rlOf (nthE l k)) else rrN c l k := rfl
  have hrl := rrN_len (c := c) (l := l) k
  generalize rrN c l k = out at hw hs hrl
  have hkeep : ∀ {w3 : AV} {L3 : Ob}, rrN c l (k + 1) = out → IsL 52 3 out.length (enF rlC out) w3 L3 → k + 1 ≤ l.length ∧ IsL 52 3 (rrN c l (k + 1)).length (enF rlC (rrN c l (k + 1))) w3 L3 := fun e q => by
    rw [e]
    exact ⟨hlt, q⟩
  have hat : ∀ {V : Ob} {h2 : Heap}, Vw h [] V h2 → Rds h2 b (off + (k : Int).toNat * 8) (leC (nthE l k)) := fun hh => (hk.vw hh).at_ (z := (k : Int)) (n := k) (by omega) hlt
  (refine WK.skip ?_; refine WK.seq ?_; refine WK.block ?_; refine WK.seq ?_; refine WK.regionD ?_; refine St.move ?_; refine St.move ?_)
  refine St.at ?_
  (refine St.fieldAddr ?_)
  refine St.loadX (fun h2 hh => (Rds.headG (hat hh).2).one rfl) ?_
  (refine St.move ?_; refine St.move ?_)
  refine St.at ?_
  (refine St.fieldAddr ?_)
  refine St.loadX (fun h2 hh => (Rds.headG (hat hh).2.2.2).one rfl) ?_
  (refine St.move ?_; refine St.move ?_)
  refine St.at ?_
  (refine St.fieldAddr ?_)
  refine St.loadX (fun h2 hh => (Rds.headG (hat hh).2.2.2.2.2.2.2).one rfl) ?_
  (refine St.build ?_; refine StD.alloc fun _ _ => ?_; refine StD.storeT ?_; refine WO.nil1 ?_; refine WK.seq ?_; refine WK.seq ?_; refine WK.regionD ?_; refine St.move ?_; refine St.move ?_)
  rename_i p7 hp7
  refine St.at ?_
  (refine St.fieldAddr ?_)
  refine St.loadX (fun h2 hh => (Rds.headG (hat hh).2.2).one rfl) ?_
  (refine St.bin ?_; refine St.move ?_)
  refine St.split (fun q4 => ?_) (fun q4 => ?_)
  · have h4 : ¬ (nthE l k).kd = 4 := by simpa using q4
    rw [if_neg (fun hn => h4 hn.1)] at hs
    (refine St.skip ?_; refine St.skip ?_; refine St.skip ?_; refine St.skip ?_; refine St.skip ?_; refine St.skip ?_; refine St.skip ?_; refine St.pickT ?_; refine WO.nil ?_; refine WK.condT ?_; refine WK.exit ?_; refine WK.region ?_; refine St.move ?_; refine St.binI ?_; refine St.assign ?_; refine WO.nil ?_)
    refine WK.le ?_ (by exact List.sublist_cons_self _ _) (ih (k + 1, w, Lw) (hkeep hs hw) (by simp only; omega))
    exact ⟨rfl, rfl, rfl, rfl, trivial⟩
  have h4 : (nthE l k).kd = 4 := by simpa using q4
  (refine St.load ?_; refine St.move ?_; refine St.load ?_)
  refine St.call (fun _ => rfl) (fun h2 hh => votes_con h2 hh.gd c _ l (rlOf (nthE l k)) (hv.vw hh) (by omega) (by omega)) ?_
  (refine St.load ?_)
  refine St.call (fun _ => rfl) (fun h2 hh => rmajority_con h2 hh.gd c) ?_
  (refine St.bin ?_; refine St.pickF ?_; refine WO.nil ?_)
  refine St.splitC (fun q5 => ?_) (fun q5 => ?_)
  · have h5 : ((votN l (rlOf (nthE l k)) c.toNat : Nat) : Int) < maj c := by simpa using q5
    rw [if_neg (fun hn => hn.2 h5)] at hs
    (refine WK.exit ?_; refine WK.region ?_; refine St.move ?_; refine St.binI ?_; refine St.assign ?_; refine WO.nil ?_)
    refine WK.le ?_ (by exact List.sublist_cons_self _ _) (ih (k + 1, w, Lw) (hkeep hs hw) (by simp only; omega))
    exact ⟨rfl, rfl, rfl, rfl, trivial⟩
  have h5 : ¬ ((votN l (rlOf (nthE l k)) c.toNat : Nat) : Int) < maj c := by simpa using q5
  rw [if_pos ⟨h4, h5⟩] at hs
  generalize hr : rlOf (nthE l k) = r at hs
  have hcell : (AObj.cells [.int .i64 (nthE l k).cs, .int .i64 (nthE l k).rd, .int .i64 (nthE l k).fi] 52) = .cells (rlC r) 52 := by rw [← hr]; rfl
  have hwl : ∀ h2, lenA Tryz.prog 27 h2 w = some (.int .i64 (out.length : Int)) := hw.lenG (q := 52) (by kernel_rfl)
  have hwv : ∀ {V : Ob} {h2 : Heap}, Vw h [] V h2 → (∀ x ∈ Lw, x ∈ V) → EV rlC 3 h2 w out := fun hh hm => en_v rlC_len hw rfl hh hm
  refine WK.perm (L' := (p7, .cells (rlC r) 52) :: (p2, .cells [.int .i64 c] 23) :: Lw) (by rw [← hcell]) ?_
  refine WK.skip ?_
  refine WK.seq ?_
  refine WK.region ?_
  refine St.assign ?_
  refine WO.nil ?_
  refine WK.seq ?_
  refine WK.joinG (X := Nat) (fun j => j = insP out r) (fun j => [(1, .slice b off l.length m), (2, .ptr p2 0), (5, w), (6, .int .i64 k), (7, .ptr p7 0), (8, .int .i64 j)]) (fun _ => (p7, .cells (rlC r) 52) :: (p2, .cells [.int .i64 c] 23) :: Lw) (fun kont => ?_) (fun j hj => ?_)
  · refine WK.block ?_
    refine WK.inv (ι := Nat) (fun j => [(1, .slice b off l.length m), (2, .ptr p2 0), (5, w), (6, .int .i64 k), (7, .ptr p7 0), (8, .int .i64 j)]) (fun _ => (p7, .cells (rlC r) 52) :: (p2, .cells [.int .i64 c] 23) :: Lw) (fun j => j ≤ out.length ∧ ∀ i, i < j → befB (nthE out i) r = true) (fun j => out.length - j) 0 ⟨Nat.zero_le _, fun i hi => absurd hi (by omega)⟩ ⟨rfl, rfl, rfl, rfl, rfl, rfl, trivial⟩ (by exact List.Sublist.refl _) ?_
    rintro j ⟨hjl, hjb⟩ ih2
    (refine WK.seq ?_; refine WK.seq ?_; refine WK.regionD ?_; refine St.move ?_; refine St.move ?_)
    refine St.lenG rfl hwl ?_
    (refine St.bin ?_; refine St.move ?_)
    refine St.split (fun q6 => ?_) (fun q6 => ?_)
    rotate_left
    · have hje : j = out.length := by simp at q6; omega
      repeat (first | refine St.pickT ?_ | refine St.pickF ?_ | refine St.skip ?_ | refine WO.nil ?_ | refine WK.condF ?_ | refine WK.exit ?_)
      refine WK.le ?_ (by exact List.Sublist.refl _) (kont j (insP_at hjl hjb fun hlt => by omega).symm)
      exact ⟨rfl, rfl, rfl, rfl, rfl, rfl, trivial⟩
    have hjlt : j < out.length := by simpa using q6
    have ih3 := ih2 (j + 1)
    obtain ⟨i1, c1, o1, e1, e2, ho, hln⟩ := hw.ne (by omega)
    subst e1 e2
    (refine St.move ?_; refine St.move ?_)
    refine St.at ?_
    refine St.loadX (fun h2 hh => by
      rcases hwv hh (fun x hx => List.mem_cons_of_mem _ (List.mem_cons_of_mem _ hx)) with ⟨h3 | h3, _⟩ | ⟨b, off, c2, e, kk⟩
      · cases h3
      · cases h3
      · cases e
        exact (kk.at_ (z := (j : Int)) (n := j) (by omega) hjlt).agg (by simp [rlC]) rfl rfl rfl) ?_
    (refine St.load ?_)
    refine St.call (fun _ => rfl) (fun h2 hh => before_con h2 hh.gd (nthE out j) r) ?_
    cases hbf : befB (nthE out j) r
    · repeat (first | refine St.pickT ?_ | refine St.pickF ?_ | refine St.skip ?_ | refine WO.nil ?_ | refine WK.condF ?_ | refine WK.exit ?_)
      refine WK.le ?_ (by exact List.Sublist.refl _) (kont j (insP_at hjl hjb fun _ => hbf).symm)
      exact ⟨rfl, rfl, rfl, rfl, rfl, rfl, trivial⟩
    · (refine St.pickT ?_; refine WO.nil ?_; refine WK.condT ?_; refine WK.skip ?_; refine WK.block ?_; refine WK.region ?_; refine St.move ?_; refine St.binI ?_; refine St.assign ?_; refine WO.nil ?_; refine WK.blk ?_)
      refine WK.le ?_ (by exact List.Sublist.refl _) (ih3 ⟨hjlt, less_succ' hjb hbf⟩ (by omega))
      exact ⟨rfl, rfl, rfl, rfl, rfl, rfl, trivial⟩
  subst hj
  have hil := insP_le (l := out) (r := r)
  by_cases hd : insP out r < out.length ∧ nthE out (insP out r) = r
  · have hs2 : rrN c l (k + 1) = out := by rw [hs, insR, if_pos hd]
    obtain ⟨i1, c1, o1, e1, e2, ho, hln⟩ := hw.ne (by omega)
    subst e1 e2
    (refine WK.seq ?_; refine WK.seq ?_; refine WK.regionD ?_; refine St.move ?_; refine St.move ?_; refine St.len ?_; refine St.bin ?_; refine St.move ?_)
    refine St.split (fun q6 => ?_) (fun q6 => ?_)
    rotate_left
    · exact absurd hd.1 (by simpa using q6)
    (refine St.move ?_; refine St.move ?_)
    refine St.at ?_
    refine St.loadX (fun h2 hh => by
      rcases hwv hh (fun x hx => List.mem_cons_of_mem _ (List.mem_cons_of_mem _ hx)) with ⟨h3 | h3, _⟩ | ⟨b, off, c2, e, kk⟩
      · cases h3
      · cases h3
      · cases e
        exact (kk.at_ (z := (insP out r : Int)) (n := insP out r) (by omega) hd.1).agg (by simp [rlC]) rfl rfl rfl) ?_
    (refine St.load ?_)
    refine St.binX (r := .bool true) (by rw [hd.2]; exact rl_eqz r) rfl rfl ?_
    (refine St.pickT ?_; refine WO.nil ?_; refine WK.condT ?_; refine WK.exit ?_; refine WK.region ?_; refine St.move ?_; refine St.binI ?_; refine St.assign ?_; refine WO.nil ?_)
    refine WK.le ?_ (by exact List.sublist_cons_self _ _) (ih (k + 1, _, _) (hkeep hs2 hw) (by simp only; omega))
    exact ⟨rfl, rfl, rfl, rfl, trivial⟩
  have hs2 : rrN c l (k + 1) = out.take (insP out r) ++ r :: out.drop (insP out r) := by rw [hs, insR, if_neg hd]
  repeat refine WK.seq ?_
  refine WK.joinG (X := Unit) (fun _ => True) (fun _ => [(1, .slice b off l.length m), (2, .ptr p2 0), (5, w), (6, .int .i64 k), (7, .ptr p7 0), (8, .int .i64 ((insP out r : Nat) : Int)), (72, .bool false)]) (fun _ => (p7, .cells (rlC r) 52) :: (p2, .cells [.int .i64 c] 23) :: Lw) (fun kont => ?_) (fun _ _ => ?_)
  · refine WK.regionD ?_
    refine St.move ?_
    refine St.move ?_
    refine St.lenG rfl hwl ?_
    refine St.bin ?_
    refine St.move ?_
    refine St.split (fun q6 => ?_) (fun q6 => ?_)
    · have hlt2 : insP out r < out.length := by simpa using q6
      have hne : ¬ nthE out (insP out r) = r := fun e => hd ⟨hlt2, e⟩
      obtain ⟨i1, c1, o1, e1, e2, ho, hln⟩ := hw.ne (by omega)
      subst e1 e2
      refine St.move ?_
      refine St.move ?_
      refine St.at ?_
      refine St.loadX (fun h2 hh => by
        rcases hwv hh (fun x hx => List.mem_cons_of_mem _ (List.mem_cons_of_mem _ hx)) with ⟨h3 | h3, _⟩ | ⟨b, off, c2, e, kk⟩
        · cases h3
        · cases h3
        · cases e
          exact (kk.at_ (z := (insP out r : Int)) (n := insP out r) (by omega) hlt2).agg (by simp [rlC]) rfl rfl rfl) ?_
      refine St.load ?_
      refine St.binX (r := .bool false) (rl_nez hne) rfl rfl ?_
      refine St.pickT ?_
      refine WO.nil ?_
      refine WK.le ?_ (by exact List.Sublist.refl _) (kont () trivial)
      exact ⟨rfl, rfl, rfl, rfl, rfl, rfl, rfl, trivial⟩
    · repeat refine St.skip ?_
      refine St.pickF ?_
      refine WO.nil ?_
      refine WK.le ?_ (by exact List.Sublist.refl _) (kont () trivial)
      exact ⟨rfl, rfl, rfl, rfl, rfl, rfl, rfl, trivial⟩
  (refine WK.condF ?_; refine WK.skip ?_; refine WK.seq ?_; refine WK.region ?_; refine St.assign ?_; refine WO.nil ?_; refine WK.seq ?_; refine WK.region ?_; refine St.move ?_; refine St.move ?_; refine St.move ?_)
  obtain ⟨u1, hu1, hc1⟩ := IsL.part_to (h0 := h) (V := (p7, AObj.cells (rlC r) 52) :: (p2, .cells [.int .i64 c] 23) :: Lw) (P := Tryz.prog) (t := 27) hw rlC_len (by omega) rlC_ok rfl (by omega) (fun x hx => List.mem_cons_of_mem _ (List.mem_cons_of_mem _ hx)) hil Tryz.underlying27 (by kernel_rfl)
  refine St.sliceG (v := u1) (fun h2 hh => ?_) ?_
  · show plainV (evSlice Tryz.prog h2 27 w none (some (.int .i64 ((insP out r : Nat) : Int))) none) h2 = _
    rw [hu1 h2 hh]
    rfl
  refine St.appG (e := 52) (sz := 3) (len := 0) (old := []) (n := insP out r) (new := enF rlC (out.take (insP out r))) (Lv := []) (Lk := (p7, AObj.cells (rlC r) 52) :: (p2, .cells [.int .i64 c] 23) :: Lw) (IsL.nil rfl rfl) (List.Perm.refl _) ⟨rfl, rfl, rfl, rfl, rfl, rfl, rfl, rfl⟩ hc1 (by omega) (fun w1 L1 hw1 => ?_)
  refine WO.permF (List.perm_append_comm_assoc [(p7, AObj.cells (rlC r) 52), (p2, .cells [.int .i64 c] 23)] L1 Lw) ?_
  (refine St.assign ?_; refine WO.nil ?_; refine WK.seq ?_; refine WK.region ?_; refine St.move ?_; refine St.load ?_; refine St.mkS fun _ _ => ?_)
  rename_i j80 hj80
  refine St.appG (e := 52) (sz := 3) (n := 1) (new := rlC r) (Lk := [(j80, AObj.cells (rlC r) 52), (p7, .cells (rlC r) 52), (p2, .cells [.int .i64 c] 23)] ++ Lw) hw1 (List.perm_append_comm_assoc L1 [(j80, AObj.cells (rlC r) 52), (p7, .cells (rlC r) 52), (p2, .cells [.int .i64 c] 23)] Lw) ⟨rfl, rfl, rfl, rfl, rfl, rfl, rfl, rfl⟩ (.inr ⟨by omega, j80, 0, .k 1, rfl, by omega, rfl, rfl, fun h2 hh => readN_load (hh.getO (j := j80) (o := .cells (rlC r) 52) (List.mem_cons_self ..)) rfl⟩) (by omega) (fun w2 L2 hw2 => ?_)
  refine WO.permF (List.perm_append_comm_assoc [(j80, AObj.cells (rlC r) 52), (p7, .cells (rlC r) 52), (p2, .cells [.int .i64 c] 23)] L2 Lw) ?_
  (refine St.assign ?_; refine WO.nil ?_; refine WK.region ?_; refine St.move ?_; refine St.move ?_; refine St.move ?_)
  obtain ⟨u3, hu3, hc3⟩ := IsL.part_from (h0 := h) (V := [(j80, AObj.cells (rlC r) 52), (p7, .cells (rlC r) 52), (p2, .cells [.int .i64 c] 23)] ++ (L2 ++ Lw)) (P := Tryz.prog) (t := 27) hw rlC_len (by omega) rlC_ok rfl (by omega) (fun x hx => List.mem_append_right _ (List.mem_append_right _ hx)) hil Tryz.underlying27 (by kernel_rfl)
  refine St.sliceG (v := u3) (fun h2 hh => ?_) ?_
  · show plainV (evSlice Tryz.prog h2 27 w (some (.int .i64 ((insP out r : Nat) : Int))) none none) h2 = _
    rw [hu3 h2 hh]
    rfl
  refine St.appG (e := 52) (sz := 3) (n := out.length - insP out r) (new := enF rlC (out.drop (insP out r))) (Lk := [(j80, AObj.cells (rlC r) 52), (p7, .cells (rlC r) 52), (p2, .cells [.int .i64 c] 23)] ++ Lw) hw2 (List.perm_append_comm_assoc L2 [(j80, AObj.cells (rlC r) 52), (p7, .cells (rlC r) 52), (p2, .cells [.int .i64 c] 23)] Lw) ⟨rfl, rfl, rfl, rfl, rfl, rfl, rfl, rfl⟩ hc3 (by omega) (fun w4 L4 hw4 => ?_)
  refine WO.permF (List.perm_append_comm_assoc [(j80, AObj.cells (rlC r) 52), (p7, .cells (rlC r) 52), (p2, .cells [.int .i64 c] 23)] L4 Lw) ?_
  have hw5 : IsL 52 3 (rrN c l (k + 1)).length (enF rlC (rrN c l (k + 1))) w4 L4 := by
    rw [hs2]
    have e1 : (out.take (insP out r) ++ r :: out.drop (insP out r)).length = 0 + insP out r + 1 + (out.length - insP out r) := by
      rw [List.length_append, List.length_cons, List.length_take, List.length_drop]; omega
    have e2 : enF rlC (out.take (insP out r) ++ r :: out.drop (insP out r)) = [] ++ enF rlC (out.take (insP out r)) ++ rlC r ++ enF rlC (out.drop (insP out r)) := by
      rw [show out.take (insP out r) ++ r :: out.drop (insP out r) = out.take (insP out r) ++ ([r] ++ out.drop (insP out r)) from rfl, enF_app, enF_app, enF_one, List.nil_append, List.append_assoc]
    rw [e1, e2]
    exact hw4
  (refine St.assign ?_; refine WO.nil ?_; refine WK.blk ?_; refine WK.region ?_; refine St.move ?_; refine St.binI ?_; refine St.assign ?_; refine WO.nil ?_)
  refine WK.le ?_ (by exact .cons _ (.cons _ (.cons_cons _ (List.sublist_append_left _ _)))) (ih (k + 1, w4, L4) ⟨hlt, hw5⟩ (by simp only; omega))
  exact ⟨rfl, rfl, rfl, rfl, trivial⟩
end Go.Proofs.YtilpinmbngikgaaGreat

/- Layer 9: the reference's Rulings, Proof; SameLetters of the same letters. -/
namespace Go.Proofs.YtilpinmbngikgaaGreat
open Go.Proofs.YtilpinmbngikgaaGreat.Ev

def rrlsR (c : Int) (l : List Le) (u : AV) (L : Ob) : Prop := (errL c l ≠ 0 ∧ u = .agg [.slice0, .int .i64 (errL c l)]) ∨ (errL c l = 0 ∧ ∃ w, u = .agg [w, .int .i64 0] ∧ IsL 52 3 (rlsOf c l).length (enF rlC (rlsOf c l)) w L)
set_option maxRecDepth 100000 in
set_option maxHeartbeats 8000000 in
theorem rRulings_con (h : Heap) (g : Gd h) (c : Int) (v : AV) (l : List Le) (hv : LeV h v l) (hl : errL c l = 0 → l.length ≤ 1000) : ∃ u L, Con Tryz.prog Bs 7 [.agg [.int .i64 c], v] h [] u L ∧ rrlsR c l u L := by
  refine Con.subG (Con.startR rfl Tryz.func7 rfl rfl Tryz.ntmps7 rfl rfl (SS.init g) ?_)
  (refine WK.seq ?_; refine WK.region ?_; refine St.box fun _ _ => ?_; refine St.alloc fun _ _ => ?_; refine WO.nil ?_; refine WK.seq ?_; refine WK.region ?_; refine St.load ?_; refine St.move ?_)
  rename_i p2 hp2 p4 hp4
  refine St.call (fun _ => rfl) (fun h2 hh => listed_con h2 hh.gd c v l (hv.vw hh)) ?_
  (refine St.assign ?_; refine WO.nil ?_; refine WK.seq ?_; refine WK.seq ?_; refine WK.region ?_; refine St.move ?_; refine St.bin ?_; refine WO.nil ?_)
  refine St.splitC (fun q => ?_) (fun q => ?_)
  · have hne : errL c l ≠ 0 := by simpa using q
    (refine WK.seq ?_; refine WK.region ?_; refine St.move ?_; refine St.build ?_; refine St.store0 ?_; refine WO.nil ?_)
    refine St.ret (by first | exact .tmp .nil | exact .cell .nil | exact .cell (.tmp .nil) | exact .tmp (.tmp .nil) | exact .cell (.cell .nil) | exact .tmp (.cell .nil) | exact .nil | exact .tmp (.cell (.tmp .nil)) | exact .cell (.tmp (.tmp .nil)) | exact .cell (.cell (.tmp .nil)) | exact .tmp (.tmp (.tmp .nil)) | exact .tmp (.tmp (.tmp (.tmp .nil))) | exact .cell (.cell (.cell .nil))) ?_
    exact ⟨[], List.nil_sublist _, .inl ⟨hne, rfl⟩⟩
  have he : errL c l = 0 := by simpa using q
  (refine WK.skip ?_; refine WK.seq ?_; refine WK.region ?_; refine St.load ?_; refine St.move ?_)
  refine St.callR (R := fun u L => IsL 52 3 (rlsOf c l).length (enF rlC (rlsOf c l)) u L) (fun _ => rfl) (fun h2 hh => by
    have := rrulings_con h2 hh.gd c v l (hv.vw hh) (hl he) (crt_bd (errL_ok he).1)
    rwa [rr_eq he] at this) (fun w L hw => ?_)
  have hfin : ∀ {w2 : AV} {L2 : Ob}, IsL 52 3 (rlsOf c l).length (enF rlC (rlsOf c l)) w2 L2 → rrlsR c l (.agg [w2, .int .i64 0]) L2 := fun q => .inr ⟨he, _, rfl, q⟩
  cases hw with
  | nil h1 h2 =>
    (refine St.build ?_; refine St.store0 ?_; refine WO.nil ?_)
    refine St.ret (by first | exact .tmp .nil | exact .cell .nil | exact .cell (.tmp .nil) | exact .tmp (.tmp .nil) | exact .cell (.cell .nil) | exact .tmp (.cell .nil) | exact .nil | exact .tmp (.cell (.tmp .nil)) | exact .cell (.tmp (.tmp .nil)) | exact .cell (.cell (.tmp .nil)) | exact .tmp (.tmp (.tmp .nil)) | exact .tmp (.tmp (.tmp (.tmp .nil))) | exact .cell (.cell (.cell .nil))) ?_
    exact ⟨[], List.nil_sublist _, hfin (.nil h1 h2)⟩
  | cells i cc rest t' h1 h2 h3 =>
    (refine St.build ?_; refine St.store1 ?_; refine WO.nil ?_)
    refine St.ret (by first | exact .tmp .nil | exact .cell .nil | exact .cell (.tmp .nil) | exact .tmp (.tmp .nil) | exact .cell (.cell .nil) | exact .tmp (.cell .nil) | exact .nil | exact .tmp (.cell (.tmp .nil)) | exact .cell (.tmp (.tmp .nil)) | exact .cell (.cell (.tmp .nil)) | exact .tmp (.tmp (.tmp .nil)) | exact .tmp (.tmp (.tmp (.tmp .nil))) | exact .cell (.cell (.cell .nil))) ?_
    exact ⟨_, .cons_cons _ (List.nil_sublist _), hfin (.cells i cc rest t' h1 h2 h3)⟩
  | row i h1 =>
    (refine St.build ?_; refine St.store1 ?_; refine WO.nil ?_)
    refine St.ret (by first | exact .tmp .nil | exact .cell .nil | exact .cell (.tmp .nil) | exact .tmp (.tmp .nil) | exact .cell (.cell .nil) | exact .tmp (.cell .nil) | exact .nil | exact .tmp (.cell (.tmp .nil)) | exact .cell (.tmp (.tmp .nil)) | exact .cell (.cell (.tmp .nil)) | exact .tmp (.tmp (.tmp .nil)) | exact .tmp (.tmp (.tmp (.tmp .nil))) | exact .cell (.cell (.cell .nil))) ?_
    exact ⟨_, .cons_cons _ (List.nil_sublist _), hfin (.row i h1)⟩
end Go.Proofs.YtilpinmbngikgaaGreat

/- Layer 9: the reference's Proof; SameLetters of the same letters. -/
namespace Go.Proofs.YtilpinmbngikgaaGreat
open Go.Proofs.YtilpinmbngikgaaGreat.Ev

set_option maxRecDepth 100000 in
set_option maxHeartbeats 8000000 in
theorem sameL_con (h : Heap) (g : Gd h) (v1 v2 : AV) (l : List Le) (h1 : LeV h v1 l) (h2 : LeV h v2 l) (hl : l.length ≤ 1000000) : Con Tryz.prog Bs 15 [v1, v2] h [] (.bool true) [] := by
  refine Con.start rfl Tryz.func15 rfl rfl Tryz.ntmps15 rfl rfl g ?_
  (refine WK.seq ?_; refine WK.region ?_; refine St.assign ?_; refine WO.nil ?_; refine WK.seq ?_; refine WK.seq ?_; refine WK.region ?_; refine St.move ?_)
  refine St.lenG rfl h1.llen ?_
  (refine St.move ?_)
  refine St.lenG rfl h2.llen ?_
  (refine St.bin ?_; refine WO.nil ?_)
  refine St.splitC (fun q => ?_) (fun q => ?_)
  · simp at q
  (refine WK.skip ?_; refine WK.seq ?_; refine WK.seq ?_; refine WK.region ?_; refine St.assign ?_; refine WO.nil ?_; refine WK.block ?_)
  refine WK.inv (ι := Nat) (fun k => [(0, v1), (1, v2), (5, .int .i64 k)]) (fun _ => []) (fun k => k ≤ l.length) (fun k => l.length - k) 0 (Nat.zero_le _) ⟨rfl, rfl, rfl, trivial⟩ (by (repeat (first | exact List.Sublist.refl _ | exact List.nil_sublist _ | apply List.Sublist.cons_cons | apply List.Sublist.cons))) ?_
  intro k hk ih
  (refine WK.seq ?_; refine WK.seq ?_; refine WK.region ?_; refine St.move ?_; refine St.move ?_)
  refine St.lenG rfl h1.llen ?_
  (refine St.bin ?_; refine WO.nil ?_)
  refine St.splitC (fun q => ?_) (fun q => ?_)
  · have hlt : k < l.length := by simp at q; omega
    obtain ⟨b1, o1, c1, rfl, k1⟩ := EV.ne h1 (by omega)
    obtain ⟨b2, o2, c2, rfl, k2⟩ := EV.ne h2 (by omega)
    (refine WK.skip ?_; refine WK.seq ?_; refine WK.block ?_; refine WK.seq ?_; refine WK.regionD ?_; refine St.move ?_; refine St.move ?_)
    refine St.at ?_
    refine St.loadX (fun h2 hh => ((k1.vw hh).at_ (z := (k : Int)) (n := k) (by omega) hlt).agg (by simp [leC]) rfl rfl rfl) ?_
    (refine St.move ?_; refine St.move ?_)
    refine St.at ?_
    refine St.loadX (fun h2 hh => ((k2.vw hh).at_ (z := (k : Int)) (n := k) (by omega) hlt).agg (by simp [leC]) rfl rfl rfl) ?_
    refine St.binX (r := .bool false) (by simp [leC, evBin, evEq, guardOk, eqT, eqFs, partE, isAggT, nthN]) rfl rfl ?_
    (refine WO.nil ?_; refine WK.condF ?_; refine WK.skip ?_; refine WK.blk ?_; refine WK.region ?_; refine St.move ?_; refine St.binI ?_; refine St.assign ?_; refine WO.nil ?_)
    refine WK.le ?_ (by (repeat (first | exact List.Sublist.refl _ | exact List.nil_sublist _ | apply List.Sublist.cons_cons | apply List.Sublist.cons))) (ih (k + 1) hlt (by omega))
    exact ⟨rfl, rfl, rfl, trivial⟩
  · (refine WK.exit ?_; refine WK.seq ?_; refine WK.region ?_; refine St.assign ?_; refine WO.nil ?_)
    refine St.ret (by first | exact .tmp .nil | exact .cell .nil | exact .cell (.tmp .nil) | exact .tmp (.tmp .nil) | exact .cell (.cell .nil) | exact .tmp (.cell .nil) | exact .nil | exact .tmp (.cell (.tmp .nil)) | exact .cell (.tmp (.tmp .nil)) | exact .cell (.cell (.tmp .nil)) | exact .tmp (.tmp (.tmp .nil)) | exact .tmp (.tmp (.tmp (.tmp .nil))) | exact .cell (.cell (.cell .nil))) ?_
    rfl
def rprR (c : Int) (l : List Le) (id : Int) (u : AV) (L : Ob) : Prop := (prE c l id ≠ 0 ∧ u = .agg [.slice0, .int .i64 (prE c l id)]) ∨ (prE c l id = 0 ∧ ∃ w, u = .agg [w, .int .i64 0] ∧ IsL 50 8 (prL c l id).length (enF leC (prL c l id)) w L)
set_option maxRecDepth 100000 in
set_option maxHeartbeats 32000000 in
theorem rproof_con (h : Heap) (g : Gd h) (c : Int) (v : AV) (l : List Le) (id : Int) (hv : LeV h v l) (hl : errL c l = 0 → l.length ≤ 1000) : ∃ u L, Con Tryz.prog Bs 11 [.agg [.int .i64 c], v, .int .i64 id] h [] u L ∧ rprR c l id u L := by
  refine Con.subG (Con.startR rfl Tryz.func11 rfl rfl Tryz.ntmps11 rfl rfl (SS.init g) ?_)
  (refine WK.seq ?_; refine WK.region ?_; refine St.box fun _ _ => ?_; refine St.alloc fun _ _ => ?_; refine WO.nil ?_; refine WK.seq ?_; refine WK.region ?_; refine St.load ?_; refine St.move ?_)
  rename_i p3 hp3 p6 hp6
  refine St.call (fun _ => rfl) (fun h2 hh => listed_con h2 hh.gd c v l (hv.vw hh)) ?_
  (refine St.assign ?_; refine WO.nil ?_; refine WK.seq ?_; refine WK.seq ?_; refine WK.region ?_; refine St.move ?_; refine St.bin ?_; refine WO.nil ?_)
  refine St.splitC (fun q => ?_) (fun q => ?_)
  · have hne : errL c l ≠ 0 := by simpa using q
    have hE : prE c l id = errL c l := by unfold prE; rw [if_pos hne]
    (refine WK.seq ?_; refine WK.region ?_; refine St.move ?_; refine St.build ?_; refine St.store0 ?_; refine WO.nil ?_)
    refine St.ret (by first | exact .tmp .nil | exact .cell .nil | exact .cell (.tmp .nil) | exact .tmp (.tmp .nil) | exact .cell (.cell .nil) | exact .tmp (.cell .nil) | exact .nil | exact .tmp (.cell (.tmp .nil)) | exact .cell (.tmp (.tmp .nil)) | exact .cell (.cell (.tmp .nil)) | exact .tmp (.tmp (.tmp .nil)) | exact .tmp (.tmp (.tmp (.tmp .nil))) | exact .cell (.cell (.cell .nil))) ?_
    exact ⟨[], List.nil_sublist _, .inl ⟨by rw [hE]; exact hne, by rw [hE]; rfl⟩⟩
  have he : errL c l = 0 := by simpa using q
  have hl := hl he
  have hcb := crt_bd (errL_ok he).1
  have hm := maj_pos hcb
  (refine WK.skip ?_; refine WK.seq ?_; refine WK.seq ?_; refine WK.region ?_; refine St.move ?_)
  refine St.call (fun _ => rfl) (fun h2 hh => in_con h2 hh.gd id 1 1099511627776) ?_
  cases hc : inB id 1 1099511627776
  · have hE : prE c l id = 1 := by unfold prE; rw [if_neg (by simp [he]), if_neg (by simp [hc])]
    (refine St.un ?_; refine WO.nil ?_; refine WK.condT ?_; refine WK.seq ?_; refine WK.region ?_; refine St.build ?_; refine St.store0 ?_; refine WO.nil ?_)
    refine St.ret (by first | exact .tmp .nil | exact .cell .nil | exact .cell (.tmp .nil) | exact .tmp (.tmp .nil) | exact .cell (.cell .nil) | exact .tmp (.cell .nil) | exact .nil | exact .tmp (.cell (.tmp .nil)) | exact .cell (.tmp (.tmp .nil)) | exact .cell (.cell (.tmp .nil)) | exact .tmp (.tmp (.tmp .nil)) | exact .tmp (.tmp (.tmp (.tmp .nil))) | exact .cell (.cell (.cell .nil))) ?_
    exact ⟨[], List.nil_sublist _, .inl ⟨by rw [hE]; omega, by rw [hE]; rfl⟩⟩
  (refine St.un ?_; refine WO.nil ?_; refine WK.condF ?_; refine WK.skip ?_; refine WK.seq ?_; refine WK.region ?_; refine St.load ?_; refine St.move ?_)
  refine St.callR (R := fun u L => IsL 52 3 (rlsOf c l).length (enF rlC (rlsOf c l)) u L) (fun _ => rfl) (fun h2 hh => by
    have := rrulings_con h2 hh.gd c v l (hv.vw hh) hl hcb
    rwa [rr_eq he] at this) (fun w1 L1 hw1 => ?_)
  refine WO.permF List.perm_append_comm ?_
  have hE : prE c l id = if (rlsOf c l).any (fun r => decide (r.1 = id)) = true then 0 else 5 := by unfold prE; rw [if_neg (by simp [he]), if_pos hc]
  have hrl := rls_len (c := c) (l := l)
  have hL : prL c l id = vfN c l (fstR (rlsOf c l) id) l.length := rfl
  unfold rprR
  generalize prL c l id = pl at hL ⊢
  generalize prE c l id = pe at hE ⊢
  generalize rlsOf c l = rs at hw1 hE hrl hL
  have hwl : ∀ h2, lenA Tryz.prog 27 h2 w1 = some (.int .i64 (rs.length : Int)) := hw1.lenG (q := 52) (by kernel_rfl)
  have hwv : ∀ {V : Ob} {h2 : Heap}, Vw h [] V h2 → (∀ x ∈ L1, x ∈ V) → EV rlC 3 h2 w1 rs := fun hh hm => en_v rlC_len hw1 rfl hh hm
  (refine St.assign ?_; refine WO.nil ?_; refine WK.seq ?_; refine WK.region ?_; refine St.assign ?_; refine WO.nil ?_; refine WK.seq ?_; refine WK.block ?_)
  refine WK.inv (ι := Nat) (fun k => [(1, v), (2, .int .i64 id), (3, .ptr p3 0), (6, .ptr p6 0), (8, w1), (9, .int .i64 k)]) (fun _ => (p6, .cells [.slice0, .int .i64 0] 39) :: (p3, .cells [.int .i64 c] 23) :: L1) (fun k => k ≤ rs.length ∧ (rs.take k).any (fun r => decide (r.1 = id)) = false) (fun k => rs.length - k) 0 ⟨Nat.zero_le _, rfl⟩ ⟨rfl, rfl, rfl, rfl, rfl, rfl, trivial⟩ (by exact List.Sublist.refl _) ?_
  rintro k ⟨hkl, hkn⟩ ih
  (refine WK.seq ?_; refine WK.seq ?_; refine WK.region ?_; refine St.move ?_; refine St.move ?_)
  refine St.lenG rfl hwl ?_
  (refine St.bin ?_; refine St.move ?_)
  refine St.split (fun q2 => ?_) (fun q2 => ?_)
  rotate_left
  · have hke : k = rs.length := by simp at q2; omega
    subst hke
    rw [List.take_length] at hkn
    rw [hkn, if_neg (by simp)] at hE
    (refine St.skip ?_; refine St.skip ?_; refine St.skip ?_; refine St.skip ?_; refine St.skip ?_; refine St.skip ?_; refine St.skip ?_; refine St.pickF ?_; refine WO.nil ?_; refine WK.condF ?_; refine WK.exit ?_; refine WK.seq ?_; refine WK.seq ?_; refine WK.region ?_; refine St.move ?_; refine St.move ?_)
    refine St.lenG rfl hwl ?_
    (refine St.bin ?_; refine WO.nil ?_)
    refine St.splitC (fun q3 => ?_) (fun q3 => ?_)
    rotate_left
    · simp at q3
    (refine WK.seq ?_; refine WK.region ?_; refine St.build ?_; refine St.store0 ?_; refine WO.nil ?_)
    refine St.ret (by first | exact .tmp .nil | exact .cell .nil | exact .cell (.tmp .nil) | exact .tmp (.tmp .nil) | exact .cell (.cell .nil) | exact .tmp (.cell .nil) | exact .nil | exact .tmp (.cell (.tmp .nil)) | exact .cell (.tmp (.tmp .nil)) | exact .cell (.cell (.tmp .nil)) | exact .tmp (.tmp (.tmp .nil)) | exact .tmp (.tmp (.tmp (.tmp .nil))) | exact .cell (.cell (.cell .nil))) ?_
    exact ⟨[], List.nil_sublist _, .inl ⟨by omega, by rw [hE]; rfl⟩⟩
  have hklt : k < rs.length := by simpa using q2
  have hat : ∀ {V : Ob} {h2 : Heap}, Vw h [] V h2 → (∀ x ∈ L1, x ∈ V) → ∃ b off n m, w1 = .slice b off n m ∧ EH rlC 3 h2 b off rs := fun hh hm => by
    obtain ⟨b, off, m, e, k⟩ := (hwv hh hm).ne (by omega)
    exact ⟨b, off, _, m, e, k⟩
  have hta := take_any (t := fun r : Rl3 => decide (r.1 = id)) hklt
  have hfst : (nthE rs k).1 = id → fstR rs id = nthE rs k := fun h1 => fst_first hklt h1 hkn
  obtain ⟨i1, c1, o1, e1, e2, ho, hln⟩ := hw1.ne (by omega)
  subst e1 e2
  have hld : ∀ {V : Ob} {h2 : Heap}, Vw h [] V h2 → (i1, o1) ∈ V → Rds h2 i1 (0 + (k : Int).toNat * 3) (rlC (nthE rs k)) := fun hh hmem => by
    rcases hwv hh (fun x hx => by rw [List.mem_singleton.1 hx]; exact hmem) with ⟨h3 | h3, _⟩ | ⟨b, off, c2, e, kk⟩
    · cases h3
    · cases h3
    · cases e
      exact kk.at_ (z := (k : Int)) (n := k) (by omega) hklt
  (refine St.move ?_; refine St.move ?_)
  refine St.at ?_
  (refine St.fieldAddr ?_)
  refine St.loadX (fun h2 hh => (Rds.headG (hld hh (by repeat (first | exact List.Mem.head _ | apply List.Mem.tail)))).one rfl) ?_
  (refine St.move ?_; refine St.bin ?_; refine St.pickT ?_; refine WO.nil ?_)
  refine St.splitC (fun q3 => ?_) (fun q3 => ?_)
  · have hid : ¬ (nthE rs k).1 = id := by simpa using q3
    (refine WK.skip ?_; refine WK.block ?_; refine WK.region ?_; refine St.move ?_; refine St.binI ?_; refine St.assign ?_; refine WO.nil ?_; refine WK.blk ?_)
    refine WK.le ?_ (by exact List.Sublist.refl _) (ih (k + 1) ⟨hklt, by rw [hta, hkn]; simpa using hid⟩ (by omega))
    exact ⟨rfl, rfl, rfl, rfl, rfl, rfl, trivial⟩
  have hid : (nthE rs k).1 = id := by simpa using q3
  have hE0 : pe = 0 := by
    rw [hE, if_pos (List.any_eq_true.2 ⟨_, nthE_mem hklt, by simpa using hid⟩)]
  rw [hfst hid] at hL
  (refine WK.exit ?_; refine WK.seq ?_; refine WK.seq ?_; refine WK.region ?_; refine St.move ?_; refine St.move ?_; refine St.len ?_; refine St.bin ?_; refine WO.nil ?_)
  refine St.splitC (fun q4 => ?_) (fun q4 => ?_)
  · simp at q4
    omega
  generalize nthE rs k = r at hld hL
  subst hL
  subst hE0
  (refine WK.skip ?_; refine WK.seq ?_; refine WK.region ?_; refine St.build ?_; refine St.alloc fun _ _ => ?_; refine St.store0 ?_; refine WO.nil ?_; refine WK.seq ?_; refine WK.seq ?_; refine WK.region ?_; refine St.assign ?_; refine WO.nil ?_; refine WK.block ?_)
  rename_i p10 hp10
  refine WK.inv (ι := Nat × AV × Ob) (fun z => [(1, v), (3, .ptr p3 0), (6, .ptr p6 0), (8, .slice i1 0 rs.length c1), (9, .int .i64 k), (10, .ptr p10 0), (11, .int .i64 z.1)]) (fun z => (p10, .cells [z.2.1, .int .i64 0] 39) :: (p6, .cells [.slice0, .int .i64 0] 39) :: (p3, .cells [.int .i64 c] 23) :: (i1, o1) :: z.2.2) (fun z => z.1 ≤ l.length ∧ IsR 50 8 (vfN c l r z.1).length (enF leC (vfN c l r z.1)) z.2.1 z.2.2) (fun z => l.length - z.1) (0, .slice0, []) ⟨Nat.zero_le _, .nil rfl rfl⟩ ⟨rfl, rfl, rfl, rfl, rfl, rfl, rfl, trivial⟩ (by exact List.Sublist.refl _) ?_
  rintro ⟨i, w, Lw⟩ ⟨hil, hw⟩ ih
  simp only at hil hw ih ⊢
  have hvl := vfN_len (l := l) (r := r) hm i
  (refine WK.seq ?_; refine WK.seq ?_; refine WK.regionD ?_; refine St.move ?_; refine St.move ?_)
  refine St.lenG rfl hv.llen ?_
  (refine St.bin ?_; refine St.move ?_)
  refine St.split (fun q5 => ?_) (fun q5 => ?_)
  rotate_left
  · have hie : i = l.length := by simp at q5; omega
    subst hie
    cases hw with
    | nil h1 h2 =>
      (refine St.skip ?_; refine St.skip ?_; refine St.skip ?_; refine St.skip ?_; refine St.skip ?_; refine St.skip ?_; refine St.pickF ?_; refine WO.nil ?_; refine WK.condF ?_; refine WK.exit ?_; refine WK.seq ?_; refine WK.region ?_; refine St.load ?_; refine St.store1 ?_; refine WO.nil ?_)
      refine St.ret (by first | exact .tmp .nil | exact .cell .nil | exact .cell (.tmp .nil) | exact .tmp (.tmp .nil) | exact .cell (.cell .nil) | exact .tmp (.cell .nil) | exact .nil | exact .tmp (.cell (.tmp .nil)) | exact .cell (.tmp (.tmp .nil)) | exact .cell (.cell (.tmp .nil)) | exact .tmp (.tmp (.tmp .nil)) | exact .tmp (.tmp (.tmp (.tmp .nil))) | exact .cell (.cell (.cell .nil))) ?_
      exact ⟨[], List.nil_sublist _, .inr ⟨trivial, _, rfl, .nil h1 h2⟩⟩
    | row j h1 =>
      (refine St.skip ?_; refine St.skip ?_; refine St.skip ?_; refine St.skip ?_; refine St.skip ?_; refine St.skip ?_; refine St.pickF ?_; refine WO.nil ?_; refine WK.condF ?_; refine WK.exit ?_; refine WK.seq ?_; refine WK.region ?_; refine St.load ?_; refine St.store1 ?_; refine WO.nil ?_)
      refine St.ret (by first | exact .tmp .nil | exact .cell .nil | exact .cell (.tmp .nil) | exact .tmp (.tmp .nil) | exact .cell (.cell .nil) | exact .tmp (.cell .nil) | exact .nil | exact .tmp (.cell (.tmp .nil)) | exact .cell (.tmp (.tmp .nil)) | exact .cell (.cell (.tmp .nil)) | exact .tmp (.tmp (.tmp .nil)) | exact .tmp (.tmp (.tmp (.tmp .nil))) | exact .cell (.cell (.cell .nil))) ?_
      exact ⟨[(j, .row (enF leC (vfN c l r l.length)) 50 8)], by (repeat (first | exact List.Sublist.refl _ | exact List.nil_sublist _ | apply List.Sublist.cons_cons | apply List.Sublist.cons)), .inr ⟨trivial, _, rfl, .row j h1⟩⟩
  have hilt : i < l.length := by simpa using q5
  (refine St.fieldAddr ?_; refine St.load ?_)
  refine St.lenG rfl (hw.isL.lenG (q := 50) (by kernel_rfl)) ?_
  (refine St.load ?_)
  refine St.call (fun _ => rfl) (fun h2 hh => rmajority_con h2 hh.gd c) ?_
  (refine St.bin ?_; refine St.pickT ?_; refine WO.nil ?_)
  refine St.splitC (fun q6 => ?_) (fun q6 => ?_)
  rotate_left
  · have hfull : ((vfN c l r i).length : Int) = maj c := by simp at q6; omega
    have hat2 := vfN_at hfull hil
    rw [hat2]
    cases hw with
    | nil h1 h2 =>
      (refine WK.exit ?_; refine WK.seq ?_; refine WK.region ?_; refine St.load ?_; refine St.store1 ?_; refine WO.nil ?_)
      refine St.ret (by first | exact .tmp .nil | exact .cell .nil | exact .cell (.tmp .nil) | exact .tmp (.tmp .nil) | exact .cell (.cell .nil) | exact .tmp (.cell .nil) | exact .nil | exact .tmp (.cell (.tmp .nil)) | exact .cell (.tmp (.tmp .nil)) | exact .cell (.cell (.tmp .nil)) | exact .tmp (.tmp (.tmp .nil)) | exact .tmp (.tmp (.tmp (.tmp .nil))) | exact .cell (.cell (.cell .nil))) ?_
      exact ⟨[], List.nil_sublist _, .inr ⟨trivial, _, rfl, .nil h1 h2⟩⟩
    | row j h1 =>
      (refine WK.exit ?_; refine WK.seq ?_; refine WK.region ?_; refine St.load ?_; refine St.store1 ?_; refine WO.nil ?_)
      refine St.ret (by first | exact .tmp .nil | exact .cell .nil | exact .cell (.tmp .nil) | exact .tmp (.tmp .nil) | exact .cell (.cell .nil) | exact .tmp (.cell .nil) | exact .nil | exact .tmp (.cell (.tmp .nil)) | exact .cell (.tmp (.tmp .nil)) | exact .cell (.cell (.tmp .nil)) | exact .tmp (.tmp (.tmp .nil)) | exact .tmp (.tmp (.tmp (.tmp .nil))) | exact .cell (.cell (.cell .nil))) ?_
      exact ⟨[(j, .row (enF leC (vfN c l r i)) 50 8)], by (repeat (first | exact List.Sublist.refl _ | exact List.nil_sublist _ | apply List.Sublist.cons_cons | apply List.Sublist.cons)), .inr ⟨trivial, _, rfl, .row j h1⟩⟩
  have hne : ((vfN c l r i).length : Int) ≠ maj c := by simp at q6; omega
  have hv' := hv
  obtain ⟨b, off, m, rfl, hk⟩ := hv'.ne (by omega)
  have hs : vfN c l r (i + 1) = if forB r (nthE l i) = true ∧ (vfN c l r i).any (byB (nthE l i).fr) = false then vfN c l r i ++ [nthE l i] else vfN c l r i := by
    rw [vfN, if_neg hne]
    rfl
  have hwv2 : ∀ {V : Ob} {h2 : Heap}, Vw h [] V h2 → (∀ x ∈ Lw, x ∈ V) → EV leC 8 h2 w (vfN c l r i) := fun hh hm => en_v leC_len hw.isL rfl hh hm
  have hkeep : ¬ (forB r (nthE l i) = true ∧ (vfN c l r i).any (byB (nthE l i).fr) = false) → (i + 1 ≤ l.length ∧ IsR 50 8 (vfN c l r (i + 1)).length (enF leC (vfN c l r (i + 1))) w Lw) := fun hn => by
    rw [hs, if_neg hn]
    exact ⟨hilt, hw⟩
  (refine WK.skip ?_; refine WK.seq ?_; refine WK.block ?_; refine WK.seq ?_; refine WK.regionD ?_; refine St.move ?_; refine St.move ?_)
  refine St.at ?_
  refine St.loadX (fun h2 hh => ((hk.vw hh).at_ (z := (i : Int)) (n := i) (by omega) hilt).agg (by simp [leC]) rfl rfl rfl) ?_
  (refine St.move ?_; refine St.move ?_)
  refine St.at ?_
  refine St.loadX (fun h2 hh => (hld hh (by repeat (first | exact List.Mem.head _ | apply List.Mem.tail))).agg (by simp [rlC]) rfl rfl rfl) ?_
  refine St.call (fun _ => rfl) (fun h2 hh => rfor_con h2 hh.gd (nthE l i) r) ?_
  (refine St.assign ?_; refine WO.nil ?_; refine WK.seq ?_; refine WK.seq ?_; refine WK.region ?_; refine St.assign ?_; refine WO.nil ?_; refine WK.block ?_)
  refine WK.inv (ι := Nat) (fun n => [(1, .slice b off l.length m), (3, .ptr p3 0), (6, .ptr p6 0), (8, .slice i1 0 rs.length c1), (9, .int .i64 k), (10, .ptr p10 0), (11, .int .i64 i), (12, .bool (forB r (nthE l i) && !((vfN c l r i).take n).any (byB (nthE l i).fr))), (13, .int .i64 n)]) (fun _ => (p10, .cells [w, .int .i64 0] 39) :: (p6, .cells [.slice0, .int .i64 0] 39) :: (p3, .cells [.int .i64 c] 23) :: (i1, o1) :: Lw) (fun n => n ≤ (vfN c l r i).length) (fun n => (vfN c l r i).length - n) 0 (Nat.zero_le _) ⟨rfl, rfl, rfl, rfl, rfl, rfl, rfl, congrArg (fun z => some (AV.bool z)) (Bool.and_true _).symm, rfl, trivial⟩ (by exact List.Sublist.refl _) ?_
  intro n hn ih2
  (refine WK.seq ?_; refine WK.seq ?_; refine WK.region ?_; refine St.move ?_; refine St.fieldAddr ?_; refine St.load ?_)
  refine St.lenG rfl (hw.isL.lenG (q := 50) (by kernel_rfl)) ?_
  (refine St.bin ?_; refine WO.nil ?_)
  refine St.splitC (fun q7 => ?_) (fun q7 => ?_)
  · have hnlt : n < (vfN c l r i).length := by simpa using q7
    have hta2 : ((vfN c l r i).take (n + 1)).any (byB (nthE l i).fr) = (Bool.or (((vfN c l r i).take n).any (byB (nthE l i).fr)) (byB (nthE l i).fr (nthE (vfN c l r i) n))) := by
      rw [take_succE hnlt, List.any_append]
      simp
    have ih3 := ih2 (n + 1) hnlt (by omega)
    rw [hta2, show (forB r (nthE l i) && !(Bool.or (((vfN c l r i).take n).any (byB (nthE l i).fr)) (byB (nthE l i).fr (nthE (vfN c l r i) n)))) = ((forB r (nthE l i) && !((vfN c l r i).take n).any (byB (nthE l i).fr)) && !byB (nthE l i).fr (nthE (vfN c l r i) n)) by rw [show ∀ x y : Bool, (!Bool.or x y) = (!x && !y) from by decide, Bool.and_assoc]] at ih3
    generalize (forB r (nthE l i) && !((vfN c l r i).take n).any (byB (nthE l i).fr)) = fl at ih3 ⊢
    cases fl
    · (refine WK.skip ?_; refine WK.seq ?_; refine WK.block ?_; refine WK.regionD ?_; refine St.move ?_; refine St.move ?_; refine St.skip ?_; refine St.skip ?_; refine St.skip ?_; refine St.skip ?_; refine St.skip ?_; refine St.skip ?_; refine St.skip ?_; refine St.skip ?_; refine St.skip ?_; refine St.skip ?_; refine St.skip ?_; refine St.skip ?_; refine St.pickF ?_; refine St.assign ?_; refine WO.nil ?_; refine WK.blk ?_; refine WK.region ?_; refine St.move ?_; refine St.binI ?_; refine St.assign ?_; refine WO.nil ?_)
      refine WK.le ?_ (by exact List.Sublist.refl _) ih3
      exact ⟨rfl, rfl, rfl, rfl, rfl, rfl, rfl, rfl, rfl, trivial⟩
    cases hw with
    | nil h1 h2 => omega
    | row j h1 =>
    (refine WK.skip ?_; refine WK.seq ?_; refine WK.block ?_; refine WK.regionD ?_; refine St.move ?_; refine St.move ?_; refine St.fieldAddr ?_; refine St.load ?_; refine St.move ?_)
    refine St.at ?_
    (refine St.fieldAddr ?_)
    refine St.loadX (fun h2 hh => by
      rcases hwv2 hh (fun x hx => by rw [List.mem_singleton.1 hx]; repeat (first | exact List.Mem.head _ | apply List.Mem.tail)) with ⟨h3 | h3, _⟩ | ⟨b, off, c2, e, kk⟩
      · cases h3
      · cases h3
      · cases e
        exact (Rds.headG (kk.at_ (z := (n : Int)) (n := n) (by omega) hnlt).2.2.2.2).one rfl) ?_
    (refine St.move ?_; refine St.move ?_)
    refine St.at ?_
    (refine St.fieldAddr ?_)
    refine St.loadX (fun h2 hh => (Rds.headG ((hk.vw hh).at_ (z := (i : Int)) (n := i) (by omega) hilt).2.2.2.2).one rfl) ?_
    (refine St.bin ?_; refine St.pickT ?_; refine St.assign ?_; refine WO.nil ?_; refine WK.blk ?_; refine WK.region ?_; refine St.move ?_; refine St.binI ?_; refine St.assign ?_; refine WO.nil ?_)
    refine WK.le ?_ (by exact List.Sublist.refl _) ih3
    exact ⟨rfl, rfl, rfl, rfl, rfl, rfl, rfl, congrArg (fun z => some (AV.bool z)) (by unfold byB; rw [Bool.eq_iff_iff]; simp), rfl, trivial⟩
  have hne2 : n = (vfN c l r i).length := by simp at q7; omega
  subst hne2
  rw [List.take_length]
  cases hfl : (forB r (nthE l i) && !(vfN c l r i).any (byB (nthE l i).fr))
  · (refine WK.exit ?_; refine WK.seq ?_; refine WK.region ?_; refine St.move ?_; refine WO.nil ?_; refine WK.condF ?_; refine WK.skip ?_; refine WK.blk ?_; refine WK.region ?_; refine St.move ?_; refine St.binI ?_; refine St.assign ?_; refine WO.nil ?_)
    refine WK.le ?_ (by exact List.Sublist.refl _) (ih (i + 1, w, Lw) (hkeep fun hn => by rw [hn.1, hn.2] at hfl; simp at hfl) (by simp only; omega))
    exact ⟨rfl, rfl, rfl, rfl, rfl, rfl, rfl, trivial⟩
  have hfl2 : forB r (nthE l i) = true ∧ (vfN c l r i).any (byB (nthE l i).fr) = false := by simpa using hfl
  rw [if_pos hfl2] at hs
  (refine WK.exit ?_; refine WK.seq ?_; refine WK.region ?_; refine St.move ?_; refine WO.nil ?_; refine WK.condT ?_; refine WK.regionD ?_; refine St.fieldAddr ?_; refine St.load ?_; refine St.move ?_; refine St.move ?_)
  refine St.at ?_
  refine St.loadX (fun h2 hh => ((hk.vw hh).at_ (z := (i : Int)) (n := i) (by omega) hilt).agg (by simp [leC]) rfl rfl rfl) ?_
  (refine StD.mkS fun _ _ => ?_)
  rename_i jx hjx
  refine StD.appL (e := 50) (sz := 8) (len := (vfN c l r i).length) (old := enF leC (vfN c l r i)) (n := 1) (new := leC (nthE l i)) (Lk := [(p10, AObj.cells [w, .int .i64 0] 39), (p6, .cells [.slice0, .int .i64 0] 39), (p3, .cells [.int .i64 c] 23), (i1, o1)]) hw (List.perm_append_comm (l₁ := Lw) (l₂ := [(p10, AObj.cells [w, .int .i64 0] 39), (p6, .cells [.slice0, .int .i64 0] 39), (p3, .cells [.int .i64 c] 23), (i1, o1)])) (fun j hj => ?_) ⟨rfl, rfl, rfl, rfl, rfl, rfl, rfl, rfl, rfl, rfl, rfl, rfl⟩ (List.mem_cons_self ..) rfl (by omega) (by omega)
  have hw3 : IsR 50 8 (vfN c l r (i + 1)).length (enF leC (vfN c l r (i + 1))) (.slice j 0 ((vfN c l r i).length + 1) (.m 0)) [(j, .row (enF leC (vfN c l r (i + 1))) 50 8)] := by
    have e1 : (vfN c l r (i + 1)).length = (vfN c l r i).length + 1 := by rw [hs, List.length_append, List.length_singleton]
    rw [← e1]
    exact .row j (enF_len leC_len _)
  have e2 : enF leC (vfN c l r i) ++ leC (nthE l i) = enF leC (vfN c l r (i + 1)) := by rw [hs, enF_app, enF_one]
  rw [e2]
  (refine St.fieldAddr ?_; refine StD.store0 ?_; refine WO.nil2 ?_; refine WK.blk ?_; refine WK.region ?_; refine St.move ?_; refine St.binI ?_; refine St.assign ?_; refine WO.nil ?_)
  refine WK.perm (L' := [(p10, .cells [.slice j 0 ((vfN c l r i).length + 1) (.m 0), .int .i64 0] 39), (p6, .cells [.slice0, .int .i64 0] 39), (p3, .cells [.int .i64 c] 23), (i1, o1), (j, .row (enF leC (vfN c l r (i + 1))) 50 8), (jx, .cells (leC (nthE l i)) 50)]) (by (repeat (first | exact List.Perm.refl _ | refine perm_at 0 rfl ?_ | refine perm_at 1 rfl ?_ | refine perm_at 2 rfl ?_ | refine perm_at 3 rfl ?_ | refine perm_at 4 rfl ?_ | refine perm_at 5 rfl ?_ | refine perm_at 6 rfl ?_ | refine perm_at 7 rfl ?_ | refine perm_at 8 rfl ?_ | refine perm_at 9 rfl ?_))) ?_
  refine WK.le ?_ (by (repeat (first | exact List.Sublist.refl _ | exact List.nil_sublist _ | apply List.Sublist.cons_cons | apply List.Sublist.cons))) (ih (i + 1, _, _) ⟨hilt, hw3⟩ (by simp only; omega))
  exact ⟨rfl, rfl, rfl, rfl, rfl, rfl, rfl, trivial⟩
end Go.Proofs.YtilpinmbngikgaaGreat

/- Layer 9: the reference's open, Can; Voted of both. -/
namespace Go.Proofs.YtilpinmbngikgaaGreat
open Go.Proofs.YtilpinmbngikgaaGreat.Ev

/-- a word that shuts an arbiter out of a round -/
def shutB (a cs rd : Int) (y : Le) : Bool := wordB y a cs && Bool.or (decide (y.rd > rd)) (decide (y.rd = rd) && decide (y.kd = 4))
theorem lw_cast {l : List Le} {a cs : Int} : ∀ {k : Nat}, k ≤ l.length → 0 < lwR l a cs k → ∃ y ∈ l, wordB y a cs = true ∧ y.rd = lwR l a cs k
  | 0, _, h => by simp [lwR] at h
  | k + 1, hk, h => by
    rw [lwR] at h ⊢
    split at h
    · rename_i hc
      rw [if_pos hc]
      by_cases e : lwR l a cs k ≤ (atL l k).rd
      · exact ⟨atL l k, atL_in (by omega), hc, by omega⟩
      · obtain ⟨y, h1, h2, h3⟩ := lw_cast (l := l) (a := a) (cs := cs) (k := k) (by omega) (by omega)
        exact ⟨y, h1, h2, by omega⟩
    · rename_i hc
      rw [if_neg hc]
      exact lw_cast (l := l) (a := a) (cs := cs) (k := k) (by omega) h
theorem open_eq {l : List Le} {a cs rd : Int} (hrd : 0 < rd) : openB l a cs rd = !l.any (shutB a cs rd) := by
  rw [Bool.eq_iff_iff]
  unfold openB
  rw [Bool.and_eq_true, decide_eq_true_eq, decide_eq_true_eq, Bool.not_eq_true', List.any_eq_false]
  constructor
  · rintro ⟨h1, h2⟩ y hy hs
    unfold shutB at hs
    rw [Bool.and_eq_true, Bool.or_eq_true] at hs
    have h3 := (vR_ge hy).2 hs.1
    rcases hs.2 with h4 | h4
    · have := of_decide_eq_true h4
      omega
    · rw [Bool.and_eq_true, decide_eq_true_eq, decide_eq_true_eq] at h4
      have hv : voteB y a cs = true := by rw [← vote_word, hs.1, h4.2]; simp
      have := (vR_ge hy).1 hv
      omega
  · intro h
    constructor
    · apply Classical.byContradiction
      intro hn
      obtain ⟨y, h1, h2, h3, _⟩ := vR_cast (l := l) (a := a) (cs := cs) (by omega)
      apply h y h1
      unfold shutB
      have hw : wordB y a cs = true := by
        have := vote_word y a cs
        rw [h2] at this
        rw [Bool.and_eq_true] at this
        exact this.2
      have h4 : y.kd = 4 := by
        unfold voteB at h2
        rw [Bool.and_eq_true, decide_eq_true_eq] at h2
        exact h2.1
      rw [hw, Bool.true_and, Bool.or_eq_true, Bool.and_eq_true, decide_eq_true_eq, decide_eq_true_eq, decide_eq_true_eq]
      by_cases e : y.rd = rd
      · exact .inr ⟨e, h4⟩
      · exact .inl (by omega)
    · apply Classical.byContradiction
      intro hn
      obtain ⟨y, h1, h2, h3⟩ := lw_cast (l := l) (a := a) (cs := cs) (Nat.le_refl _) (show 0 < lwR l a cs l.length by unfold wR at hn; omega)
      apply h y h1
      unfold shutB
      rw [h2, Bool.true_and, Bool.or_eq_true, decide_eq_true_eq]
      exact .inl (by unfold wR at hn; omega)
set_option maxRecDepth 100000 in
set_option maxHeartbeats 16000000 in
theorem ropen_con (h : Heap) (g : Gd h) (v : AV) (l : List Le) (a cs rd : Int) (hv : LeV h v l) (hl : l.length ≤ 1000000) : Con Tryz.prog Bs 44 [v, .int .i64 a, .int .i64 cs, .int .i64 rd] h [] (.bool (!l.any (shutB a cs rd))) [] := by
  refine Con.start rfl Tryz.func44 rfl rfl Tryz.ntmps44 rfl rfl g ?_
  (refine WK.seq ?_; refine WK.region ?_; refine St.assign ?_; refine WO.nil ?_; refine WK.seq ?_; refine WK.seq ?_; refine WK.region ?_; refine St.assign ?_; refine WO.nil ?_; refine WK.block ?_)
  refine WK.inv (ι := Nat) (fun k => [(0, v), (1, .int .i64 a), (2, .int .i64 cs), (3, .int .i64 rd), (9, .int .i64 k)]) (fun _ => []) (fun k => k ≤ l.length ∧ (l.take k).any (shutB a cs rd) = false) (fun k => l.length - k) 0 ⟨Nat.zero_le _, rfl⟩ ⟨rfl, rfl, rfl, rfl, rfl, trivial⟩ (by (repeat (first | exact List.Sublist.refl _ | exact List.nil_sublist _ | apply List.Sublist.cons_cons | apply List.Sublist.cons))) ?_
  rintro k ⟨hkl, hkn⟩ ih
  (refine WK.seq ?_; refine WK.seq ?_; refine WK.region ?_; refine St.move ?_; refine St.move ?_)
  refine St.lenG rfl hv.llen ?_
  (refine St.bin ?_; refine WO.nil ?_)
  refine St.splitC (fun q => ?_) (fun q => ?_)
  rotate_left
  · have e : k = l.length := by simp at q; omega
    subst e
    rw [List.take_length] at hkn
    (refine WK.exit ?_; refine WK.seq ?_; refine WK.region ?_; refine St.assign ?_; refine WO.nil ?_)
    refine St.ret (by first | exact .tmp .nil | exact .cell .nil | exact .cell (.tmp .nil) | exact .tmp (.tmp .nil) | exact .cell (.cell .nil) | exact .tmp (.cell .nil) | exact .nil | exact .tmp (.cell (.tmp .nil)) | exact .cell (.tmp (.tmp .nil)) | exact .cell (.cell (.tmp .nil)) | exact .tmp (.tmp (.tmp .nil)) | exact .tmp (.tmp (.tmp (.tmp .nil))) | exact .cell (.cell (.cell .nil))) ?_
    rw [hkn]
    rfl
  have hlt : k < l.length := by simp at q; omega
  have hv' := hv
  obtain ⟨b, off, m, rfl, hk⟩ := hv'.ne (by omega)
  have hat : ∀ {V : Ob} {h2 : Heap}, Vw h [] V h2 → Rds h2 b (off + (k : Int).toNat * 8) (leC (nthE l k)) := fun hh => (hk.vw hh).at_ (z := (k : Int)) (n := k) (by omega) hlt
  have hta : (l.take (k + 1)).any (shutB a cs rd) = shutB a cs rd (nthE l k) := by
    rw [take_succE hlt, List.any_append, hkn]
    simp
  have hbad : shutB a cs rd (nthE l k) = true → l.any (shutB a cs rd) = true := fun hb => List.any_eq_true.2 ⟨_, nthE_mem hlt, hb⟩
  have hgo : shutB a cs rd (nthE l k) = false → k + 1 ≤ l.length ∧ (l.take (k + 1)).any (shutB a cs rd) = false := fun hb => ⟨hlt, by rw [hta, hb]⟩
  (refine WK.skip ?_; refine WK.seq ?_; refine WK.block ?_; refine WK.seq ?_; refine WK.region ?_; refine St.move ?_; refine St.move ?_)
  refine St.at ?_
  refine St.loadX (fun h2 hh => (hat hh).agg (by simp [leC]) rfl rfl rfl) ?_
  (refine St.move ?_; refine St.move ?_)
  refine St.call (fun _ => rfl) (fun h2 hh => word_con h2 hh.gd (nthE l k) a cs) ?_
  cases hw : wordB (nthE l k) a cs
  · (refine St.assign ?_; refine WO.nil ?_; refine WK.seq ?_; refine WK.region ?_; refine St.move ?_; refine St.move ?_; refine St.skip ?_; refine St.skip ?_; refine St.skip ?_; refine St.skip ?_; refine St.skip ?_; refine St.skip ?_; refine St.skip ?_; refine St.skip ?_; refine St.skip ?_; refine St.skip ?_; refine St.skip ?_; refine St.skip ?_; refine St.skip ?_; refine St.skip ?_; refine St.skip ?_; refine St.skip ?_; refine St.skip ?_; refine St.skip ?_; refine St.skip ?_; refine St.skip ?_; refine St.skip ?_; refine St.skip ?_; refine St.skip ?_; refine St.skip ?_; refine St.pickF ?_; refine WO.nil ?_; refine WK.condF ?_; refine WK.skip ?_; refine WK.blk ?_; refine WK.region ?_; refine St.move ?_; refine St.binI ?_; refine St.assign ?_; refine WO.nil ?_)
    refine WK.le ?_ (by (repeat (first | exact List.Sublist.refl _ | exact List.nil_sublist _ | apply List.Sublist.cons_cons | apply List.Sublist.cons))) (ih (k + 1) (hgo (by simp [shutB, hw])) (by omega))
    exact ⟨rfl, rfl, rfl, rfl, rfl, trivial⟩
  (refine St.assign ?_; refine WO.nil ?_; refine WK.seq ?_; refine WK.region ?_; refine St.move ?_; refine St.move ?_; refine St.move ?_; refine St.move ?_)
  refine St.at ?_
  (refine St.fieldAddr ?_)
  refine St.loadX (fun h2 hh => (Rds.headG (hat hh).2.2.2).one rfl) ?_
  (refine St.move ?_; refine St.bin ?_; refine St.move ?_)
  refine St.split (fun q1 => ?_) (fun q1 => ?_)
  · have e1 : (nthE l k).rd > rd := by simpa using q1
    (refine St.skip ?_; refine St.skip ?_; refine St.skip ?_; refine St.skip ?_; refine St.skip ?_; refine St.skip ?_; refine St.skip ?_; refine St.skip ?_; refine St.skip ?_; refine St.skip ?_; refine St.skip ?_; refine St.skip ?_; refine St.skip ?_; refine St.skip ?_; refine St.skip ?_; refine St.pickT ?_; refine St.pickT ?_; refine WO.nil ?_; refine WK.condT ?_; refine WK.seq ?_; refine WK.region ?_; refine St.assign ?_; refine WO.nil ?_)
    refine St.ret (by first | exact .tmp .nil | exact .cell .nil | exact .cell (.tmp .nil) | exact .tmp (.tmp .nil) | exact .cell (.cell .nil) | exact .tmp (.cell .nil) | exact .nil | exact .tmp (.cell (.tmp .nil)) | exact .cell (.tmp (.tmp .nil)) | exact .cell (.cell (.tmp .nil)) | exact .tmp (.tmp (.tmp .nil)) | exact .tmp (.tmp (.tmp (.tmp .nil))) | exact .cell (.cell (.cell .nil))) ?_
    rw [hbad (by simp [shutB, hw, e1])]
    rfl
  have e1 : ¬ (nthE l k).rd > rd := by simp at q1; omega
  (refine St.move ?_; refine St.move ?_)
  refine St.at ?_
  (refine St.fieldAddr ?_)
  refine St.loadX (fun h2 hh => (Rds.headG (hat hh).2.2.2).one rfl) ?_
  (refine St.move ?_; refine St.bin ?_; refine St.move ?_)
  refine St.split (fun q2 => ?_) (fun q2 => ?_)
  rotate_left
  · have e2 : ¬ (nthE l k).rd = rd := by simpa using q2
    (refine St.skip ?_; refine St.skip ?_; refine St.skip ?_; refine St.skip ?_; refine St.skip ?_; refine St.skip ?_; refine St.pickF ?_; refine St.pickF ?_; refine St.pickT ?_; refine WO.nil ?_; refine WK.condF ?_; refine WK.skip ?_; refine WK.blk ?_; refine WK.region ?_; refine St.move ?_; refine St.binI ?_; refine St.assign ?_; refine WO.nil ?_)
    refine WK.le ?_ (by (repeat (first | exact List.Sublist.refl _ | exact List.nil_sublist _ | apply List.Sublist.cons_cons | apply List.Sublist.cons))) (ih (k + 1) (hgo (by simp [shutB, hw, e1, e2])) (by omega))
    exact ⟨rfl, rfl, rfl, rfl, rfl, trivial⟩
  have e2 : (nthE l k).rd = rd := by simpa using q2
  (refine St.move ?_; refine St.move ?_)
  refine St.at ?_
  (refine St.fieldAddr ?_)
  refine St.loadX (fun h2 hh => (Rds.headG (hat hh).2.2).one rfl) ?_
  (refine St.bin ?_; refine St.pickT ?_; refine St.pickF ?_; refine St.pickT ?_; refine WO.nil ?_)
  refine St.splitC (fun q3 => ?_) (fun q3 => ?_)
  · have e3 : (nthE l k).kd = 4 := by simpa using q3
    (refine WK.seq ?_; refine WK.region ?_; refine St.assign ?_; refine WO.nil ?_)
    refine St.ret (by first | exact .tmp .nil | exact .cell .nil | exact .cell (.tmp .nil) | exact .tmp (.tmp .nil) | exact .cell (.cell .nil) | exact .tmp (.cell .nil) | exact .nil | exact .tmp (.cell (.tmp .nil)) | exact .cell (.tmp (.tmp .nil)) | exact .cell (.cell (.tmp .nil)) | exact .tmp (.tmp (.tmp .nil)) | exact .tmp (.tmp (.tmp (.tmp .nil))) | exact .cell (.cell (.cell .nil))) ?_
    rw [hbad (by simp [shutB, hw, e1, e2, e3])]
    rfl
  · have e3 : ¬ (nthE l k).kd = 4 := by simpa using q3
    (refine WK.skip ?_; refine WK.blk ?_; refine WK.region ?_; refine St.move ?_; refine St.binI ?_; refine St.assign ?_; refine WO.nil ?_)
    refine WK.le ?_ (by (repeat (first | exact List.Sublist.refl _ | exact List.nil_sublist _ | apply List.Sublist.cons_cons | apply List.Sublist.cons))) (ih (k + 1) (hgo (by simp [shutB, hw, e1, e2, e3])) (by omega))
    exact ⟨rfl, rfl, rfl, rfl, rfl, trivial⟩
def askB (c : Int) (a id : Int) : Bool := arB c a && inB id 1 1099511627776
def vtE (c : Int) (l : List Le) (a id : Int) : Int := if errL c l ≠ 0 then errL c l else if askB c a id = true then 0 else 1
def vtR (c : Int) (l : List Le) (a id : Int) : Int := if vtE c l a id = 0 then vR l a id else 0
def vtF (c : Int) (l : List Le) (a id : Int) : Int := if vtE c l a id = 0 then vF l a id else 0
theorem vt_err {c : Int} {l : List Le} {a id : Int} (he : errL c l ≠ 0) : vtE c l a id = errL c l ∧ vtR c l a id = 0 ∧ vtF c l a id = 0 := by
  have h1 : vtE c l a id = errL c l := by unfold vtE; rw [if_pos he]
  refine ⟨h1, ?_, ?_⟩
  · unfold vtR; rw [h1, if_neg he]
  · unfold vtF; rw [h1, if_neg he]
theorem vt_no {c : Int} {l : List Le} {a id : Int} (he : errL c l = 0) (hq : askB c a id = false) : vtE c l a id = 1 ∧ vtR c l a id = 0 ∧ vtF c l a id = 0 := by
  have h1 : vtE c l a id = 1 := by unfold vtE; rw [if_neg (by simp [he]), if_neg (by simp [hq])]
  refine ⟨h1, ?_, ?_⟩
  · unfold vtR; rw [h1, if_neg (by omega)]
  · unfold vtF; rw [h1, if_neg (by omega)]
theorem vt_ok {c : Int} {l : List Le} {a id : Int} (he : errL c l = 0) (hq : askB c a id = true) : vtE c l a id = 0 ∧ vtR c l a id = vR l a id ∧ vtF c l a id = vF l a id := by
  have h1 : vtE c l a id = 0 := by unfold vtE; rw [if_neg (by simp [he]), if_pos hq]
  refine ⟨h1, ?_, ?_⟩
  · unfold vtR; rw [h1, if_pos rfl]
  · unfold vtF; rw [h1, if_pos rfl]
set_option maxRecDepth 100000 in
set_option maxHeartbeats 8000000 in
theorem voted_con (h : Heap) (g : Gd h) (c : Int) (v : AV) (l : List Le) (a id : Int) (hv : LeV h v l) (hl : l.length ≤ 1000000) : Con Tryz.prog Bs 8 [.agg [.int .i64 c], v, .int .i64 a, .int .i64 id] h [] (.tup [.int .i64 (vtR c l a id), .int .i64 (vtF c l a id), .int .i64 (vtE c l a id)]) [] := by
  refine Con.start rfl Tryz.func8 rfl rfl Tryz.ntmps8 rfl rfl g ?_
  (refine WK.seq ?_; refine WK.region ?_; refine St.box fun _ _ => ?_; refine St.assign ?_; refine St.assign ?_; refine St.assign ?_; refine WO.nil ?_; refine WK.seq ?_; refine WK.seq ?_; refine WK.regionD ?_; refine St.load ?_; refine St.move ?_; refine St.load ?_; refine St.move ?_)
  rename_i p4 hp4
  refine St.call (fun _ => rfl) (fun h2 hh => isArbiter_con h2 hh.gd c a) ?_
  (refine St.move ?_)
  refine St.call (fun _ => rfl) (fun h2 hh => isCase_con h2 hh.gd id) ?_
  (refine StD.mkS fun _ _ => ?_)
  rename_i j hj
  refine StD.callV (v := .int .i64 (vtE c l a id)) [(7, j, .cells [.bool (arB c a), .bool (inB id 1 1099511627776)] 4)] (fun _ => rfl) (fun x hx => by obtain rfl := List.mem_singleton.1 hx; exact ⟨List.Mem.head _, show maskAt _ _ 7 = true by decide +kernel⟩) (fun h2 hh => checkAsked_con h2 hh.gd c v l (hv.vw hh) j _ _ _ (bo_eh hh (List.mem_cons_self ..))) ?_
  by_cases he : errL c l = 0
  rotate_left
  · obtain ⟨e1, e2, e3⟩ := vt_err (a := a) (id := id) he
    rw [e1, e2, e3]
    (refine St.assign ?_; refine WO.nil1 ?_; refine WK.seq ?_; refine WK.region ?_; refine St.move ?_; refine St.bin ?_; refine WO.nil ?_)
    refine St.splitC (fun q => ?_) (fun q => ?_)
    rotate_left
    · exact absurd (by simpa using q) he
    (refine WK.seq ?_; refine WK.region ?_; refine St.move ?_; refine St.assign ?_; refine St.assign ?_; refine St.assign ?_; refine WO.nil ?_)
    refine St.ret (by first | exact .tmp .nil | exact .cell .nil | exact .cell (.tmp .nil) | exact .tmp (.tmp .nil) | exact .cell (.cell .nil) | exact .tmp (.cell .nil) | exact .nil | exact .tmp (.cell (.tmp .nil)) | exact .cell (.tmp (.tmp .nil)) | exact .cell (.cell (.tmp .nil)) | exact .tmp (.tmp (.tmp .nil)) | exact .tmp (.tmp (.tmp (.tmp .nil))) | exact .cell (.cell (.cell .nil))) ?_
    rfl
  cases hq : askB c a id
  · obtain ⟨e1, e2, e3⟩ := vt_no he hq
    rw [e1, e2, e3]
    (refine St.assign ?_; refine WO.nil1 ?_; refine WK.seq ?_; refine WK.region ?_; refine St.move ?_; refine St.bin ?_; refine WO.nil ?_; refine WK.condT ?_; refine WK.seq ?_; refine WK.region ?_; refine St.move ?_; refine St.assign ?_; refine St.assign ?_; refine St.assign ?_; refine WO.nil ?_)
    refine St.ret (by first | exact .tmp .nil | exact .cell .nil | exact .cell (.tmp .nil) | exact .tmp (.tmp .nil) | exact .cell (.cell .nil) | exact .tmp (.cell .nil) | exact .nil | exact .tmp (.cell (.tmp .nil)) | exact .cell (.tmp (.tmp .nil)) | exact .cell (.cell (.tmp .nil)) | exact .tmp (.tmp (.tmp .nil)) | exact .tmp (.tmp (.tmp (.tmp .nil))) | exact .cell (.cell (.cell .nil))) ?_
    rfl
  obtain ⟨e1, e2, e3⟩ := vt_ok he hq
  rw [e1, e2, e3]
  (refine St.assign ?_; refine WO.nil1 ?_; refine WK.seq ?_; refine WK.region ?_; refine St.move ?_; refine St.bin ?_; refine WO.nil ?_; refine WK.condF ?_; refine WK.skip ?_; refine WK.seq ?_; refine WK.region ?_; refine St.move ?_; refine St.move ?_; refine St.move ?_)
  refine St.call (fun _ => rfl) (fun h2 hh => lastVote_con h2 hh.gd v l a id (hv.vw hh) hl) ?_
  (refine St.move ?_; refine St.extract ?_; refine St.extract ?_; refine St.assign ?_; refine St.assign ?_; refine WO.nil ?_; refine WK.seq ?_; refine WK.region ?_; refine St.move ?_; refine St.move ?_; refine St.assign ?_; refine St.assign ?_; refine St.assign ?_; refine WO.nil ?_)
  refine St.ret (by first | exact .tmp .nil | exact .cell .nil | exact .cell (.tmp .nil) | exact .tmp (.tmp .nil) | exact .cell (.cell .nil) | exact .tmp (.cell .nil) | exact .nil | exact .tmp (.cell (.tmp .nil)) | exact .cell (.tmp (.tmp .nil)) | exact .cell (.cell (.tmp .nil)) | exact .tmp (.tmp (.tmp .nil)) | exact .tmp (.tmp (.tmp (.tmp .nil))) | exact .cell (.cell (.cell .nil))) ?_
  rfl
set_option maxRecDepth 100000 in
set_option maxHeartbeats 8000000 in
theorem rvoted_con (h : Heap) (g : Gd h) (c : Int) (v : AV) (l : List Le) (a id : Int) (hv : LeV h v l) (hl : l.length ≤ 1000000) : Con Tryz.prog Bs 9 [.agg [.int .i64 c], v, .int .i64 a, .int .i64 id] h [] (.tup [.int .i64 (vtR c l a id), .int .i64 (vtF c l a id), .int .i64 (vtE c l a id)]) [] := by
  refine Con.start rfl Tryz.func9 rfl rfl Tryz.ntmps9 rfl rfl g ?_
  (refine WK.seq ?_; refine WK.region ?_; refine St.box fun _ _ => ?_; refine St.assign ?_; refine St.assign ?_; refine St.assign ?_; refine WO.nil ?_; refine WK.seq ?_; refine WK.region ?_; refine St.load ?_; refine St.move ?_)
  rename_i p4 hp4
  refine St.call (fun _ => rfl) (fun h2 hh => listed_con h2 hh.gd c v l (hv.vw hh)) ?_
  (refine St.assign ?_; refine WO.nil ?_; refine WK.seq ?_; refine WK.seq ?_; refine WK.region ?_; refine St.move ?_; refine St.bin ?_; refine WO.nil ?_)
  refine St.splitC (fun q => ?_) (fun q => ?_)
  · have hne : errL c l ≠ 0 := by simpa using q
    obtain ⟨e1, e2, e3⟩ := vt_err (a := a) (id := id) hne
    rw [e1, e2, e3]
    (refine WK.seq ?_; refine WK.region ?_; refine St.move ?_; refine St.assign ?_; refine St.assign ?_; refine St.assign ?_; refine WO.nil ?_)
    refine St.ret (by first | exact .tmp .nil | exact .cell .nil | exact .cell (.tmp .nil) | exact .tmp (.tmp .nil) | exact .cell (.cell .nil) | exact .tmp (.cell .nil) | exact .nil | exact .tmp (.cell (.tmp .nil)) | exact .cell (.tmp (.tmp .nil)) | exact .cell (.cell (.tmp .nil)) | exact .tmp (.tmp (.tmp .nil)) | exact .tmp (.tmp (.tmp (.tmp .nil))) | exact .cell (.cell (.cell .nil))) ?_
    rfl
  have he : errL c l = 0 := by simpa using q
  have hcb := crt_bd (errL_ok he).1
  (refine WK.skip ?_; refine WK.seq ?_; refine WK.seq ?_; refine WK.region ?_; refine St.move ?_; refine St.fieldAddr ?_; refine St.load ?_; refine St.binI ?_)
  refine St.call (v := .bool (arB c a)) (fun _ => rfl) (fun h2 hh => by rw [← arB_in]; exact in_con h2 hh.gd a 0 (c - 1)) ?_
  cases h1 : arB c a
  · obtain ⟨e1, e2, e3⟩ := vt_no he (show askB c a id = false by unfold askB; rw [h1]; rfl)
    rw [e1, e2, e3]
    (refine St.un ?_; refine St.move ?_; refine St.skip ?_; refine St.skip ?_; refine St.skip ?_; refine St.pickT ?_; refine WO.nil ?_; refine WK.condT ?_; refine WK.seq ?_; refine WK.region ?_; refine St.assign ?_; refine St.assign ?_; refine St.assign ?_; refine WO.nil ?_)
    refine St.ret (by first | exact .tmp .nil | exact .cell .nil | exact .cell (.tmp .nil) | exact .tmp (.tmp .nil) | exact .cell (.cell .nil) | exact .tmp (.cell .nil) | exact .nil | exact .tmp (.cell (.tmp .nil)) | exact .cell (.tmp (.tmp .nil)) | exact .cell (.cell (.tmp .nil)) | exact .tmp (.tmp (.tmp .nil)) | exact .tmp (.tmp (.tmp (.tmp .nil))) | exact .cell (.cell (.cell .nil))) ?_
    rfl
  (refine St.un ?_; refine St.move ?_; refine St.move ?_)
  refine St.call (fun _ => rfl) (fun h2 hh => in_con h2 hh.gd id 1 1099511627776) ?_
  cases h2 : inB id 1 1099511627776
  · obtain ⟨e1, e2, e3⟩ := vt_no he (show askB c a id = false by unfold askB; rw [h1, h2]; rfl)
    rw [e1, e2, e3]
    (refine St.un ?_; refine St.pickF ?_; refine WO.nil ?_; refine WK.condT ?_; refine WK.seq ?_; refine WK.region ?_; refine St.assign ?_; refine St.assign ?_; refine St.assign ?_; refine WO.nil ?_)
    refine St.ret (by first | exact .tmp .nil | exact .cell .nil | exact .cell (.tmp .nil) | exact .tmp (.tmp .nil) | exact .cell (.cell .nil) | exact .tmp (.cell .nil) | exact .nil | exact .tmp (.cell (.tmp .nil)) | exact .cell (.tmp (.tmp .nil)) | exact .cell (.cell (.tmp .nil)) | exact .tmp (.tmp (.tmp .nil)) | exact .tmp (.tmp (.tmp (.tmp .nil))) | exact .cell (.cell (.cell .nil))) ?_
    rfl
  obtain ⟨e1, e2, e3⟩ := vt_ok he (show askB c a id = true by unfold askB; rw [h1, h2]; rfl)
  rw [e1, e2, e3]
  (refine St.un ?_; refine St.pickF ?_; refine WO.nil ?_; refine WK.condF ?_; refine WK.skip ?_; refine WK.seq ?_; refine WK.region ?_; refine St.move ?_; refine St.move ?_; refine St.move ?_)
  refine St.call (fun _ => rfl) (fun h2 hh => last_con h2 hh.gd v l a id (hv.vw hh) hl) ?_
  (refine St.move ?_; refine St.extract ?_; refine St.extract ?_; refine St.assign ?_; refine St.assign ?_; refine WO.nil ?_; refine WK.seq ?_; refine WK.region ?_; refine St.move ?_; refine St.move ?_; refine St.assign ?_; refine St.assign ?_; refine St.assign ?_; refine WO.nil ?_)
  refine St.ret (by first | exact .tmp .nil | exact .cell .nil | exact .cell (.tmp .nil) | exact .tmp (.tmp .nil) | exact .cell (.cell .nil) | exact .tmp (.cell .nil) | exact .nil | exact .tmp (.cell (.tmp .nil)) | exact .cell (.tmp (.tmp .nil)) | exact .cell (.cell (.tmp .nil)) | exact .tmp (.tmp (.tmp .nil)) | exact .tmp (.tmp (.tmp (.tmp .nil))) | exact .cell (.cell (.cell .nil))) ?_
  rfl
end Go.Proofs.YtilpinmbngikgaaGreat

/- Layer 9: the reference's Can. -/
namespace Go.Proofs.YtilpinmbngikgaaGreat
open Go.Proofs.YtilpinmbngikgaaGreat.Ev

/-- a vote of an arbiter for a finding in a round of a case -/
def vwB (id rd f a : Int) (y : Le) : Bool := decide (y.fr = a) && forB (id, rd, f) y
def okN (l : List Le) (id rd f : Int) (pb : Bool) (a : Int) : Bool := Bool.or (openB l a id rd) (pb && l.any (vwB id rd f a))
def rcN (l : List Le) (id rd f : Int) (pb : Bool) (k : Nat) : Nat := ((List.range k).filter fun (a : Nat) => okN l id rd f pb (a : Int)).length
theorem rcN_succ (l : List Le) (id rd f : Int) (pb : Bool) (k : Nat) : rcN l id rd f pb (k + 1) = rcN l id rd f pb k + (if okN l id rd f pb (k : Int) = true then 1 else 0) := by
  unfold rcN
  rw [List.range_succ, List.filter_append, List.length_append]
  congr 1
  by_cases h : okN l id rd f pb (k : Int) = true
  · simp [h]
  · simp [h]
theorem lk_bit {l : List Le} {r : Rl3} {a : Nat} (hfr : ∀ x ∈ l, 0 ≤ x.fr) : (lkT (tlN l l.length) r).testBit a = true ↔ ∃ y ∈ l, forB r y = true ∧ y.fr = (a : Int) := by
  constructor
  · intro h
    obtain ⟨y, y1, y2, y3, y4⟩ := tl_bit (Nat.le_refl _) _ (lkT_mem h) h
    have := hfr y y1
    exact ⟨y, y1, forB_iff.2 ⟨y2, y3⟩, by omega⟩
  · rintro ⟨y, y1, y2, y3⟩
    obtain ⟨i, hi, rfl⟩ := in_atL y1
    obtain ⟨h4, hr⟩ := forB_iff.1 y2
    obtain ⟨n, n1, n2⟩ := tl_has (Nat.le_refl _) i hi h4
    rw [hr] at n1
    have := lkT_eq (tlN_keys _) n1
    simp only at this
    rw [this]
    rw [y3] at n2
    exact n2
theorem rc_eq {c : Int} {l : List Le} (he : errL c l = 0) (id rd : Int) : rcN l id rd (prF l id rd) (prB l id rd) c.toNat = if prB l id rd = true then popN (ableN c l id rd) else popN (opN l id rd c.toNat) := by
  have hcb := crt_bd (errL_ok he).1
  have hfr := frm_fr he
  unfold rcN
  cases hB : prB l id rd
  · rw [if_neg (by simp)]
    unfold popN
    rw [count_le (m := c.toNat) (n := 7) (by omega) fun a h1 h2 => by
      cases hb : (opN l id rd c.toNat).testBit a
      · rfl
      · have := (opN_bit.1 hb).1
        omega]
    congr 1
    refine List.filter_congr fun a ha => ?_
    have := List.mem_range.1 ha
    rw [Bool.eq_iff_iff, opN_bit]
    unfold okN
    simp
    omega
  · rw [if_pos rfl]
    have hbit : ∀ a : Nat, (ableN c l id rd).testBit a = true ↔ (a < c.toNat ∧ openB l a id rd = true) ∨ ∃ y ∈ l, forB (id, rd, prF l id rd) y = true ∧ y.fr = (a : Int) := fun a => by
      unfold ableN
      rw [Nat.testBit_or, Bool.or_eq_true, opN_bit, lk_bit fun x hx => (hfr x hx).1]
    unfold popN
    rw [count_le (m := c.toNat) (n := 7) (by omega) fun a h1 h2 => by
      cases hb : (ableN c l id rd).testBit a
      · rfl
      · rcases (hbit a).1 hb with h3 | ⟨y, y1, y2, y3⟩
        · omega
        · have := hfr y y1
          omega]
    congr 1
    refine List.filter_congr fun a ha => ?_
    have hac := List.mem_range.1 ha
    rw [Bool.eq_iff_iff, hbit a]
    unfold okN
    rw [Bool.true_and]
    show Bool.or _ _ = true ↔ _
    rw [show ∀ x y : Bool, (Bool.or x y = true) = (x = true ∨ y = true) from by decide, List.any_eq_true]
    constructor
    · rintro (h | ⟨y, y1, y2⟩)
      · exact .inl ⟨hac, h⟩
      · unfold vwB at y2
        rw [Bool.and_eq_true, decide_eq_true_eq] at y2
        exact .inr ⟨y, y1, y2.2, y2.1⟩
    · rintro (h | ⟨y, y1, y2, y3⟩)
      · exact .inl h.2
      · exact .inr ⟨y, y1, by unfold vwB; rw [y2]; simp [y3]⟩
set_option maxRecDepth 100000 in
set_option maxHeartbeats 32000000 in
theorem rcan_con (h : Heap) (g : Gd h) (c : Int) (v : AV) (l : List Le) (id rd : Int) (hv : LeV h v l) (hl : l.length ≤ 1000000) : Con Tryz.prog Bs 13 [.agg [.int .i64 c], v, .int .i64 id, .int .i64 rd] h [] (.tup [.int .i64 (canF c l id rd), .bool (canO c l id rd), .bool (canA c l id rd), .int .i64 (canE c l id rd)]) [] := by
  refine Con.start rfl Tryz.func13 rfl rfl Tryz.ntmps13 rfl rfl g ?_
  (refine WK.seq ?_; refine WK.region ?_; refine St.box fun _ _ => ?_; refine St.assign ?_; refine St.assign ?_; refine St.assign ?_; refine St.assign ?_; refine WO.nil ?_; refine WK.seq ?_; refine WK.region ?_; refine St.load ?_; refine St.move ?_)
  rename_i p4 hp4
  refine St.call (fun _ => rfl) (fun h2 hh => listed_con h2 hh.gd c v l (hv.vw hh)) ?_
  (refine St.assign ?_; refine WO.nil ?_; refine WK.seq ?_; refine WK.seq ?_; refine WK.region ?_; refine St.move ?_; refine St.bin ?_; refine WO.nil ?_)
  refine St.splitC (fun q => ?_) (fun q => ?_)
  · have hne : errL c l ≠ 0 := by simpa using q
    have e0 : canE c l id rd = errL c l := by unfold canE; rw [if_pos hne]
    (refine WK.seq ?_; refine WK.region ?_; refine St.move ?_; refine St.assign ?_; refine St.assign ?_; refine St.assign ?_; refine St.assign ?_; refine WO.nil ?_)
    refine St.ret (by first | exact .tmp .nil | exact .cell .nil | exact .cell (.tmp .nil) | exact .tmp (.tmp .nil) | exact .cell (.cell .nil) | exact .tmp (.cell .nil) | exact .nil | exact .tmp (.cell (.tmp .nil)) | exact .cell (.tmp (.tmp .nil)) | exact .cell (.cell (.tmp .nil)) | exact .tmp (.tmp (.tmp .nil)) | exact .tmp (.tmp (.tmp (.tmp .nil))) | exact .cell (.cell (.cell .nil))) ?_
    simp [oneOf, canF, canO, canA, e0, hne]
  have he : errL c l = 0 := by simpa using q
  have hcb := crt_bd (errL_ok he).1
  have hno : (inB id 1 1099511627776 && rdB rd) = false → canE c l id rd = 1 := fun hn => by unfold canE; rw [if_neg (by simp [he]), if_neg (by simp [hn])]
  (refine WK.skip ?_; refine WK.seq ?_; refine WK.seq ?_; refine WK.region ?_; refine St.move ?_)
  refine St.call (fun _ => rfl) (fun h2 hh => in_con h2 hh.gd id 1 1099511627776) ?_
  cases h1 : inB id 1 1099511627776
  · have e0 := hno (by rw [h1]; rfl)
    (refine St.un ?_; refine St.move ?_; refine St.skip ?_; refine St.skip ?_; refine St.skip ?_; refine St.pickT ?_; refine WO.nil ?_; refine WK.condT ?_; refine WK.seq ?_; refine WK.region ?_; refine St.assign ?_; refine St.assign ?_; refine St.assign ?_; refine St.assign ?_; refine WO.nil ?_)
    refine St.ret (by first | exact .tmp .nil | exact .cell .nil | exact .cell (.tmp .nil) | exact .tmp (.tmp .nil) | exact .cell (.cell .nil) | exact .tmp (.cell .nil) | exact .nil | exact .tmp (.cell (.tmp .nil)) | exact .cell (.tmp (.tmp .nil)) | exact .cell (.cell (.tmp .nil)) | exact .tmp (.tmp (.tmp .nil)) | exact .tmp (.tmp (.tmp (.tmp .nil))) | exact .cell (.cell (.cell .nil))) ?_
    simp [oneOf, canF, canO, canA, e0]
  (refine St.un ?_; refine St.move ?_; refine St.move ?_)
  refine St.call (fun _ => rfl) (fun h2 hh => in_con h2 hh.gd rd 1 1048576) ?_
  cases h2 : inB rd 1 1048576
  · have e0 := hno (by rw [h1]; exact h2)
    (refine St.un ?_; refine St.pickF ?_; refine WO.nil ?_; refine WK.condT ?_; refine WK.seq ?_; refine WK.region ?_; refine St.assign ?_; refine St.assign ?_; refine St.assign ?_; refine St.assign ?_; refine WO.nil ?_)
    refine St.ret (by first | exact .tmp .nil | exact .cell .nil | exact .cell (.tmp .nil) | exact .tmp (.tmp .nil) | exact .cell (.cell .nil) | exact .tmp (.cell .nil) | exact .nil | exact .tmp (.cell (.tmp .nil)) | exact .cell (.tmp (.tmp .nil)) | exact .cell (.cell (.tmp .nil)) | exact .tmp (.tmp (.tmp .nil)) | exact .tmp (.tmp (.tmp (.tmp .nil))) | exact .cell (.cell (.cell .nil))) ?_
    simp [oneOf, canF, canO, canA, e0]
  have e0 : canE c l id rd = 0 := by unfold canE; rw [if_neg (by simp [he]), if_pos (by rw [h1]; exact h2)]
  have hrd : 0 < rd := by have := inB_yes h2; omega
  have hrc := rc_eq he id rd
  have hO : canO c l id rd = (prB l id rd && decide ((popN (ableN c l id rd) : Int) ≥ maj c)) := by unfold canO; rw [e0]; simp
  have hA : canA c l id rd = (!prB l id rd && decide ((popN (opN l id rd c.toNat) : Int) ≥ maj c)) := by unfold canA; rw [e0]; simp
  have hF : canF c l id rd = if canO c l id rd = true then prF l id rd else 0 := rfl
  (refine St.un ?_; refine St.pickF ?_; refine WO.nil ?_; refine WK.condF ?_; refine WK.skip ?_; refine WK.seq ?_; refine WK.region ?_; refine St.move ?_; refine St.move ?_; refine St.move ?_)
  refine St.call (fun _ => rfl) (fun h2 hh => proposal_con h2 hh.gd v l id rd (hv.vw hh) hl) ?_
  rw [e0, hF, hO, hA]
  generalize prF l id rd = f at hrc ⊢
  generalize prB l id rd = pb at hrc ⊢
  (refine St.move ?_; refine St.extract ?_; refine St.extract ?_; refine St.assign ?_; refine St.assign ?_; refine WO.nil ?_; refine WK.seq ?_; refine WK.region ?_; refine St.assign ?_; refine WO.nil ?_; refine WK.seq ?_; refine WK.seq ?_; refine WK.region ?_; refine St.assign ?_; refine WO.nil ?_; refine WK.block ?_)
  refine WK.inv (ι := Nat) (fun k => [(1, v), (2, .int .i64 id), (3, .int .i64 rd), (4, .ptr p4 0), (13, .int .i64 f), (14, .bool pb), (15, .int .i64 ((rcN l id rd f pb k : Nat) : Int)), (16, .int .i64 k)]) (fun _ => [(p4, .cells [.int .i64 c] 23)]) (fun k => k ≤ c.toNat ∧ rcN l id rd f pb k ≤ k) (fun k => c.toNat - k) 0 ⟨Nat.zero_le _, Nat.le_refl _⟩ ⟨rfl, rfl, rfl, rfl, rfl, rfl, rfl, rfl, trivial⟩ (by (repeat (first | exact List.Sublist.refl _ | exact List.nil_sublist _ | apply List.Sublist.cons_cons | apply List.Sublist.cons))) ?_
  rintro k ⟨hk, hrk⟩ ih
  have hs := rcN_succ l id rd f pb k
  (refine WK.seq ?_; refine WK.seq ?_; refine WK.region ?_; refine St.move ?_; refine St.fieldAddr ?_; refine St.load ?_; refine St.bin ?_; refine WO.nil ?_)
  refine St.splitC (fun q => ?_) (fun q => ?_)
  rotate_left
  · have e : k = c.toNat := by simp at q; omega
    subst e
    (refine WK.exit ?_; refine WK.seq ?_; refine WK.seq ?_; refine WK.region ?_; refine St.move ?_; refine St.load ?_)
    refine St.call (fun _ => rfl) (fun h2 hh => rmajority_con h2 hh.gd c) ?_
    (refine St.bin ?_; refine WO.nil ?_)
    refine St.splitC (fun q2 => ?_) (fun q2 => ?_)
    · have hlt : ((rcN l id rd f pb c.toNat : Nat) : Int) < maj c := by simpa using q2
      rw [hrc] at hlt
      (refine WK.seq ?_; refine WK.region ?_; refine St.assign ?_; refine St.assign ?_; refine St.assign ?_; refine St.assign ?_; refine WO.nil ?_)
      refine St.ret (by first | exact .tmp .nil | exact .cell .nil | exact .cell (.tmp .nil) | exact .tmp (.tmp .nil) | exact .cell (.cell .nil) | exact .tmp (.cell .nil) | exact .nil | exact .tmp (.cell (.tmp .nil)) | exact .cell (.tmp (.tmp .nil)) | exact .cell (.cell (.tmp .nil)) | exact .tmp (.tmp (.tmp .nil)) | exact .tmp (.tmp (.tmp (.tmp .nil))) | exact .cell (.cell (.cell .nil))) ?_
      cases pb
      · rw [if_neg (by simp)] at hlt
        have : ¬ ((popN (opN l id rd c.toNat) : Int) ≥ maj c) := by omega
        simp [oneOf, this]
      · rw [if_pos rfl] at hlt
        have : ¬ ((popN (ableN c l id rd) : Int) ≥ maj c) := by omega
        simp [oneOf, this]
    · have hlt : ¬ ((rcN l id rd f pb c.toNat : Nat) : Int) < maj c := by simpa using q2
      rw [hrc] at hlt
      cases pb
      · rw [if_neg (by simp)] at hlt
        have : ((popN (opN l id rd c.toNat) : Int) ≥ maj c) := by omega
        (refine WK.skip ?_; refine WK.seq ?_; refine WK.seq ?_; refine WK.region ?_; refine St.move ?_; refine WO.nil ?_; refine WK.condF ?_; refine WK.skip ?_; refine WK.seq ?_; refine WK.region ?_; refine St.assign ?_; refine St.assign ?_; refine St.assign ?_; refine St.assign ?_; refine WO.nil ?_)
        refine St.ret (by first | exact .tmp .nil | exact .cell .nil | exact .cell (.tmp .nil) | exact .tmp (.tmp .nil) | exact .cell (.cell .nil) | exact .tmp (.cell .nil) | exact .nil | exact .tmp (.cell (.tmp .nil)) | exact .cell (.tmp (.tmp .nil)) | exact .cell (.cell (.tmp .nil)) | exact .tmp (.tmp (.tmp .nil)) | exact .tmp (.tmp (.tmp (.tmp .nil))) | exact .cell (.cell (.cell .nil))) ?_
        simp [oneOf, this]
      · rw [if_pos rfl] at hlt
        have : ((popN (ableN c l id rd) : Int) ≥ maj c) := by omega
        (refine WK.skip ?_; refine WK.seq ?_; refine WK.seq ?_; refine WK.region ?_; refine St.move ?_; refine WO.nil ?_; refine WK.condT ?_; refine WK.seq ?_; refine WK.region ?_; refine St.move ?_; refine St.assign ?_; refine St.assign ?_; refine St.assign ?_; refine St.assign ?_; refine WO.nil ?_)
        refine St.ret (by first | exact .tmp .nil | exact .cell .nil | exact .cell (.tmp .nil) | exact .tmp (.tmp .nil) | exact .cell (.cell .nil) | exact .tmp (.cell .nil) | exact .nil | exact .tmp (.cell (.tmp .nil)) | exact .cell (.tmp (.tmp .nil)) | exact .cell (.cell (.tmp .nil)) | exact .tmp (.tmp (.tmp .nil)) | exact .tmp (.tmp (.tmp (.tmp .nil))) | exact .cell (.cell (.cell .nil))) ?_
        simp [oneOf, this]
  have hlt : (k : Int) < c := by simpa using q
  (refine WK.skip ?_; refine WK.seq ?_; refine WK.block ?_; refine WK.seq ?_; refine WK.region ?_; refine St.move ?_; refine St.move ?_; refine St.move ?_; refine St.move ?_)
  refine St.call (v := .bool (openB l k id rd)) (fun _ => rfl) (fun h2 hh => by rw [open_eq hrd]; exact ropen_con h2 hh.gd v l k id rd (hv.vw hh) hl) ?_
  (refine St.assign ?_; refine WO.nil ?_; refine WK.seq ?_; refine WK.region ?_; refine St.move ?_; refine St.move ?_; refine St.move ?_; refine St.build ?_; refine St.alloc fun _ _ => ?_; refine St.store0 ?_; refine WO.nil ?_; refine WK.seq ?_; refine WK.seq ?_; refine WK.region ?_; refine St.assign ?_; refine WO.nil ?_; refine WK.block ?_)
  rename_i p18 hp18
  refine WK.inv (ι := Nat) (fun i => [(1, v), (2, .int .i64 id), (3, .int .i64 rd), (4, .ptr p4 0), (13, .int .i64 f), (14, .bool pb), (15, .int .i64 ((rcN l id rd f pb k : Nat) : Int)), (16, .int .i64 k), (17, .bool (Bool.or (openB l k id rd) (pb && (l.take i).any (vwB id rd f k)))), (18, .ptr p18 0), (19, .int .i64 i)]) (fun _ => [(p18, .cells (rlC (id, rd, f)) 52), (p4, .cells [.int .i64 c] 23)]) (fun i => i ≤ l.length) (fun i => l.length - i) 0 (Nat.zero_le _) ⟨rfl, rfl, rfl, rfl, rfl, rfl, rfl, rfl, congrArg (fun z => some (AV.bool z)) (by simp), rfl, rfl, trivial⟩ (by (repeat (first | exact List.Sublist.refl _ | exact List.nil_sublist _ | apply List.Sublist.cons_cons | apply List.Sublist.cons))) ?_
  intro i hi ih2
  (refine WK.seq ?_; refine WK.seq ?_; refine WK.region ?_; refine St.move ?_; refine St.move ?_)
  refine St.lenG rfl hv.llen ?_
  (refine St.bin ?_; refine WO.nil ?_)
  refine St.splitC (fun q2 => ?_) (fun q2 => ?_)
  rotate_left
  · have e : i = l.length := by simp at q2; omega
    subst e
    rw [List.take_length]
    have hs2 : rcN l id rd f pb (k + 1) = rcN l id rd f pb k + if Bool.or (openB l k id rd) (pb && l.any (vwB id rd f k)) = true then 1 else 0 := hs
    cases ha : Bool.or (openB l k id rd) (pb && l.any (vwB id rd f k))
    · rw [ha, if_neg (by simp)] at hs2
      (refine WK.exit ?_; refine WK.seq ?_; refine WK.region ?_; refine St.move ?_; refine WO.nil ?_; refine WK.condF ?_; refine WK.skip ?_; refine WK.blk ?_; refine WK.region ?_; refine St.move ?_; refine St.binI ?_; refine St.assign ?_; refine WO.nil ?_)
      refine WK.le ?_ (by (repeat (first | exact List.Sublist.refl _ | exact List.nil_sublist _ | apply List.Sublist.cons_cons | apply List.Sublist.cons))) (ih (k + 1) ⟨by omega, by omega⟩ (by omega))
      exact ⟨rfl, rfl, rfl, rfl, rfl, rfl, congrArg (fun z : Nat => some (AV.int .i64 (z : Int))) hs2.symm, rfl, trivial⟩
    · rw [ha, if_pos rfl] at hs2
      (refine WK.exit ?_; refine WK.seq ?_; refine WK.region ?_; refine St.move ?_; refine WO.nil ?_; refine WK.condT ?_; refine WK.region ?_; refine St.move ?_; refine St.binI ?_; refine St.assign ?_; refine WO.nil ?_; refine WK.blk ?_; refine WK.region ?_; refine St.move ?_; refine St.binI ?_; refine St.assign ?_; refine WO.nil ?_)
      refine WK.le ?_ (by (repeat (first | exact List.Sublist.refl _ | exact List.nil_sublist _ | apply List.Sublist.cons_cons | apply List.Sublist.cons))) (ih (k + 1) ⟨by omega, by omega⟩ (by omega))
      exact ⟨rfl, rfl, rfl, rfl, rfl, rfl, congrArg (fun z : Nat => some (AV.int .i64 (z : Int))) hs2.symm, rfl, trivial⟩
  have hil : i < l.length := by simp at q2; omega
  have hv' := hv
  obtain ⟨b, off, m, rfl, hk2⟩ := hv'.ne (by omega)
  have hta : (l.take (i + 1)).any (vwB id rd f k) = Bool.or ((l.take i).any (vwB id rd f k)) (vwB id rd f k (nthE l i)) := by
    rw [take_succE hil, List.any_append]
    simp
  have ih3 := ih2 (i + 1) hil (by omega)
  rw [hta, show Bool.or (openB l k id rd) (pb && Bool.or ((l.take i).any (vwB id rd f k)) (vwB id rd f k (nthE l i))) = Bool.or (Bool.or (openB l k id rd) (pb && (l.take i).any (vwB id rd f k))) (pb && vwB id rd f k (nthE l i)) by cases openB l k id rd <;> cases pb <;> simp] at ih3
  generalize Bool.or (openB l k id rd) (pb && (l.take i).any (vwB id rd f k)) = fl at ih3 ⊢
  cases fl
  rotate_left
  · (refine WK.skip ?_; refine WK.seq ?_; refine WK.block ?_; refine WK.regionD ?_; refine St.move ?_; refine St.move ?_; refine St.skip ?_; refine St.skip ?_; refine St.skip ?_; refine St.skip ?_; refine St.skip ?_; refine St.skip ?_; refine St.skip ?_; refine St.skip ?_; refine St.skip ?_; refine St.skip ?_; refine St.skip ?_; refine St.skip ?_; refine St.skip ?_; refine St.skip ?_; refine St.skip ?_; refine St.skip ?_; refine St.skip ?_; refine St.skip ?_; refine St.pickT ?_; refine St.assign ?_; refine WO.nil ?_; refine WK.blk ?_; refine WK.region ?_; refine St.move ?_; refine St.binI ?_; refine St.assign ?_; refine WO.nil ?_)
    refine WK.le ?_ (by (repeat (first | exact List.Sublist.refl _ | exact List.nil_sublist _ | apply List.Sublist.cons_cons | apply List.Sublist.cons))) ih3
    exact ⟨rfl, rfl, rfl, rfl, rfl, rfl, rfl, rfl, rfl, rfl, rfl, trivial⟩
  cases pb
  · (refine WK.skip ?_; refine WK.seq ?_; refine WK.block ?_; refine WK.regionD ?_; refine St.move ?_; refine St.move ?_; refine St.move ?_; refine St.move ?_; refine St.skip ?_; refine St.skip ?_; refine St.skip ?_; refine St.skip ?_; refine St.skip ?_; refine St.skip ?_; refine St.skip ?_; refine St.pickF ?_; refine St.move ?_; refine St.skip ?_; refine St.skip ?_; refine St.skip ?_; refine St.skip ?_; refine St.skip ?_; refine St.skip ?_; refine St.pickF ?_; refine St.pickF ?_; refine St.assign ?_; refine WO.nil ?_; refine WK.blk ?_; refine WK.region ?_; refine St.move ?_; refine St.binI ?_; refine St.assign ?_; refine WO.nil ?_)
    refine WK.le ?_ (by (repeat (first | exact List.Sublist.refl _ | exact List.nil_sublist _ | apply List.Sublist.cons_cons | apply List.Sublist.cons))) ih3
    exact ⟨rfl, rfl, rfl, rfl, rfl, rfl, rfl, rfl, rfl, rfl, rfl, trivial⟩
  (refine WK.skip ?_; refine WK.seq ?_; refine WK.block ?_; refine WK.regionD ?_; refine St.move ?_; refine St.move ?_; refine St.move ?_; refine St.move ?_; refine St.move ?_; refine St.move ?_)
  refine St.at ?_
  (refine St.fieldAddr ?_)
  refine St.loadX (fun h2 hh => (Rds.headG ((hk2.vw hh).at_ (z := (i : Int)) (n := i) (by omega) hil).2.2.2.2).one rfl) ?_
  (refine St.move ?_; refine St.bin ?_; refine St.pickT ?_; refine St.move ?_)
  refine St.split (fun q3 => ?_) (fun q3 => ?_)
  rotate_left
  · have e3 : ¬ (nthE l i).fr = (k : Int) := by simpa using q3
    (refine St.skip ?_; refine St.skip ?_; refine St.skip ?_; refine St.skip ?_; refine St.skip ?_; refine St.skip ?_; refine St.pickF ?_; refine St.pickF ?_; refine St.assign ?_; refine WO.nil ?_; refine WK.blk ?_; refine WK.region ?_; refine St.move ?_; refine St.binI ?_; refine St.assign ?_; refine WO.nil ?_)
    refine WK.le ?_ (by (repeat (first | exact List.Sublist.refl _ | exact List.nil_sublist _ | apply List.Sublist.cons_cons | apply List.Sublist.cons))) ih3
    exact ⟨rfl, rfl, rfl, rfl, rfl, rfl, rfl, rfl, congrArg (fun z => some (AV.bool z)) (by simp [vwB, e3]), rfl, rfl, trivial⟩
  have e3 : (nthE l i).fr = (k : Int) := by simpa using q3
  (refine St.move ?_; refine St.move ?_)
  refine St.at ?_
  refine St.loadX (fun h2 hh => ((hk2.vw hh).at_ (z := (i : Int)) (n := i) (by omega) hil).agg (by simp [leC]) rfl rfl rfl) ?_
  (refine St.load ?_)
  refine St.call (fun _ => rfl) (fun h2 hh => rfor_con h2 hh.gd (nthE l i) (id, rd, f)) ?_
  (refine St.pickT ?_; refine St.pickF ?_; refine St.assign ?_; refine WO.nil ?_; refine WK.blk ?_; refine WK.region ?_; refine St.move ?_; refine St.binI ?_; refine St.assign ?_; refine WO.nil ?_)
  refine WK.le ?_ (by (repeat (first | exact List.Sublist.refl _ | exact List.nil_sublist _ | apply List.Sublist.cons_cons | apply List.Sublist.cons))) ih3
  exact ⟨rfl, rfl, rfl, rfl, rfl, rfl, rfl, rfl, congrArg (fun z => some (AV.bool z)) (by simp [vwB, e3]), rfl, rfl, trivial⟩
end Go.Proofs.YtilpinmbngikgaaGreat

/- Layer 9: the law ArbiterTells. -/
namespace Go.Proofs.YtilpinmbngikgaaGreat
open Go.Proofs.YtilpinmbngikgaaGreat.Ev

set_option maxRecDepth 100000 in
set_option maxHeartbeats 8000000 in
theorem rulings_conE (h : Heap) (g : Gd h) (c : Int) (v : AV) (l : List Le) (hv : LeV h v l) (hl : errL c l = 0 → l.length ≤ 1000) : ∃ u L, Con Tryz.prog Bs 6 [.agg [.int .i64 c], v] h [] u L ∧ rlsR c l u L := by
  by_cases he : errL c l = 0
  · exact rulings_con h g c v l hv (hl he)
  refine Con.subG (Con.startR rfl Tryz.func6 rfl rfl Tryz.ntmps6 rfl rfl (SS.init g) ?_)
  (refine WK.seq ?_; refine WK.region ?_; refine St.box fun _ _ => ?_; refine St.assign ?_; refine St.assign ?_; refine WO.nil ?_; refine WK.seq ?_; refine WK.seq ?_; refine WK.region ?_; refine St.load ?_; refine St.move ?_)
  refine St.call (fun _ => rfl) (fun h2 hh => checkLetters_con h2 hh.gd c v l (hv.vw hh)) ?_
  (refine St.assign ?_; refine WO.nil ?_; refine WK.seq ?_; refine WK.region ?_; refine St.move ?_; refine St.bin ?_; refine WO.nil ?_)
  refine St.splitC (fun q => ?_) (fun q => ?_)
  rotate_left
  · exact absurd (by simpa using q) he
  (refine WK.seq ?_; refine WK.region ?_; refine St.move ?_; refine St.assign ?_; refine St.assign ?_; refine WO.nil ?_)
  refine St.ret (by first | exact .tmp .nil | exact .cell .nil | exact .cell (.tmp .nil) | exact .tmp (.tmp .nil) | exact .cell (.cell .nil) | exact .tmp (.cell .nil) | exact .nil | exact .tmp (.cell (.tmp .nil)) | exact .cell (.tmp (.tmp .nil)) | exact .cell (.cell (.tmp .nil)) | exact .tmp (.tmp (.tmp .nil)) | exact .tmp (.tmp (.tmp (.tmp .nil))) | exact .cell (.cell (.cell .nil))) ?_
  exact ⟨[], List.nil_sublist _, .inl ⟨he, rfl⟩⟩
set_option maxRecDepth 100000 in
set_option maxHeartbeats 8000000 in
theorem can_conE (h : Heap) (g : Gd h) (c : Int) (v : AV) (l : List Le) (id rd : Int) (hv : LeV h v l) (hl : errL c l = 0 → l.length ≤ 1000) : Con Tryz.prog Bs 12 [.agg [.int .i64 c], v, .int .i64 id, .int .i64 rd] h [] (.tup [.int .i64 (canF c l id rd), .bool (canO c l id rd), .bool (canA c l id rd), .int .i64 (canE c l id rd)]) [] := by
  by_cases he : errL c l = 0
  · exact can_con h g c v l id rd hv (hl he)
  have e0 : canE c l id rd = errL c l := by unfold canE; rw [if_pos he]
  refine Con.start rfl Tryz.func12 rfl rfl Tryz.ntmps12 rfl rfl g ?_
  (refine WK.seq ?_; refine WK.region ?_; refine St.box fun _ _ => ?_; refine St.assign ?_; refine St.assign ?_; refine St.assign ?_; refine St.assign ?_; refine WO.nil ?_; refine WK.seq ?_; refine WK.seq ?_; refine WK.regionD ?_; refine St.load ?_; refine St.move ?_; refine St.move ?_)
  rename_i p4 hp4
  refine St.call (fun _ => rfl) (fun h2 hh => isCase_con h2 hh.gd id) ?_
  (refine St.move ?_)
  refine St.call (fun _ => rfl) (fun h2 hh => isRound_con h2 hh.gd rd) ?_
  (refine StD.mkS fun _ _ => ?_)
  rename_i j hj
  refine StD.callV (v := .int .i64 (canE c l id rd)) [(6, j, .cells [.bool (inB id 1 1099511627776), .bool (rdB rd)] 4)] (fun _ => rfl) (fun x hx => by obtain rfl := List.mem_singleton.1 hx; exact ⟨List.Mem.head _, show maskAt _ _ 6 = true by decide +kernel⟩) (fun h2 hh => checkAsked_con h2 hh.gd c v l (hv.vw hh) j _ _ _ (bo_eh hh (List.mem_cons_self ..))) ?_
  (refine St.assign ?_; refine WO.nil1 ?_; refine WK.seq ?_; refine WK.region ?_; refine St.move ?_; refine St.bin ?_; refine WO.nil ?_)
  refine St.splitC (fun q => ?_) (fun q => ?_)
  · (refine WK.seq ?_; refine WK.region ?_; refine St.move ?_; refine St.assign ?_; refine St.assign ?_; refine St.assign ?_; refine St.assign ?_; refine WO.nil ?_)
    refine St.ret (by first | exact .tmp .nil | exact .cell .nil | exact .cell (.tmp .nil) | exact .tmp (.tmp .nil) | exact .cell (.cell .nil) | exact .tmp (.cell .nil) | exact .nil | exact .tmp (.cell (.tmp .nil)) | exact .cell (.tmp (.tmp .nil)) | exact .cell (.cell (.tmp .nil)) | exact .tmp (.tmp (.tmp .nil)) | exact .tmp (.tmp (.tmp (.tmp .nil))) | exact .cell (.cell (.cell .nil))) ?_
    simp [oneOf, canF, canO, canA, e0, he]
  · have : canE c l id rd = 0 := by simpa using q
    rw [e0] at this
    exact absurd this he
theorem few_lt {c : Int} {l : List Le} (h : fewL l.length 60 = true) : (errL c l = 0 → l.length ≤ 1000) ∧ l.length ≤ 1000000 := by
  refine ⟨fun he => ?_, ?_⟩
  · have := (errL_ok he).2.1
    unfold fewL at h
    simp at h
    omega
  · unfold fewL at h
    simp at h
    omega
set_option maxRecDepth 100000 in
set_option maxHeartbeats 64000000 in
theorem tellsLaw_con (h : Heap) (g : Gd h) (c : Int) (v : AV) (l : List Le) (who id rd : Int) (hv : LeA h v l) : Con Tryz.prog Bs 3 [.agg [.int .i64 c], v, .int .i64 who, .int .i64 id, .int .i64 rd] h [] (.bool true) [] := by
  have hvV : LeV h v l := hv.eV
  refine Con.start rfl Tryz.func3 rfl rfl Tryz.ntmps3 rfl rfl g ?_
  (refine WK.seq ?_; refine WK.region ?_; refine St.box fun _ _ => ?_; refine St.assign ?_; refine WO.nil ?_; refine WK.seq ?_; refine WK.seq ?_; refine WK.region ?_; refine St.move ?_)
  rename_i p5 hp5
  refine St.call (fun _ => rfl) (fun h2 hh => few_con h2 hh.gd v l 60 (hvV.vw hh)) ?_
  cases hfew : fewL l.length 60
  · (refine St.un ?_; refine WO.nil ?_; refine WK.condT ?_; refine WK.seq ?_; refine WK.region ?_)
    refine St.call (fun _ => rfl) (fun h2 hh => sanity_con h2 hh.gd) ?_
    (refine St.assign ?_; refine WO.nil ?_)
    refine St.ret (by first | exact .tmp .nil | exact .cell .nil | exact .cell (.tmp .nil) | exact .tmp (.tmp .nil) | exact .cell (.cell .nil) | exact .tmp (.cell .nil) | exact .nil | exact .tmp (.cell (.tmp .nil)) | exact .cell (.tmp (.tmp .nil)) | exact .cell (.cell (.tmp .nil)) | exact .tmp (.tmp (.tmp .nil)) | exact .tmp (.tmp (.tmp (.tmp .nil))) | exact .cell (.cell (.cell .nil))) ?_
    rfl
  obtain ⟨hl, hl6⟩ := few_lt (c := c) hfew
  (refine St.un ?_; refine WO.nil ?_; refine WK.condF ?_; refine WK.skip ?_; refine WK.seq ?_; refine WK.region ?_; refine St.load ?_; refine St.move ?_)
  refine St.callR (R := rlsR c l) (fun _ => rfl) (fun h2 hh => rulings_conE h2 hh.gd c v l (hvV.vw hh) hl) (fun u L1 hR => ?_)
  refine WO.permF List.perm_append_comm ?_
  have hP1 : ∃ w1, u = .tup [w1, .int .i64 (errL c l)] ∧ ∃ rs : List Rl3, rs.length ≤ 1000000 ∧ (rs = if errL c l = 0 then rlsOf c l else []) ∧ ∀ {V : Ob} {h2 : Heap}, Vw h [] V h2 → (∀ x ∈ L1, x ∈ V) → EV rlC 3 h2 w1 rs := by
    rcases hR with ⟨hne, rfl⟩ | ⟨h0, w, rfl, hw⟩
    · exact ⟨_, rfl, [], by simp, by rw [if_neg hne], fun _ _ => .inl ⟨.inl rfl, rfl⟩⟩
    · refine ⟨w, by rw [h0], rlsOf c l, ?_, by rw [if_pos h0], fun hh hm => isR_v hw rfl hh hm⟩
      have := rls_len (c := c) (l := l)
      omega
  obtain ⟨w1, rfl, rs, hrs, hrsE, hw1⟩ := hP1
  clear hR
  (refine St.move ?_; refine St.extract ?_; refine St.extract ?_; refine St.assign ?_; refine St.assign ?_; refine WO.nil ?_; refine WK.seq ?_; refine WK.region ?_; refine St.load ?_; refine St.move ?_)
  refine St.callR (R := rrlsR c l) (fun _ => rfl) (fun h2 hh => rRulings_con h2 hh.gd c v l (hvV.vw hh) hl) (fun u L2 hR => ?_)
  refine WO.permF (List.perm_append_comm_assoc [(p5, AObj.cells [.int .i64 c] 23)] L2 L1) ?_
  have hP2 : ∃ w2, u = .agg [w2, .int .i64 (errL c l)] ∧ okCell w2 = true ∧ ∀ {V : Ob} {h2 : Heap}, Vw h [] V h2 → (∀ x ∈ L2, x ∈ V) → EV rlC 3 h2 w2 rs := by
    rcases hR with ⟨hne, rfl⟩ | ⟨h0, w, rfl, hw⟩
    · exact ⟨_, rfl, rfl, fun _ _ => .inl ⟨.inl rfl, by rw [hrsE, if_neg hne]⟩⟩
    · exact ⟨w, by rw [h0], hw.okG, fun hh hm => by rw [hrsE, if_pos h0]; exact en_v rlC_len hw rfl hh hm⟩
  obtain ⟨w2, rfl, hok2, hw2⟩ := hP2
  clear hR hrsE
  refine St.alloc fun p13 hp13 => ?_
  refine St.store0 (v := .agg [w2, .int .i64 (errL c l)]) (obj' := .cells [w2, .int .i64 (errL c l)] 32) (hv := store_all (n := 2) (by kernel_rfl) rfl rfl (by rw [List.all_cons, hok2]; rfl)) ?_
  (refine WO.nil ?_; refine WK.seq ?_; refine WK.region ?_; refine St.load ?_; refine St.move ?_; refine St.move ?_; refine St.move ?_)
  refine St.call (fun _ => rfl) (fun h2 hh => voted_con h2 hh.gd c v l who id (hvV.vw hh) hl6) ?_
  (refine St.move ?_; refine St.extract ?_; refine St.extract ?_; refine St.extract ?_; refine St.assign ?_; refine St.assign ?_; refine St.assign ?_; refine WO.nil ?_; refine WK.seq ?_; refine WK.region ?_; refine St.load ?_; refine St.move ?_; refine St.move ?_; refine St.move ?_)
  refine St.call (fun _ => rfl) (fun h2 hh => rvoted_con h2 hh.gd c v l who id (hvV.vw hh) hl6) ?_
  (refine St.move ?_; refine St.extract ?_; refine St.extract ?_; refine St.extract ?_; refine St.assign ?_; refine St.assign ?_; refine St.assign ?_; refine WO.nil ?_; refine WK.seq ?_; refine WK.region ?_; refine St.load ?_; refine St.move ?_; refine St.move ?_)
  refine St.callR (R := prR9 c l id) (fun _ => rfl) (fun h2 hh => proof_con h2 hh.gd c v l id (hvV.vw hh) hl) (fun u L3 hR => ?_)
  refine WO.permF (List.perm_append_comm_assoc [(p13, AObj.cells [w2, .int .i64 (errL c l)] 32), (p5, .cells [.int .i64 c] 23)] L3 (L2 ++ L1)) ?_
  have hP3 : ∃ w3, u = .tup [w3, .int .i64 (prE c l id)] ∧ ∃ pl : List Le, pl.length ≤ 1000000 ∧ (pl = if prE c l id = 0 then prL c l id else []) ∧ ∀ {V : Ob} {h2 : Heap}, Vw h [] V h2 → (∀ x ∈ L3, x ∈ V) → EV leC 8 h2 w3 pl := by
    rcases hR with ⟨hne, rfl⟩ | ⟨h0, w, rfl, hw⟩
    · exact ⟨_, rfl, [], by simp, by rw [if_neg hne], fun _ _ => .inl ⟨.inl rfl, rfl⟩⟩
    · refine ⟨w, by rw [h0], prL c l id, ?_, by rw [if_pos h0], fun hh hm => en_v leC_len hw rfl hh hm⟩
      have he : errL c l = 0 := by
        apply Classical.byContradiction
        intro hne
        unfold prE at h0
        rw [if_pos hne] at h0
        exact hne h0
      have := vfN_len (l := l) (r := fstR (rlsOf c l) id) (maj_pos (crt_bd (errL_ok he).1)) l.length
      unfold prL
      omega
  obtain ⟨w3, rfl, pl, hpl, hplE, hw3⟩ := hP3
  clear hR
  (refine St.move ?_; refine St.extract ?_; refine St.extract ?_; refine St.assign ?_; refine St.assign ?_; refine WO.nil ?_; refine WK.seq ?_; refine WK.region ?_; refine St.load ?_; refine St.move ?_; refine St.move ?_)
  refine St.callR (R := rprR c l id) (fun _ => rfl) (fun h2 hh => rproof_con h2 hh.gd c v l id (hvV.vw hh) hl) (fun u L4 hR => ?_)
  refine WO.permF (List.perm_append_comm_assoc [(p13, AObj.cells [w2, .int .i64 (errL c l)] 32), (p5, .cells [.int .i64 c] 23)] L4 (L3 ++ (L2 ++ L1))) ?_
  have hP4 : ∃ w4, u = .agg [w4, .int .i64 (prE c l id)] ∧ okCell w4 = true ∧ ∀ {V : Ob} {h2 : Heap}, Vw h [] V h2 → (∀ x ∈ L4, x ∈ V) → EV leC 8 h2 w4 pl := by
    rcases hR with ⟨hne, rfl⟩ | ⟨h0, w, rfl, hw⟩
    · exact ⟨_, rfl, rfl, fun _ _ => .inl ⟨.inl rfl, by rw [hplE, if_neg hne]⟩⟩
    · exact ⟨w, by rw [h0], hw.okG, fun hh hm => by rw [hplE, if_pos h0]; exact en_v leC_len hw rfl hh hm⟩
  obtain ⟨w4, rfl, hok4, hw4⟩ := hP4
  clear hR hplE
  refine St.alloc fun p22 hp22 => ?_
  refine St.store0 (v := .agg [w4, .int .i64 (prE c l id)]) (obj' := .cells [w4, .int .i64 (prE c l id)] 39) (hv := store_all (n := 2) (by kernel_rfl) rfl rfl (by rw [List.all_cons, hok4]; rfl)) ?_
  (refine WO.nil ?_; refine WK.seq ?_; refine WK.region ?_; refine St.load ?_; refine St.move ?_; refine St.move ?_; refine St.move ?_)
  refine St.call (fun _ => rfl) (fun h2 hh => can_conE h2 hh.gd c v l id rd (hvV.vw hh) hl) ?_
  (refine St.move ?_; refine St.extract ?_; refine St.extract ?_; refine St.extract ?_; refine St.extract ?_; refine St.assign ?_; refine St.assign ?_; refine St.assign ?_; refine St.assign ?_; refine WO.nil ?_; refine WK.seq ?_; refine WK.region ?_; refine St.load ?_; refine St.move ?_; refine St.move ?_; refine St.move ?_)
  refine St.call (fun _ => rfl) (fun h2 hh => rcan_con h2 hh.gd c v l id rd (hvV.vw hh) hl6) ?_
  generalize canF c l id rd = cF
  generalize canO c l id rd = cO
  generalize canA c l id rd = cA
  generalize canE c l id rd = cE
  generalize prE c l id = pE
  generalize errL c l = eL
  generalize vtR c l who id = tR
  generalize vtF c l who id = tF
  generalize vtE c l who id = tE
  (refine St.move ?_; refine St.extract ?_; refine St.extract ?_; refine St.extract ?_; refine St.extract ?_; refine St.assign ?_; refine St.assign ?_; refine St.assign ?_; refine St.assign ?_; refine WO.nil ?_; refine WK.seq ?_; refine WK.seq ?_; refine WK.region ?_; refine St.move ?_; refine St.fieldAddr ?_; refine St.load ?_; refine St.bin ?_; refine St.move ?_)
  refine St.split (fun q => ?_) (fun q => ?_)
  · simp at q
  (refine St.move ?_; refine St.fieldAddr ?_; refine St.load ?_)
  refine St.call (fun _ => rfl) (fun h2 hh => sameR_con h2 hh.gd w1 w2 rs (hw1 hh (fun x hx => by simp only [List.mem_cons, List.mem_append, hx, true_or, or_true])) (hw2 hh (fun x hx => by simp only [List.mem_cons, List.mem_append, hx, true_or, or_true])) hrs) ?_
  (refine St.un ?_; refine St.pickF ?_; refine St.move ?_; refine St.move ?_; refine St.move ?_; refine St.bin ?_; refine St.pickF ?_; refine St.move ?_)
  refine St.split (fun q => ?_) (fun q => ?_)
  · simp at q
  (refine St.move ?_; refine St.move ?_; refine St.bin ?_; refine St.pickF ?_; refine St.move ?_)
  refine St.split (fun q => ?_) (fun q => ?_)
  · simp at q
  (refine St.move ?_; refine St.move ?_; refine St.bin ?_; refine St.pickF ?_; refine St.move ?_)
  refine St.split (fun q => ?_) (fun q => ?_)
  · simp at q
  (refine St.move ?_; refine St.fieldAddr ?_; refine St.load ?_; refine St.bin ?_; refine St.pickF ?_; refine St.move ?_)
  refine St.split (fun q => ?_) (fun q => ?_)
  · simp at q
  (refine St.move ?_; refine St.fieldAddr ?_; refine St.load ?_)
  refine St.call (fun _ => rfl) (fun h2 hh => sameL_con h2 hh.gd w3 w4 pl (hw3 hh (fun x hx => by simp only [List.mem_cons, List.mem_append, hx, true_or, or_true])) (hw4 hh (fun x hx => by simp only [List.mem_cons, List.mem_append, hx, true_or, or_true])) hpl) ?_
  cases cO <;> cases cA
  · (refine St.un ?_; refine St.pickF ?_; refine WO.nil ?_; refine WK.condF ?_; refine WK.skip ?_; refine WK.seq ?_; refine WK.region ?_)
    refine St.call (fun _ => rfl) (fun h2 hh => sanity_con h2 hh.gd) ?_
    (refine St.move ?_; refine St.move ?_; refine St.move ?_; refine St.bin ?_; refine St.pickT ?_; refine St.move ?_)
    refine St.split (fun q => ?_) (fun q => ?_)
    rotate_left
    · simp at q
    (refine St.move ?_; refine St.move ?_; refine St.bin ?_; refine St.pickT ?_; refine St.move ?_; refine St.move ?_; refine St.move ?_; refine St.bin ?_; refine St.pickT ?_; refine St.move ?_; refine St.move ?_; refine St.move ?_; refine St.bin ?_; refine St.pickT ?_; refine St.assign ?_; refine WO.nil ?_)
    refine St.ret (by first | exact .tmp .nil | exact .cell .nil | exact .cell (.tmp .nil) | exact .tmp (.tmp .nil) | exact .cell (.cell .nil) | exact .tmp (.cell .nil) | exact .nil | exact .tmp (.cell (.tmp .nil)) | exact .cell (.tmp (.tmp .nil)) | exact .cell (.cell (.tmp .nil)) | exact .tmp (.tmp (.tmp .nil)) | exact .tmp (.tmp (.tmp (.tmp .nil))) | exact .cell (.cell (.cell .nil))) ?_
    simp [oneOf]
  · (refine St.un ?_; refine St.pickF ?_; refine WO.nil ?_; refine WK.condF ?_; refine WK.skip ?_; refine WK.seq ?_; refine WK.region ?_)
    refine St.call (fun _ => rfl) (fun h2 hh => sanity_con h2 hh.gd) ?_
    (refine St.move ?_; refine St.move ?_; refine St.move ?_; refine St.bin ?_; refine St.pickT ?_; refine St.move ?_)
    refine St.split (fun q => ?_) (fun q => ?_)
    rotate_left
    · simp at q
    (refine St.move ?_; refine St.move ?_; refine St.bin ?_; refine St.pickT ?_; refine St.move ?_; refine St.move ?_; refine St.move ?_; refine St.bin ?_; refine St.pickT ?_; refine St.move ?_; refine St.move ?_; refine St.move ?_; refine St.bin ?_; refine St.pickT ?_; refine St.assign ?_; refine WO.nil ?_)
    refine St.ret (by first | exact .tmp .nil | exact .cell .nil | exact .cell (.tmp .nil) | exact .tmp (.tmp .nil) | exact .cell (.cell .nil) | exact .tmp (.cell .nil) | exact .nil | exact .tmp (.cell (.tmp .nil)) | exact .cell (.tmp (.tmp .nil)) | exact .cell (.cell (.tmp .nil)) | exact .tmp (.tmp (.tmp .nil)) | exact .tmp (.tmp (.tmp (.tmp .nil))) | exact .cell (.cell (.cell .nil))) ?_
    simp [oneOf]
  · (refine St.un ?_; refine St.pickF ?_; refine WO.nil ?_; refine WK.condF ?_; refine WK.skip ?_; refine WK.seq ?_; refine WK.region ?_)
    refine St.call (fun _ => rfl) (fun h2 hh => sanity_con h2 hh.gd) ?_
    (refine St.move ?_; refine St.move ?_; refine St.move ?_; refine St.bin ?_; refine St.pickT ?_; refine St.move ?_)
    refine St.split (fun q => ?_) (fun q => ?_)
    rotate_left
    · simp at q
    (refine St.move ?_; refine St.move ?_; refine St.bin ?_; refine St.pickT ?_; refine St.move ?_; refine St.move ?_; refine St.move ?_; refine St.bin ?_; refine St.pickT ?_; refine St.move ?_; refine St.move ?_; refine St.move ?_; refine St.bin ?_; refine St.pickT ?_; refine St.assign ?_; refine WO.nil ?_)
    refine St.ret (by first | exact .tmp .nil | exact .cell .nil | exact .cell (.tmp .nil) | exact .tmp (.tmp .nil) | exact .cell (.cell .nil) | exact .tmp (.cell .nil) | exact .nil | exact .tmp (.cell (.tmp .nil)) | exact .cell (.tmp (.tmp .nil)) | exact .cell (.cell (.tmp .nil)) | exact .tmp (.tmp (.tmp .nil)) | exact .tmp (.tmp (.tmp (.tmp .nil))) | exact .cell (.cell (.cell .nil))) ?_
    simp [oneOf]
  · (refine St.un ?_; refine St.pickF ?_; refine WO.nil ?_; refine WK.condF ?_; refine WK.skip ?_; refine WK.seq ?_; refine WK.region ?_)
    refine St.call (fun _ => rfl) (fun h2 hh => sanity_con h2 hh.gd) ?_
    (refine St.move ?_; refine St.move ?_; refine St.move ?_; refine St.bin ?_; refine St.pickT ?_; refine St.move ?_)
    refine St.split (fun q => ?_) (fun q => ?_)
    rotate_left
    · simp at q
    (refine St.move ?_; refine St.move ?_; refine St.bin ?_; refine St.pickT ?_; refine St.move ?_; refine St.move ?_; refine St.move ?_; refine St.bin ?_; refine St.pickT ?_; refine St.move ?_; refine St.move ?_; refine St.move ?_; refine St.bin ?_; refine St.pickT ?_; refine St.assign ?_; refine WO.nil ?_)
    refine St.ret (by first | exact .tmp .nil | exact .cell .nil | exact .cell (.tmp .nil) | exact .tmp (.tmp .nil) | exact .cell (.cell .nil) | exact .tmp (.cell .nil) | exact .nil | exact .tmp (.cell (.tmp .nil)) | exact .cell (.tmp (.tmp .nil)) | exact .cell (.cell (.tmp .nil)) | exact .tmp (.tmp (.tmp .nil)) | exact .tmp (.tmp (.tmp (.tmp .nil))) | exact .cell (.cell (.cell .nil))) ?_
    simp [oneOf]
end Go.Proofs.YtilpinmbngikgaaGreat
