/- The law TideMoreGauges over the calculator's memory. -/
import Derived.Test.YtaobicfidejfbaaQf
namespace Go.Proofs.Ytaobicfidejfbaa
open Go.Proofs.Ytaobicfidejfbaa.Ev

/-- gauges that may be sliced -/
def GaA (h : Heap) (v : AV) (l : List Ga) : Prop := ((v = .slice0 ∨ v = .sliceZ) ∧ l = []) ∨ ∃ b off m, v = .slice b off l.length (.k m) ∧ l.length ≤ m ∧ GaH h b off l
theorem GaA.gaV {h : Heap} {v : AV} {l : List Ga} (k : GaA h v l) : GaV h v l := by
  rcases k with k | ⟨b, off, m, rfl, _, k⟩
  · exact .inl k
  · exact .inr ⟨b, off, _, rfl, k⟩
theorem slG_to {h : Heap} {i off k n m : Nat} (hk : k ≤ n) (hm : n ≤ m) : evSlice Try.prog h 26 (.slice i off n (.k m)) none (some (.int .i64 k)) none = some (.slice i off k (.k m)) := by
  have e : sizeT Try.prog 37 = some 4 := by kernel_rfl
  unfold evSlice
  rw [if_neg (by simp), Try.underlying26]
  simp only [e, evSliceK, optB, boundIn, Option.bind_some]
  rw [if_pos (by omega)]
  simp
theorem slG_from {h : Heap} {i off k n m : Nat} (hk : k ≤ n) (hm : n ≤ m) : evSlice Try.prog h 26 (.slice i off n (.k m)) (some (.int .i64 k)) none none = some (.slice i (if m - k = 0 then off else off + k * 4) (n - k) (.k (m - k))) := by
  have e : sizeT Try.prog 37 = some 4 := by kernel_rfl
  unfold evSlice
  rw [if_neg (by simp), Try.underlying26]
  simp only [e, evSliceK, optB, boundIn, Option.bind_some]
  rw [if_pos (by omega)]
  by_cases hc : m - k = 0
  · simp [hc]; omega
  · simp [hc]; omega
def gaF (l : List Ga) : List AV := (l.map gaC).flatten
theorem gaF_len : ∀ l : List Ga, (gaF l).length = l.length * 4
  | [] => rfl
  | g :: r => by
    have := gaF_len r
    show (gaC g ++ gaF r).length = _
    rw [List.length_append, this, List.length_cons]
    show 4 + _ = _
    omega
theorem gaF_app (l m : List Ga) : gaF (l ++ m) = gaF l ++ gaF m := by simp [gaF]
theorem gaF_ok : ∀ l : List Ga, (gaF l).all okCell = true
  | [] => rfl
  | g :: r => by
    show (gaC g ++ gaF r).all okCell = true
    rw [List.all_append, gaF_ok r]
    rfl
theorem gaF_drop : ∀ (l : List Ga) (i : Nat), i < l.length → (gaF l).drop (i * 4) = gaC (nthG l i) ++ gaF (l.drop (i + 1))
  | [], _, h => by simp at h
  | g :: r, 0, _ => rfl
  | g :: r, i + 1, h => by
    have := gaF_drop r i (by simpa using h)
    show (gaC g ++ gaF r).drop ((i + 1) * 4) = _
    rw [show (i + 1) * 4 = (gaC g).length + i * 4 from by show _ = 4 + _; omega, List.drop_append, List.drop_eq_nil_of_le (by omega), Nat.add_sub_cancel_left, List.nil_append, this]
    rfl
theorem Rds.app {h : Heap} {b : Nat} : ∀ {l m : List AV} {off : Nat}, Rds h b off l → Rds h b (off + l.length) m → Rds h b off (l ++ m)
  | [], m, off, _, r => by simpa using r
  | v :: l, m, off, r1, r2 => ⟨r1.1, Rds.app r1.2 (by rw [List.length_cons] at r2; rw [show off + 1 + l.length = off + (l.length + 1) by omega]; exact r2)⟩
theorem ga_rds {h : Heap} {b : Nat} : ∀ {l : List Ga} {off : Nat}, GaH h b off l → Rds h b off (gaF l)
  | [], _, _ => trivial
  | g :: r, off, k => by
    have h0 := k 0 (by simp)
    rw [Nat.zero_mul, Nat.add_zero] at h0
    refine Rds.app h0 (ga_rds (l := r) fun i hi => ?_)
    have := k (i + 1) (by simpa using hi)
    rw [show off + (gaC g).length + i * 4 = off + (i + 1) * 4 from by show off + 4 + _ = _; omega]
    exact this
theorem GaH.tak {h : Heap} {b off k : Nat} {l : List Ga} (q : GaH h b off l) : GaH h b off (l.take k) := fun i hi => by
  have h1 : i < l.length := by rw [List.length_take] at hi; omega
  have h2 : i < k := by rw [List.length_take] at hi; omega
  have e : nthG (l.take k) i = nthG l i := by simp [nthG, List.getElem?_take, h2]
  rw [e]
  exact q i h1
theorem GaH.drp {h : Heap} {b off k : Nat} {l : List Ga} (q : GaH h b off l) : GaH h b (off + k * 4) (l.drop k) := fun i hi => by
  have h1 : k + i < l.length := by rw [List.length_drop] at hi; omega
  have e : nthG (l.drop k) i = nthG l (k + i) := by simp [nthG]
  rw [e, show off + k * 4 + i * 4 = off + (k + i) * 4 by rw [Nat.add_mul]; omega]
  exact q _ h1
/-- a list of gauges that was made, read afterwards -/
theorem ga_v {h0 h : Heap} {W : List Nat} {V : Ob} {l : List Ga} {v : AV} {Lv : Ob} {n : Nat} (hw : IsL 37 4 n (gaF l) v Lv) (hn : l.length = n) (k : Vw h0 W V h) (hm : ∀ x ∈ Lv, x ∈ V) : GaV h v l := by
  subst hn
  cases hw with
  | nil h1 h2 => exact .inl ⟨.inl rfl, List.length_eq_zero_iff.1 h1⟩
  | cells i c rest t h1 h2 h3 =>
    refine .inr ⟨i, 0, .k c, rfl, fun j hj => ?_⟩
    rw [Nat.zero_add]
    exact k.rdsD (hm _ (List.mem_cons_self ..)) (AObj.has_cells _ _).left _ _ _ (gaF_drop l j hj)
  | row i h1 =>
    refine .inr ⟨i, 0, .m 0, rfl, fun j hj => ?_⟩
    rw [Nat.zero_add]
    exact k.rdsD (hm _ (List.mem_cons_self ..)) (AObj.has_row _ _ _) _ _ _ (gaF_drop l j hj)
theorem GaH.id_ {h : Heap} {b off l} (k : GaH h b off l) {z : Int} {n : Nat} (e : z.toNat = n) (hi : n < l.length) : Rd h b (off + z.toNat * 4 + 0) (.int .i64 (nthG l n).id) := by
  subst e; exact (k _ hi).1
theorem ga_none {h : Heap} {b off : Nat} {l : List Ga} (hk : GaH h b off l) (hn : 0 < l.length) (off2 : Nat) : h.loadN b off2 0 = some [] := by
  have h1 := (hk 0 hn).1.at_
  unfold Heap.at1 at h1
  unfold Heap.loadN
  split at h1
  · simp [takeN]
  · simp [takeN]
  · rfl
  · cases h1
theorem comes_to {h : Heap} {b off k : Nat} {c : ACap} {l : List Ga} {L : Ob} (hk : GaH h b off l) (hn : 0 < l.length) (h1 : k ≤ l.length) (h2 : l.length ≤ 60) : ComesA h [] L (.slice b off k c) 4 k (gaF (l.take k)) := by
  rcases Nat.eq_zero_or_pos k with rfl | h3
  · exact .inl ⟨rfl, rfl, rfl, fun h2 hh => ga_none (hk.vw hh) hn _⟩
  · have e : (gaF (l.take k)).length = k * 4 := by rw [gaF_len, List.length_take]; omega
    refine .inr ⟨h3, b, off, c, rfl, by omega, e, gaF_ok _, fun h2 hh => (ga_rds (hk.vw hh).tak).loadN (fun q => ?_) e⟩
    rw [q] at e
    simp at e
    omega
theorem comes_from {h : Heap} {b off k m : Nat} {c : ACap} {l : List Ga} {L : Ob} (hk : GaH h b off l) (hn : 0 < l.length) (h1 : k ≤ l.length) (h2 : l.length ≤ 60) (hm : l.length ≤ m) : ComesA h [] L (.slice b (if m - k = 0 then off else off + k * 4) (l.length - k) c) 4 (l.length - k) (gaF (l.drop k)) := by
  have e : (gaF (l.drop k)).length = (l.length - k) * 4 := by rw [gaF_len, List.length_drop]
  rcases Nat.eq_zero_or_pos (l.length - k) with h3 | h3
  · refine .inl ⟨h3, List.length_eq_zero_iff.1 (by rw [e, h3]), by rw [h3]; rfl, fun h2 hh => ga_none (hk.vw hh) hn _⟩
  · rw [if_neg (by omega)]
    refine .inr ⟨h3, b, _, c, rfl, by omega, e, gaF_ok _, fun h2 hh => (ga_rds (hk.vw hh).drp).loadN (fun q => ?_) e⟩
    rw [q] at e
    simp at e
    omega
end Go.Proofs.Ytaobicfidejfbaa
