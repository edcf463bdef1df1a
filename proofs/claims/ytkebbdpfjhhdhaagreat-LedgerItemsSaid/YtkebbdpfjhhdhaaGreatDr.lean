/- Layer 8: the reference's Formed. -/
import Derived.Test.YtkebbdpfjhhdhaaGreatFg
import Derived.Test.YtkebbdpfjhhdhaaGreatDi
/- Parts of a row: its first elements, its last ones, as what an append takes. For all types of elements. -/
namespace Go.Proofs.YtkebbdpfjhhdhaaGreat.Ev
section
variable {α : Type} {enc : α → List AV} {sz : Nat} {P : Program} {t e : TypeId} {h0 : Heap} {W : List Nat} {V : Ob}
/-- where a row is -/
def RowAt (h0 : Heap) (W : List Nat) (V : Ob) (i : Nat) (l : List AV) (e : TypeId) (sz : Nat) : Prop := ∀ h, Vw h0 W V h → h.get i = some (.row l e sz)
theorem RowAt.own {i : Nat} {l : List AV} (hm : (i, AObj.row l e sz) ∈ V) : RowAt h0 W V i l e sz := fun _ hh => (hh.own _ hm).1
theorem RowAt.old {i : Nat} {l : List AV} (hg : h0.get i = some (.row l e sz)) (hi : i < h0.next) (hw : i ∉ W) : RowAt h0 W V i l e sz := fun _ hh => (hh.old i hi hw).trans hg
theorem RowAt.less {V' : Ob} {i : Nat} {l : List AV} (k : RowAt h0 W V i l e sz) (hs : ∀ x ∈ V, x ∈ V') : RowAt h0 W V' i l e sz := fun h hh => k h ⟨hh.gd, hh.nx, hh.old, fun p hp => hh.own p (hs p hp)⟩
theorem row_kn {h : Heap} {i n : Nat} {l : List α} (hs : ∀ x, (enc x).length = sz) (hz : 0 < sz) (hg : h.get i = some (.row (enF enc l) e sz)) (hn : l.length = n) : knownN h i sz = n := by
  unfold knownN
  rw [hg]
  simp only [if_true]
  rw [enF_len hs, Nat.mul_div_cancel _ hz, hn]
theorem row_to {h : Heap} {i k n : Nat} {l : List α} (hs : ∀ x, (enc x).length = sz) (hz : 0 < sz) (hg : h.get i = some (.row (enF enc l) e sz)) (hn : l.length = n) (hk : k ≤ n) (ht : P.underlying t = some (.slice e)) (hse : sizeT P e = some sz) : evSlice P h t (.slice i 0 n (.m 0)) none (some (.int .i64 (k : Int))) none = some (.slice i 0 k (.m 0)) := by
  unfold evSlice
  rw [if_neg (by simp), ht]
  simp only [hse, row_kn hs hz hg hn, evSliceM, optB, boundIn]
  rw [if_pos (by omega)]
  simp
def fromR (i n k sz : Nat) : AV := if k = 0 ∨ k < n then .slice i (k * sz) (n - k) (.m k) else .sliceE i (k * sz) k
theorem row_from {h : Heap} {i k n : Nat} {l : List α} (hs : ∀ x, (enc x).length = sz) (hz : 0 < sz) (hg : h.get i = some (.row (enF enc l) e sz)) (hn : l.length = n) (hk : k ≤ n) (ht : P.underlying t = some (.slice e)) (hse : sizeT P e = some sz) : evSlice P h t (.slice i 0 n (.m 0)) (some (.int .i64 (k : Int))) none none = some (fromR i n k sz) := by
  unfold evSlice fromR
  rw [if_neg (by simp), ht]
  simp only [hse, row_kn hs hz hg hn, evSliceM, optB, boundIn]
  rw [if_pos (by omega)]
  simp only [Option.bind_some, Int.toNat_natCast, Nat.zero_add, Nat.add_zero]
  by_cases hc : k = 0 ∨ k < n
  · simp [hc]
  · have h5 : n = k := by omega
    have h6 : ¬ k = 0 := by omega
    subst h5
    simp [h6]
theorem row_loadN {h : Heap} {i : Nat} {l : List α} (hs : ∀ x, (enc x).length = sz) (hg : h.get i = some (.row (enF enc l) e sz)) {k m : Nat} (hk : k + m ≤ l.length) : h.loadN i (k * sz) (m * sz) = some (enF enc ((l.drop k).take m)) := by
  have e1 : enF enc l = enF enc (l.take k) ++ (enF enc ((l.drop k).take m) ++ enF enc ((l.drop k).drop m)) := by
    rw [← enF_app, List.take_append_drop, ← enF_app, List.take_append_drop]
  have l1 : (enF enc (l.take k)).length = k * sz := by rw [enF_len hs, List.length_take, Nat.min_eq_left (by omega)]
  have l2 : (enF enc ((l.drop k).take m)).length = m * sz := by rw [enF_len hs, List.length_take, List.length_drop, Nat.min_eq_left (by omega)]
  unfold Heap.loadN
  rw [hg]
  simp only
  rw [dropN_eq, e1, List.drop_left' l1, ← l2]
  exact takeN_left _ _
theorem comes_to {i k n : Nat} {l : List α} (hs : ∀ x, (enc x).length = sz) (hok : ∀ x, (enc x).all okCell = true) (hr : RowAt h0 W V i (enF enc l) e sz) (hn : l.length = n) (hk : k ≤ n) (h2 : n ≤ 1000000) : ComesA h0 W V (.slice i 0 k (.m 0)) sz k (enF enc (l.take k)) := by
  have hl : (l.take k).length = k := by rw [List.length_take]; omega
  have hld : ∀ h, Vw h0 W V h → h.loadN i 0 (k * sz) = some (enF enc (l.take k)) := fun h hh => by
    have := row_loadN hs (hr h hh) (k := 0) (m := k) (by omega)
    rw [Nat.zero_mul, List.drop_zero] at this
    exact this
  rcases Nat.eq_zero_or_pos k with h0' | h0'
  · subst h0'
    exact .inl ⟨rfl, by simp [enF], rfl, fun h hh => by
      show h.loadN i 0 (0 * sz) = _
      have := hld h hh
      simpa [enF] using this⟩
  · exact .inr ⟨h0', i, 0, _, rfl, by omega, by rw [enF_len hs, hl], enF_ok fun x _ => hok x, hld⟩
theorem comes_from {i k n : Nat} {l : List α} (hs : ∀ x, (enc x).length = sz) (hok : ∀ x, (enc x).all okCell = true) (hr : RowAt h0 W V i (enF enc l) e sz) (hn : l.length = n) (hk : k ≤ n) (h2 : n ≤ 1000000) : ComesA h0 W V (fromR i n k sz) sz (n - k) (enF enc (l.drop k)) := by
  have hl : (l.drop k).length = n - k := by rw [List.length_drop, hn]
  have hld : ∀ h, Vw h0 W V h → h.loadN i (k * sz) ((n - k) * sz) = some (enF enc (l.drop k)) := fun h hh => by
    have := row_loadN hs (hr h hh) (k := k) (m := n - k) (by omega)
    rw [List.take_of_length_le (by omega)] at this
    exact this
  unfold fromR
  rcases Nat.eq_zero_or_pos (n - k) with h0' | h0'
  · have hd : enF enc (l.drop k) = [] := by rw [List.drop_eq_nil_of_le (by omega)]; simp [enF]
    by_cases hc : k = 0 ∨ k < n
    · rw [if_pos hc]
      refine .inl ⟨h0', hd, by simp [lenOfA, h0'], fun h hh => ?_⟩
      have := hld h hh
      rw [hd, h0'] at this
      exact this
    · rw [if_neg hc]
      exact .inl ⟨h0', hd, rfl, fun _ _ => rfl⟩
  · rw [if_pos (by omega)]
    exact .inr ⟨h0', i, _, _, rfl, by omega, by rw [enF_len hs, hl], enF_ok fun x _ => hok x, hld⟩
theorem comes_nil : ComesA h0 W V .slice0 sz 0 [] := .inl ⟨rfl, rfl, rfl, fun _ _ => rfl⟩
theorem comes_mk {j m : Nat} {l : List AV} {ty : TypeId} (hm : (j, AObj.cells l ty) ∈ V) (h0' : 0 < m) (h1 : m ≤ 1000000) (hl : l.length = m * sz) (hok : l.all okCell = true) : ComesA h0 W V (.slice j 0 m (.k m)) sz m l :=
  .inr ⟨h0', j, 0, _, rfl, h1, hl, hok, fun h hh => readN_load (hh.own _ hm).1 (by simp only [AObj.readN, dropN_eq, List.drop_zero]; rw [← hl]; exact takeN_all l)⟩
end
section
variable {P : Program} {B : Base} {Q : Post} {h0 : Heap} {W : List Nat} {N : Nat} {D : List Nat} {K : List Fr} {s : Sl} {L : Ob} {n : Nat} {ops : Array Oper} {rnd : Option Nat}
/-- a drawn region, where a block that was there before has the last label -/
theorem WK.regionF {i} (Ls : Ob) (j : Nat) (hj : j < h0.next) (hW0 : W = []) (hsub : Ls.Sublist L) (k : WE P B Q h0 W N D K ops ops.toList s L [] (Ls.map (·.1) ++ [j]) n []) (hn : (Ls.map (·.1) ++ [j]).length = n := by exact rfl) (hs : staticOk ops = true := by decide +kernel) : WK P B Q h0 W N D (.job (.code rnd (.region i ops true)) :: K) s L :=
  ⟨fun a h ha hh => KRun.regionT hs (k.run a h [] ha (DS.init hh) rfl rfl (by
    rw [List.nodup_append]
    refine ⟨hh.nodup.sublist (hsub.map _), by simp, fun x hx y hy e => ?_⟩
    obtain ⟨p, hp, rfl⟩ := List.mem_map.1 hx
    rw [List.mem_singleton.1 hy] at e
    have := (hh.own p (hsub.subset hp)).2.2.2
    subst hW0
    rcases this with h1 | h1
    · omega
    · cases h1) (fun i hi => by
    rcases List.mem_append.1 hi with hi | hi
    · obtain ⟨p, hp, rfl⟩ := List.mem_map.1 hi
      exact (hh.own p (hsub.subset hp)).2.2.1
    · rw [List.mem_singleton.1 hi]
      exact Nat.lt_of_lt_of_le hj hh.nx) hn (by subst hW0; exact fun _ h => by cases h))⟩
end
end Go.Proofs.YtkebbdpfjhhdhaaGreat.Ev

/- Layer 8: the reference's Formed. -/
namespace Go.Proofs.YtkebbdpfjhhdhaaGreat
open Go.Proofs.YtkebbdpfjhhdhaaGreat.Ev

theorem inB_one (n : Int) : inB n 1 16777216 = (inB n 0 16777216 && decide (n > 0)) := by
  unfold inB
  rw [Bool.eq_iff_iff]
  simp
  omega
set_option maxRecDepth 100000 in
theorem rother_con (h : Heap) (g : Gd h) (n : Int) : Con Tryz.prog Bs 91 [.int .i64 n] h [] (.bool (otB n)) [] := by
  refine Con.start rfl Tryz.func91 rfl rfl Tryz.ntmps91 rfl rfl g ?_
  (refine WK.seq ?_; refine WK.region ?_; refine St.assign ?_; refine WO.nil ?_; refine WK.seq ?_; refine WK.region ?_; refine St.move ?_)
  refine St.call (fun _ => rfl) (fun h2 hh => rwithin_con h2 hh.gd n 10 1099511627776) ?_
  (refine St.assign ?_; refine WO.nil ?_)
  refine St.ret (by first | exact .tmp .nil | exact .cell .nil | exact .cell (.tmp .nil) | exact .tmp (.tmp .nil) | exact .cell (.cell .nil) | exact .tmp (.cell .nil) | exact .nil | exact .tmp (.cell (.tmp .nil)) | exact .cell (.tmp (.tmp .nil)) | exact .cell (.cell (.tmp .nil)) | exact .tmp (.tmp (.tmp .nil)) | exact .tmp (.tmp (.tmp (.tmp .nil))) | exact .cell (.cell (.cell .nil))) ?_
  rfl
set_option maxRecDepth 100000 in
set_option maxHeartbeats 16000000 in
theorem rformed_con (h : Heap) (g : Gd h) (x : Im) : Con Tryz.prog Bs 74 [.agg (imC x)] h [] (.bool (frmI x)) [] := by
  refine Con.start rfl Tryz.func74 rfl rfl Tryz.ntmps74 rfl rfl g ?_
  (refine WK.seq ?_; refine WK.region ?_; refine St.box fun _ _ => ?_; refine St.assign ?_; refine WO.nil ?_; refine WK.seq ?_; refine WK.region ?_; refine St.fieldAddr ?_; refine St.load ?_)
  refine St.call (fun _ => rfl) (fun h2 hh => rwithin_con h2 hh.gd x.id 1 1099511627776) ?_
  (refine St.assign ?_; refine WO.nil ?_; refine WK.seq ?_; refine WK.region ?_; refine St.fieldAddr ?_; refine St.load ?_)
  refine St.call (fun _ => rfl) (fun h2 hh => rDay_con h2 hh.gd x.kn) ?_
  (refine St.assign ?_; refine WO.nil ?_; refine WK.seq ?_; refine WK.region ?_; refine St.fieldAddr ?_; refine St.load ?_)
  refine St.call (fun _ => rfl) (fun h2 hh => rDay_con h2 hh.gd x.dy) ?_
  (refine St.assign ?_; refine WO.nil ?_; refine WK.seq ?_; refine WK.region ?_; refine St.fieldAddr ?_; refine St.load ?_)
  refine St.call (fun _ => rfl) (fun h2 hh => rwithin_con h2 hh.gd x.bl 1 1099511627776) ?_
  (refine St.assign ?_; refine WO.nil ?_; refine WK.seq ?_; refine WK.region ?_; refine St.fieldAddr ?_; refine St.load ?_)
  refine St.call (fun _ => rfl) (fun h2 hh => rwithin_con h2 hh.gd x.am 0 16777216) ?_
  (refine St.assign ?_; refine WO.nil ?_; refine WK.seq ?_; refine WK.region ?_; refine St.fieldAddr ?_; refine St.load ?_)
  refine St.call (fun _ => rfl) (fun h2 hh => rother_con h2 hh.gd x.ac) ?_
  cases h1 : inB x.id 1 1099511627776
  · (refine St.assign ?_; refine WO.nil ?_; refine WK.seq ?_; refine WK.seq ?_; refine WK.region ?_; refine St.move ?_; refine St.un ?_; refine St.move ?_; refine St.skip ?_; refine St.skip ?_; refine St.pickT ?_; refine WO.nil ?_; refine WK.condT ?_; refine WK.seq ?_; refine WK.region ?_; refine St.assign ?_; refine WO.nil ?_)
    refine St.ret (by first | exact .tmp .nil | exact .cell .nil | exact .cell (.tmp .nil) | exact .tmp (.tmp .nil) | exact .cell (.cell .nil) | exact .tmp (.cell .nil) | exact .nil | exact .tmp (.cell (.tmp .nil)) | exact .cell (.tmp (.tmp .nil)) | exact .cell (.cell (.tmp .nil)) | exact .tmp (.tmp (.tmp .nil)) | exact .tmp (.tmp (.tmp (.tmp .nil))) | exact .cell (.cell (.cell .nil))) ?_
    simp [oneOf, frmI, idB, h1]
  cases h2 : inB x.kn 0 728
  · (refine St.assign ?_; refine WO.nil ?_; refine WK.seq ?_; refine WK.seq ?_; refine WK.region ?_; refine St.move ?_; refine St.un ?_; refine St.move ?_; refine St.move ?_; refine St.un ?_; refine St.pickF ?_; refine WO.nil ?_; refine WK.condT ?_; refine WK.seq ?_; refine WK.region ?_; refine St.assign ?_; refine WO.nil ?_)
    refine St.ret (by first | exact .tmp .nil | exact .cell .nil | exact .cell (.tmp .nil) | exact .tmp (.tmp .nil) | exact .cell (.cell .nil) | exact .tmp (.cell .nil) | exact .nil | exact .tmp (.cell (.tmp .nil)) | exact .cell (.tmp (.tmp .nil)) | exact .cell (.cell (.tmp .nil)) | exact .tmp (.tmp (.tmp .nil)) | exact .tmp (.tmp (.tmp (.tmp .nil))) | exact .cell (.cell (.cell .nil))) ?_
    simp [oneOf, frmI, idB, dyB, h1, h2]
  have hd : frmI x = kndI x := by simp [frmI, idB, dyB, h1, h2]
  rw [hd]
  clear hd h1 h2
  (refine St.assign ?_; refine WO.nil ?_; refine WK.seq ?_; refine WK.seq ?_; refine WK.region ?_; refine St.move ?_; refine St.un ?_; refine St.move ?_; refine St.move ?_; refine St.un ?_; refine St.pickF ?_; refine WO.nil ?_; refine WK.condF ?_; refine WK.skip ?_; refine WK.seq ?_; refine WK.seq ?_; refine WK.region ?_; refine St.fieldAddr ?_; refine St.load ?_; refine WO.nil ?_; refine WK.block ?_; refine WK.seq ?_; refine WK.region ?_; refine St.bin ?_; refine St.assign ?_; refine WO.nil ?_)
  refine St.splitC (fun q => ?_) (fun q => ?_)
  · have k1 : x.kd = 1 := by simpa using q
    cases h3 : inB x.dy 0 728
    · (refine WK.seq ?_; refine WK.region ?_; refine St.move ?_; refine St.move ?_; refine St.skip ?_; refine St.pickF ?_; refine St.move ?_; refine St.skip ?_; refine St.pickF ?_; refine St.move ?_; refine St.skip ?_; refine St.pickF ?_; refine St.assign ?_; refine WO.nil ?_)
      refine St.ret (by first | exact .tmp .nil | exact .cell .nil | exact .cell (.tmp .nil) | exact .tmp (.tmp .nil) | exact .cell (.cell .nil) | exact .tmp (.cell .nil) | exact .nil | exact .tmp (.cell (.tmp .nil)) | exact .cell (.tmp (.tmp .nil)) | exact .cell (.cell (.tmp .nil)) | exact .tmp (.tmp (.tmp .nil)) | exact .tmp (.tmp (.tmp (.tmp .nil))) | exact .cell (.cell (.cell .nil))) ?_
      simp [oneOf, kndI, k1, dyB, idB, h3]
    cases h4 : inB x.bl 1 1099511627776
    · (refine WK.seq ?_; refine WK.region ?_; refine St.move ?_; refine St.move ?_; refine St.move ?_; refine St.pickT ?_; refine St.move ?_; refine St.skip ?_; refine St.pickF ?_; refine St.move ?_; refine St.skip ?_; refine St.pickF ?_; refine St.assign ?_; refine WO.nil ?_)
      refine St.ret (by first | exact .tmp .nil | exact .cell .nil | exact .cell (.tmp .nil) | exact .tmp (.tmp .nil) | exact .cell (.cell .nil) | exact .tmp (.cell .nil) | exact .nil | exact .tmp (.cell (.tmp .nil)) | exact .cell (.tmp (.tmp .nil)) | exact .cell (.cell (.tmp .nil)) | exact .tmp (.tmp (.tmp .nil)) | exact .tmp (.tmp (.tmp (.tmp .nil))) | exact .cell (.cell (.cell .nil))) ?_
      simp [oneOf, kndI, k1, dyB, idB, h3, h4]
    cases h5 : otB x.ac
    · (refine WK.seq ?_; refine WK.region ?_; refine St.move ?_; refine St.move ?_; refine St.move ?_; refine St.pickT ?_; refine St.move ?_; refine St.move ?_; refine St.pickT ?_; refine St.move ?_; refine St.skip ?_; refine St.pickF ?_; refine St.assign ?_; refine WO.nil ?_)
      refine St.ret (by first | exact .tmp .nil | exact .cell .nil | exact .cell (.tmp .nil) | exact .tmp (.tmp .nil) | exact .cell (.cell .nil) | exact .tmp (.cell .nil) | exact .nil | exact .tmp (.cell (.tmp .nil)) | exact .cell (.tmp (.tmp .nil)) | exact .cell (.cell (.tmp .nil)) | exact .tmp (.tmp (.tmp .nil)) | exact .tmp (.tmp (.tmp (.tmp .nil))) | exact .cell (.cell (.cell .nil))) ?_
      simp [oneOf, kndI, k1, dyB, idB, h3, h4, h5]
    (refine WK.seq ?_; refine WK.region ?_; refine St.move ?_; refine St.move ?_; refine St.move ?_; refine St.pickT ?_; refine St.move ?_; refine St.move ?_; refine St.pickT ?_; refine St.move ?_; refine St.move ?_; refine St.pickT ?_; refine St.assign ?_; refine WO.nil ?_)
    refine St.ret (by first | exact .tmp .nil | exact .cell .nil | exact .cell (.tmp .nil) | exact .tmp (.tmp .nil) | exact .cell (.cell .nil) | exact .tmp (.cell .nil) | exact .nil | exact .tmp (.cell (.tmp .nil)) | exact .cell (.tmp (.tmp .nil)) | exact .cell (.cell (.tmp .nil)) | exact .tmp (.tmp (.tmp .nil)) | exact .tmp (.tmp (.tmp (.tmp .nil))) | exact .cell (.cell (.cell .nil))) ?_
    simp [oneOf, kndI, k1, dyB, idB, h3, h4, h5]
  have k1 : ¬ x.kd = 1 := by simpa using q
  (refine WK.seq ?_; refine WK.region ?_; refine St.bin ?_; refine St.assign ?_; refine WO.nil ?_)
  refine St.splitC (fun q => ?_) (fun q => ?_)
  · have k2 : x.kd = 2 := by simpa using q
    cases h4 : inB x.bl 1 1099511627776
    · (refine WK.seq ?_; refine WK.region ?_; refine St.move ?_; refine St.move ?_; refine St.skip ?_; refine St.pickF ?_; refine St.move ?_; refine St.skip ?_; refine St.skip ?_; refine St.skip ?_; refine St.pickF ?_; refine St.move ?_; refine St.skip ?_; refine St.skip ?_; refine St.skip ?_; refine St.pickF ?_; refine St.assign ?_; refine WO.nil ?_)
      refine St.ret (by first | exact .tmp .nil | exact .cell .nil | exact .cell (.tmp .nil) | exact .tmp (.tmp .nil) | exact .cell (.cell .nil) | exact .tmp (.cell .nil) | exact .nil | exact .tmp (.cell (.tmp .nil)) | exact .cell (.tmp (.tmp .nil)) | exact .cell (.cell (.tmp .nil)) | exact .tmp (.tmp (.tmp .nil)) | exact .tmp (.tmp (.tmp (.tmp .nil))) | exact .cell (.cell (.cell .nil))) ?_
      simp [oneOf, kndI, k2, dyB, idB, h4]
    cases h6 : inB x.am 0 16777216
    · (refine WK.seq ?_; refine WK.region ?_; refine St.move ?_; refine St.move ?_; refine St.move ?_; refine St.pickT ?_; refine St.move ?_; refine St.skip ?_; refine St.skip ?_; refine St.skip ?_; refine St.pickF ?_; refine St.move ?_; refine St.skip ?_; refine St.skip ?_; refine St.skip ?_; refine St.pickF ?_; refine St.assign ?_; refine WO.nil ?_)
      refine St.ret (by first | exact .tmp .nil | exact .cell .nil | exact .cell (.tmp .nil) | exact .tmp (.tmp .nil) | exact .cell (.cell .nil) | exact .tmp (.cell .nil) | exact .nil | exact .tmp (.cell (.tmp .nil)) | exact .cell (.tmp (.tmp .nil)) | exact .cell (.cell (.tmp .nil)) | exact .tmp (.tmp (.tmp .nil)) | exact .tmp (.tmp (.tmp (.tmp .nil))) | exact .cell (.cell (.cell .nil))) ?_
      simp [oneOf, kndI, k2, dyB, idB, h4, h6]
    (refine WK.seq ?_; refine WK.region ?_; refine St.move ?_; refine St.move ?_; refine St.move ?_; refine St.pickT ?_; refine St.move ?_; refine St.fieldAddr ?_; refine St.load ?_; refine St.bin ?_; refine St.pickT ?_; refine St.move ?_)
    refine St.split (fun q => ?_) (fun q => ?_)
    rotate_left
    · have e1 : ¬ x.dy = 0 := by simpa using q
      (refine St.skip ?_; refine St.skip ?_; refine St.skip ?_; refine St.pickF ?_; refine St.assign ?_; refine WO.nil ?_)
      refine St.ret (by first | exact .tmp .nil | exact .cell .nil | exact .cell (.tmp .nil) | exact .tmp (.tmp .nil) | exact .cell (.cell .nil) | exact .tmp (.cell .nil) | exact .nil | exact .tmp (.cell (.tmp .nil)) | exact .cell (.tmp (.tmp .nil)) | exact .cell (.cell (.tmp .nil)) | exact .tmp (.tmp (.tmp .nil)) | exact .tmp (.tmp (.tmp (.tmp .nil))) | exact .cell (.cell (.cell .nil))) ?_
      simp [oneOf, kndI, k2, dyB, idB, h4, h6, e1]
      all_goals (rw [Bool.eq_iff_iff]; simp)
    have e1 : x.dy = 0 := by simpa using q
    (refine St.fieldAddr ?_; refine St.load ?_; refine St.bin ?_; refine St.pickT ?_; refine St.assign ?_; refine WO.nil ?_)
    refine St.ret (by first | exact .tmp .nil | exact .cell .nil | exact .cell (.tmp .nil) | exact .tmp (.tmp .nil) | exact .cell (.cell .nil) | exact .tmp (.cell .nil) | exact .nil | exact .tmp (.cell (.tmp .nil)) | exact .cell (.tmp (.tmp .nil)) | exact .cell (.cell (.tmp .nil)) | exact .tmp (.tmp (.tmp .nil)) | exact .tmp (.tmp (.tmp (.tmp .nil))) | exact .cell (.cell (.cell .nil))) ?_
    simp [oneOf, kndI, k2, dyB, idB, h4, h6, e1]
    all_goals (rw [Bool.eq_iff_iff]; simp)
  have k2 : ¬ x.kd = 2 := by simpa using q
  (refine WK.seq ?_; refine WK.seq ?_; refine WK.region ?_; refine St.bin ?_; refine St.assign ?_; refine WO.nil ?_)
  refine St.splitC (fun q => ?_) (fun q => ?_)
  · have k3 : x.kd = 3 := by simpa using q
    have hone := inB_one x.am
    cases h3 : inB x.dy 0 728
    · (refine WK.skip ?_; refine WK.condT ?_; refine WK.seq ?_; refine WK.region ?_; refine St.move ?_; refine St.move ?_; refine St.skip ?_; refine St.pickF ?_; refine St.move ?_; refine St.skip ?_; refine St.pickF ?_; refine St.move ?_; refine St.skip ?_; refine St.skip ?_; refine St.skip ?_; refine St.pickF ?_; refine St.move ?_; refine St.skip ?_; refine St.skip ?_; refine St.skip ?_; refine St.pickF ?_; refine St.assign ?_; refine WO.nil ?_)
      refine St.ret (by first | exact .tmp .nil | exact .cell .nil | exact .cell (.tmp .nil) | exact .tmp (.tmp .nil) | exact .cell (.cell .nil) | exact .tmp (.cell .nil) | exact .nil | exact .tmp (.cell (.tmp .nil)) | exact .cell (.tmp (.tmp .nil)) | exact .cell (.cell (.tmp .nil)) | exact .tmp (.tmp (.tmp .nil)) | exact .tmp (.tmp (.tmp (.tmp .nil))) | exact .cell (.cell (.cell .nil))) ?_
      simp [oneOf, kndI, k3, dyB, idB, h3]
    cases h5 : otB x.ac
    · (refine WK.skip ?_; refine WK.condT ?_; refine WK.seq ?_; refine WK.region ?_; refine St.move ?_; refine St.move ?_; refine St.move ?_; refine St.pickT ?_; refine St.move ?_; refine St.skip ?_; refine St.pickF ?_; refine St.move ?_; refine St.skip ?_; refine St.skip ?_; refine St.skip ?_; refine St.pickF ?_; refine St.move ?_; refine St.skip ?_; refine St.skip ?_; refine St.skip ?_; refine St.pickF ?_; refine St.assign ?_; refine WO.nil ?_)
      refine St.ret (by first | exact .tmp .nil | exact .cell .nil | exact .cell (.tmp .nil) | exact .tmp (.tmp .nil) | exact .cell (.cell .nil) | exact .tmp (.cell .nil) | exact .nil | exact .tmp (.cell (.tmp .nil)) | exact .cell (.tmp (.tmp .nil)) | exact .cell (.cell (.tmp .nil)) | exact .tmp (.tmp (.tmp .nil)) | exact .tmp (.tmp (.tmp (.tmp .nil))) | exact .cell (.cell (.cell .nil))) ?_
      simp [oneOf, kndI, k3, dyB, idB, h3, h5]
    cases h6 : inB x.am 0 16777216
    · (refine WK.skip ?_; refine WK.condT ?_; refine WK.seq ?_; refine WK.region ?_; refine St.move ?_; refine St.move ?_; refine St.move ?_; refine St.pickT ?_; refine St.move ?_; refine St.move ?_; refine St.pickT ?_; refine St.move ?_; refine St.skip ?_; refine St.skip ?_; refine St.skip ?_; refine St.pickF ?_; refine St.move ?_; refine St.skip ?_; refine St.skip ?_; refine St.skip ?_; refine St.pickF ?_; refine St.assign ?_; refine WO.nil ?_)
      refine St.ret (by first | exact .tmp .nil | exact .cell .nil | exact .cell (.tmp .nil) | exact .tmp (.tmp .nil) | exact .cell (.cell .nil) | exact .tmp (.cell .nil) | exact .nil | exact .tmp (.cell (.tmp .nil)) | exact .cell (.tmp (.tmp .nil)) | exact .cell (.cell (.tmp .nil)) | exact .tmp (.tmp (.tmp .nil)) | exact .tmp (.tmp (.tmp (.tmp .nil))) | exact .cell (.cell (.cell .nil))) ?_
      simp [oneOf, kndI, k3, dyB, idB, h3, h5, hone, h6]
    (refine WK.skip ?_; refine WK.condT ?_; refine WK.seq ?_; refine WK.region ?_; refine St.move ?_; refine St.move ?_; refine St.move ?_; refine St.pickT ?_; refine St.move ?_; refine St.move ?_; refine St.pickT ?_; refine St.move ?_; refine St.fieldAddr ?_; refine St.load ?_; refine St.bin ?_; refine St.pickT ?_; refine St.move ?_)
    refine St.split (fun q => ?_) (fun q => ?_)
    rotate_left
    · have e1 : ¬ x.am > 0 := by simpa using q
      (refine St.skip ?_; refine St.skip ?_; refine St.skip ?_; refine St.pickF ?_; refine St.assign ?_; refine WO.nil ?_)
      refine St.ret (by first | exact .tmp .nil | exact .cell .nil | exact .cell (.tmp .nil) | exact .tmp (.tmp .nil) | exact .cell (.cell .nil) | exact .tmp (.cell .nil) | exact .nil | exact .tmp (.cell (.tmp .nil)) | exact .cell (.tmp (.tmp .nil)) | exact .cell (.cell (.tmp .nil)) | exact .tmp (.tmp (.tmp .nil)) | exact .tmp (.tmp (.tmp (.tmp .nil))) | exact .cell (.cell (.cell .nil))) ?_
      simp [oneOf, kndI, k3, dyB, idB, h3, h5, hone, h6, e1]
      all_goals (rw [Bool.eq_iff_iff]; simp)
    have e1 : x.am > 0 := by simpa using q
    (refine St.fieldAddr ?_; refine St.load ?_; refine St.bin ?_; refine St.pickT ?_; refine St.assign ?_; refine WO.nil ?_)
    refine St.ret (by first | exact .tmp .nil | exact .cell .nil | exact .cell (.tmp .nil) | exact .tmp (.tmp .nil) | exact .cell (.cell .nil) | exact .tmp (.cell .nil) | exact .nil | exact .tmp (.cell (.tmp .nil)) | exact .cell (.tmp (.tmp .nil)) | exact .cell (.cell (.tmp .nil)) | exact .tmp (.tmp (.tmp .nil)) | exact .tmp (.tmp (.tmp (.tmp .nil))) | exact .cell (.cell (.cell .nil))) ?_
    simp [oneOf, kndI, k3, dyB, idB, h3, h5, hone, h6, e1]
    all_goals (rw [Bool.eq_iff_iff]; simp)
  have k3 : ¬ x.kd = 3 := by simpa using q
  (refine WK.seq ?_; refine WK.region ?_; refine St.bin ?_; refine St.assign ?_; refine WO.nil ?_)
  refine St.splitC (fun q => ?_) (fun q => ?_)
  · have k4 : x.kd = 4 := by simpa using q
    have hone := inB_one x.am
    cases h3 : inB x.dy 0 728
    · (refine WK.skip ?_; refine WK.condT ?_; refine WK.seq ?_; refine WK.region ?_; refine St.move ?_; refine St.move ?_; refine St.skip ?_; refine St.pickF ?_; refine St.move ?_; refine St.skip ?_; refine St.pickF ?_; refine St.move ?_; refine St.skip ?_; refine St.skip ?_; refine St.skip ?_; refine St.pickF ?_; refine St.move ?_; refine St.skip ?_; refine St.skip ?_; refine St.skip ?_; refine St.pickF ?_; refine St.assign ?_; refine WO.nil ?_)
      refine St.ret (by first | exact .tmp .nil | exact .cell .nil | exact .cell (.tmp .nil) | exact .tmp (.tmp .nil) | exact .cell (.cell .nil) | exact .tmp (.cell .nil) | exact .nil | exact .tmp (.cell (.tmp .nil)) | exact .cell (.tmp (.tmp .nil)) | exact .cell (.cell (.tmp .nil)) | exact .tmp (.tmp (.tmp .nil)) | exact .tmp (.tmp (.tmp (.tmp .nil))) | exact .cell (.cell (.cell .nil))) ?_
      simp [oneOf, kndI, k4, dyB, idB, h3]
    cases h5 : otB x.ac
    · (refine WK.skip ?_; refine WK.condT ?_; refine WK.seq ?_; refine WK.region ?_; refine St.move ?_; refine St.move ?_; refine St.move ?_; refine St.pickT ?_; refine St.move ?_; refine St.skip ?_; refine St.pickF ?_; refine St.move ?_; refine St.skip ?_; refine St.skip ?_; refine St.skip ?_; refine St.pickF ?_; refine St.move ?_; refine St.skip ?_; refine St.skip ?_; refine St.skip ?_; refine St.pickF ?_; refine St.assign ?_; refine WO.nil ?_)
      refine St.ret (by first | exact .tmp .nil | exact .cell .nil | exact .cell (.tmp .nil) | exact .tmp (.tmp .nil) | exact .cell (.cell .nil) | exact .tmp (.cell .nil) | exact .nil | exact .tmp (.cell (.tmp .nil)) | exact .cell (.tmp (.tmp .nil)) | exact .cell (.cell (.tmp .nil)) | exact .tmp (.tmp (.tmp .nil)) | exact .tmp (.tmp (.tmp (.tmp .nil))) | exact .cell (.cell (.cell .nil))) ?_
      simp [oneOf, kndI, k4, dyB, idB, h3, h5]
    cases h6 : inB x.am 0 16777216
    · (refine WK.skip ?_; refine WK.condT ?_; refine WK.seq ?_; refine WK.region ?_; refine St.move ?_; refine St.move ?_; refine St.move ?_; refine St.pickT ?_; refine St.move ?_; refine St.move ?_; refine St.pickT ?_; refine St.move ?_; refine St.skip ?_; refine St.skip ?_; refine St.skip ?_; refine St.pickF ?_; refine St.move ?_; refine St.skip ?_; refine St.skip ?_; refine St.skip ?_; refine St.pickF ?_; refine St.assign ?_; refine WO.nil ?_)
      refine St.ret (by first | exact .tmp .nil | exact .cell .nil | exact .cell (.tmp .nil) | exact .tmp (.tmp .nil) | exact .cell (.cell .nil) | exact .tmp (.cell .nil) | exact .nil | exact .tmp (.cell (.tmp .nil)) | exact .cell (.tmp (.tmp .nil)) | exact .cell (.cell (.tmp .nil)) | exact .tmp (.tmp (.tmp .nil)) | exact .tmp (.tmp (.tmp (.tmp .nil))) | exact .cell (.cell (.cell .nil))) ?_
      simp [oneOf, kndI, k4, dyB, idB, h3, h5, hone, h6]
    (refine WK.skip ?_; refine WK.condT ?_; refine WK.seq ?_; refine WK.region ?_; refine St.move ?_; refine St.move ?_; refine St.move ?_; refine St.pickT ?_; refine St.move ?_; refine St.move ?_; refine St.pickT ?_; refine St.move ?_; refine St.fieldAddr ?_; refine St.load ?_; refine St.bin ?_; refine St.pickT ?_; refine St.move ?_)
    refine St.split (fun q => ?_) (fun q => ?_)
    rotate_left
    · have e1 : ¬ x.am > 0 := by simpa using q
      (refine St.skip ?_; refine St.skip ?_; refine St.skip ?_; refine St.pickF ?_; refine St.assign ?_; refine WO.nil ?_)
      refine St.ret (by first | exact .tmp .nil | exact .cell .nil | exact .cell (.tmp .nil) | exact .tmp (.tmp .nil) | exact .cell (.cell .nil) | exact .tmp (.cell .nil) | exact .nil | exact .tmp (.cell (.tmp .nil)) | exact .cell (.tmp (.tmp .nil)) | exact .cell (.cell (.tmp .nil)) | exact .tmp (.tmp (.tmp .nil)) | exact .tmp (.tmp (.tmp (.tmp .nil))) | exact .cell (.cell (.cell .nil))) ?_
      simp [oneOf, kndI, k4, dyB, idB, h3, h5, hone, h6, e1]
      all_goals (rw [Bool.eq_iff_iff]; simp)
    have e1 : x.am > 0 := by simpa using q
    (refine St.fieldAddr ?_; refine St.load ?_; refine St.bin ?_; refine St.pickT ?_; refine St.assign ?_; refine WO.nil ?_)
    refine St.ret (by first | exact .tmp .nil | exact .cell .nil | exact .cell (.tmp .nil) | exact .tmp (.tmp .nil) | exact .cell (.cell .nil) | exact .tmp (.cell .nil) | exact .nil | exact .tmp (.cell (.tmp .nil)) | exact .cell (.tmp (.tmp .nil)) | exact .cell (.cell (.tmp .nil)) | exact .tmp (.tmp (.tmp .nil)) | exact .tmp (.tmp (.tmp (.tmp .nil))) | exact .cell (.cell (.cell .nil))) ?_
    simp [oneOf, kndI, k4, dyB, idB, h3, h5, hone, h6, e1]
    all_goals (rw [Bool.eq_iff_iff]; simp)
  have k4 : ¬ x.kd = 4 := by simpa using q
  (refine WK.seq ?_; refine WK.region ?_; refine St.bin ?_; refine St.assign ?_; refine WO.nil ?_)
  refine St.splitC (fun q => ?_) (fun q => ?_)
  · have k5 : x.kd = 5 := by simpa using q
    have hone := inB_one x.am
    cases h3 : inB x.dy 0 728
    · (refine WK.skip ?_; refine WK.condT ?_; refine WK.seq ?_; refine WK.region ?_; refine St.move ?_; refine St.move ?_; refine St.skip ?_; refine St.pickF ?_; refine St.move ?_; refine St.skip ?_; refine St.pickF ?_; refine St.move ?_; refine St.skip ?_; refine St.skip ?_; refine St.skip ?_; refine St.pickF ?_; refine St.move ?_; refine St.skip ?_; refine St.skip ?_; refine St.skip ?_; refine St.pickF ?_; refine St.assign ?_; refine WO.nil ?_)
      refine St.ret (by first | exact .tmp .nil | exact .cell .nil | exact .cell (.tmp .nil) | exact .tmp (.tmp .nil) | exact .cell (.cell .nil) | exact .tmp (.cell .nil) | exact .nil | exact .tmp (.cell (.tmp .nil)) | exact .cell (.tmp (.tmp .nil)) | exact .cell (.cell (.tmp .nil)) | exact .tmp (.tmp (.tmp .nil)) | exact .tmp (.tmp (.tmp (.tmp .nil))) | exact .cell (.cell (.cell .nil))) ?_
      simp [oneOf, kndI, k5, dyB, idB, h3]
    cases h5 : otB x.ac
    · (refine WK.skip ?_; refine WK.condT ?_; refine WK.seq ?_; refine WK.region ?_; refine St.move ?_; refine St.move ?_; refine St.move ?_; refine St.pickT ?_; refine St.move ?_; refine St.skip ?_; refine St.pickF ?_; refine St.move ?_; refine St.skip ?_; refine St.skip ?_; refine St.skip ?_; refine St.pickF ?_; refine St.move ?_; refine St.skip ?_; refine St.skip ?_; refine St.skip ?_; refine St.pickF ?_; refine St.assign ?_; refine WO.nil ?_)
      refine St.ret (by first | exact .tmp .nil | exact .cell .nil | exact .cell (.tmp .nil) | exact .tmp (.tmp .nil) | exact .cell (.cell .nil) | exact .tmp (.cell .nil) | exact .nil | exact .tmp (.cell (.tmp .nil)) | exact .cell (.tmp (.tmp .nil)) | exact .cell (.cell (.tmp .nil)) | exact .tmp (.tmp (.tmp .nil)) | exact .tmp (.tmp (.tmp (.tmp .nil))) | exact .cell (.cell (.cell .nil))) ?_
      simp [oneOf, kndI, k5, dyB, idB, h3, h5]
    cases h6 : inB x.am 0 16777216
    · (refine WK.skip ?_; refine WK.condT ?_; refine WK.seq ?_; refine WK.region ?_; refine St.move ?_; refine St.move ?_; refine St.move ?_; refine St.pickT ?_; refine St.move ?_; refine St.move ?_; refine St.pickT ?_; refine St.move ?_; refine St.skip ?_; refine St.skip ?_; refine St.skip ?_; refine St.pickF ?_; refine St.move ?_; refine St.skip ?_; refine St.skip ?_; refine St.skip ?_; refine St.pickF ?_; refine St.assign ?_; refine WO.nil ?_)
      refine St.ret (by first | exact .tmp .nil | exact .cell .nil | exact .cell (.tmp .nil) | exact .tmp (.tmp .nil) | exact .cell (.cell .nil) | exact .tmp (.cell .nil) | exact .nil | exact .tmp (.cell (.tmp .nil)) | exact .cell (.tmp (.tmp .nil)) | exact .cell (.cell (.tmp .nil)) | exact .tmp (.tmp (.tmp .nil)) | exact .tmp (.tmp (.tmp (.tmp .nil))) | exact .cell (.cell (.cell .nil))) ?_
      simp [oneOf, kndI, k5, dyB, idB, h3, h5, hone, h6]
    (refine WK.skip ?_; refine WK.condT ?_; refine WK.seq ?_; refine WK.region ?_; refine St.move ?_; refine St.move ?_; refine St.move ?_; refine St.pickT ?_; refine St.move ?_; refine St.move ?_; refine St.pickT ?_; refine St.move ?_; refine St.fieldAddr ?_; refine St.load ?_; refine St.bin ?_; refine St.pickT ?_; refine St.move ?_)
    refine St.split (fun q => ?_) (fun q => ?_)
    rotate_left
    · have e1 : ¬ x.am > 0 := by simpa using q
      (refine St.skip ?_; refine St.skip ?_; refine St.skip ?_; refine St.pickF ?_; refine St.assign ?_; refine WO.nil ?_)
      refine St.ret (by first | exact .tmp .nil | exact .cell .nil | exact .cell (.tmp .nil) | exact .tmp (.tmp .nil) | exact .cell (.cell .nil) | exact .tmp (.cell .nil) | exact .nil | exact .tmp (.cell (.tmp .nil)) | exact .cell (.tmp (.tmp .nil)) | exact .cell (.cell (.tmp .nil)) | exact .tmp (.tmp (.tmp .nil)) | exact .tmp (.tmp (.tmp (.tmp .nil))) | exact .cell (.cell (.cell .nil))) ?_
      simp [oneOf, kndI, k5, dyB, idB, h3, h5, hone, h6, e1]
      all_goals (rw [Bool.eq_iff_iff]; simp)
    have e1 : x.am > 0 := by simpa using q
    (refine St.fieldAddr ?_; refine St.load ?_; refine St.bin ?_; refine St.pickT ?_; refine St.assign ?_; refine WO.nil ?_)
    refine St.ret (by first | exact .tmp .nil | exact .cell .nil | exact .cell (.tmp .nil) | exact .tmp (.tmp .nil) | exact .cell (.cell .nil) | exact .tmp (.cell .nil) | exact .nil | exact .tmp (.cell (.tmp .nil)) | exact .cell (.tmp (.tmp .nil)) | exact .cell (.cell (.tmp .nil)) | exact .tmp (.tmp (.tmp .nil)) | exact .tmp (.tmp (.tmp (.tmp .nil))) | exact .cell (.cell (.cell .nil))) ?_
    simp [oneOf, kndI, k5, dyB, idB, h3, h5, hone, h6, e1]
    all_goals (rw [Bool.eq_iff_iff]; simp)
  have k5 : ¬ x.kd = 5 := by simpa using q
  (refine WK.region ?_; refine St.bin ?_; refine St.assign ?_; refine WO.nil ?_)
  refine St.splitC (fun q => ?_) (fun q => ?_)
  · have k6 : x.kd = 6 := by simpa using q
    have hone := inB_one x.am
    cases h3 : inB x.dy 0 728
    · (refine WK.seq ?_; refine WK.region ?_; refine St.move ?_; refine St.move ?_; refine St.skip ?_; refine St.pickF ?_; refine St.move ?_; refine St.skip ?_; refine St.pickF ?_; refine St.move ?_; refine St.skip ?_; refine St.skip ?_; refine St.skip ?_; refine St.pickF ?_; refine St.move ?_; refine St.skip ?_; refine St.skip ?_; refine St.skip ?_; refine St.pickF ?_; refine St.assign ?_; refine WO.nil ?_)
      refine St.ret (by first | exact .tmp .nil | exact .cell .nil | exact .cell (.tmp .nil) | exact .tmp (.tmp .nil) | exact .cell (.cell .nil) | exact .tmp (.cell .nil) | exact .nil | exact .tmp (.cell (.tmp .nil)) | exact .cell (.tmp (.tmp .nil)) | exact .cell (.cell (.tmp .nil)) | exact .tmp (.tmp (.tmp .nil)) | exact .tmp (.tmp (.tmp (.tmp .nil))) | exact .cell (.cell (.cell .nil))) ?_
      simp [oneOf, kndI, k6, dyB, idB, h3]
    cases h5 : otB x.ac
    · (refine WK.seq ?_; refine WK.region ?_; refine St.move ?_; refine St.move ?_; refine St.move ?_; refine St.pickT ?_; refine St.move ?_; refine St.skip ?_; refine St.pickF ?_; refine St.move ?_; refine St.skip ?_; refine St.skip ?_; refine St.skip ?_; refine St.pickF ?_; refine St.move ?_; refine St.skip ?_; refine St.skip ?_; refine St.skip ?_; refine St.pickF ?_; refine St.assign ?_; refine WO.nil ?_)
      refine St.ret (by first | exact .tmp .nil | exact .cell .nil | exact .cell (.tmp .nil) | exact .tmp (.tmp .nil) | exact .cell (.cell .nil) | exact .tmp (.cell .nil) | exact .nil | exact .tmp (.cell (.tmp .nil)) | exact .cell (.tmp (.tmp .nil)) | exact .cell (.cell (.tmp .nil)) | exact .tmp (.tmp (.tmp .nil)) | exact .tmp (.tmp (.tmp (.tmp .nil))) | exact .cell (.cell (.cell .nil))) ?_
      simp [oneOf, kndI, k6, dyB, idB, h3, h5]
    cases h6 : inB x.am 0 16777216
    · (refine WK.seq ?_; refine WK.region ?_; refine St.move ?_; refine St.move ?_; refine St.move ?_; refine St.pickT ?_; refine St.move ?_; refine St.move ?_; refine St.pickT ?_; refine St.move ?_; refine St.skip ?_; refine St.skip ?_; refine St.skip ?_; refine St.pickF ?_; refine St.move ?_; refine St.skip ?_; refine St.skip ?_; refine St.skip ?_; refine St.pickF ?_; refine St.assign ?_; refine WO.nil ?_)
      refine St.ret (by first | exact .tmp .nil | exact .cell .nil | exact .cell (.tmp .nil) | exact .tmp (.tmp .nil) | exact .cell (.cell .nil) | exact .tmp (.cell .nil) | exact .nil | exact .tmp (.cell (.tmp .nil)) | exact .cell (.tmp (.tmp .nil)) | exact .cell (.cell (.tmp .nil)) | exact .tmp (.tmp (.tmp .nil)) | exact .tmp (.tmp (.tmp (.tmp .nil))) | exact .cell (.cell (.cell .nil))) ?_
      simp [oneOf, kndI, k6, dyB, idB, h3, h5, hone, h6]
    (refine WK.seq ?_; refine WK.region ?_; refine St.move ?_; refine St.move ?_; refine St.move ?_; refine St.pickT ?_; refine St.move ?_; refine St.move ?_; refine St.pickT ?_; refine St.move ?_; refine St.fieldAddr ?_; refine St.load ?_; refine St.bin ?_; refine St.pickT ?_; refine St.move ?_)
    refine St.split (fun q => ?_) (fun q => ?_)
    rotate_left
    · have e1 : ¬ x.am > 0 := by simpa using q
      (refine St.skip ?_; refine St.skip ?_; refine St.skip ?_; refine St.pickF ?_; refine St.assign ?_; refine WO.nil ?_)
      refine St.ret (by first | exact .tmp .nil | exact .cell .nil | exact .cell (.tmp .nil) | exact .tmp (.tmp .nil) | exact .cell (.cell .nil) | exact .tmp (.cell .nil) | exact .nil | exact .tmp (.cell (.tmp .nil)) | exact .cell (.tmp (.tmp .nil)) | exact .cell (.cell (.tmp .nil)) | exact .tmp (.tmp (.tmp .nil)) | exact .tmp (.tmp (.tmp (.tmp .nil))) | exact .cell (.cell (.cell .nil))) ?_
      simp [oneOf, kndI, k6, dyB, idB, h3, h5, hone, h6, e1]
      all_goals (rw [Bool.eq_iff_iff]; simp)
    have e1 : x.am > 0 := by simpa using q
    (refine St.fieldAddr ?_; refine St.load ?_; refine St.bin ?_; refine St.pickT ?_; refine St.assign ?_; refine WO.nil ?_)
    refine St.ret (by first | exact .tmp .nil | exact .cell .nil | exact .cell (.tmp .nil) | exact .tmp (.tmp .nil) | exact .cell (.cell .nil) | exact .tmp (.cell .nil) | exact .nil | exact .tmp (.cell (.tmp .nil)) | exact .cell (.tmp (.tmp .nil)) | exact .cell (.cell (.tmp .nil)) | exact .tmp (.tmp (.tmp .nil)) | exact .tmp (.tmp (.tmp (.tmp .nil))) | exact .cell (.cell (.cell .nil))) ?_
    simp [oneOf, kndI, k6, dyB, idB, h3, h5, hone, h6, e1]
    all_goals (rw [Bool.eq_iff_iff]; simp)
  have k6 : ¬ x.kd = 6 := by simpa using q
  (refine WK.seq ?_; refine WK.region ?_; refine St.bin ?_; refine St.assign ?_; refine WO.nil ?_)
  refine St.splitC (fun q => ?_) (fun q => ?_)
  rotate_left
  · have k7 : ¬ x.kd = 7 := by simpa using q
    (refine WK.skip ?_; refine WK.blk ?_; refine WK.seq ?_; refine WK.region ?_; refine St.assign ?_; refine WO.nil ?_)
    refine St.ret (by first | exact .tmp .nil | exact .cell .nil | exact .cell (.tmp .nil) | exact .tmp (.tmp .nil) | exact .cell (.cell .nil) | exact .tmp (.cell .nil) | exact .nil | exact .tmp (.cell (.tmp .nil)) | exact .cell (.tmp (.tmp .nil)) | exact .cell (.cell (.tmp .nil)) | exact .tmp (.tmp (.tmp .nil)) | exact .tmp (.tmp (.tmp (.tmp .nil))) | exact .cell (.cell (.cell .nil))) ?_
    simp [oneOf, kndI, k1, k2, k3, k4, k5, k6, k7]
  have k7 : x.kd = 7 := by simpa using q
  cases h3 : inB x.dy 0 728
  · (refine WK.seq ?_; refine WK.region ?_; refine St.move ?_; refine St.move ?_; refine St.skip ?_; refine St.skip ?_; refine St.skip ?_; refine St.pickF ?_; refine St.move ?_; refine St.skip ?_; refine St.skip ?_; refine St.skip ?_; refine St.pickF ?_; refine St.move ?_; refine St.skip ?_; refine St.skip ?_; refine St.skip ?_; refine St.pickF ?_; refine St.assign ?_; refine WO.nil ?_)
    refine St.ret (by first | exact .tmp .nil | exact .cell .nil | exact .cell (.tmp .nil) | exact .tmp (.tmp .nil) | exact .cell (.cell .nil) | exact .tmp (.cell .nil) | exact .nil | exact .tmp (.cell (.tmp .nil)) | exact .cell (.tmp (.tmp .nil)) | exact .cell (.cell (.tmp .nil)) | exact .tmp (.tmp (.tmp .nil)) | exact .tmp (.tmp (.tmp (.tmp .nil))) | exact .cell (.cell (.cell .nil))) ?_
    simp [oneOf, kndI, k7, dyB, idB, h3]
  (refine WK.seq ?_; refine WK.region ?_; refine St.move ?_; refine St.move ?_; refine St.fieldAddr ?_; refine St.load ?_; refine St.bin ?_; refine St.pickT ?_; refine St.move ?_)
  refine St.split (fun q => ?_) (fun q => ?_)
  rotate_left
  · have e1 : ¬ x.bl = 0 := by simpa using q
    (refine St.skip ?_; refine St.skip ?_; refine St.skip ?_; refine St.pickF ?_; refine St.move ?_; refine St.skip ?_; refine St.skip ?_; refine St.skip ?_; refine St.pickF ?_; refine St.assign ?_; refine WO.nil ?_)
    refine St.ret (by first | exact .tmp .nil | exact .cell .nil | exact .cell (.tmp .nil) | exact .tmp (.tmp .nil) | exact .cell (.cell .nil) | exact .tmp (.cell .nil) | exact .nil | exact .tmp (.cell (.tmp .nil)) | exact .cell (.tmp (.tmp .nil)) | exact .cell (.cell (.tmp .nil)) | exact .tmp (.tmp (.tmp .nil)) | exact .tmp (.tmp (.tmp (.tmp .nil))) | exact .cell (.cell (.cell .nil))) ?_
    simp [oneOf, kndI, k7, dyB, idB, h3, e1]
  have e1 : x.bl = 0 := by simpa using q
  (refine St.fieldAddr ?_; refine St.load ?_; refine St.bin ?_; refine St.pickT ?_; refine St.move ?_)
  refine St.split (fun q => ?_) (fun q => ?_)
  rotate_left
  · have e2 : ¬ x.ac = 0 := by simpa using q
    (refine St.skip ?_; refine St.skip ?_; refine St.skip ?_; refine St.pickF ?_; refine St.assign ?_; refine WO.nil ?_)
    refine St.ret (by first | exact .tmp .nil | exact .cell .nil | exact .cell (.tmp .nil) | exact .tmp (.tmp .nil) | exact .cell (.cell .nil) | exact .tmp (.cell .nil) | exact .nil | exact .tmp (.cell (.tmp .nil)) | exact .cell (.tmp (.tmp .nil)) | exact .cell (.cell (.tmp .nil)) | exact .tmp (.tmp (.tmp .nil)) | exact .tmp (.tmp (.tmp (.tmp .nil))) | exact .cell (.cell (.cell .nil))) ?_
    simp [oneOf, kndI, k7, dyB, idB, h3, e1, e2]
    all_goals (rw [Bool.eq_iff_iff]; simp)
  have e2 : x.ac = 0 := by simpa using q
  (refine St.fieldAddr ?_; refine St.load ?_; refine St.bin ?_; refine St.pickT ?_; refine St.assign ?_; refine WO.nil ?_)
  refine St.ret (by first | exact .tmp .nil | exact .cell .nil | exact .cell (.tmp .nil) | exact .tmp (.tmp .nil) | exact .cell (.cell .nil) | exact .tmp (.cell .nil) | exact .nil | exact .tmp (.cell (.tmp .nil)) | exact .cell (.tmp (.tmp .nil)) | exact .cell (.cell (.tmp .nil)) | exact .tmp (.tmp (.tmp .nil)) | exact .tmp (.tmp (.tmp (.tmp .nil))) | exact .cell (.cell (.cell .nil))) ?_
  simp [oneOf, kndI, k7, dyB, idB, h3, e1, e2]
  all_goals (rw [Bool.eq_iff_iff]; simp)
end Go.Proofs.YtkebbdpfjhhdhaaGreat
