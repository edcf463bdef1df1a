/- Gauges of the reference: Gauged, agreed, agreedAll, some, Levels. -/
import Derived.Test.YtgjkfmcjalcefaaGreatQa
import Derived.Test.YtgjkfmcjalcefaaGreatQq
namespace Go.Proofs.YtgjkfmcjalcefaaGreat
open Go.Proofs.YtgjkfmcjalcefaaGreat.Ev

theorem GaH.gid {h : Heap} {b off l} (k : GaH h b off l) {z : Int} {n : Nat} (e : z.toNat = n) (hi : n < l.length) : Rd h b (off + z.toNat * 4 + 0) (.int .i64 (nthG l n).id) := (k.at_ e hi).1
theorem GaH.gtk {h : Heap} {b off l} (k : GaH h b off l) {z : Int} {n : Nat} (e : z.toNat = n) (hi : n < l.length) : Rd h b (off + z.toNat * 4 + 1) (.int .i64 (nthG l n).tk) := (k.at_ e hi).2.1
theorem GaH.glo {h : Heap} {b off l} (k : GaH h b off l) {z : Int} {n : Nat} (e : z.toNat = n) (hi : n < l.length) : Rd h b (off + z.toNat * 4 + 2 + 0) (.int .i64 (nthG l n).lo) := (k.at_ e hi).2.2.1
theorem GaH.ghi {h : Heap} {b off l} (k : GaH h b off l) {z : Int} {n : Nat} (e : z.toNat = n) (hi : n < l.length) : Rd h b (off + z.toNat * 4 + 2 + 1) (.int .i64 (nthG l n).hi) := (k.at_ e hi).2.2.2.1
set_option maxRecDepth 100000 in
set_option maxHeartbeats 8000000 in
theorem rgauged_con (h : Heap) (g : Gd h) (lv : Int) (cv sv v : AV) (cl : List Cw) (ss : List Sh) (l : List Ga) (hc : CyV h cv cl) (hs : ShV h sv ss) (hv : GaV h v l) (hl : l.length ≤ 1000000) :
    Con Tryz.prog Bs 37 [.agg [.int .i64 lv, cv, sv], v] h [] (.int .i64 (chkGs lv (cys cl) ss l)) [] := by
  refine Con.start rfl Tryz.func37 rfl rfl Tryz.ntmps37 rfl rfl g ?_
  (refine WK.seq ?_; refine WK.region ?_; refine St.box fun _ _ => ?_; refine St.assign ?_; refine WO.nil ?_; refine WK.seq ?_; refine WK.region ?_; refine St.load ?_)
  rename_i p hp
  refine St.call (fun _ => rfl) (fun h2 hh => rcheck_con h2 hh.gd lv cv sv cl ss (hc.vw hh) (hs.vw hh)) ?_
  by_cases h0 : chkW lv (cys cl) ss = 0
  rotate_left
  · have e : chkGs lv (cys cl) ss l = chkW lv (cys cl) ss := if_pos h0
    rw [e]
    (refine St.assign ?_; refine WO.nil ?_; refine WK.seq ?_; refine WK.seq ?_; refine WK.region ?_; refine St.move ?_; refine St.bin ?_; refine WO.nil ?_)
    refine St.splitC (fun h1 => ?_) (fun h1 => ?_)
    · (refine WK.seq ?_; refine WK.region ?_; refine St.move ?_; refine St.assign ?_; refine WO.nil ?_)
      refine St.ret (by first | exact .tmp .nil | exact .cell .nil | exact .cell (.tmp .nil) | exact .tmp (.tmp .nil) | exact .cell (.cell .nil) | exact .tmp (.cell .nil) | exact .nil | exact .tmp (.cell (.tmp .nil)) | exact .cell (.tmp (.tmp .nil)) | exact .cell (.cell (.tmp .nil)) | exact .tmp (.tmp (.tmp .nil)) | exact .cell (.cell (.cell .nil))) ?_
      rfl
    · exfalso
      simp at h1
      exact h0 h1
  have e : chkGs lv (cys cl) ss l = if 40 < l.length then 2 else chkG [] l := by unfold chkGs; rw [if_neg (by simp [h0])]
  rw [e, h0]
  (refine St.assign ?_; refine WO.nil ?_; refine WK.seq ?_; refine WK.seq ?_; refine WK.region ?_; refine St.move ?_; refine St.bin ?_; refine WO.nil ?_; refine WK.condF ?_; refine WK.skip ?_; refine WK.seq ?_; refine WK.seq ?_; refine WK.region ?_; refine St.move ?_)
  refine St.lenV rfl hv.len ?_
  (refine St.bin ?_; refine WO.nil ?_)
  refine St.splitC (fun h1 => ?_) (fun h1 => ?_)
  · rw [if_pos (by simp at h1; omega)]
    (refine WK.seq ?_; refine WK.region ?_; refine St.assign ?_; refine WO.nil ?_)
    refine St.ret (by first | exact .tmp .nil | exact .cell .nil | exact .cell (.tmp .nil) | exact .tmp (.tmp .nil) | exact .cell (.cell .nil) | exact .tmp (.cell .nil) | exact .nil | exact .tmp (.cell (.tmp .nil)) | exact .cell (.tmp (.tmp .nil)) | exact .cell (.cell (.tmp .nil)) | exact .tmp (.tmp (.tmp .nil)) | exact .cell (.cell (.cell .nil))) ?_
    rfl
  rw [if_neg (by simp at h1; omega)]
  clear h1 e h0
  (refine WK.skip ?_; refine WK.seq ?_; refine WK.seq ?_; refine WK.region ?_; refine St.assign ?_; refine WO.nil ?_; refine WK.block ?_)
  by_cases hn : l.length = 0
  · have e1 : l = [] := List.length_eq_zero_iff.1 hn
    subst e1
    refine WK.unroll ?_
    (refine WK.seq ?_; refine WK.seq ?_; refine WK.region ?_; refine St.move ?_; refine St.move ?_)
    refine St.lenV rfl hv.len ?_
    (refine St.bin ?_; refine WO.nil ?_; refine WK.condF ?_; refine WK.exit ?_; refine WK.seq ?_; refine WK.region ?_; refine St.assign ?_; refine WO.nil ?_)
    refine St.ret (by first | exact .tmp .nil | exact .cell .nil | exact .cell (.tmp .nil) | exact .tmp (.tmp .nil) | exact .cell (.cell .nil) | exact .tmp (.cell .nil) | exact .nil | exact .tmp (.cell (.tmp .nil)) | exact .cell (.tmp (.tmp .nil)) | exact .cell (.cell (.tmp .nil)) | exact .tmp (.tmp (.tmp .nil)) | exact .cell (.cell (.cell .nil))) ?_
    rfl
  obtain ⟨b, off, c, rfl, hk⟩ := hv.ne (by omega)
  refine WK.inv (ι := Nat) (fun z => [(1, .slice b off l.length c), (6, .int .i64 z)]) (fun _ => []) (fun z => z ≤ l.length ∧ chkG [] l = chkG (gids (l.take z)) (l.drop z)) (fun z => l.length - z) 0 ⟨by omega, rfl⟩ ⟨rfl, rfl, trivial⟩ (by (repeat (first | exact List.Sublist.refl _ | exact List.nil_sublist _ | apply List.Sublist.cons_cons | apply List.Sublist.cons))) ?_
  rintro k ⟨hkl, hchk⟩ ih
  (refine WK.seq ?_; refine WK.seq ?_; refine WK.region ?_; refine St.move ?_; refine St.move ?_; refine St.len ?_; refine St.bin ?_; refine WO.nil ?_)
  refine St.splitC (fun hcc => ?_) (fun hcc => ?_)
  · have hlt : k < l.length := by simp at hcc; omega
    have hd := chkG_drop (seen := gids (l.take k)) (l := l) (k := k) hlt
    have hids := gids_succ (l := l) (k := k) hlt
    (refine WK.skip ?_; refine WK.seq ?_; refine WK.block ?_; refine WK.seq ?_; refine WK.region ?_; refine St.move ?_; refine St.move ?_)
    refine St.at ?_
    (refine St.fieldAddr ?_)
    refine St.loadX (fun h2 hh => ((hk.vw hh).gid (z := (k : Int)) (n := k) (by omega) hlt).one rfl) ?_
    skip
    refine St.call (fun _ => rfl) (fun h2 hh => rwithin_con h2 hh.gd (nthG l k).id 1 1099511627776) ?_
    (refine St.assign ?_; refine WO.nil ?_; refine WK.seq ?_; refine WK.region ?_; refine St.move ?_; refine St.move ?_)
    refine St.at ?_
    (refine St.fieldAddr ?_)
    refine St.loadX (fun h2 hh => ((hk.vw hh).gtk (z := (k : Int)) (n := k) (by omega) hlt).one rfl) ?_
    skip
    refine St.call (fun _ => rfl) (fun h2 hh => rwithin_con h2 hh.gd (nthG l k).tk 0 1048576) ?_
    (refine St.assign ?_; refine WO.nil ?_; refine WK.seq ?_; refine WK.seq ?_; refine WK.regionD ?_; refine St.move ?_; refine St.un ?_; refine St.move ?_)
    have bad : ¬ GaOk (nthG l k) → gaOk (nthG l k) = false := fun q => by
      cases e : gaOk (nthG l k) with
      | false => rfl
      | true => exact absurd (gaOk_iff.1 e) q
    refine St.split (fun q1 => ?_) (fun q1 => ?_)
    · (refine St.skip ?_; refine St.skip ?_; refine St.pickT ?_; refine St.move ?_; refine St.skip ?_; refine St.skip ?_; refine St.skip ?_; refine St.skip ?_; refine St.skip ?_; refine St.skip ?_; refine St.skip ?_; refine St.pickT ?_; refine St.move ?_; refine St.skip ?_; refine St.skip ?_; refine St.skip ?_; refine St.skip ?_; refine St.skip ?_; refine St.skip ?_; refine St.skip ?_; refine St.skip ?_; refine St.skip ?_; refine St.skip ?_; refine St.skip ?_; refine St.skip ?_; refine St.skip ?_; refine St.pickT ?_; refine St.move ?_; refine St.skip ?_; refine St.skip ?_; refine St.skip ?_; refine St.skip ?_; refine St.skip ?_; refine St.skip ?_; refine St.skip ?_; refine St.pickT ?_; refine WO.nil ?_; refine WK.condT ?_; refine WK.seq ?_; refine WK.region ?_; refine St.assign ?_; refine WO.nil ?_)
      refine St.ret (by first | exact .tmp .nil | exact .cell .nil | exact .cell (.tmp .nil) | exact .tmp (.tmp .nil) | exact .cell (.cell .nil) | exact .tmp (.cell .nil) | exact .nil | exact .tmp (.cell (.tmp .nil)) | exact .cell (.tmp (.tmp .nil)) | exact .cell (.cell (.tmp .nil)) | exact .tmp (.tmp (.tmp .nil)) | exact .cell (.cell (.cell .nil))) ?_
      rw [hchk, hd, if_pos (bad fun w => by
        have := w.id1; have := w.id2
        simp at q1
        omega)]
      rfl
    (refine St.move ?_; refine St.un ?_; refine St.pickF ?_; refine St.move ?_)
    refine St.split (fun q2 => ?_) (fun q2 => ?_)
    · (refine St.skip ?_; refine St.skip ?_; refine St.skip ?_; refine St.skip ?_; refine St.skip ?_; refine St.skip ?_; refine St.skip ?_; refine St.pickT ?_; refine St.move ?_; refine St.skip ?_; refine St.skip ?_; refine St.skip ?_; refine St.skip ?_; refine St.skip ?_; refine St.skip ?_; refine St.skip ?_; refine St.skip ?_; refine St.skip ?_; refine St.skip ?_; refine St.skip ?_; refine St.skip ?_; refine St.skip ?_; refine St.pickT ?_; refine St.move ?_; refine St.skip ?_; refine St.skip ?_; refine St.skip ?_; refine St.skip ?_; refine St.skip ?_; refine St.skip ?_; refine St.skip ?_; refine St.pickT ?_; refine WO.nil ?_; refine WK.condT ?_; refine WK.seq ?_; refine WK.region ?_; refine St.assign ?_; refine WO.nil ?_)
      refine St.ret (by first | exact .tmp .nil | exact .cell .nil | exact .cell (.tmp .nil) | exact .tmp (.tmp .nil) | exact .cell (.cell .nil) | exact .tmp (.cell .nil) | exact .nil | exact .tmp (.cell (.tmp .nil)) | exact .cell (.tmp (.tmp .nil)) | exact .cell (.cell (.tmp .nil)) | exact .tmp (.tmp (.tmp .nil)) | exact .cell (.cell (.cell .nil))) ?_
      rw [hchk, hd, if_pos (bad fun w => by
        have := w.tk1; have := w.tk2
        simp at q2
        omega)]
      rfl
    (refine St.move ?_; refine St.move ?_)
    refine St.at ?_
    (refine St.fieldAddr ?_; refine St.fieldAddr ?_)
    refine St.loadX (fun h2 hh => ((hk.vw hh).glo (z := (k : Int)) (n := k) (by omega) hlt).one rfl) ?_
    (refine St.bin ?_; refine St.pickF ?_; refine St.move ?_)
    refine St.split (fun q3 => ?_) (fun q3 => ?_)
    · (refine St.skip ?_; refine St.skip ?_; refine St.skip ?_; refine St.skip ?_; refine St.skip ?_; refine St.skip ?_; refine St.skip ?_; refine St.skip ?_; refine St.skip ?_; refine St.skip ?_; refine St.skip ?_; refine St.skip ?_; refine St.skip ?_; refine St.pickT ?_; refine St.move ?_; refine St.skip ?_; refine St.skip ?_; refine St.skip ?_; refine St.skip ?_; refine St.skip ?_; refine St.skip ?_; refine St.skip ?_; refine St.pickT ?_; refine WO.nil ?_; refine WK.condT ?_; refine WK.seq ?_; refine WK.region ?_; refine St.assign ?_; refine WO.nil ?_)
      refine St.ret (by first | exact .tmp .nil | exact .cell .nil | exact .cell (.tmp .nil) | exact .tmp (.tmp .nil) | exact .cell (.cell .nil) | exact .tmp (.cell .nil) | exact .nil | exact .tmp (.cell (.tmp .nil)) | exact .cell (.tmp (.tmp .nil)) | exact .cell (.cell (.tmp .nil)) | exact .tmp (.tmp (.tmp .nil)) | exact .cell (.cell (.cell .nil))) ?_
      rw [hchk, hd, if_pos (bad fun w => by
        have := w.lo
        simp at q3
        omega)]
      rfl
    (refine St.move ?_; refine St.move ?_)
    refine St.at ?_
    (refine St.fieldAddr ?_; refine St.fieldAddr ?_)
    refine St.loadX (fun h2 hh => ((hk.vw hh).glo (z := (k : Int)) (n := k) (by omega) hlt).one rfl) ?_
    (refine St.move ?_; refine St.move ?_)
    refine St.at ?_
    (refine St.fieldAddr ?_; refine St.fieldAddr ?_)
    refine St.loadX (fun h2 hh => ((hk.vw hh).ghi (z := (k : Int)) (n := k) (by omega) hlt).one rfl) ?_
    (refine St.bin ?_; refine St.pickF ?_; refine St.move ?_)
    refine St.split (fun q4 => ?_) (fun q4 => ?_)
    · (refine St.skip ?_; refine St.skip ?_; refine St.skip ?_; refine St.skip ?_; refine St.skip ?_; refine St.skip ?_; refine St.skip ?_; refine St.pickT ?_; refine WO.nil ?_; refine WK.condT ?_; refine WK.seq ?_; refine WK.region ?_; refine St.assign ?_; refine WO.nil ?_)
      refine St.ret (by first | exact .tmp .nil | exact .cell .nil | exact .cell (.tmp .nil) | exact .tmp (.tmp .nil) | exact .cell (.cell .nil) | exact .tmp (.cell .nil) | exact .nil | exact .tmp (.cell (.tmp .nil)) | exact .cell (.tmp (.tmp .nil)) | exact .cell (.cell (.tmp .nil)) | exact .tmp (.tmp (.tmp .nil)) | exact .cell (.cell (.cell .nil))) ?_
      rw [hchk, hd, if_pos (bad fun w => by
        have := w.le
        simp at q4
        omega)]
      rfl
    (refine St.move ?_; refine St.move ?_)
    refine St.at ?_
    (refine St.fieldAddr ?_; refine St.fieldAddr ?_)
    refine St.loadX (fun h2 hh => ((hk.vw hh).ghi (z := (k : Int)) (n := k) (by omega) hlt).one rfl) ?_
    (refine St.bin ?_; refine St.pickF ?_; refine WO.nil ?_)
    refine St.splitC (fun q5 => ?_) (fun q5 => ?_)
    · (refine WK.seq ?_; refine WK.region ?_; refine St.assign ?_; refine WO.nil ?_)
      refine St.ret (by first | exact .tmp .nil | exact .cell .nil | exact .cell (.tmp .nil) | exact .tmp (.tmp .nil) | exact .cell (.cell .nil) | exact .tmp (.cell .nil) | exact .nil | exact .tmp (.cell (.tmp .nil)) | exact .cell (.tmp (.tmp .nil)) | exact .cell (.cell (.tmp .nil)) | exact .tmp (.tmp (.tmp .nil)) | exact .cell (.cell (.cell .nil))) ?_
      rw [hchk, hd, if_pos (bad fun w => by
        have := w.hi
        simp at q5
        omega)]
      rfl
    have hok : gaOk (nthG l k) = true := gaOk_iff.2 (by simp at q1 q2 q3 q4 q5; exact ⟨q1.1, q1.2, q2.1, q2.2, q4, q3, q5⟩)
    rw [if_neg (by simp [hok])] at hd
    clear bad q1 q2 q3 q4 q5
    have hmem : ∀ x, x ∈ gids (l.take k) ↔ ∃ i, i < k ∧ (nthG l i).id = x := fun x => by
      unfold gids
      constructor
      · intro hx
        obtain ⟨y, hy, rfl⟩ := List.mem_map.1 hx
        obtain ⟨i, hi, rfl⟩ := List.getElem_of_mem hy
        have hik : i < k := by rw [List.length_take] at hi; omega
        exact ⟨i, hik, by rw [nthG_eq (by omega), List.getElem_take]⟩
      · rintro ⟨i, hik, rfl⟩
        refine List.mem_map.2 ⟨nthG l i, ?_, rfl⟩
        rw [nthG_eq (by omega), List.mem_take_iff_getElem]
        exact ⟨i, by omega, rfl⟩
    (refine WK.skip ?_; refine WK.seq ?_; refine WK.region ?_; refine St.assign ?_; refine WO.nil ?_; refine WK.block ?_)
    refine WK.inv (ι := Nat) (fun z => [(1, .slice b off l.length c), (6, .int .i64 k), (9, .int .i64 z)]) (fun _ => []) (fun z => z ≤ k ∧ ∀ i, i < z → (nthG l i).id ≠ (nthG l k).id) (fun z => k - z) 0 ⟨by omega, fun i hi => absurd hi (by omega)⟩ ⟨rfl, rfl, rfl, trivial⟩ (by (repeat (first | exact List.Sublist.refl _ | exact List.nil_sublist _ | apply List.Sublist.cons_cons | apply List.Sublist.cons))) ?_
    rintro z ⟨hzk, hne⟩ ih2
    (refine WK.seq ?_; refine WK.seq ?_; refine WK.region ?_; refine St.move ?_; refine St.move ?_; refine St.bin ?_; refine WO.nil ?_)
    refine St.splitC (fun h3 => ?_) (fun h3 => ?_)
    · have hz : z < k := by simp at h3; omega
      (refine WK.skip ?_; refine WK.seq ?_; refine WK.block ?_; refine WK.seq ?_; refine WK.regionD ?_; refine St.move ?_; refine St.move ?_)
      refine St.at ?_
      (refine St.fieldAddr ?_)
      refine St.loadX (fun h2 hh => ((hk.vw hh).gid (z := (z : Int)) (n := z) (by omega) (by omega)).one rfl) ?_
      (refine St.move ?_; refine St.move ?_)
      refine St.at ?_
      (refine St.fieldAddr ?_)
      refine St.loadX (fun h2 hh => ((hk.vw hh).gid (z := (k : Int)) (n := k) (by omega) hlt).one rfl) ?_
      (refine St.bin ?_; refine WO.nil ?_)
      refine St.splitC (fun h4 => ?_) (fun h4 => ?_)
      · rw [if_pos ((hmem _).2 ⟨z, hz, by simpa using h4⟩)] at hd
        (refine WK.seq ?_; refine WK.region ?_; refine St.assign ?_; refine WO.nil ?_)
        refine St.ret (by first | exact .tmp .nil | exact .cell .nil | exact .cell (.tmp .nil) | exact .tmp (.tmp .nil) | exact .cell (.cell .nil) | exact .tmp (.cell .nil) | exact .nil | exact .tmp (.cell (.tmp .nil)) | exact .cell (.tmp (.tmp .nil)) | exact .cell (.cell (.tmp .nil)) | exact .tmp (.tmp (.tmp .nil)) | exact .cell (.cell (.cell .nil))) ?_
        rw [hchk, hd]; rfl
      · (refine WK.skip ?_; refine WK.blk ?_; refine WK.region ?_; refine St.move ?_; refine St.binI ?_; refine St.assign ?_; refine WO.nil ?_)
        refine WK.le ?_ (by (repeat (first | exact List.Sublist.refl _ | exact List.nil_sublist _ | apply List.Sublist.cons_cons | apply List.Sublist.cons))) (ih2 (z + 1) ⟨hz, fun i hi => ?_⟩ (by omega))
        · exact ⟨rfl, rfl, rfl, trivial⟩
        · rcases Nat.lt_succ_iff_lt_or_eq.1 hi with h5 | rfl
          · exact hne i h5
          · simpa using h4
    · have hz : z = k := by simp at h3; omega
      subst hz
      rw [if_neg (fun q => by
        obtain ⟨i, hi, e⟩ := (hmem _).1 q
        exact hne i hi e)] at hd
      clear ih2
      (refine WK.exit ?_; refine WK.blk ?_; refine WK.region ?_; refine St.move ?_; refine St.binI ?_; refine St.assign ?_; refine WO.nil ?_)
      refine WK.le ?_ (by (repeat (first | exact List.Sublist.refl _ | exact List.nil_sublist _ | apply List.Sublist.cons_cons | apply List.Sublist.cons))) (ih (z + 1) ⟨hlt, by rw [hchk, hd, hids]⟩ (by omega))
      exact ⟨rfl, rfl, trivial⟩
  · have : k = l.length := by simp at hcc; omega
    subst this
    (refine WK.exit ?_; refine WK.seq ?_; refine WK.region ?_; refine St.assign ?_; refine WO.nil ?_)
    refine St.ret (by first | exact .tmp .nil | exact .cell .nil | exact .cell (.tmp .nil) | exact .tmp (.tmp .nil) | exact .cell (.cell .nil) | exact .tmp (.cell .nil) | exact .nil | exact .tmp (.cell (.tmp .nil)) | exact .cell (.tmp (.tmp .nil)) | exact .cell (.cell (.tmp .nil)) | exact .tmp (.tmp (.tmp .nil)) | exact .cell (.cell (.cell .nil))) ?_
    rw [hchk, List.drop_length]
    rfl
theorem bare_bd {lv : Int} {cs : List Cy} {ss : List Sh} (w : WOk lv cs ss) (t : Int) : -28000 ≤ bareV cs ss t ∧ bareV cs ss t ≤ 28000 := by
  have hcb := corD_bd (day := t / 1440) (chkS_all w.ss)
  have hsb := sumV_bd (t := t) (chkC_all w.cs) _ (Nat.le_refl _)
  have hn1 := w.n1
  unfold bareV
  omega
set_option maxRecDepth 100000 in
theorem agreed_con (h : Heap) (g : Gd h) (lv : Int) (cv sv : AV) (cl : List Cw) (ss : List Sh) (x : Ga) (hc : CyV h cv cl) (hs : ShV h sv ss) (w : WOk lv (cys cl) ss) (hx : GaOk x) :
    Con Tryz.prog Bs 44 [.agg [.int .i64 lv, cv, sv], .agg [.int .i64 x.id, .int .i64 x.tk, .int .i64 x.lo, .int .i64 x.hi]] h [] (.agg [.int .i64 (lvG (cys cl) ss x).1, .int .i64 (lvG (cys cl) ss x).2]) [] := by
  refine Con.start rfl Tryz.func44 rfl rfl Tryz.ntmps44 rfl rfl g ?_
  (refine WK.seq ?_; refine WK.region ?_; refine St.box fun _ _ => ?_; refine St.box fun _ _ => ?_; refine St.alloc fun _ _ => ?_; refine WO.nil ?_; refine WK.seq ?_; refine WK.region ?_; refine St.load ?_; refine St.fieldAddr ?_; refine St.load ?_)
  refine St.call (fun _ => rfl) (fun h2 hh => rrest_con h2 hh.gd lv x.tk cv sv cl ss (hc.vw hh) (hs.vw hh) w hx.tk1 hx.tk2) ?_
  have hb := bare_bd w x.tk
  have h1 := hx.lo
  have h2 := hx.hi
  have h3 := hx.le
  (refine St.assign ?_; refine WO.nil ?_; refine WK.seq ?_; refine WK.region ?_; refine St.fieldAddr ?_; refine St.fieldAddr ?_; refine St.load ?_; refine St.move ?_; refine St.binI ?_; refine St.maxI ?_; refine St.fieldAddr ?_; refine St.fieldAddr ?_; refine St.load ?_; refine St.move ?_; refine St.binI ?_; refine St.minI ?_; refine St.build ?_; refine St.store0 ?_; refine WO.nil ?_)
  refine St.ret (by first | exact .tmp .nil | exact .cell .nil | exact .cell (.tmp .nil) | exact .tmp (.tmp .nil) | exact .cell (.cell .nil) | exact .tmp (.cell .nil) | exact .nil | exact .tmp (.cell (.tmp .nil)) | exact .cell (.tmp (.tmp .nil)) | exact .cell (.cell (.tmp .nil)) | exact .tmp (.tmp (.tmp .nil)) | exact .cell (.cell (.cell .nil))) ?_
  rfl
end Go.Proofs.YtgjkfmcjalcefaaGreat
