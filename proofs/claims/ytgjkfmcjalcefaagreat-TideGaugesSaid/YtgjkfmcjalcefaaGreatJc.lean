/- Gauges of the reference: agreedAll, some, Levels, against, Rests over the calculator's memory. -/
import Derived.Test.YtgjkfmcjalcefaaGreatJb
import Derived.Test.YtgjkfmcjalcefaaGreatQc
namespace Go.Proofs.YtgjkfmcjalcefaaGreat
open Go.Proofs.YtgjkfmcjalcefaaGreat.Ev

set_option maxRecDepth 100000 in
set_option maxHeartbeats 4000000 in
theorem agreedAll_con (h : Heap) (g : Gd h) (lv : Int) (cv sv v : AV) (cl : List Cw) (ss : List Sh) (l : List Ga) (hc : CyV h cv cl) (hs : ShV h sv ss) (hv : GaV h v l) (hl : l.length ≤ 1000000) (w : WOk lv (cys cl) ss) (hg : ∀ x ∈ l, GaOk x) :
    Con Tryz.prog Bs 38 [.agg [.int .i64 lv, cv, sv], v] h [] (.agg [.int .i64 (comG (cys cl) ss l).1, .int .i64 (comG (cys cl) ss l).2]) [] := by
  refine Con.start rfl Tryz.func38 rfl rfl Tryz.ntmps38 rfl rfl g ?_
  (refine WK.seq ?_; refine WK.region ?_; refine St.box fun _ _ => ?_; refine St.alloc fun _ _ => ?_; refine WO.nil ?_; refine WK.seq ?_; refine WK.region ?_; refine St.build ?_; refine St.alloc fun _ _ => ?_; refine St.store0 ?_; refine WO.nil ?_; refine WK.seq ?_; refine WK.seq ?_; refine WK.region ?_; refine St.assign ?_; refine WO.nil ?_; refine WK.block ?_)
  by_cases hn : l.length = 0
  · have e1 : l = [] := List.length_eq_zero_iff.1 hn
    subst e1
    refine WK.unroll ?_
    (refine WK.seq ?_; refine WK.seq ?_; refine WK.region ?_; refine St.move ?_; refine St.move ?_)
    refine St.lenV rfl hv.len ?_
    (refine St.bin ?_; refine WO.nil ?_; refine WK.condF ?_; refine WK.exit ?_; refine WK.seq ?_; refine WK.region ?_; refine St.load ?_; refine St.store1 ?_; refine WO.nil ?_)
    refine St.ret (by first | exact .tmp .nil | exact .cell .nil | exact .cell (.tmp .nil) | exact .tmp (.tmp .nil) | exact .cell (.cell .nil) | exact .tmp (.cell .nil) | exact .nil | exact .tmp (.cell (.tmp .nil)) | exact .cell (.tmp (.tmp .nil)) | exact .cell (.cell (.tmp .nil)) | exact .tmp (.tmp (.tmp .nil)) | exact .cell (.cell (.cell .nil))) ?_
    rfl
  obtain ⟨b, off, c, rfl, hk⟩ := hv.ne (by omega)
  rename_i p2 hp2 p4 hp4 p5 hp5
  refine WK.inv (ι := Nat) (fun z => [(1, .slice b off l.length c), (2, .ptr p2 0), (4, .ptr p4 0), (5, .ptr p5 0), (6, .int .i64 z)]) (fun z => [(p5, .cells [.int .i64 (comG (cys cl) ss (l.take z)).1, .int .i64 (comG (cys cl) ss (l.take z)).2] 30), (p4, .cells [.int .i64 0, .int .i64 0] 30), (p2, .cells [.int .i64 lv, cv, sv] 25)]) (fun z => z ≤ l.length) (fun z => l.length - z) 0 (by omega) ⟨rfl, rfl, rfl, rfl, rfl, trivial⟩ (by (repeat (first | exact List.Sublist.refl _ | exact List.nil_sublist _ | apply List.Sublist.cons_cons | apply List.Sublist.cons))) ?_
  rintro k hkl ih
  (refine WK.seq ?_; refine WK.seq ?_; refine WK.region ?_; refine St.move ?_; refine St.move ?_; refine St.len ?_; refine St.bin ?_; refine WO.nil ?_)
  refine St.splitC (fun hcc => ?_) (fun hcc => ?_)
  · have hlt : k < l.length := by simp at hcc; omega
    have hgk := hg (nthG l k) (by rw [nthG_eq hlt]; exact List.getElem_mem hlt)
    have ih2 := ih (k + 1) hlt (by omega)
    rw [com_succ hlt] at ih2
    (refine WK.skip ?_; refine WK.seq ?_; refine WK.block ?_; refine WK.seq ?_; refine WK.regionD ?_; refine St.load ?_; refine St.move ?_; refine St.move ?_)
    refine St.at ?_
    skip
    refine St.loadX (fun h2 hh => ((hk.vw hh).at_ (z := (k : Int)) (n := k) (by omega) hlt).agg (by simp) rfl rfl rfl) ?_
    skip
    refine St.call (fun _ => rfl) (fun h2 hh => agreed_con h2 hh.gd lv cv sv cl ss (nthG l k) (hc.vw hh) (hs.vw hh) w hgk) ?_
    (refine StD.alloc fun _ _ => ?_; refine StD.storeT ?_; refine WO.nil1 ?_; refine WK.region ?_; refine St.fieldAddr ?_; refine St.load ?_; refine St.fieldAddr ?_; refine St.load ?_; refine St.maxI ?_; refine St.fieldAddr ?_; refine St.load ?_; refine St.fieldAddr ?_; refine St.load ?_; refine St.minI ?_; refine St.build ?_; refine St.store1 ?_; refine WO.nil ?_; refine WK.blk ?_; refine WK.region ?_; refine St.move ?_; refine St.binI ?_; refine St.assign ?_; refine WO.nil ?_)
    refine WK.le ?_ (by (repeat (first | exact List.Sublist.refl _ | exact List.nil_sublist _ | apply List.Sublist.cons_cons | apply List.Sublist.cons))) ih2
    exact ⟨rfl, rfl, rfl, rfl, rfl, trivial⟩
  · have : k = l.length := by simp at hcc; omega
    subst this
    rw [List.take_length]
    (refine WK.exit ?_; refine WK.seq ?_; refine WK.region ?_; refine St.load ?_; refine St.store1 ?_; refine WO.nil ?_)
    refine St.ret (by first | exact .tmp .nil | exact .cell .nil | exact .cell (.tmp .nil) | exact .tmp (.tmp .nil) | exact .cell (.cell .nil) | exact .tmp (.cell .nil) | exact .nil | exact .tmp (.cell (.tmp .nil)) | exact .cell (.tmp (.tmp .nil)) | exact .cell (.cell (.tmp .nil)) | exact .tmp (.tmp (.tmp .nil)) | exact .cell (.cell (.cell .nil))) ?_
    rfl
set_option maxRecDepth 100000 in
theorem some_con (h : Heap) (g : Gd h) (lv : Int) (cv sv v : AV) (cl : List Cw) (ss : List Sh) (l : List Ga) (hc : CyV h cv cl) (hs : ShV h sv ss) (hv : GaV h v l) (hl : l.length ≤ 1000000) (w : WOk lv (cys cl) ss) (hg : ∀ x ∈ l, GaOk x) :
    Con Tryz.prog Bs 49 [.agg [.int .i64 lv, cv, sv], v] h [] (.bool (decide ((comG (cys cl) ss l).1 ≤ (comG (cys cl) ss l).2))) [] := by
  refine Con.start rfl Tryz.func49 rfl rfl Tryz.ntmps49 rfl rfl g ?_
  (refine WK.seq ?_; refine WK.region ?_; refine St.box fun _ _ => ?_; refine St.assign ?_; refine WO.nil ?_; refine WK.seq ?_; refine WK.region ?_; refine St.load ?_; refine St.move ?_)
  refine St.call (fun _ => rfl) (fun h2 hh => agreedAll_con h2 hh.gd lv cv sv v cl ss l (hc.vw hh) (hs.vw hh) (hv.vw hh) hl w hg) ?_
  (refine St.alloc fun _ _ => ?_; refine St.store0 ?_; refine WO.nil ?_; refine WK.seq ?_; refine WK.region ?_; refine St.fieldAddr ?_; refine St.load ?_; refine St.fieldAddr ?_; refine St.load ?_; refine St.bin ?_; refine St.assign ?_; refine WO.nil ?_)
  refine St.ret (by first | exact .tmp .nil | exact .cell .nil | exact .cell (.tmp .nil) | exact .tmp (.tmp .nil) | exact .cell (.cell .nil) | exact .tmp (.cell .nil) | exact .nil | exact .tmp (.cell (.tmp .nil)) | exact .cell (.tmp (.tmp .nil)) | exact .cell (.cell (.tmp .nil)) | exact .tmp (.tmp (.tmp .nil)) | exact .cell (.cell (.cell .nil))) ?_
  rfl
set_option maxRecDepth 100000 in
set_option maxHeartbeats 4000000 in
theorem rlevels_con (h : Heap) (g : Gd h) (lv : Int) (cv sv v : AV) (cl : List Cw) (ss : List Sh) (l : List Ga) (hc : CyV h cv cl) (hs : ShV h sv ss) (hv : GaV h v l) (hl : l.length ≤ 1000000) :
    Con Tryz.prog Bs 8 [.agg [.int .i64 lv, cv, sv], v] h [] (.agg [.int .i64 (levelsR lv (cys cl) ss l).1.1, .int .i64 (levelsR lv (cys cl) ss l).1.2, .int .i64 (levelsR lv (cys cl) ss l).2]) [] := by
  have hG : ∀ (h2 : Heap) {V : Ob}, Vw h [] V h2 → Con Tryz.prog Bs 37 [.agg [.int .i64 lv, cv, sv], v] h2 [] (.int .i64 (chkGs lv (cys cl) ss l)) [] := fun h2 V hh => rgauged_con h2 hh.gd lv cv sv v cl ss l (hc.vw hh) (hs.vw hh) (hv.vw hh) hl
  by_cases h0 : chkGs lv (cys cl) ss l = 0
  rotate_left
  · have e : levelsR lv (cys cl) ss l = ((0, 0), chkGs lv (cys cl) ss l) := if_pos h0
    rw [e]
    refine Con.start rfl Tryz.func8 rfl rfl Tryz.ntmps8 rfl rfl g ?_
    (refine WK.seq ?_; refine WK.region ?_; refine St.box fun _ _ => ?_; refine St.alloc fun _ _ => ?_; refine WO.nil ?_; refine WK.seq ?_; refine WK.region ?_; refine St.load ?_; refine St.move ?_)
    refine St.call (fun _ => rfl) (fun h2 hh => hG h2 hh) ?_
    (refine St.assign ?_; refine WO.nil ?_; refine WK.seq ?_; refine WK.seq ?_; refine WK.region ?_; refine St.move ?_; refine St.bin ?_; refine WO.nil ?_)
    refine St.splitC (fun q => ?_) (fun q => ?_)
    · (refine WK.seq ?_; refine WK.region ?_; refine St.move ?_; refine St.build ?_; refine St.store0 ?_; refine WO.nil ?_)
      refine St.ret (by first | exact .tmp .nil | exact .cell .nil | exact .cell (.tmp .nil) | exact .tmp (.tmp .nil) | exact .cell (.cell .nil) | exact .tmp (.cell .nil) | exact .nil | exact .tmp (.cell (.tmp .nil)) | exact .cell (.tmp (.tmp .nil)) | exact .cell (.cell (.tmp .nil)) | exact .tmp (.tmp (.tmp .nil)) | exact .cell (.cell (.cell .nil))) ?_
      rfl
    · simp at q; exact absurd q h0
  obtain ⟨w, h40, hga⟩ := chkGs_w h0
  have e : levelsR lv (cys cl) ss l = if (comG (cys cl) ss l).1 ≤ (comG (cys cl) ss l).2 then (comG (cys cl) ss l, 0) else ((0, 0), 9) := if_neg (by simp [h0])
  rw [e]
  refine Con.start rfl Tryz.func8 rfl rfl Tryz.ntmps8 rfl rfl g ?_
  (refine WK.seq ?_; refine WK.region ?_; refine St.box fun _ _ => ?_; refine St.alloc fun _ _ => ?_; refine WO.nil ?_; refine WK.seq ?_; refine WK.region ?_; refine St.load ?_; refine St.move ?_)
  refine St.call (v := .int .i64 0) (fun _ => rfl) (fun h2 hh => by
    have := hG h2 hh
    rw [h0] at this
    exact this) ?_
  (refine St.assign ?_; refine WO.nil ?_; refine WK.seq ?_; refine WK.seq ?_; refine WK.region ?_; refine St.move ?_; refine St.bin ?_; refine WO.nil ?_; refine WK.condF ?_; refine WK.skip ?_; refine WK.seq ?_; refine WK.region ?_; refine St.load ?_; refine St.move ?_)
  refine St.call (fun _ => rfl) (fun h2 hh => agreedAll_con h2 hh.gd lv cv sv v cl ss l (hc.vw hh) (hs.vw hh) (hv.vw hh) hl w hga) ?_
  generalize comG (cys cl) ss l = A
  (refine St.alloc fun _ _ => ?_; refine St.store0 ?_; refine WO.nil ?_; refine WK.seq ?_; refine WK.seq ?_; refine WK.region ?_; refine St.fieldAddr ?_; refine St.load ?_; refine St.fieldAddr ?_; refine St.load ?_; refine St.bin ?_; refine WO.nil ?_)
  refine St.splitC (fun q => ?_) (fun q => ?_)
  · rw [if_neg (by simp at q; omega)]
    (refine WK.seq ?_; refine WK.region ?_; refine St.build ?_; refine St.store1 ?_; refine WO.nil ?_)
    refine St.ret (by first | exact .tmp .nil | exact .cell .nil | exact .cell (.tmp .nil) | exact .tmp (.tmp .nil) | exact .cell (.cell .nil) | exact .tmp (.cell .nil) | exact .nil | exact .tmp (.cell (.tmp .nil)) | exact .cell (.tmp (.tmp .nil)) | exact .cell (.cell (.tmp .nil)) | exact .tmp (.tmp (.tmp .nil)) | exact .cell (.cell (.cell .nil))) ?_
    rfl
  · rw [if_pos (by simp at q; omega)]
    (refine WK.skip ?_; refine WK.seq ?_; refine WK.region ?_; refine St.load ?_; refine St.build ?_; refine St.store1 ?_; refine WO.nil ?_)
    refine St.ret (by first | exact .tmp .nil | exact .cell .nil | exact .cell (.tmp .nil) | exact .tmp (.tmp .nil) | exact .cell (.cell .nil) | exact .tmp (.cell .nil) | exact .nil | exact .tmp (.cell (.tmp .nil)) | exact .cell (.tmp (.tmp .nil)) | exact .cell (.cell (.tmp .nil)) | exact .tmp (.tmp (.tmp .nil)) | exact .cell (.cell (.cell .nil))) ?_
    rfl
set_option maxRecDepth 100000 in
set_option maxHeartbeats 8000000 in
theorem ragainst_con (h : Heap) (g : Gd h) (lv t : Int) (cv sv v : AV) (cl : List Cw) (ss : List Sh) (l : List Ga) (hc : CyV h cv cl) (hs : ShV h sv ss) (hv : GaV h v l) (hl : l.length ≤ 1000000) (w : WOk lv (cys cl) ss) (hg : ∀ x ∈ l, GaOk x) :
    Con Tryz.prog Bs 40 [.agg [.int .i64 lv, cv, sv], v, .int .i64 t] h [] (.int .i64 (ragR (cys cl) ss l t)) [] := by
  refine Con.start rfl Tryz.func40 rfl rfl Tryz.ntmps40 rfl rfl g ?_
  (refine WK.seq ?_; refine WK.region ?_; refine St.box fun _ _ => ?_; refine St.assign ?_; refine WO.nil ?_; refine WK.seq ?_; refine WK.region ?_; refine St.move ?_)
  rename_i p hp
  refine St.call (v := .bool (inB t 4000)) (fun _ => rfl) (fun h2 hh => rwithin_con h2 hh.gd t (-4000) 4000) ?_
  by_cases ht : inB t 4000 = true
  rotate_left
  · have ht : inB t 4000 = false := by simpa using ht
    have e : ragR (cys cl) ss l t = 0 := if_neg (by simp [ht])
    rw [ht, e]
    (refine St.assign ?_; refine WO.nil ?_; refine WK.seq ?_; refine WK.seq ?_; refine WK.region ?_; refine St.move ?_; refine St.un ?_; refine WO.nil ?_; refine WK.condT ?_; refine WK.seq ?_; refine WK.region ?_; refine St.assign ?_; refine WO.nil ?_)
    refine St.ret (by first | exact .tmp .nil | exact .cell .nil | exact .cell (.tmp .nil) | exact .tmp (.tmp .nil) | exact .cell (.cell .nil) | exact .tmp (.cell .nil) | exact .nil | exact .tmp (.cell (.tmp .nil)) | exact .cell (.tmp (.tmp .nil)) | exact .cell (.cell (.tmp .nil)) | exact .tmp (.tmp (.tmp .nil)) | exact .cell (.cell (.cell .nil))) ?_
    rfl
  have e : ragR (cys cl) ss l t = l.foldl (rgF (cys cl) ss t) 0 := if_pos ht
  rw [ht, e]
  (refine St.assign ?_; refine WO.nil ?_; refine WK.seq ?_; refine WK.seq ?_; refine WK.region ?_; refine St.move ?_; refine St.un ?_; refine WO.nil ?_; refine WK.condF ?_; refine WK.skip ?_; refine WK.seq ?_; refine WK.region ?_; refine St.assign ?_; refine WO.nil ?_; refine WK.seq ?_; refine WK.seq ?_; refine WK.region ?_; refine St.assign ?_; refine WO.nil ?_; refine WK.block ?_)
  by_cases hn : l.length = 0
  · have e1 : l = [] := List.length_eq_zero_iff.1 hn
    subst e1
    refine WK.unroll ?_
    (refine WK.seq ?_; refine WK.seq ?_; refine WK.region ?_; refine St.move ?_; refine St.move ?_)
    refine St.lenV rfl hv.len ?_
    (refine St.bin ?_; refine WO.nil ?_; refine WK.condF ?_; refine WK.exit ?_; refine WK.seq ?_; refine WK.region ?_; refine St.move ?_; refine St.assign ?_; refine WO.nil ?_)
    refine St.ret (by first | exact .tmp .nil | exact .cell .nil | exact .cell (.tmp .nil) | exact .tmp (.tmp .nil) | exact .cell (.cell .nil) | exact .tmp (.cell .nil) | exact .nil | exact .tmp (.cell (.tmp .nil)) | exact .cell (.tmp (.tmp .nil)) | exact .cell (.cell (.tmp .nil)) | exact .tmp (.tmp (.tmp .nil)) | exact .cell (.cell (.cell .nil))) ?_
    rfl
  obtain ⟨b, off, c, rfl, hk⟩ := hv.ne (by omega)
  refine WK.inv (ι := Nat) (fun z => [(1, .slice b off l.length c), (2, .int .i64 t), (3, .ptr p 0), (8, .int .i64 ((l.take z).foldl (rgF (cys cl) ss t) 0)), (9, .int .i64 z)]) (fun _ => [(p, .cells [.int .i64 lv, cv, sv] 25)]) (fun z => z ≤ l.length) (fun z => l.length - z) 0 (by omega) ⟨rfl, rfl, rfl, rfl, rfl, trivial⟩ (by (repeat (first | exact List.Sublist.refl _ | exact List.nil_sublist _ | apply List.Sublist.cons_cons | apply List.Sublist.cons))) ?_
  rintro k hkl ih
  (refine WK.seq ?_; refine WK.seq ?_; refine WK.region ?_; refine St.move ?_; refine St.move ?_; refine St.len ?_; refine St.bin ?_; refine WO.nil ?_)
  refine St.splitC (fun hcc => ?_) (fun hcc => ?_)
  · have hlt : k < l.length := by simp at hcc; omega
    have hgk := hg (nthG l k) (by rw [nthG_eq hlt]; exact List.getElem_mem hlt)
    have hsu := rag_succ (cs := cys cl) (ss := ss) (v := t) hlt
    have ih2 := ih (k + 1) hlt (by omega)
    rw [hsu] at ih2
    generalize (l.take k).foldl (rgF (cys cl) ss t) 0 = a at ih2 ⊢
    clear ih hsu
    (refine WK.skip ?_; refine WK.seq ?_; refine WK.block ?_; refine WK.seq ?_; refine WK.regionD ?_; refine St.load ?_; refine St.move ?_; refine St.move ?_)
    refine St.at ?_
    skip
    refine St.loadX (fun h2 hh => ((hk.vw hh).at_ (z := (k : Int)) (n := k) (by omega) hlt).agg (by simp) rfl rfl rfl) ?_
    skip
    refine St.call (fun _ => rfl) (fun h2 hh => agreed_con h2 hh.gd lv cv sv cl ss (nthG l k) (hc.vw hh) (hs.vw hh) w hgk) ?_
    (refine StD.alloc fun _ _ => ?_; refine StD.storeT ?_; refine WO.nil1 ?_; refine WK.seq ?_; refine WK.region ?_; refine St.move ?_; refine St.fieldAddr ?_; refine St.load ?_; refine St.fieldAddr ?_; refine St.load ?_)
    refine St.call (v := .bool (agG (cys cl) ss (nthG l k) t)) (fun _ => rfl) (fun h2 hh => rwithin_con h2 hh.gd t _ _) ?_
    (refine St.assign ?_; refine WO.nil ?_; refine WK.seq ?_; refine WK.region ?_; refine St.move ?_; refine St.un ?_; refine St.move ?_)
    refine St.split (fun q1 => ?_) (fun q1 => ?_)
    rotate_left
    · have e2 : rgF (cys cl) ss t a (nthG l k) = a := if_neg (by simp at q1; simp [q1])
      rw [e2] at ih2
      (refine St.skip ?_; refine St.skip ?_; refine St.skip ?_; refine St.skip ?_; refine St.skip ?_; refine St.skip ?_; refine St.skip ?_; refine St.skip ?_; refine St.skip ?_; refine St.skip ?_; refine St.skip ?_; refine St.pickF ?_; refine WO.nil ?_; refine WK.condF ?_; refine WK.skip ?_; refine WK.blk ?_; refine WK.region ?_; refine St.move ?_; refine St.binI ?_; refine St.assign ?_; refine WO.nil ?_)
      refine WK.le ?_ (by (repeat (first | exact List.Sublist.refl _ | exact List.nil_sublist _ | apply List.Sublist.cons_cons | apply List.Sublist.cons))) ih2
      exact ⟨rfl, rfl, rfl, rfl, rfl, trivial⟩
    have ha : agG (cys cl) ss (nthG l k) t = false := by simpa using q1
    (refine St.move ?_; refine St.bin ?_; refine St.move ?_)
    refine St.split (fun q2 => ?_) (fun q2 => ?_)
    · have e2 : rgF (cys cl) ss t a (nthG l k) = (nthG l k).id := if_pos ⟨ha, .inl (by simpa using q2)⟩
      rw [e2] at ih2
      (refine St.skip ?_; refine St.skip ?_; refine St.skip ?_; refine St.skip ?_; refine St.skip ?_; refine St.skip ?_; refine St.skip ?_; refine St.pickT ?_; refine St.pickT ?_; refine WO.nil ?_; refine WK.condT ?_; refine WK.region ?_; refine St.move ?_; refine St.move ?_)
      refine St.at ?_
      (refine St.fieldAddr ?_)
      refine St.loadX (fun h2 hh => ((hk.vw hh).gid (z := (k : Int)) (n := k) (by omega) hlt).one rfl) ?_
      (refine St.assign ?_; refine WO.nil ?_; refine WK.blk ?_; refine WK.region ?_; refine St.move ?_; refine St.binI ?_; refine St.assign ?_; refine WO.nil ?_)
      refine WK.le ?_ (by (repeat (first | exact List.Sublist.refl _ | exact List.nil_sublist _ | apply List.Sublist.cons_cons | apply List.Sublist.cons))) ih2
      exact ⟨rfl, rfl, rfl, rfl, rfl, trivial⟩
    (refine St.move ?_; refine St.move ?_)
    refine St.at ?_
    (refine St.fieldAddr ?_)
    refine St.loadX (fun h2 hh => ((hk.vw hh).gid (z := (k : Int)) (n := k) (by omega) hlt).one rfl) ?_
    (refine St.move ?_; refine St.bin ?_; refine St.pickF ?_; refine St.pickT ?_; refine WO.nil ?_)
    refine St.splitC (fun q3 => ?_) (fun q3 => ?_)
    · have e2 : rgF (cys cl) ss t a (nthG l k) = (nthG l k).id := if_pos ⟨ha, .inr (by simpa using q3)⟩
      rw [e2] at ih2
      (refine WK.region ?_; refine St.move ?_; refine St.move ?_)
      refine St.at ?_
      (refine St.fieldAddr ?_)
      refine St.loadX (fun h2 hh => ((hk.vw hh).gid (z := (k : Int)) (n := k) (by omega) hlt).one rfl) ?_
      (refine St.assign ?_; refine WO.nil ?_; refine WK.blk ?_; refine WK.region ?_; refine St.move ?_; refine St.binI ?_; refine St.assign ?_; refine WO.nil ?_)
      refine WK.le ?_ (by (repeat (first | exact List.Sublist.refl _ | exact List.nil_sublist _ | apply List.Sublist.cons_cons | apply List.Sublist.cons))) ih2
      exact ⟨rfl, rfl, rfl, rfl, rfl, trivial⟩
    · have e2 : rgF (cys cl) ss t a (nthG l k) = a := if_neg (fun q => by
        rcases q.2 with q4 | q4
        · simp [q4] at q2
        · simp at q3; omega)
      rw [e2] at ih2
      (refine WK.skip ?_; refine WK.blk ?_; refine WK.region ?_; refine St.move ?_; refine St.binI ?_; refine St.assign ?_; refine WO.nil ?_)
      refine WK.le ?_ (by (repeat (first | exact List.Sublist.refl _ | exact List.nil_sublist _ | apply List.Sublist.cons_cons | apply List.Sublist.cons))) ih2
      exact ⟨rfl, rfl, rfl, rfl, rfl, trivial⟩
  · have : k = l.length := by simp at hcc; omega
    subst this
    rw [List.take_length]
    (refine WK.exit ?_; refine WK.seq ?_; refine WK.region ?_; refine St.move ?_; refine St.assign ?_; refine WO.nil ?_)
    refine St.ret (by first | exact .tmp .nil | exact .cell .nil | exact .cell (.tmp .nil) | exact .tmp (.tmp .nil) | exact .cell (.cell .nil) | exact .tmp (.cell .nil) | exact .nil | exact .tmp (.cell (.tmp .nil)) | exact .cell (.tmp (.tmp .nil)) | exact .cell (.cell (.tmp .nil)) | exact .tmp (.tmp (.tmp .nil)) | exact .cell (.cell (.cell .nil))) ?_
    rfl
set_option maxRecDepth 100000 in
set_option maxHeartbeats 4000000 in
theorem rrests_con (h : Heap) (g : Gd h) (lv : Int) (cv sv v : AV) (cl : List Cw) (ss : List Sh) (l : List Ga) (hc : CyV h cv cl) (hs : ShV h sv ss) (hv : GaV h v l) (hl : l.length ≤ 1000000) :
    Con Tryz.prog Bs 10 [.agg [.int .i64 lv, cv, sv], v] h [] (.tup [.int .i64 (restsR lv (cys cl) ss l).1, .int .i64 (restsR lv (cys cl) ss l).2.1, .int .i64 (restsR lv (cys cl) ss l).2.2]) [] := by
  have hL : ∀ (h2 : Heap) {V : Ob}, Vw h [] V h2 → Con Tryz.prog Bs 8 [.agg [.int .i64 lv, cv, sv], v] h2 [] (.agg [.int .i64 (levelsR lv (cys cl) ss l).1.1, .int .i64 (levelsR lv (cys cl) ss l).1.2, .int .i64 (levelsR lv (cys cl) ss l).2]) [] := fun h2 V hh => rlevels_con h2 hh.gd lv cv sv v cl ss l (hc.vw hh) (hs.vw hh) (hv.vw hh) hl
  by_cases h0 : (levelsR lv (cys cl) ss l).2 = 0
  rotate_left
  · have e : restsR lv (cys cl) ss l = (0, 0, (levelsR lv (cys cl) ss l).2) := if_pos h0
    rw [e]
    refine Con.start rfl Tryz.func10 rfl rfl Tryz.ntmps10 rfl rfl g ?_
    (refine WK.seq ?_; refine WK.region ?_; refine St.box fun _ _ => ?_; refine St.assign ?_; refine St.assign ?_; refine St.assign ?_; refine WO.nil ?_; refine WK.seq ?_; refine WK.region ?_; refine St.load ?_; refine St.move ?_)
    refine St.call (fun _ => rfl) (fun h2 hh => hL h2 hh) ?_
    (refine St.alloc fun _ _ => ?_; refine St.store0 ?_; refine WO.nil ?_; refine WK.seq ?_; refine WK.seq ?_; refine WK.region ?_; refine St.fieldAddr ?_; refine St.load ?_; refine St.bin ?_; refine WO.nil ?_)
    refine St.splitC (fun q => ?_) (fun q => ?_)
    · (refine WK.seq ?_; refine WK.regionD ?_; refine St.fieldAddr ?_; refine St.load ?_; refine St.assign ?_; refine St.assign ?_; refine St.assign ?_; refine WO.nil ?_)
      refine St.ret (by first | exact .tmp .nil | exact .cell .nil | exact .cell (.tmp .nil) | exact .tmp (.tmp .nil) | exact .cell (.cell .nil) | exact .tmp (.cell .nil) | exact .nil | exact .tmp (.cell (.tmp .nil)) | exact .cell (.tmp (.tmp .nil)) | exact .cell (.cell (.tmp .nil)) | exact .tmp (.tmp (.tmp .nil)) | exact .cell (.cell (.cell .nil))) ?_
      rfl
    · simp at q; exact absurd q h0
  obtain ⟨e0, e1, e2⟩ := levels_ok h0
  obtain ⟨w, h40, hga⟩ := chkGs_w e0
  have hb := ((com_iff (cys cl) ss l (comG (cys cl) ss l).1).1 ⟨Int.le_refl _, e2⟩).1
  have hb2 := ((com_iff (cys cl) ss l (comG (cys cl) ss l).2).1 ⟨e2, Int.le_refl _⟩).1
  have e : restsR lv (cys cl) ss l = (ragR (cys cl) ss l ((comG (cys cl) ss l).1 - 1), ragR (cys cl) ss l ((comG (cys cl) ss l).2 + 1), 0) := by
    unfold restsR
    rw [if_neg (by simp [h0]), e1, rag_eq hga (fun q => not_all (inB_bd q) (by omega)), rag_eq hga (fun q => not_all (inB_bd q) (by omega))]
  rw [e]
  refine Con.start rfl Tryz.func10 rfl rfl Tryz.ntmps10 rfl rfl g ?_
  (refine WK.seq ?_; refine WK.region ?_; refine St.box fun _ _ => ?_; refine St.assign ?_; refine St.assign ?_; refine St.assign ?_; refine WO.nil ?_; refine WK.seq ?_; refine WK.region ?_; refine St.load ?_; refine St.move ?_)
  refine St.call (v := .agg [.int .i64 (comG (cys cl) ss l).1, .int .i64 (comG (cys cl) ss l).2, .int .i64 0]) (fun _ => rfl) (fun h2 hh => by
    have := hL h2 hh
    rw [h0, e1] at this
    exact this) ?_
  (refine St.alloc fun _ _ => ?_; refine St.store0 ?_; refine WO.nil ?_; refine WK.seq ?_; refine WK.seq ?_; refine WK.region ?_; refine St.fieldAddr ?_; refine St.load ?_; refine St.bin ?_; refine WO.nil ?_; refine WK.condF ?_; refine WK.skip ?_; refine WK.seq ?_; refine WK.regionD ?_; refine St.load ?_; refine St.move ?_; refine St.fieldAddr ?_; refine St.fieldAddr ?_; refine St.load ?_; refine St.binI ?_)
  refine St.call (fun _ => rfl) (fun h2 hh => ragainst_con h2 hh.gd lv ((comG (cys cl) ss l).1 - 1) cv sv v cl ss l (hc.vw hh) (hs.vw hh) (hv.vw hh) hl w hga) ?_
  (refine St.load ?_; refine St.move ?_; refine St.fieldAddr ?_; refine St.fieldAddr ?_; refine St.load ?_; refine St.binI ?_)
  refine St.call (fun _ => rfl) (fun h2 hh => ragainst_con h2 hh.gd lv ((comG (cys cl) ss l).2 + 1) cv sv v cl ss l (hc.vw hh) (hs.vw hh) (hv.vw hh) hl w hga) ?_
  (refine St.assign ?_; refine St.assign ?_; refine St.assign ?_; refine WO.nil ?_)
  refine St.ret (by first | exact .tmp .nil | exact .cell .nil | exact .cell (.tmp .nil) | exact .tmp (.tmp .nil) | exact .cell (.cell .nil) | exact .tmp (.cell .nil) | exact .nil | exact .tmp (.cell (.tmp .nil)) | exact .cell (.tmp (.tmp .nil)) | exact .cell (.cell (.tmp .nil)) | exact .tmp (.tmp (.tmp .nil)) | exact .cell (.cell (.cell .nil))) ?_
  rfl
end Go.Proofs.YtgjkfmcjalcefaaGreat
