/- Layer 5: SameTrade of the same lists; few; the law FlowChecks: the walk. -/
import Derived.Test.YtkgolbanbdmbkaaGg
namespace Go.Proofs.Ytkgolbanbdmbkaa
open Go.Proofs.Ytkgolbanbdmbkaa.Ev

theorem szSpan : sizeT Try.prog 62 = some 2 := by kernel_rfl
set_option maxRecDepth 100000 in
theorem ho_neq (x : Ho) : evBin Try.prog .neq 71 (.agg (hoC x)) (.agg (hoC x)) = some (.bool false) := by
  simp [hoC, evBin, evEq, guardOk, eqT, eqFs, partE, isAggT, szSpan, takeN, dropN, nthN]
set_option maxRecDepth 100000 in
theorem mv_neq (x : Mv) : evBin Try.prog .neq 67 (.agg (mvC x)) (.agg (mvC x)) = some (.bool false) := by
  simp [mvC, evBin, evEq, guardOk, eqT, eqFs, partE, isAggT, szSpan, takeN, dropN, nthN]
set_option maxRecDepth 100000 in
set_option maxHeartbeats 16000000 in
theorem sameTrade_con (h : Heap) (g : Gd h) (hv mv hw mw : AV) (hs : List Ho) (ms : List Mv) (h1 : HoV h hv hs) (m1 : MvV h mv ms) (h2 : HoV h hw hs) (m2 : MvV h mw ms) (hl1 : hs.length ≤ 1000000) (hl2 : ms.length ≤ 1000000) :
    Con Try.prog Bs 10 [.agg [hv, mv], .agg [hw, mw]] h [] (.bool true) [] := by
  refine Con.start rfl Try.func10 rfl rfl Try.ntmps10 rfl rfl g ?_
  (refine WK.seq ?_; refine WK.region ?_; refine St.box fun _ _ => ?_; refine St.box fun _ _ => ?_; refine St.assign ?_; refine WO.nil ?_; refine WK.seq ?_; refine WK.seq ?_; refine WK.region ?_; refine St.fieldAddr ?_; refine St.load ?_)
  rename_i p2 hp2 p3 hp3
  refine St.lenG rfl h1.hlen ?_
  (refine St.fieldAddr ?_; refine St.load ?_)
  refine St.lenG rfl h2.hlen ?_
  (refine St.bin ?_; refine St.move ?_)
  refine St.split (fun q => ?_) (fun q => ?_)
  · simp at q
  (refine St.fieldAddr ?_; refine St.load ?_)
  refine St.lenG rfl m1.mlen ?_
  (refine St.fieldAddr ?_; refine St.load ?_)
  refine St.lenG rfl m2.mlen ?_
  (refine St.bin ?_; refine St.pickF ?_; refine WO.nil ?_)
  refine St.splitC (fun q2 => ?_) (fun q2 => ?_)
  · simp at q2
  clear q q2
  (refine WK.skip ?_; refine WK.seq ?_; refine WK.seq ?_; refine WK.region ?_; refine St.assign ?_; refine WO.nil ?_; refine WK.block ?_)
  refine WK.inv (ι := Nat) (fun z => [(2, .ptr p2 0), (3, .ptr p3 0), (5, .int .i64 z)]) (fun _ => [(p3, .cells [hw, mw] 25), (p2, .cells [hv, mv] 25)]) (fun z => z ≤ hs.length) (fun z => hs.length - z) 0 (by omega) ⟨rfl, rfl, rfl, trivial⟩ (by (repeat (first | exact List.Sublist.refl _ | exact List.nil_sublist _ | apply List.Sublist.cons_cons | apply List.Sublist.cons))) ?_
  rintro k hkl ih
  (refine WK.seq ?_; refine WK.seq ?_; refine WK.region ?_; refine St.move ?_; refine St.fieldAddr ?_; refine St.load ?_)
  refine St.lenG rfl h1.hlen ?_
  (refine St.bin ?_; refine WO.nil ?_)
  refine St.splitC (fun hc => ?_) (fun hc => ?_)
  · have hlt : k < hs.length := by simp at hc; omega
    have h1' := h1
    have h2' := h2
    obtain ⟨b, off, c, rfl, hk⟩ := h1'.ne (by omega)
    obtain ⟨b', off', c', rfl, hk'⟩ := h2'.ne (by omega)
    (refine WK.skip ?_; refine WK.seq ?_; refine WK.block ?_; refine WK.seq ?_; refine WK.regionD ?_; refine St.fieldAddr ?_; refine St.load ?_; refine St.move ?_)
    refine St.at ?_
    refine St.loadX (fun h2 hh2 => ((hk.vw hh2).at_ (z := (k : Int)) (n := k) (by omega) hlt).agg (by simp [hoC]) rfl rfl rfl) ?_
    (refine St.fieldAddr ?_; refine St.load ?_; refine St.move ?_)
    refine St.at ?_
    refine St.loadX (fun h2 hh2 => ((hk'.vw hh2).at_ (z := (k : Int)) (n := k) (by omega) hlt).agg (by simp [hoC]) rfl rfl rfl) ?_
    refine St.binX (ho_neq (nthE hs k)) rfl rfl ?_
    (refine WO.nil ?_; refine WK.condF ?_; refine WK.skip ?_; refine WK.blk ?_; refine WK.region ?_; refine St.move ?_; refine St.binI ?_; refine St.assign ?_; refine WO.nil ?_)
    refine WK.le ?_ (by (repeat (first | exact List.Sublist.refl _ | exact List.nil_sublist _ | apply List.Sublist.cons_cons | apply List.Sublist.cons))) (ih (k + 1) hlt (by omega))
    exact ⟨rfl, rfl, rfl, trivial⟩
  clear ih hc hkl
  (refine WK.exit ?_; refine WK.seq ?_; refine WK.seq ?_; refine WK.region ?_; refine St.assign ?_; refine WO.nil ?_; refine WK.block ?_)
  refine WK.inv (ι := Nat) (fun z => [(2, .ptr p2 0), (3, .ptr p3 0), (6, .int .i64 z)]) (fun _ => [(p3, .cells [hw, mw] 25), (p2, .cells [hv, mv] 25)]) (fun z => z ≤ ms.length) (fun z => ms.length - z) 0 (by omega) ⟨rfl, rfl, rfl, trivial⟩ (by (repeat (first | exact List.Sublist.refl _ | exact List.nil_sublist _ | apply List.Sublist.cons_cons | apply List.Sublist.cons))) ?_
  rintro k hkl ih
  (refine WK.seq ?_; refine WK.seq ?_; refine WK.region ?_; refine St.move ?_; refine St.fieldAddr ?_; refine St.load ?_)
  refine St.lenG rfl m1.mlen ?_
  (refine St.bin ?_; refine WO.nil ?_)
  refine St.splitC (fun hc => ?_) (fun hc => ?_)
  · have hlt : k < ms.length := by simp at hc; omega
    have m1' := m1
    have m2' := m2
    obtain ⟨b, off, c, rfl, hk⟩ := m1'.ne (by omega)
    obtain ⟨b', off', c', rfl, hk'⟩ := m2'.ne (by omega)
    (refine WK.skip ?_; refine WK.seq ?_; refine WK.block ?_; refine WK.seq ?_; refine WK.regionD ?_; refine St.fieldAddr ?_; refine St.load ?_; refine St.move ?_)
    refine St.at ?_
    refine St.loadX (fun h2 hh2 => ((hk.vw hh2).at_ (z := (k : Int)) (n := k) (by omega) hlt).agg (by simp [mvC]) rfl rfl rfl) ?_
    (refine St.fieldAddr ?_; refine St.load ?_; refine St.move ?_)
    refine St.at ?_
    refine St.loadX (fun h2 hh2 => ((hk'.vw hh2).at_ (z := (k : Int)) (n := k) (by omega) hlt).agg (by simp [mvC]) rfl rfl rfl) ?_
    refine St.binX (mv_neq (nthE ms k)) rfl rfl ?_
    (refine WO.nil ?_; refine WK.condF ?_; refine WK.skip ?_; refine WK.blk ?_; refine WK.region ?_; refine St.move ?_; refine St.binI ?_; refine St.assign ?_; refine WO.nil ?_)
    refine WK.le ?_ (by (repeat (first | exact List.Sublist.refl _ | exact List.nil_sublist _ | apply List.Sublist.cons_cons | apply List.Sublist.cons))) (ih (k + 1) hlt (by omega))
    exact ⟨rfl, rfl, rfl, trivial⟩
  (refine WK.exit ?_; refine WK.seq ?_; refine WK.region ?_; refine St.assign ?_; refine WO.nil ?_)
  refine St.ret (by first | exact .tmp .nil | exact .cell .nil | exact .cell (.tmp .nil) | exact .tmp (.tmp .nil) | exact .cell (.cell .nil) | exact .tmp (.cell .nil) | exact .nil | exact .tmp (.cell (.tmp .nil)) | exact .cell (.tmp (.tmp .nil)) | exact .cell (.cell (.tmp .nil)) | exact .tmp (.tmp (.tmp .nil)) | exact .cell (.cell (.cell .nil))) ?_
  rfl
/-- what few says -/
def fewB (hs : List Ho) (ms : List Mv) : Bool := (Bool.or (decide (hs.length ≤ 5)) (decide (9 < hs.length) && decide (hs.length ≤ 20))) && (Bool.or (decide (ms.length ≤ 9)) (decide (24 < ms.length) && decide (ms.length ≤ 40)))
set_option maxRecDepth 100000 in
set_option maxHeartbeats 8000000 in
theorem few_con' (h : Heap) (g : Gd h) (hv mv : AV) (hs : List Ho) (ms : List Mv) (h1 : HoV h hv hs) (m1 : MvV h mv ms) : Con Try.prog Bs 4 [.agg [hv, mv]] h [] (.bool (fewB hs ms)) [] := by
  refine Con.start rfl Try.func4 rfl rfl Try.ntmps4 rfl rfl g ?_
  (refine WK.seq ?_; refine WK.region ?_; refine St.box fun _ _ => ?_; refine St.assign ?_; refine WO.nil ?_; refine WK.seq ?_; refine WK.region ?_; refine St.fieldAddr ?_; refine St.load ?_)
  refine St.lenG rfl h1.hlen ?_
  (refine St.bin ?_; refine St.move ?_)
  refine St.split (fun a1 => ?_) (fun a1 => ?_)
  · simp at a1
    have a1' : hs.length ≤ 5 := by omega
    (refine St.skip ?_; refine St.skip ?_; refine St.skip ?_; refine St.skip ?_; refine St.skip ?_; refine St.skip ?_; refine St.skip ?_; refine St.skip ?_; refine St.skip ?_; refine St.skip ?_; refine St.pickT ?_; refine St.move ?_; refine St.fieldAddr ?_; refine St.load ?_)
    refine St.lenG rfl m1.mlen ?_
    (refine St.bin ?_; refine St.move ?_)
    refine St.split (fun b1 => ?_) (fun b1 => ?_)
    · simp at b1
      have b1' : ms.length ≤ 9 := by omega
      (refine St.skip ?_; refine St.skip ?_; refine St.skip ?_; refine St.skip ?_; refine St.skip ?_; refine St.skip ?_; refine St.skip ?_; refine St.skip ?_; refine St.skip ?_; refine St.skip ?_; refine St.pickT ?_; refine St.pickT ?_; refine St.assign ?_; refine WO.nil ?_)
      refine St.ret (by first | exact .tmp .nil | exact .cell .nil | exact .cell (.tmp .nil) | exact .tmp (.tmp .nil) | exact .cell (.cell .nil) | exact .tmp (.cell .nil) | exact .nil | exact .tmp (.cell (.tmp .nil)) | exact .cell (.tmp (.tmp .nil)) | exact .cell (.cell (.tmp .nil)) | exact .tmp (.tmp (.tmp .nil)) | exact .cell (.cell (.cell .nil))) ?_
      simp [oneOf, fewB, a1', b1']
    simp at b1
    have b1' : ¬ ms.length ≤ 9 := by omega
    (refine St.fieldAddr ?_; refine St.load ?_)
    refine St.lenG rfl m1.mlen ?_
    (refine St.bin ?_; refine St.move ?_)
    refine St.split (fun b2 => ?_) (fun b2 => ?_)
    · simp at b2
      have b2' : 24 < ms.length := by omega
      (refine St.fieldAddr ?_; refine St.load ?_)
      refine St.lenG rfl m1.mlen ?_
      (refine St.bin ?_; refine St.pickT ?_; refine St.pickF ?_; refine St.pickT ?_; refine St.assign ?_; refine WO.nil ?_)
      refine St.ret (by first | exact .tmp .nil | exact .cell .nil | exact .cell (.tmp .nil) | exact .tmp (.tmp .nil) | exact .cell (.cell .nil) | exact .tmp (.cell .nil) | exact .nil | exact .tmp (.cell (.tmp .nil)) | exact .cell (.tmp (.tmp .nil)) | exact .cell (.cell (.tmp .nil)) | exact .tmp (.tmp (.tmp .nil)) | exact .cell (.cell (.cell .nil))) ?_
      simp [oneOf, fewB, a1', b1', b2']
      omega
    · simp at b2
      have b2' : ¬ 24 < ms.length := by omega
      (refine St.skip ?_; refine St.skip ?_; refine St.skip ?_; refine St.skip ?_; refine St.pickF ?_; refine St.pickF ?_; refine St.pickT ?_; refine St.assign ?_; refine WO.nil ?_)
      refine St.ret (by first | exact .tmp .nil | exact .cell .nil | exact .cell (.tmp .nil) | exact .tmp (.tmp .nil) | exact .cell (.cell .nil) | exact .tmp (.cell .nil) | exact .nil | exact .tmp (.cell (.tmp .nil)) | exact .cell (.tmp (.tmp .nil)) | exact .cell (.cell (.tmp .nil)) | exact .tmp (.tmp (.tmp .nil)) | exact .cell (.cell (.cell .nil))) ?_
      simp [oneOf, fewB, a1', b1', b2']
  simp at a1
  have a1' : ¬ hs.length ≤ 5 := by omega
  (refine St.fieldAddr ?_; refine St.load ?_)
  refine St.lenG rfl h1.hlen ?_
  (refine St.bin ?_; refine St.move ?_)
  refine St.split (fun a2 => ?_) (fun a2 => ?_)
  · simp at a2
    have a2' : 9 < hs.length := by omega
    (refine St.fieldAddr ?_; refine St.load ?_)
    refine St.lenG rfl h1.hlen ?_
    by_cases a3' : hs.length ≤ 20
    · refine St.bin (r := .bool true) ?_ (he := by show some (AV.bool (decide ((hs.length : Int) ≤ 20))) = _; rw [decide_eq_true (by omega)]) 
      (refine St.pickT ?_; refine St.pickF ?_; refine St.move ?_; refine St.fieldAddr ?_; refine St.load ?_)
      refine St.lenG rfl m1.mlen ?_
      (refine St.bin ?_; refine St.move ?_)
      refine St.split (fun b1 => ?_) (fun b1 => ?_)
      · simp at b1
        have b1' : ms.length ≤ 9 := by omega
        (refine St.skip ?_; refine St.skip ?_; refine St.skip ?_; refine St.skip ?_; refine St.skip ?_; refine St.skip ?_; refine St.skip ?_; refine St.skip ?_; refine St.skip ?_; refine St.skip ?_; refine St.pickT ?_; refine St.pickT ?_; refine St.assign ?_; refine WO.nil ?_)
        refine St.ret (by first | exact .tmp .nil | exact .cell .nil | exact .cell (.tmp .nil) | exact .tmp (.tmp .nil) | exact .cell (.cell .nil) | exact .tmp (.cell .nil) | exact .nil | exact .tmp (.cell (.tmp .nil)) | exact .cell (.tmp (.tmp .nil)) | exact .cell (.cell (.tmp .nil)) | exact .tmp (.tmp (.tmp .nil)) | exact .cell (.cell (.cell .nil))) ?_
        simp [oneOf, fewB, a1', a2', a3', b1']
      simp at b1
      have b1' : ¬ ms.length ≤ 9 := by omega
      (refine St.fieldAddr ?_; refine St.load ?_)
      refine St.lenG rfl m1.mlen ?_
      (refine St.bin ?_; refine St.move ?_)
      refine St.split (fun b2 => ?_) (fun b2 => ?_)
      · simp at b2
        have b2' : 24 < ms.length := by omega
        (refine St.fieldAddr ?_; refine St.load ?_)
        refine St.lenG rfl m1.mlen ?_
        (refine St.bin ?_; refine St.pickT ?_; refine St.pickF ?_; refine St.pickT ?_; refine St.assign ?_; refine WO.nil ?_)
        refine St.ret (by first | exact .tmp .nil | exact .cell .nil | exact .cell (.tmp .nil) | exact .tmp (.tmp .nil) | exact .cell (.cell .nil) | exact .tmp (.cell .nil) | exact .nil | exact .tmp (.cell (.tmp .nil)) | exact .cell (.tmp (.tmp .nil)) | exact .cell (.cell (.tmp .nil)) | exact .tmp (.tmp (.tmp .nil)) | exact .cell (.cell (.cell .nil))) ?_
        simp [oneOf, fewB, a1', a2', a3', b1', b2']
        omega
      · simp at b2
        have b2' : ¬ 24 < ms.length := by omega
        (refine St.skip ?_; refine St.skip ?_; refine St.skip ?_; refine St.skip ?_; refine St.pickF ?_; refine St.pickF ?_; refine St.pickT ?_; refine St.assign ?_; refine WO.nil ?_)
        refine St.ret (by first | exact .tmp .nil | exact .cell .nil | exact .cell (.tmp .nil) | exact .tmp (.tmp .nil) | exact .cell (.cell .nil) | exact .tmp (.cell .nil) | exact .nil | exact .tmp (.cell (.tmp .nil)) | exact .cell (.tmp (.tmp .nil)) | exact .cell (.cell (.tmp .nil)) | exact .tmp (.tmp (.tmp .nil)) | exact .cell (.cell (.cell .nil))) ?_
        simp [oneOf, fewB, a1', a2', a3', b1', b2']
    · refine St.bin (r := .bool false) ?_ (he := by show some (AV.bool (decide ((hs.length : Int) ≤ 20))) = _; rw [decide_eq_false (by omega)]) 
      (refine St.pickT ?_; refine St.pickF ?_; refine St.move ?_; refine St.skip ?_; refine St.skip ?_; refine St.skip ?_; refine St.skip ?_; refine St.skip ?_; refine St.skip ?_; refine St.skip ?_; refine St.skip ?_; refine St.skip ?_; refine St.skip ?_; refine St.skip ?_; refine St.skip ?_; refine St.skip ?_; refine St.skip ?_; refine St.skip ?_; refine St.skip ?_; refine St.pickF ?_; refine St.assign ?_; refine WO.nil ?_)
      refine St.ret (by first | exact .tmp .nil | exact .cell .nil | exact .cell (.tmp .nil) | exact .tmp (.tmp .nil) | exact .cell (.cell .nil) | exact .tmp (.cell .nil) | exact .nil | exact .tmp (.cell (.tmp .nil)) | exact .cell (.tmp (.tmp .nil)) | exact .cell (.cell (.tmp .nil)) | exact .tmp (.tmp (.tmp .nil)) | exact .cell (.cell (.cell .nil))) ?_
      simp [oneOf, fewB, a1', a2', a3']
  · simp at a2
    have a2' : ¬ 9 < hs.length := by omega
    (refine St.skip ?_; refine St.skip ?_; refine St.skip ?_; refine St.skip ?_; refine St.pickF ?_; refine St.pickF ?_; refine St.move ?_; refine St.skip ?_; refine St.skip ?_; refine St.skip ?_; refine St.skip ?_; refine St.skip ?_; refine St.skip ?_; refine St.skip ?_; refine St.skip ?_; refine St.skip ?_; refine St.skip ?_; refine St.skip ?_; refine St.skip ?_; refine St.skip ?_; refine St.skip ?_; refine St.skip ?_; refine St.skip ?_; refine St.pickF ?_; refine St.assign ?_; refine WO.nil ?_)
    refine St.ret (by first | exact .tmp .nil | exact .cell .nil | exact .cell (.tmp .nil) | exact .tmp (.tmp .nil) | exact .cell (.cell .nil) | exact .tmp (.cell .nil) | exact .nil | exact .tmp (.cell (.tmp .nil)) | exact .cell (.tmp (.tmp .nil)) | exact .cell (.cell (.tmp .nil)) | exact .tmp (.tmp (.tmp .nil)) | exact .cell (.cell (.cell .nil))) ?_
    simp [oneOf, fewB, a1', a2']
theorem fewB_len {hs : List Ho} {ms : List Mv} (e : fewB hs ms = true) : hs.length ≤ 20 ∧ ms.length ≤ 40 := by
  simp [fewB] at e
  omega
set_option maxRecDepth 100000 in
set_option maxHeartbeats 16000000 in
theorem checks_con (h : Heap) (g : Gd h) (hv mv iv : AV) (hs : List Ho) (ms : List Mv) (ids : List Int) (hh : HoZ h hv hs) (hm : MvA h mv ms) (hi : InV h iv ids) :
    Con Try.prog Bs 3 [.agg [hv, mv], iv] h [] (.bool true) [] := by
  obtain ⟨fb, hf, hfb⟩ : ∃ b, (∀ (h2 : Heap) (V : Ob), Vw h [] V h2 → Con Try.prog Bs 4 [.agg [hv, mv]] h2 [] (.bool b) []) ∧ (b = true → hs.length ≤ 20 ∧ ms.length ≤ 40) := ⟨fewB hs ms, fun h2 V hh2 => few_con' h2 hh2.gd hv mv hs ms (hh.hoA.eV.vw hh2) (hm.eV.vw hh2), fewB_len⟩
  refine Con.start rfl Try.func3 rfl rfl Try.ntmps3 rfl rfl g ?_
  (refine WK.seq ?_; refine WK.region ?_; refine St.box fun _ _ => ?_; refine St.assign ?_; refine WO.nil ?_; refine WK.seq ?_; refine WK.seq ?_; refine WK.region ?_; refine St.load ?_)
  rename_i p2 hp2
  refine St.call (fun _ => rfl) (fun h2 hh2 => hf h2 _ hh2) ?_
  cases fb
  · (refine St.un ?_; refine St.move ?_; refine St.skip ?_; refine St.skip ?_; refine St.skip ?_; refine St.pickT ?_; refine WO.nil ?_; refine WK.condT ?_; refine WK.seq ?_; refine WK.region ?_)
    refine St.call (fun _ => rfl) (fun h2 hh2 => sanity_con h2 hh2.gd) ?_
    (refine St.assign ?_; refine WO.nil ?_)
    refine St.ret (by first | exact .tmp .nil | exact .cell .nil | exact .cell (.tmp .nil) | exact .tmp (.tmp .nil) | exact .cell (.cell .nil) | exact .tmp (.cell .nil) | exact .nil | exact .tmp (.cell (.tmp .nil)) | exact .cell (.tmp (.tmp .nil)) | exact .cell (.cell (.tmp .nil)) | exact .tmp (.tmp (.tmp .nil)) | exact .cell (.cell (.cell .nil))) ?_
    rfl
  obtain ⟨hl1, hl2⟩ := hfb rfl
  (refine St.un ?_; refine St.move ?_; refine St.move ?_)
  refine St.lenG rfl hi.ilen ?_
  (refine St.bin ?_; refine St.pickF ?_; refine WO.nil ?_)
  refine St.splitC (fun q => ?_) (fun q => ?_)
  · (refine WK.seq ?_; refine WK.region ?_)
    refine St.call (fun _ => rfl) (fun h2 hh2 => sanity_con h2 hh2.gd) ?_
    (refine St.assign ?_; refine WO.nil ?_)
    refine St.ret (by first | exact .tmp .nil | exact .cell .nil | exact .cell (.tmp .nil) | exact .tmp (.tmp .nil) | exact .cell (.cell .nil) | exact .tmp (.cell .nil) | exact .nil | exact .tmp (.cell (.tmp .nil)) | exact .cell (.tmp (.tmp .nil)) | exact .cell (.cell (.tmp .nil)) | exact .tmp (.tmp (.tmp .nil)) | exact .cell (.cell (.cell .nil))) ?_
    rfl
  have hl3 : ids.length ≤ 60 := by simp at q; omega
  (refine WK.skip ?_; refine WK.seq ?_; refine WK.region ?_; refine St.load ?_; refine St.move ?_)
  refine St.callR (fun _ => rfl) (fun h2 hh2 => Without_con h2 hh2.gd hv mv iv hs ms ids (hh.vw hh2) (hm.vw hh2) (hi.vw hh2) (by omega)) ?_
  rintro u L ⟨wh, wm, Lh, Lm, rfl, rfl, hwh, hwm⟩
  refine WO.permF (L' := (p2, .cells [hv, mv] 25) :: (Lh ++ Lm)) ?_ ?_
  · show List.Perm ((p2, .cells [hv, mv] 25) :: (Lh ++ Lm) : Ob) ((Lh ++ Lm) ++ [(p2, .cells [hv, mv] 25)])
    (refine perm_cnt fun _ _ => ?_; simp only [List.append_eq, List.cons_append, List.nil_append, List.count_append, List.count_cons, List.count_nil, Nat.add_zero, Nat.zero_add]; try ac_rfl)
  (refine St.move ?_; refine St.extract ?_; refine St.extract ?_; refine St.alloc fun _ _ => ?_)
  have hst2 : (AObj.cells [.slice0, .slice0] 25).store Try.prog 25 0 (.agg [wh, wm]) = some (.cells [wh, wm] 25) := store_all (n := 2) (by kernel_rfl) rfl rfl (by show (okCell wh && (okCell wm && true)) = true; rw [hwh.okG, hwm.okG]; rfl)
  refine St.store0 (hv := hst2) ?_
  (refine St.assign ?_; refine WO.nil ?_; refine WK.seq ?_; refine WK.region ?_; refine St.load ?_; refine St.move ?_)
  rename_i p5 hp5
  refine St.callR (fun _ => rfl) (fun h2 hh2 => rwithout_con h2 hh2.gd hv mv iv hs ms ids (hh.vw hh2) (hm.vw hh2) (hi.vw hh2) (by omega)) ?_
  rintro u L ⟨xh, xm, Xh, Xm, rfl, rfl, hxh, hxm⟩
  refine WO.permF (L' := (p5, .cells [wh, wm] 25) :: (p2, .cells [hv, mv] 25) :: (Lh ++ (Lm ++ (Xh ++ Xm)))) ?_ ?_
  · show List.Perm ((p5, .cells [wh, wm] 25) :: (p2, .cells [hv, mv] 25) :: (Lh ++ (Lm ++ (Xh ++ Xm))) : Ob) ((Xh ++ Xm) ++ (p5, .cells [wh, wm] 25) :: (p2, .cells [hv, mv] 25) :: (Lh ++ Lm))
    (refine perm_cnt fun _ _ => ?_; simp only [List.append_eq, List.cons_append, List.nil_append, List.count_append, List.count_cons, List.count_nil, Nat.add_zero, Nat.zero_add]; try ac_rfl)
  (refine St.alloc fun _ _ => ?_)
  have hst3 : (AObj.cells [.slice0, .slice0, .int .i64 0] 33).store Try.prog 33 0 (.agg [xh, xm, .int .i64 (chkT hs ms)]) = some (.cells [xh, xm, .int .i64 (chkT hs ms)] 33) := store_all (n := 3) (by kernel_rfl) rfl rfl (by show (okCell xh && (okCell xm && (okCell (.int .i64 (chkT hs ms)) && true))) = true; rw [hxh.okG, hxm.okG]; rfl)
  refine St.store0 (hv := hst3) ?_
  (refine WO.nil ?_; refine WK.seq ?_; refine WK.regionD ?_)
  rename_i p7 hp7
  refine St.call (fun _ => rfl) (fun h2 hh2 => sanity_con h2 hh2.gd) ?_
  (refine St.move ?_; refine St.load ?_)
  refine St.call (fun _ => rfl) (fun h2 hh2 => check_con h2 hh2.gd hv mv hs ms (hh.hoA.vw hh2) (hm.vw hh2)) ?_
  (refine St.load ?_)
  refine St.call (fun _ => rfl) (fun h2 hh2 => rcheck_con h2 hh2.gd hv mv hs ms (hh.hoA.vw hh2) (hm.vw hh2)) ?_
  have hlH : (woH hs ms).length ≤ 1000000 := by
    unfold woH
    split
    · omega
    · simp
  have hlM : (woM hs ms ids).length ≤ 1000000 := by
    have := wout_len ms ids
    unfold woM
    split
    · omega
    · simp
  generalize woH hs ms = wH at *
  generalize woM hs ms ids = wM at *
  generalize chkT hs ms = er at *
  (refine St.bin ?_; refine St.pickT ?_; refine St.move ?_)
  refine St.split (fun q2 => ?_) (fun q2 => ?_)
  rotate_left
  · simp at q2
  (refine St.load ?_; refine St.fieldAddr ?_; refine St.load ?_)
  refine St.call (fun _ => rfl) (fun h2 hh2 => sameTrade_con h2 hh2.gd wh wm xh xm wH wM (en_v hoC_len hwh rfl hh2 (fun x hx => by simp [hx])) (en_v mvC_len hwm rfl hh2 (fun x hx => by simp [hx])) (en_v hoC_len hxh rfl hh2 (fun x hx => by simp [hx])) (en_v mvC_len hxm rfl hh2 (fun x hx => by simp [hx])) hlH hlM) ?_
  (refine St.pickT ?_; refine St.move ?_; refine St.move ?_; refine St.fieldAddr ?_; refine St.load ?_; refine St.bin ?_; refine St.pickT ?_; refine St.assign ?_; refine WO.nil ?_)
  refine St.ret (by first | exact .tmp .nil | exact .cell .nil | exact .cell (.tmp .nil) | exact .tmp (.tmp .nil) | exact .cell (.cell .nil) | exact .tmp (.cell .nil) | exact .nil | exact .tmp (.cell (.tmp .nil)) | exact .cell (.tmp (.tmp .nil)) | exact .cell (.cell (.tmp .nil)) | exact .tmp (.tmp (.tmp .nil)) | exact .cell (.cell (.cell .nil))) ?_
  simp [oneOf]
end Go.Proofs.Ytkgolbanbdmbkaa
