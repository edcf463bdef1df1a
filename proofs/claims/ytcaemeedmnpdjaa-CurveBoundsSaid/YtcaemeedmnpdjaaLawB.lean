/- The law CurveBounds over the calculator's memory. -/
import Derived.Test.YtcaemeedmnpdjaaLiftA
import Derived.Test.YtcaemeedmnpdjaaAp
import Derived.Test.YtcaemeedmnpdjaaCk
namespace Go.Proofs.Ytcaemeedmnpdjaa
open Go.RowKit Go.Proofs.Ytcaemeedmnpdjaa.Ev

theorem less_more (a b : Int × Int) : lessF b a = moreF a b := by
  rw [Bool.eq_iff_iff, lessF_iff, moreF_iff]
/-- what was shown of a peak, as the law asks it -/
structure PkAt (f : Int → Int × Int) (lo hi : Int) (p : Pk) : Prop where
  l1 : lo ≤ p.al
  l2 : p.al ≤ hi
  h1 : lo ≤ p.ah
  h2 : p.ah ≤ hi
  el : f p.al = (p.ln, p.ld)
  eh : f p.ah = (p.hn, p.hd)
  least : ∀ y, lo ≤ y → y ≤ hi → lessF (f y) (p.ln, p.ld) = false
  most : ∀ y, lo ≤ y → y ≤ hi → lessF (p.hn, p.hd) (f y) = false
theorem Peak.at_ {f lo hi p} (k : Peak f lo hi p) : PkAt f lo hi p where
  l1 := k.mn.mem.1
  l2 := k.mn.mem.2
  h1 := k.mx.mem.1
  h2 := k.mx.mem.2
  el := k.el
  eh := k.eh
  least := fun y h1 h2 => by rw [← k.el]; exact k.mn.best y ⟨h1, h2⟩
  most := fun y h1 h2 => by rw [less_more, ← k.eh]; exact k.mx.best y ⟨h1, h2⟩
set_option maxRecDepth 100000 in
set_option maxHeartbeats 8000000 in
theorem bounds_con (h : Heap) (g : Gd h) (kva kvb : AV) (ka kb : List (Int × Int)) (ea eb lo hi li ui x : Int) (hka : KnV h kva ka) (hkb : KnV h kvb kb) : Con Try.prog Bs 10 [.agg [kva, .int .i64 ea], .agg [kvb, .int .i64 eb], .agg [.int .i64 lo, .int .i64 hi], .agg [.int .i64 li, .int .i64 ui], .int .i64 x] h [] (.bool true) [] := by
  refine Con.start rfl Try.func10 rfl rfl Try.ntmps10 rfl rfl g ?_
  (refine WK.seq ?_; refine WK.region ?_; refine St.box fun _ _ => ?_; refine St.box fun _ _ => ?_; refine St.box fun _ _ => ?_; refine St.box fun _ _ => ?_; refine St.assign ?_; refine WO.nil ?_; refine WK.seq ?_; refine WK.region ?_)
  rename_i p hp q hq sp hsp si hsi
  refine St.call (fun _ => rfl) (fun h hh => headB_con h hh.gd) ?_
  (refine St.assign ?_; refine WO.nil ?_; refine WK.seq ?_; refine WK.seq ?_; refine WK.region ?_; refine St.load ?_)
  refine St.call (fun _ => rfl) (fun h hh => fewB_con h hh.gd kva ka ea (hka.vw hh)) ?_
  (refine St.un ?_; refine St.move ?_)
  refine St.split (fun hc => ?_) (fun hc => ?_)
  · (refine St.skip ?_; refine St.skip ?_; refine St.skip ?_; refine St.pickT ?_; refine St.move ?_; refine St.skip ?_; refine St.skip ?_; refine St.skip ?_; refine St.skip ?_; refine St.skip ?_; refine St.skip ?_; refine St.pickT ?_; refine St.move ?_; refine St.skip ?_; refine St.skip ?_; refine St.skip ?_; refine St.pickT ?_; refine St.move ?_; refine St.skip ?_; refine St.skip ?_; refine St.skip ?_; refine St.skip ?_; refine St.pickT ?_; refine St.move ?_; refine St.skip ?_; refine St.skip ?_; refine St.skip ?_; refine St.skip ?_; refine St.pickT ?_; refine WO.nil ?_; refine WK.condT ?_; refine WK.seq ?_; refine WK.region ?_; refine St.move ?_; refine St.assign ?_; refine WO.nil ?_)
    refine St.ret (by first | exact .tmp .nil | exact .cell .nil | exact .cell (.tmp .nil) | exact .tmp (.tmp .nil) | exact .cell (.cell .nil) | exact .tmp (.cell .nil) | exact .nil | exact .tmp (.cell (.tmp .nil)) | exact .cell (.tmp (.tmp .nil)) | exact .cell (.cell (.tmp .nil)) | exact .tmp (.tmp (.tmp .nil)) | exact .cell (.cell (.cell .nil))) ?_
    rfl
  have hna : ka.length ≤ 60 := by simpa using hc
  clear hc
  (refine St.load ?_)
  refine St.call (fun _ => rfl) (fun h hh => fewB_con h hh.gd kvb kb eb (hkb.vw hh)) ?_
  (refine St.un ?_; refine St.pickF ?_; refine St.move ?_)
  refine St.split (fun hc => ?_) (fun hc => ?_)
  · (refine St.skip ?_; refine St.skip ?_; refine St.skip ?_; refine St.skip ?_; refine St.skip ?_; refine St.skip ?_; refine St.pickT ?_; refine St.move ?_; refine St.skip ?_; refine St.skip ?_; refine St.skip ?_; refine St.pickT ?_; refine St.move ?_; refine St.skip ?_; refine St.skip ?_; refine St.skip ?_; refine St.skip ?_; refine St.pickT ?_; refine St.move ?_; refine St.skip ?_; refine St.skip ?_; refine St.skip ?_; refine St.skip ?_; refine St.pickT ?_; refine WO.nil ?_; refine WK.condT ?_; refine WK.seq ?_; refine WK.region ?_; refine St.move ?_; refine St.assign ?_; refine WO.nil ?_)
    refine St.ret (by first | exact .tmp .nil | exact .cell .nil | exact .cell (.tmp .nil) | exact .tmp (.tmp .nil) | exact .cell (.cell .nil) | exact .tmp (.cell .nil) | exact .nil | exact .tmp (.cell (.tmp .nil)) | exact .cell (.tmp (.tmp .nil)) | exact .cell (.cell (.tmp .nil)) | exact .tmp (.tmp (.tmp .nil)) | exact .cell (.cell (.cell .nil))) ?_
    rfl
  have hnb : kb.length ≤ 60 := by simpa using hc
  clear hc
  (refine St.fieldAddr ?_; refine St.load ?_; refine St.fieldAddr ?_; refine St.load ?_; refine St.bin ?_; refine St.bin ?_; refine St.pickF ?_; refine St.move ?_)
  refine St.split (fun hc => ?_) (fun hc => ?_)
  · (refine St.skip ?_; refine St.skip ?_; refine St.skip ?_; refine St.pickT ?_; refine St.move ?_; refine St.skip ?_; refine St.skip ?_; refine St.skip ?_; refine St.skip ?_; refine St.pickT ?_; refine St.move ?_; refine St.skip ?_; refine St.skip ?_; refine St.skip ?_; refine St.skip ?_; refine St.pickT ?_; refine WO.nil ?_; refine WK.condT ?_; refine WK.seq ?_; refine WK.region ?_; refine St.move ?_; refine St.assign ?_; refine WO.nil ?_)
    refine St.ret (by first | exact .tmp .nil | exact .cell .nil | exact .cell (.tmp .nil) | exact .tmp (.tmp .nil) | exact .cell (.cell .nil) | exact .tmp (.cell .nil) | exact .nil | exact .tmp (.cell (.tmp .nil)) | exact .cell (.tmp (.tmp .nil)) | exact .cell (.cell (.tmp .nil)) | exact .tmp (.tmp (.tmp .nil)) | exact .cell (.cell (.cell .nil))) ?_
    rfl
  clear hc
  (refine St.fieldAddr ?_; refine St.load ?_; refine St.bin ?_; refine St.pickF ?_; refine St.move ?_)
  refine St.split (fun hc => ?_) (fun hc => ?_)
  · (refine St.skip ?_; refine St.skip ?_; refine St.skip ?_; refine St.skip ?_; refine St.pickT ?_; refine St.move ?_; refine St.skip ?_; refine St.skip ?_; refine St.skip ?_; refine St.skip ?_; refine St.pickT ?_; refine WO.nil ?_; refine WK.condT ?_; refine WK.seq ?_; refine WK.region ?_; refine St.move ?_; refine St.assign ?_; refine WO.nil ?_)
    refine St.ret (by first | exact .tmp .nil | exact .cell .nil | exact .cell (.tmp .nil) | exact .tmp (.tmp .nil) | exact .cell (.cell .nil) | exact .tmp (.cell .nil) | exact .nil | exact .tmp (.cell (.tmp .nil)) | exact .cell (.tmp (.tmp .nil)) | exact .cell (.cell (.tmp .nil)) | exact .tmp (.tmp (.tmp .nil)) | exact .cell (.cell (.cell .nil))) ?_
    rfl
  have hlo : 0 ≤ lo := by simp at hc; omega
  clear hc
  (refine St.move ?_; refine St.fieldAddr ?_; refine St.load ?_; refine St.bin ?_; refine St.pickF ?_; refine St.move ?_)
  refine St.split (fun hc => ?_) (fun hc => ?_)
  · (refine St.skip ?_; refine St.skip ?_; refine St.skip ?_; refine St.skip ?_; refine St.pickT ?_; refine WO.nil ?_; refine WK.condT ?_; refine WK.seq ?_; refine WK.region ?_; refine St.move ?_; refine St.assign ?_; refine WO.nil ?_)
    refine St.ret (by first | exact .tmp .nil | exact .cell .nil | exact .cell (.tmp .nil) | exact .tmp (.tmp .nil) | exact .cell (.cell .nil) | exact .tmp (.cell .nil) | exact .nil | exact .tmp (.cell (.tmp .nil)) | exact .cell (.tmp (.tmp .nil)) | exact .cell (.cell (.tmp .nil)) | exact .tmp (.tmp (.tmp .nil)) | exact .cell (.cell (.cell .nil))) ?_
    rfl
  have hx0 : lo ≤ x := by simp at hc; omega
  clear hc
  (refine St.move ?_; refine St.fieldAddr ?_; refine St.load ?_; refine St.bin ?_; refine St.pickF ?_; refine WO.nil ?_)
  refine St.splitC (fun hc => ?_) (fun hc => ?_)
  · (refine WK.seq ?_; refine WK.region ?_; refine St.move ?_; refine St.assign ?_; refine WO.nil ?_)
    refine St.ret (by first | exact .tmp .nil | exact .cell .nil | exact .cell (.tmp .nil) | exact .tmp (.tmp .nil) | exact .cell (.cell .nil) | exact .tmp (.cell .nil) | exact .nil | exact .tmp (.cell (.tmp .nil)) | exact .cell (.tmp (.tmp .nil)) | exact .cell (.cell (.tmp .nil)) | exact .tmp (.tmp (.tmp .nil)) | exact .cell (.cell (.cell .nil))) ?_
    rfl
  have hx1 : x ≤ hi := by simp at hc; omega
  clear hc
  by_cases he : errOn ka ea lo hi = 0
  rotate_left
  · have er : overR ka ea lo hi = ⟨⟨0, 0, 0, 0, 0, 0⟩, errOn ka ea lo hi⟩ := by unfold overR; rw [if_neg he]
    (refine WK.skip ?_; refine WK.seq ?_; refine WK.region ?_; refine St.load ?_; refine St.load ?_)
    refine St.call (v := .tup [.agg [.int .i64 0, .int .i64 0, .int .i64 0, .int .i64 0, .int .i64 0, .int .i64 0], .int .i64 (errOn ka ea lo hi)]) (fun _ => rfl) (fun h hh => by
      have := overP_con h hh.gd kva ka ea lo hi (hka.vw hh) (by omega)
      rw [er] at this
      exact this) ?_
    (refine St.move ?_; refine St.extract ?_; refine St.extract ?_; refine St.alloc fun _ _ => ?_; refine St.store0 ?_; refine St.assign ?_; refine WO.nil ?_; refine WK.seq ?_; refine WK.seq ?_; refine WK.region ?_; refine St.move ?_; refine St.bin ?_; refine WO.nil ?_)
    refine St.splitC (fun hc => ?_) (fun hc => ?_)
    · (refine WK.seq ?_; refine WK.region ?_; refine St.move ?_; refine St.assign ?_; refine WO.nil ?_)
      refine St.ret (by first | exact .tmp .nil | exact .cell .nil | exact .cell (.tmp .nil) | exact .tmp (.tmp .nil) | exact .cell (.cell .nil) | exact .tmp (.cell .nil) | exact .nil | exact .tmp (.cell (.tmp .nil)) | exact .cell (.tmp (.tmp .nil)) | exact .cell (.cell (.tmp .nil)) | exact .tmp (.tmp (.tmp .nil)) | exact .cell (.cell (.cell .nil))) ?_
      rfl
    · simp at hc; exact absurd hc he
  obtain ⟨hch, hlh, hda⟩ := errOn_zero he
  have va := vd_of_chk hch
  have er : overR ka ea lo hi = ⟨overK ka lo hi, 0⟩ := by unfold overR; rw [if_pos he]
  have ec : checkOverR ka ea lo hi (overK ka lo hi) = 0 := by unfold checkOverR; rw [if_pos he, pkEq_self]; rfl
  have hP := (over_peak he).at_
  have hO : ∀ (h2 : Heap) {V : Ob}, Vw h [] V h2 → Con Try.prog Bs 28 [.agg [kva, .int .i64 ea], .agg [.int .i64 lo, .int .i64 hi]] h2 [] (.tup [pkA (overK ka lo hi), .int .i64 0]) [] := fun h2 V hh => by
    have := overP_con h2 hh.gd kva ka ea lo hi (hka.vw hh) (by omega)
    rw [er] at this
    exact this
  have hK : ∀ (h2 : Heap) {V : Ob}, Vw h [] V h2 → Con Try.prog Bs 30 [.agg [kva, .int .i64 ea], .agg [.int .i64 lo, .int .i64 hi], pkA (overK ka lo hi)] h2 [] (.int .i64 (checkOverR ka ea lo hi (overK ka lo hi))) [] := fun h2 V hh => checkOverP_con h2 hh.gd kva ka ea lo hi (overK ka lo hi) (hka.vw hh) (by omega)
  clear er he
  generalize overK ka lo hi = P at ec hP hO hK
  generalize checkOverR ka ea lo hi P = z at ec hK
  obtain ⟨ln, ld, hn, hd, al, ah⟩ := P
  obtain ⟨l1, l2, h1, h2, el, eh, hle, hmo⟩ := hP
  simp only at l1 l2 h1 h2 el eh hle hmo
  have hVl : ∀ y, lo ≤ y → y ≤ hi → ∀ (h2 : Heap) {V : Ob}, Vw h [] V h2 → Con Try.prog Bs 22 [.agg [kva, .int .i64 ea], .int .i64 y] h2 [] (.tup [.agg [.int .i64 (valF ka y).1, .int .i64 (valF ka y).2], .int .i64 0]) [] := fun y g1 g2 h2 V hh => by
    have := valueP_con h2 hh.gd kva ka ea y (hka.vw hh) (by omega)
    have e : valueR ka ea y = ⟨valN ka y, valD ka y, 0⟩ := by unfold valueR; rw [if_pos hch, if_pos (inDom_sub hda g1 g2)]
    rw [e] at this
    exact this
  have hVx : ∀ (h2 : Heap) {V : Ob}, Vw h [] V h2 → Con Try.prog Bs 22 [.agg [kva, .int .i64 ea], .int .i64 x] h2 [] (.tup [.agg [.int .i64 (valN ka x), .int .i64 (valD ka x)], .int .i64 0]) [] := hVl x hx0 hx1
  have hV1 := hVl al l1 l2
  have hV2 := hVl ah h1 h2
  rw [el] at hV1
  rw [eh] at hV2
  have kx : isF (valN ka x) (valD ka x) = true := val_ok va (inDom_sub hda hx0 hx1)
  have kl : isF ln ld = true := by have := val_ok va (inDom_sub hda l1 l2); rw [show valN ka al = (valF ka al).1 from rfl, show valD ka al = (valF ka al).2 from rfl, el] at this; exact this
  have kh : isF hn hd = true := by have := val_ok va (inDom_sub hda h1 h2); rw [show valN ka ah = (valF ka ah).1 from rfl, show valD ka ah = (valF ka ah).2 from rfl, eh] at this; exact this
  have b1 : lessF (valN ka x, valD ka x) (ln, ld) = false := hle x hx0 hx1
  have b2 : lessF (hn, hd) (valN ka x, valD ka x) = false := hmo x hx0 hx1
  (refine WK.skip ?_; refine WK.seq ?_; refine WK.region ?_; refine St.load ?_; refine St.load ?_)
  refine St.call (v := .tup [.agg [.int .i64 ln, .int .i64 ld, .int .i64 hn, .int .i64 hd, .int .i64 al, .int .i64 ah], .int .i64 0]) (fun _ => rfl) (fun h hh => hO h hh) ?_
  (refine St.move ?_; refine St.extract ?_; refine St.extract ?_; refine St.alloc fun _ _ => ?_; refine St.store0 ?_; refine St.assign ?_; refine WO.nil ?_; refine WK.seq ?_; refine WK.seq ?_; refine WK.region ?_; refine St.move ?_; refine St.bin ?_; refine WO.nil ?_; refine WK.condF ?_; refine WK.skip ?_; refine WK.seq ?_; refine WK.region ?_; refine St.load ?_; refine St.move ?_)
  refine St.call (fun _ => rfl) (fun h hh => hVx h hh) ?_
  (refine St.move ?_; refine St.extract ?_; refine St.extract ?_; refine St.alloc fun _ _ => ?_; refine St.store0 ?_; refine St.assign ?_; refine WO.nil ?_; refine WK.seq ?_; refine WK.region ?_; refine St.load ?_; refine St.fieldAddr ?_; refine St.load ?_)
  refine St.call (fun _ => rfl) (fun h hh => hV1 h hh) ?_
  (refine St.move ?_; refine St.extract ?_; refine St.extract ?_; refine St.alloc fun _ _ => ?_; refine St.store0 ?_; refine St.assign ?_; refine WO.nil ?_; refine WK.seq ?_; refine WK.region ?_; refine St.load ?_; refine St.fieldAddr ?_; refine St.load ?_)
  refine St.call (fun _ => rfl) (fun h hh => hV2 h hh) ?_
  (refine St.move ?_; refine St.extract ?_; refine St.extract ?_; refine St.alloc fun _ _ => ?_; refine St.store0 ?_; refine St.assign ?_; refine WO.nil ?_; refine WK.seq ?_; refine WK.seq ?_; refine WK.region ?_; refine St.move ?_; refine St.bin ?_; refine St.move ?_; refine St.move ?_; refine St.bin ?_; refine St.pickF ?_; refine St.move ?_; refine St.move ?_; refine St.bin ?_; refine St.pickF ?_; refine St.move ?_; refine St.load ?_; refine St.fieldAddr ?_; refine St.load ?_)
  refine St.binX (r := .bool false) (by simp [evBin, evEq, guardOk, eqT, eqFs, partE, isAggT, takeN, dropN, nthN]) rfl rfl ?_
  (refine St.pickF ?_; refine St.move ?_; refine St.load ?_; refine St.fieldAddr ?_; refine St.load ?_)
  refine St.binX (r := .bool false) (by simp [evBin, evEq, guardOk, eqT, eqFs, partE, isAggT, takeN, dropN, nthN]) rfl rfl ?_
  (refine St.pickF ?_; refine St.move ?_; refine St.load ?_; refine St.fieldAddr ?_; refine St.load ?_)
  refine St.call (v := .bool false) (fun _ => rfl) (fun h hh => by
    have := less_con h hh.gd (valN ka x) (valD ka x) ln ld kx kl
    rw [b1] at this
    exact this) ?_
  (refine St.pickF ?_; refine St.move ?_; refine St.fieldAddr ?_; refine St.load ?_; refine St.load ?_)
  refine St.call (v := .bool false) (fun _ => rfl) (fun h hh => by
    have := less_con h hh.gd hn hd (valN ka x) (valD ka x) kh kx
    rw [b2] at this
    exact this) ?_
  (refine St.pickF ?_; refine St.move ?_; refine St.fieldAddr ?_; refine St.load ?_; refine St.fieldAddr ?_; refine St.load ?_; refine St.bin ?_; refine St.pickF ?_; refine St.move ?_)
  refine St.split (fun hc => ?_) (fun hc => ?_)
  · simp at hc; omega
  clear hc
  (refine St.fieldAddr ?_; refine St.load ?_; refine St.fieldAddr ?_; refine St.load ?_; refine St.bin ?_; refine St.pickF ?_; refine St.move ?_)
  refine St.split (fun hc => ?_) (fun hc => ?_)
  · simp at hc; omega
  clear hc
  (refine St.load ?_; refine St.load ?_; refine St.load ?_)
  refine St.call (fun _ => rfl) (fun h hh => hK h hh) ?_
  (refine St.bin ?_; refine St.pickF ?_; refine WO.nil ?_)
  refine St.splitC (fun hc => ?_) (fun hc => ?_)
  · simp at hc; exact absurd ec hc
  clear hc
  rename_i a12 h12 a14 h14 a16 h16 a18 h18
  refine WK.skip ?_
  refine WK.seq ?_
  refine WK.cut (ι := Unit) (fun _ => [(4, .int .i64 x), (5, .ptr p 0), (6, .ptr q 0), (7, .ptr sp 0), (11, .bool true), (14, .ptr a14 0)]) (fun _ => [(a14, .cells [.int .i64 (valN ka x), .int .i64 (valD ka x)] 23), (sp, .cells [.int .i64 lo, .int .i64 hi] 36), (q, .cells [kvb, .int .i64 eb] 33), (p, .cells [kva, .int .i64 ea] 33)]) (fun _ => ?_) (fun K' hK' => ?_)
  rotate_left
  · have leave := hK' ()
    clear hK'
    (refine WK.seq ?_; refine WK.region ?_; refine St.fieldAddr ?_; refine St.load ?_; refine St.fieldAddr ?_; refine St.load ?_; refine St.bin ?_; refine St.move ?_)
    refine St.split (fun hc1 => ?_) (fun hc1 => ?_)
    rotate_left
    · (refine St.skip ?_; refine St.skip ?_; refine St.skip ?_; refine St.skip ?_; refine St.skip ?_; refine St.pickF ?_; refine St.move ?_; refine St.skip ?_; refine St.skip ?_; refine St.skip ?_; refine St.skip ?_; refine St.skip ?_; refine St.pickF ?_; refine WO.nil ?_; refine WK.condF ?_; refine WK.skip ?_)
      refine WK.le ?_ (by (repeat (first | exact List.Sublist.refl _ | exact List.nil_sublist _ | apply List.Sublist.cons_cons | apply List.Sublist.cons))) leave
      exact ⟨rfl, rfl, rfl, rfl, rfl, rfl, trivial⟩
    (refine St.fieldAddr ?_; refine St.load ?_; refine St.fieldAddr ?_; refine St.load ?_; refine St.bin ?_; refine St.pickT ?_; refine St.move ?_)
    refine St.split (fun hc2 => ?_) (fun hc2 => ?_)
    rotate_left
    · (refine St.skip ?_; refine St.skip ?_; refine St.skip ?_; refine St.skip ?_; refine St.skip ?_; refine St.pickF ?_; refine WO.nil ?_; refine WK.condF ?_; refine WK.skip ?_)
      refine WK.le ?_ (by (repeat (first | exact List.Sublist.refl _ | exact List.nil_sublist _ | apply List.Sublist.cons_cons | apply List.Sublist.cons))) leave
      exact ⟨rfl, rfl, rfl, rfl, rfl, rfl, trivial⟩
    (refine St.fieldAddr ?_; refine St.load ?_; refine St.fieldAddr ?_; refine St.load ?_; refine St.bin ?_; refine St.pickT ?_; refine WO.nil ?_)
    refine St.splitC (fun hc3 => ?_) (fun hc3 => ?_)
    rotate_left
    · (refine WK.skip ?_)
      refine WK.le ?_ (by (repeat (first | exact List.Sublist.refl _ | exact List.nil_sublist _ | apply List.Sublist.cons_cons | apply List.Sublist.cons))) leave
      exact ⟨rfl, rfl, rfl, rfl, rfl, rfl, trivial⟩
    have g1 : lo ≤ li := by simp at hc1; omega
    have g2 : ui ≤ hi := by simp at hc2; omega
    have g3 : li ≤ ui := by simp at hc3; omega
    clear hc1 hc2 hc3
    have hdi : inDom ka li ui = true := by
      simp only [inDom, Bool.and_eq_true, decide_eq_true_eq] at hda ⊢
      omega
    have he2 : errOn ka ea li ui = 0 := by unfold errOn; rw [if_pos hch, if_neg (by omega), if_pos hdi]
    have hQ := (over_peak he2).at_
    have hO2 : ∀ (h2 : Heap) {V : Ob}, Vw h [] V h2 → Con Try.prog Bs 28 [.agg [kva, .int .i64 ea], .agg [.int .i64 li, .int .i64 ui]] h2 [] (.tup [pkA (overK ka li ui), .int .i64 0]) [] := fun h2 V hh => by
      have := overP_con h2 hh.gd kva ka ea li ui (hka.vw hh) (by omega)
      rw [show overR ka ea li ui = ⟨overK ka li ui, 0⟩ by unfold overR; rw [if_pos he2]] at this
      exact this
    generalize overK ka li ui = Q at hQ hO2
    obtain ⟨kn, kd, mn, md, bl, bh⟩ := Q
    obtain ⟨r1, r2, r3, r4, fl, fh, _, _⟩ := hQ
    simp only at r1 r2 r3 r4 fl fh
    have kl2 : isF kn kd = true := by have := val_ok va (inDom_sub hdi r1 r2); rw [show valN ka bl = (valF ka bl).1 from rfl, show valD ka bl = (valF ka bl).2 from rfl, fl] at this; exact this
    have kh2 : isF mn md = true := by have := val_ok va (inDom_sub hdi r3 r4); rw [show valN ka bh = (valF ka bh).1 from rfl, show valD ka bh = (valF ka bh).2 from rfl, fh] at this; exact this
    have b3 : lessF (kn, kd) (ln, ld) = false := by rw [← fl]; exact hle bl (by omega) (by omega)
    have b4 : lessF (hn, hd) (mn, md) = false := by rw [← fh]; exact hmo bh (by omega) (by omega)
    (refine WK.seq ?_; refine WK.region ?_; refine St.load ?_; refine St.load ?_)
    refine St.call (v := .tup [.agg [.int .i64 kn, .int .i64 kd, .int .i64 mn, .int .i64 md, .int .i64 bl, .int .i64 bh], .int .i64 0]) (fun _ => rfl) (fun h hh => hO2 h hh) ?_
    (refine St.move ?_; refine St.extract ?_; refine St.extract ?_; refine St.alloc fun _ _ => ?_; refine St.store0 ?_; refine St.assign ?_; refine WO.nil ?_; refine WK.seq ?_; refine WK.region ?_; refine St.move ?_; refine St.bin ?_; refine St.move ?_; refine St.fieldAddr ?_; refine St.load ?_; refine St.fieldAddr ?_; refine St.load ?_)
    refine St.call (v := .bool false) (fun _ => rfl) (fun h hh => by
      have := less_con h hh.gd kn kd ln ld kl2 kl
      rw [b3] at this
      exact this) ?_
    (refine St.pickF ?_; refine St.move ?_; refine St.fieldAddr ?_; refine St.load ?_; refine St.fieldAddr ?_; refine St.load ?_)
    refine St.call (v := .bool false) (fun _ => rfl) (fun h hh => by
      have := less_con h hh.gd hn hd mn md kh kh2
      rw [b4] at this
      exact this) ?_
    (refine St.pickF ?_; refine WO.nil ?_; refine WK.condF ?_; refine WK.skip ?_)
    refine WK.le ?_ (by (repeat (first | exact List.Sublist.refl _ | exact List.nil_sublist _ | apply List.Sublist.cons_cons | apply List.Sublist.cons))) leave
    exact ⟨rfl, rfl, rfl, rfl, rfl, rfl, trivial⟩
  by_cases hz : apartE ka ea kb eb lo hi = 0
  rotate_left
  · have ea' : apartR ka ea kb eb lo hi = ⟨⟨0, 0, 0, 0, 0, 0⟩, apartE ka ea kb eb lo hi⟩ := by unfold apartR; rw [if_neg hz]
    (refine WK.seq ?_; refine WK.region ?_; refine St.load ?_; refine St.load ?_; refine St.load ?_)
    refine St.call (v := .tup [.agg [.int .i64 0, .int .i64 0, .int .i64 0, .int .i64 0, .int .i64 0, .int .i64 0], .int .i64 (apartE ka ea kb eb lo hi)]) (fun _ => rfl) (fun h hh => by
      have := apartP_con h hh.gd kva kvb ka kb ea eb lo hi (hka.vw hh) (hkb.vw hh) (by omega) (by omega)
      rw [ea'] at this
      exact this) ?_
    (refine St.move ?_; refine St.extract ?_; refine St.extract ?_; refine St.alloc fun _ _ => ?_; refine St.store0 ?_; refine St.assign ?_; refine WO.nil ?_; refine WK.seq ?_; refine WK.region ?_; refine St.load ?_; refine St.move ?_)
    refine St.call (fun _ => rfl) (fun h hh => valueP_con h hh.gd kvb kb eb x (hkb.vw hh) (by omega)) ?_
    (refine St.move ?_; refine St.extract ?_; refine St.extract ?_; refine St.alloc fun _ _ => ?_; refine St.store0 ?_; refine St.assign ?_; refine WO.nil ?_; refine WK.seq ?_; refine WK.seq ?_; refine WK.region ?_; refine St.move ?_; refine St.bin ?_; refine WO.nil ?_)
    refine St.splitC (fun hc => ?_) (fun hc => ?_)
    · (refine WK.seq ?_; refine WK.region ?_; refine St.move ?_; refine St.assign ?_; refine WO.nil ?_)
      refine St.ret (by first | exact .tmp .nil | exact .cell .nil | exact .cell (.tmp .nil) | exact .tmp (.tmp .nil) | exact .cell (.cell .nil) | exact .tmp (.cell .nil) | exact .nil | exact .tmp (.cell (.tmp .nil)) | exact .cell (.tmp (.tmp .nil)) | exact .cell (.cell (.tmp .nil)) | exact .tmp (.tmp (.tmp .nil)) | exact .cell (.cell (.cell .nil))) ?_
      rfl
    · simp at hc; exact absurd hc hz
  obtain ⟨_, hcb, _, _, hdb⟩ := apartE_zero hz
  have vb := vd_of_chk hcb
  have ea' : apartR ka ea kb eb lo hi = ⟨apartK ka kb lo hi, 0⟩ := by unfold apartR; rw [if_pos hz]
  have hA := (apart_peak va vb hlh hda hdb).at_
  have hAp : ∀ (h2 : Heap) {V : Ob}, Vw h [] V h2 → Con Try.prog Bs 51 [.agg [kva, .int .i64 ea], .agg [kvb, .int .i64 eb], .agg [.int .i64 lo, .int .i64 hi]] h2 [] (.tup [pkA (apartK ka kb lo hi), .int .i64 0]) [] := fun h2 V hh => by
    have := apartP_con h2 hh.gd kva kvb ka kb ea eb lo hi (hka.vw hh) (hkb.vw hh) (by omega) (by omega)
    rw [ea'] at this
    exact this
  clear ea' hz
  generalize apartK ka kb lo hi = A at hA hAp
  obtain ⟨tn, td, un, ud, tl, ul⟩ := A
  obtain ⟨s1, s2, s3, s4, gl, gh, hle2, hmo2⟩ := hA
  simp only at s1 s2 s3 s4 gl gh hle2 hmo2
  have dx := dif_ok va vb (inDom_sub hda hx0 hx1) (inDom_sub hdb hx0 hx1)
  have dl := dif_ok va vb (inDom_sub hda s1 s2) (inDom_sub hdb s1 s2)
  have du := dif_ok va vb (inDom_sub hda s3 s4) (inDom_sub hdb s3 s4)
  have hL1 : ∀ (h2 : Heap) {V : Ob}, Vw h [] V h2 → _ := fun h2 V hh => lapart_con h2 hh.gd kva kvb ka kb ea eb tl va vb (hka.vw hh) (hkb.vw hh) (inDom_sub hda s1 s2) (inDom_sub hdb s1 s2)
  have hL2 : ∀ (h2 : Heap) {V : Ob}, Vw h [] V h2 → _ := fun h2 V hh => lapart_con h2 hh.gd kva kvb ka kb ea eb ul va vb (hka.vw hh) (hkb.vw hh) (inDom_sub hda s3 s4) (inDom_sub hdb s3 s4)
  rw [gl] at dl hL1
  rw [gh] at du hL2
  have b5 : lessF ((difF ka kb x).1, (difF ka kb x).2) (tn, td) = false := hle2 x hx0 hx1
  have b6 : lessF (un, ud) ((difF ka kb x).1, (difF ka kb x).2) = false := hmo2 x hx0 hx1
  obtain ⟨a1, a2⟩ := va.dom hda
  obtain ⟨w1, w3, w4, w5⟩ := dif_bd va vb (inDom_sub hda hx0 hx1) (inDom_sub hdb hx0 hx1)
  have eN : difN ka kb x = valN ka x * valD kb x - valN kb x * valD ka x := rfl
  have eD : difD ka kb x = valD ka x * valD kb x := rfl
  rw [eN] at w1 w3
  rw [eD] at w4 w5
  obtain ⟨m1, m2⟩ := ((va.fr (x := x) (by omega) (by omega)).small).mul ((vb.fr (x := x) (by omega) (by omega)).small)
  obtain ⟨m3, m4⟩ := ((vb.fr (x := x) (by omega) (by omega)).small).mul ((va.fr (x := x) (by omega) (by omega)).small)
  have eV : valueR kb eb x = ⟨valN kb x, valD kb x, 0⟩ := by unfold valueR; rw [if_pos hcb, if_pos (inDom_sub hdb hx0 hx1)]
  (refine WK.seq ?_; refine WK.region ?_; refine St.load ?_; refine St.load ?_; refine St.load ?_)
  refine St.call (v := .tup [.agg [.int .i64 tn, .int .i64 td, .int .i64 un, .int .i64 ud, .int .i64 tl, .int .i64 ul], .int .i64 0]) (fun _ => rfl) (fun h hh => hAp h hh) ?_
  (refine St.move ?_; refine St.extract ?_; refine St.extract ?_; refine St.alloc fun _ _ => ?_; refine St.store0 ?_; refine St.assign ?_; refine WO.nil ?_; refine WK.seq ?_; refine WK.region ?_; refine St.load ?_; refine St.move ?_)
  refine St.call (v := .tup [.agg [.int .i64 (valN kb x), .int .i64 (valD kb x)], .int .i64 0]) (fun _ => rfl) (fun h hh => by
    have := valueP_con h hh.gd kvb kb eb x (hkb.vw hh) (by omega)
    rw [eV] at this
    exact this) ?_
  (refine St.move ?_; refine St.extract ?_; refine St.extract ?_; refine St.alloc fun _ _ => ?_; refine St.store0 ?_; refine St.assign ?_; refine WO.nil ?_; refine WK.seq ?_; refine WK.seq ?_; refine WK.region ?_; refine St.move ?_; refine St.bin ?_; refine WO.nil ?_; refine WK.condF ?_; refine WK.skip ?_; refine WK.seq ?_; refine WK.region ?_; refine St.fieldAddr ?_; refine St.load ?_; refine St.fieldAddr ?_; refine St.load ?_; refine St.binI ?_; refine St.fieldAddr ?_; refine St.load ?_; refine St.fieldAddr ?_; refine St.load ?_; refine St.binI ?_; refine St.binI ?_; refine St.fieldAddr ?_; refine St.load ?_; refine St.fieldAddr ?_; refine St.load ?_; refine St.binI ?_)
  refine St.call (v := .tup [.agg [.int .i64 (difF ka kb x).1, .int .i64 (difF ka kb x).2], .int .i64 0]) (fun _ => rfl) (fun h hh => lowestP_con h hh.gd (difN ka kb x) (difD ka kb x) (by rw [eN]; omega) (by rw [eN]; omega) (by rw [eD]; omega) (by rw [eD]; omega)) ?_
  (refine St.move ?_; refine St.extract ?_; refine St.extract ?_; refine St.alloc fun _ _ => ?_; refine St.store0 ?_; refine St.assign ?_; refine WO.nil ?_; refine WK.seq ?_; refine WK.regionD ?_; refine St.move ?_; refine St.move ?_; refine St.move ?_; refine St.bin ?_; refine St.pickT ?_; refine St.move ?_; refine St.move ?_; refine St.bin ?_; refine St.pickT ?_; refine St.move ?_; refine St.load ?_; refine St.fieldAddr ?_; refine St.load ?_)
  refine St.call (v := .bool false) (fun _ => rfl) (fun h hh => by
    have := less_con h hh.gd (difF ka kb x).1 (difF ka kb x).2 tn td dx dl
    rw [b5] at this
    exact this) ?_
  (refine St.un ?_; refine St.pickT ?_; refine St.move ?_; refine St.fieldAddr ?_; refine St.load ?_; refine St.load ?_)
  refine St.call (v := .bool false) (fun _ => rfl) (fun h hh => by
    have := less_con h hh.gd un ud (difF ka kb x).1 (difF ka kb x).2 du dx
    rw [b6] at this
    exact this) ?_
  (refine St.un ?_; refine St.pickT ?_; refine St.move ?_; refine St.load ?_; refine St.load ?_; refine St.fieldAddr ?_; refine St.load ?_)
  refine St.call (fun _ => rfl) (fun h hh => hL1 h hh) ?_
  (refine St.fieldAddr ?_; refine St.load ?_)
  refine St.binX (r := .bool true) (by simp [evBin, evEq, guardOk, eqT, eqFs, partE, isAggT, takeN, dropN, nthN]) rfl rfl ?_
  (refine St.pickT ?_; refine St.move ?_; refine St.load ?_; refine St.load ?_; refine St.fieldAddr ?_; refine St.load ?_)
  refine St.call (fun _ => rfl) (fun h hh => hL2 h hh) ?_
  (refine St.fieldAddr ?_; refine St.load ?_)
  refine St.binX (r := .bool true) (by simp [evBin, evEq, guardOk, eqT, eqFs, partE, isAggT, takeN, dropN, nthN]) rfl rfl ?_
  (refine St.pickT ?_; refine St.assign ?_; refine WO.nil ?_)
  refine St.ret (by first | exact .tmp .nil | exact .cell .nil | exact .cell (.tmp .nil) | exact .tmp (.tmp .nil) | exact .cell (.cell .nil) | exact .tmp (.cell .nil) | exact .nil | exact .tmp (.cell (.tmp .nil)) | exact .cell (.tmp (.tmp .nil)) | exact .cell (.cell (.tmp .nil)) | exact .tmp (.tmp (.tmp .nil)) | exact .cell (.cell (.cell .nil))) ?_
  simp [oneOf]
/-- the law, said of the model -/
theorem bounds_of (w : World) (A1 A2 : Option Addr) (c1 c2 : Nat) (ka kb : List (Int × Int)) (ea eb lo hi li ui x : Int) (hA1 : SlOk w A1 ka.length c1) (hk1 : KnAt w A1 ka) (hA2 : SlOk w A2 kb.length c2) (hk2 : KnAt w A2 kb) :
    Calls Try.prog 10 #[.agg #[.slice A1 ka.length c1, .int .i64 ea], .agg #[.slice A2 kb.length c2, .int .i64 eb], .agg #[.int .i64 lo, .int .i64 hi], .agg #[.int .i64 li, .int .i64 ui], .int .i64 x] w fun e w' => e = .returned (.bool true) ∧ RowKit.Below w.heap.size w w' := by
  obtain ⟨kva, h1, h2⟩ := kn_abs hA1 hk1
  obtain ⟨kvb, h3, h4⟩ := kn_abs hA2 hk2
  refine (Con.calls (by kernel_rfl) Bs_sound (bounds_con _ (absH_good w) kva kvb ka kb ea eb lo hi li ui x h1 h3) (VRs.cons (vr_agg2 h2 vr_int) (VRs.cons (vr_agg2 h4 vr_int) (vrs3 (vr_agg2 vr_int vr_int) (vr_agg2 vr_int vr_int) vr_int)))).mono ?_
  rintro e w' ⟨U, E, rfl, hU, hb⟩
  simp only [VR] at hU
  exact ⟨by rw [hU], hb⟩
end Go.Proofs.Ytcaemeedmnpdjaa
