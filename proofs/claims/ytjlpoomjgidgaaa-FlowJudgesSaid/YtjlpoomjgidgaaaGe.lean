/- Layer 5: the specification's small functions, the place of a holder, the first error of holders, of a movement. -/
import Derived.Test.YtjlpoomjgidgaaaGd
namespace Go.Proofs.Ytjlpoomjgidgaaa
open Go.Proofs.Ytjlpoomjgidgaaa.Ev

set_option maxRecDepth 100000 in
theorem rwithin_con (h : Heap) (g : Gd h) (n lo hi : Int) : Con Try.prog Bs 74 [.int .i64 n, .int .i64 lo, .int .i64 hi] h [] (.bool (decide (lo ≤ n) && decide (n ≤ hi))) [] := by
  refine Con.start rfl Try.func74 rfl rfl Try.ntmps74 rfl rfl g ?_
  (refine WK.seq ?_; refine WK.region ?_; refine St.assign ?_; refine WO.nil ?_; refine WK.seq ?_; refine WK.region ?_; refine St.move ?_; refine St.move ?_; refine St.bin ?_; refine St.move ?_)
  refine St.split (fun q => ?_) (fun q => ?_)
  · (refine St.move ?_; refine St.move ?_; refine St.bin ?_; refine St.pickT ?_; refine St.assign ?_; refine WO.nil ?_)
    refine St.ret (by first | exact .tmp .nil | exact .cell .nil | exact .cell (.tmp .nil) | exact .tmp (.tmp .nil) | exact .cell (.cell .nil) | exact .tmp (.cell .nil) | exact .nil | exact .tmp (.cell (.tmp .nil)) | exact .cell (.tmp (.tmp .nil)) | exact .cell (.cell (.tmp .nil)) | exact .tmp (.tmp (.tmp .nil)) | exact .cell (.cell (.cell .nil))) ?_
    simp at q
    simp [oneOf, q]
  · (refine St.skip ?_; refine St.skip ?_; refine St.skip ?_; refine St.pickF ?_; refine St.assign ?_; refine WO.nil ?_)
    refine St.ret (by first | exact .tmp .nil | exact .cell .nil | exact .cell (.tmp .nil) | exact .tmp (.tmp .nil) | exact .cell (.cell .nil) | exact .tmp (.cell .nil) | exact .nil | exact .tmp (.cell (.tmp .nil)) | exact .cell (.tmp (.tmp .nil)) | exact .cell (.cell (.tmp .nil)) | exact .tmp (.tmp (.tmp .nil)) | exact .cell (.cell (.cell .nil))) ?_
    simp at q
    have : ¬ lo ≤ n := by omega
    simp [oneOf, this]
set_option maxRecDepth 100000 in
theorem rmassed_con (h : Heap) (g : Gd h) (a b : Int) : Con Try.prog Bs 75 [.agg [.int .i64 a, .int .i64 b]] h [] (.bool (msB a b)) [] := by
  refine Con.start rfl Try.func75 rfl rfl Try.ntmps75 rfl rfl g ?_
  (refine WK.seq ?_; refine WK.region ?_; refine St.box fun _ _ => ?_; refine St.assign ?_; refine WO.nil ?_; refine WK.seq ?_; refine WK.region ?_; refine St.fieldAddr ?_; refine St.load ?_; refine St.bin ?_; refine St.move ?_)
  refine St.split (fun q => ?_) (fun q => ?_)
  · (refine St.fieldAddr ?_; refine St.load ?_; refine St.fieldAddr ?_; refine St.load ?_; refine St.bin ?_; refine St.pickT ?_; refine St.move ?_)
    refine St.split (fun q2 => ?_) (fun q2 => ?_)
    · (refine St.fieldAddr ?_; refine St.load ?_; refine St.bin ?_; refine St.pickT ?_; refine St.assign ?_; refine WO.nil ?_)
      refine St.ret (by first | exact .tmp .nil | exact .cell .nil | exact .cell (.tmp .nil) | exact .tmp (.tmp .nil) | exact .cell (.cell .nil) | exact .tmp (.cell .nil) | exact .nil | exact .tmp (.cell (.tmp .nil)) | exact .cell (.tmp (.tmp .nil)) | exact .cell (.cell (.tmp .nil)) | exact .tmp (.tmp (.tmp .nil)) | exact .cell (.cell (.cell .nil))) ?_
      simp at q q2
      have h1 : a ≤ 65536 ∨ ¬ b ≤ 65536 := by omega
      have h2 : 0 ≤ b := by omega
      by_cases h3 : b ≤ 65536
      · have h4 : a ≤ 65536 := by omega
        simp [oneOf, msB, maB, q, q2, h2, h3, h4]
      · simp [oneOf, msB, maB, h3]
    · (refine St.skip ?_; refine St.skip ?_; refine St.skip ?_; refine St.pickF ?_; refine St.assign ?_; refine WO.nil ?_)
      refine St.ret (by first | exact .tmp .nil | exact .cell .nil | exact .cell (.tmp .nil) | exact .tmp (.tmp .nil) | exact .cell (.cell .nil) | exact .tmp (.cell .nil) | exact .nil | exact .tmp (.cell (.tmp .nil)) | exact .cell (.tmp (.tmp .nil)) | exact .cell (.cell (.tmp .nil)) | exact .tmp (.tmp (.tmp .nil)) | exact .cell (.cell (.cell .nil))) ?_
      simp at q2
      have : ¬ a ≤ b := by omega
      simp [oneOf, msB, this]
  · (refine St.skip ?_; refine St.skip ?_; refine St.skip ?_; refine St.skip ?_; refine St.skip ?_; refine St.pickF ?_; refine St.move ?_; refine St.skip ?_; refine St.skip ?_; refine St.skip ?_; refine St.pickF ?_; refine St.assign ?_; refine WO.nil ?_)
    refine St.ret (by first | exact .tmp .nil | exact .cell .nil | exact .cell (.tmp .nil) | exact .tmp (.tmp .nil) | exact .cell (.cell .nil) | exact .tmp (.cell .nil) | exact .nil | exact .tmp (.cell (.tmp .nil)) | exact .cell (.tmp (.tmp .nil)) | exact .cell (.cell (.tmp .nil)) | exact .tmp (.tmp (.tmp .nil)) | exact .cell (.cell (.cell .nil))) ?_
    simp at q
    have : ¬ 0 ≤ a := by omega
    simp [oneOf, msB, maB, this]
set_option maxRecDepth 100000 in
set_option maxHeartbeats 4000000 in
theorem place_con (h : Heap) (g : Gd h) (hv mv : AV) (l : List Ho) (n : Int) (hh : HoV h hv l) (hl : l.length ≤ 1000000) :
    Con Try.prog Bs 53 [.agg [hv, mv], .int .i64 n] h [] (.int .i64 (plI (hids l) n)) [] := by
  refine Con.start rfl Try.func53 rfl rfl Try.ntmps53 rfl rfl g ?_
  (refine WK.seq ?_; refine WK.region ?_; refine St.box fun _ _ => ?_; refine St.assign ?_; refine WO.nil ?_; refine WK.seq ?_; refine WK.seq ?_; refine WK.region ?_; refine St.assign ?_; refine WO.nil ?_; refine WK.block ?_)
  rename_i p2 hp2
  refine WK.inv (ι := Nat) (fun z => [(1, .int .i64 n), (2, .ptr p2 0), (5, .int .i64 z)]) (fun _ => [(p2, .cells [hv, mv] 25)]) (fun z => z ≤ l.length ∧ n ∉ (hids l).take z) (fun z => l.length - z) 0 ⟨by omega, by simp⟩ ⟨rfl, rfl, rfl, trivial⟩ (by (repeat (first | exact List.Sublist.refl _ | exact List.nil_sublist _ | apply List.Sublist.cons_cons | apply List.Sublist.cons))) ?_
  rintro k ⟨hkl, hno⟩ ih
  (refine WK.seq ?_; refine WK.seq ?_; refine WK.region ?_; refine St.move ?_; refine St.fieldAddr ?_; refine St.load ?_)
  refine St.lenG rfl hh.hlen ?_
  (refine St.bin ?_; refine WO.nil ?_)
  refine St.splitC (fun hc => ?_) (fun hc => ?_)
  · have hlt : k < l.length := by simp at hc; omega
    obtain ⟨b, off, c, rfl, hk⟩ := hh.ne (by omega)
    (refine WK.skip ?_; refine WK.seq ?_; refine WK.block ?_; refine WK.seq ?_; refine WK.region ?_; refine St.fieldAddr ?_; refine St.load ?_; refine St.move ?_)
    refine St.at ?_
    (refine St.fieldAddr ?_)
    refine St.loadX (fun h2 hh2 => (Rds.headG ((hk.vw hh2).at_ (z := (k : Int)) (n := k) (by omega) hlt)).one rfl) ?_
    (refine St.move ?_; refine St.bin ?_; refine WO.nil ?_)
    refine St.splitC (fun hc2 => ?_) (fun hc2 => ?_)
    · have hid : (nthE l k).id = n := by simpa using hc2
      (refine WK.seq ?_; refine WK.region ?_; refine St.move ?_; refine St.assign ?_; refine WO.nil ?_)
      refine St.ret (by first | exact .tmp .nil | exact .cell .nil | exact .cell (.tmp .nil) | exact .tmp (.tmp .nil) | exact .cell (.cell .nil) | exact .tmp (.cell .nil) | exact .nil | exact .tmp (.cell (.tmp .nil)) | exact .cell (.tmp (.tmp .nil)) | exact .cell (.cell (.tmp .nil)) | exact .tmp (.tmp (.tmp .nil)) | exact .cell (.cell (.cell .nil))) ?_
      rw [plI_at (i := k) (by rw [hids_len]; exact hlt) (by rw [hids_get hlt]; exact hid) hno]
      rfl
    · have hid : (nthE l k).id ≠ n := by simpa using hc2
      (refine WK.skip ?_; refine WK.blk ?_; refine WK.region ?_; refine St.move ?_; refine St.binI ?_; refine St.assign ?_; refine WO.nil ?_)
      refine WK.le ?_ (by (repeat (first | exact List.Sublist.refl _ | exact List.nil_sublist _ | apply List.Sublist.cons_cons | apply List.Sublist.cons))) (ih (k + 1) ⟨hlt, ?_⟩ (by omega))
      · exact ⟨rfl, rfl, rfl, trivial⟩
      · rw [hids_succ hlt]
        simp only [List.mem_append, List.mem_singleton, not_or]
        exact ⟨hno, fun e => hid e.symm⟩
  · have : k = l.length := by simp at hc; omega
    subst this
    (refine WK.exit ?_; refine WK.seq ?_; refine WK.region ?_; refine St.assign ?_; refine WO.nil ?_)
    refine St.ret (by first | exact .tmp .nil | exact .cell .nil | exact .cell (.tmp .nil) | exact .tmp (.tmp .nil) | exact .cell (.cell .nil) | exact .tmp (.cell .nil) | exact .nil | exact .tmp (.cell (.tmp .nil)) | exact .cell (.tmp (.tmp .nil)) | exact .cell (.cell (.tmp .nil)) | exact .tmp (.tmp (.tmp .nil)) | exact .cell (.cell (.cell .nil))) ?_
    rw [plI_no (by rw [List.take_of_length_le (by rw [hids_len]; omega)] at hno; exact hno)]
    rfl
set_option maxRecDepth 100000 in
set_option maxHeartbeats 8000000 in
theorem heldBy_con (h : Heap) (g : Gd h) (hv mv : AV) (l : List Ho) (hh : HoV h hv l) (hl : l.length ≤ 1000000) :
    Con Try.prog Bs 51 [.agg [hv, mv]] h [] (.int .i64 (chkHo [] l)) [] := by
  refine Con.start rfl Try.func51 rfl rfl Try.ntmps51 rfl rfl g ?_
  (refine WK.seq ?_; refine WK.region ?_; refine St.box fun _ _ => ?_; refine St.assign ?_; refine WO.nil ?_; refine WK.seq ?_; refine WK.seq ?_; refine WK.region ?_; refine St.assign ?_; refine WO.nil ?_; refine WK.block ?_)
  rename_i p1 hp1
  refine WK.inv (ι := Nat) (fun z => [(1, .ptr p1 0), (3, .int .i64 z)]) (fun _ => [(p1, .cells [hv, mv] 25)]) (fun z => z ≤ l.length ∧ chkHo [] l = chkHo ((hids l).take z) (l.drop z)) (fun z => l.length - z) 0 ⟨by omega, rfl⟩ ⟨rfl, rfl, trivial⟩ (by (repeat (first | exact List.Sublist.refl _ | exact List.nil_sublist _ | apply List.Sublist.cons_cons | apply List.Sublist.cons))) ?_
  rintro k ⟨hkl, hchk⟩ ih
  (refine WK.seq ?_; refine WK.seq ?_; refine WK.region ?_; refine St.move ?_; refine St.fieldAddr ?_; refine St.load ?_)
  refine St.lenG rfl hh.hlen ?_
  (refine St.bin ?_; refine WO.nil ?_)
  refine St.splitC (fun hc => ?_) (fun hc => ?_)
  · have hlt : k < l.length := by simp at hc; omega
    have hd := chkHo_drop (seen := (hids l).take k) (l := l) (k := k) hlt
    rw [← hids_succ hlt] at hd
    have hh' := hh
    obtain ⟨b, off, c, rfl, hk⟩ := hh'.ne (by omega)
    have hpl : plI (hids l) (nthE l k).id < (k : Int) ↔ (nthE l k).id ∈ (hids l).take k := plI_lt (by rw [hids_len]; exact hlt) (hids_get hlt)
    (refine WK.skip ?_; refine WK.seq ?_; refine WK.block ?_; refine WK.seq ?_; refine WK.region ?_; refine St.fieldAddr ?_; refine St.load ?_; refine St.move ?_)
    refine St.at ?_
    refine St.loadX (fun h2 hh2 => ((hk.vw hh2).at_ (z := (k : Int)) (n := k) (by omega) hlt).agg (by simp [hoC]) rfl rfl rfl) ?_
    generalize nthE l k = x at hd hpl ⊢
    obtain ⟨xa, xb, xc, xd, xe, xf⟩ := x
    replace hpl : plI (hids l) xa < (k : Int) ↔ xa ∈ (hids l).take k := hpl
    (refine St.alloc fun _ _ => ?_; refine St.store0 ?_; refine WO.nil ?_; refine WK.seq ?_; refine WK.region ?_; refine St.fieldAddr ?_; refine St.load ?_)
    rename_i p4 hp4
    refine St.call (fun _ => rfl) (fun h2 hh2 => rwithin_con h2 hh2.gd xa 1 1099511627776) ?_
    (refine St.assign ?_; refine WO.nil ?_; refine WK.seq ?_; refine WK.region ?_; refine St.fieldAddr ?_; refine St.load ?_)
    refine St.call (fun _ => rfl) (fun h2 hh2 => rmassed_con h2 hh2.gd xb xc) ?_
    (refine St.assign ?_; refine WO.nil ?_; refine WK.seq ?_; refine WK.region ?_; refine St.fieldAddr ?_; refine St.load ?_)
    refine St.call (fun _ => rfl) (fun h2 hh2 => rmassed_con h2 hh2.gd xd xe) ?_
    (refine St.assign ?_; refine WO.nil ?_; refine WK.seq ?_; refine WK.region ?_; refine St.fieldAddr ?_; refine St.load ?_)
    refine St.call (fun _ => rfl) (fun h2 hh2 => rwithin_con h2 hh2.gd xf 0 65536) ?_
    have e1 : hoOk ⟨xa, xb, xc, xd, xe, xf⟩ = (idB xa && (msB xb xc && (msB xd xe && maB xf))) := rfl
    rw [show (decide ((1 : Int) ≤ xa) && decide (xa ≤ 1099511627776)) = idB xa from rfl, show (decide ((0 : Int) ≤ xf) && decide (xf ≤ 65536)) = maB xf from rfl]
    generalize idB xa = A at e1 ⊢
    generalize msB xb xc = B at e1 ⊢
    generalize msB xd xe = C at e1 ⊢
    generalize maB xf = D at e1 ⊢
    have bad : hoOk ⟨xa, xb, xc, xd, xe, xf⟩ = false → chkHo [] l = 1 := fun e => by rw [hchk, hd, if_pos e]
    cases A
    · (refine St.assign ?_; refine WO.nil ?_; refine WK.seq ?_; refine WK.seq ?_; refine WK.region ?_; refine St.move ?_; refine St.un ?_; refine St.move ?_; refine St.skip ?_; refine St.skip ?_; refine St.pickT ?_; refine St.move ?_; refine St.skip ?_; refine St.skip ?_; refine St.pickT ?_; refine St.move ?_; refine St.skip ?_; refine St.skip ?_; refine St.pickT ?_; refine WO.nil ?_; refine WK.condT ?_; refine WK.seq ?_; refine WK.region ?_; refine St.assign ?_; refine WO.nil ?_)
      refine St.ret (by first | exact .tmp .nil | exact .cell .nil | exact .cell (.tmp .nil) | exact .tmp (.tmp .nil) | exact .cell (.cell .nil) | exact .tmp (.cell .nil) | exact .nil | exact .tmp (.cell (.tmp .nil)) | exact .cell (.tmp (.tmp .nil)) | exact .cell (.cell (.tmp .nil)) | exact .tmp (.tmp (.tmp .nil)) | exact .cell (.cell (.cell .nil))) ?_
      rw [bad (by rw [e1]; rfl)]
      rfl
    cases B
    · (refine St.assign ?_; refine WO.nil ?_; refine WK.seq ?_; refine WK.seq ?_; refine WK.region ?_; refine St.move ?_; refine St.un ?_; refine St.move ?_; refine St.move ?_; refine St.un ?_; refine St.pickF ?_; refine St.move ?_; refine St.skip ?_; refine St.skip ?_; refine St.pickT ?_; refine St.move ?_; refine St.skip ?_; refine St.skip ?_; refine St.pickT ?_; refine WO.nil ?_; refine WK.condT ?_; refine WK.seq ?_; refine WK.region ?_; refine St.assign ?_; refine WO.nil ?_)
      refine St.ret (by first | exact .tmp .nil | exact .cell .nil | exact .cell (.tmp .nil) | exact .tmp (.tmp .nil) | exact .cell (.cell .nil) | exact .tmp (.cell .nil) | exact .nil | exact .tmp (.cell (.tmp .nil)) | exact .cell (.tmp (.tmp .nil)) | exact .cell (.cell (.tmp .nil)) | exact .tmp (.tmp (.tmp .nil)) | exact .cell (.cell (.cell .nil))) ?_
      rw [bad (by rw [e1]; rfl)]
      rfl
    cases C
    · (refine St.assign ?_; refine WO.nil ?_; refine WK.seq ?_; refine WK.seq ?_; refine WK.region ?_; refine St.move ?_; refine St.un ?_; refine St.move ?_; refine St.move ?_; refine St.un ?_; refine St.pickF ?_; refine St.move ?_; refine St.move ?_; refine St.un ?_; refine St.pickF ?_; refine St.move ?_; refine St.skip ?_; refine St.skip ?_; refine St.pickT ?_; refine WO.nil ?_; refine WK.condT ?_; refine WK.seq ?_; refine WK.region ?_; refine St.assign ?_; refine WO.nil ?_)
      refine St.ret (by first | exact .tmp .nil | exact .cell .nil | exact .cell (.tmp .nil) | exact .tmp (.tmp .nil) | exact .cell (.cell .nil) | exact .tmp (.cell .nil) | exact .nil | exact .tmp (.cell (.tmp .nil)) | exact .cell (.tmp (.tmp .nil)) | exact .cell (.cell (.tmp .nil)) | exact .tmp (.tmp (.tmp .nil)) | exact .cell (.cell (.cell .nil))) ?_
      rw [bad (by rw [e1]; rfl)]
      rfl
    cases D
    · (refine St.assign ?_; refine WO.nil ?_; refine WK.seq ?_; refine WK.seq ?_; refine WK.region ?_; refine St.move ?_; refine St.un ?_; refine St.move ?_; refine St.move ?_; refine St.un ?_; refine St.pickF ?_; refine St.move ?_; refine St.move ?_; refine St.un ?_; refine St.pickF ?_; refine St.move ?_; refine St.move ?_; refine St.un ?_; refine St.pickF ?_; refine WO.nil ?_; refine WK.condT ?_; refine WK.seq ?_; refine WK.region ?_; refine St.assign ?_; refine WO.nil ?_)
      refine St.ret (by first | exact .tmp .nil | exact .cell .nil | exact .cell (.tmp .nil) | exact .tmp (.tmp .nil) | exact .cell (.cell .nil) | exact .tmp (.cell .nil) | exact .nil | exact .tmp (.cell (.tmp .nil)) | exact .cell (.tmp (.tmp .nil)) | exact .cell (.cell (.tmp .nil)) | exact .tmp (.tmp (.tmp .nil)) | exact .cell (.cell (.cell .nil))) ?_
      rw [bad (by rw [e1]; rfl)]
      rfl
    rw [if_neg (by rw [e1]; simp)] at hd
    clear bad
    (refine St.assign ?_; refine WO.nil ?_; refine WK.seq ?_; refine WK.seq ?_; refine WK.region ?_; refine St.move ?_; refine St.un ?_; refine St.move ?_; refine St.move ?_; refine St.un ?_; refine St.pickF ?_; refine St.move ?_; refine St.move ?_; refine St.un ?_; refine St.pickF ?_; refine St.move ?_; refine St.move ?_; refine St.un ?_; refine St.pickF ?_; refine WO.nil ?_; refine WK.condF ?_; refine WK.skip ?_; refine WK.seq ?_; refine WK.region ?_; refine St.load ?_; refine St.fieldAddr ?_; refine St.load ?_)
    refine St.call (fun _ => rfl) (fun h2 hh2 => place_con h2 hh2.gd (.slice b off l.length c) mv l xa (hh.vw hh2) hl) ?_
    (refine St.move ?_; refine St.bin ?_; refine WO.nil ?_)
    refine St.splitC (fun q => ?_) (fun q => ?_)
    · have hm : xa ∈ (hids l).take k := hpl.1 (by simpa using q)
      rw [if_pos hm] at hd
      (refine WK.seq ?_; refine WK.region ?_; refine St.assign ?_; refine WO.nil ?_)
      refine St.ret (by first | exact .tmp .nil | exact .cell .nil | exact .cell (.tmp .nil) | exact .tmp (.tmp .nil) | exact .cell (.cell .nil) | exact .tmp (.cell .nil) | exact .nil | exact .tmp (.cell (.tmp .nil)) | exact .cell (.tmp (.tmp .nil)) | exact .cell (.cell (.tmp .nil)) | exact .tmp (.tmp (.tmp .nil)) | exact .cell (.cell (.cell .nil))) ?_
      rw [hchk, hd]
      rfl
    · have hm : xa ∉ (hids l).take k := fun e => by have := hpl.2 e; simp at q; omega
      rw [if_neg hm] at hd
      (refine WK.skip ?_; refine WK.blk ?_; refine WK.region ?_; refine St.move ?_; refine St.binI ?_; refine St.assign ?_; refine WO.nil ?_)
      refine WK.le ?_ (by (repeat (first | exact List.Sublist.refl _ | exact List.nil_sublist _ | apply List.Sublist.cons_cons | apply List.Sublist.cons))) (ih (k + 1) ⟨hlt, hchk.trans hd⟩ (by omega))
      exact ⟨rfl, rfl, trivial⟩
  · have : k = l.length := by simp at hc; omega
    subst this
    (refine WK.exit ?_; refine WK.seq ?_; refine WK.region ?_; refine St.assign ?_; refine WO.nil ?_)
    refine St.ret (by first | exact .tmp .nil | exact .cell .nil | exact .cell (.tmp .nil) | exact .tmp (.tmp .nil) | exact .cell (.cell .nil) | exact .tmp (.cell .nil) | exact .nil | exact .tmp (.cell (.tmp .nil)) | exact .cell (.tmp (.tmp .nil)) | exact .cell (.cell (.tmp .nil)) | exact .tmp (.tmp (.tmp .nil)) | exact .cell (.cell (.cell .nil))) ?_
    rw [hchk, List.drop_eq_nil_of_le (by omega)]
    rfl
set_option maxRecDepth 100000 in
set_option maxHeartbeats 8000000 in
theorem moved_con (h : Heap) (g : Gd h) (hv mv : AV) (l : List Ho) (x : Mv) (hh : HoV h hv l) (hl : l.length ≤ 1000000) :
    Con Try.prog Bs 52 [.agg [hv, mv], .agg (mvC x)] h [] (.int .i64 (mvErr l x)) [] := by
  obtain ⟨a, b, c, d, e⟩ := x
  refine Con.start rfl Try.func52 rfl rfl Try.ntmps52 rfl rfl g ?_
  (refine WK.seq ?_; refine WK.region ?_; refine St.box fun _ _ => ?_; refine St.box fun _ _ => ?_; refine St.assign ?_; refine WO.nil ?_; refine WK.seq ?_; refine WK.region ?_; refine St.fieldAddr ?_; refine St.load ?_)
  refine St.call (fun _ => rfl) (fun h2 hh2 => rwithin_con h2 hh2.gd a 1 1099511627776) ?_
  (refine St.assign ?_; refine WO.nil ?_; refine WK.seq ?_; refine WK.region ?_; refine St.fieldAddr ?_; refine St.load ?_)
  refine St.call (fun _ => rfl) (fun h2 hh2 => rmassed_con h2 hh2.gd d e) ?_
  have e1 : mvOk ⟨a, b, c, d, e⟩ = (idB a && (msB d e && !(b == c))) := rfl
  rw [show (decide ((1 : Int) ≤ a) && decide (a ≤ 1099511627776)) = idB a from rfl]
  have bad : mvOk ⟨a, b, c, d, e⟩ = false → mvErr l ⟨a, b, c, d, e⟩ = 1 := fun e => if_pos e
  generalize idB a = A at e1 ⊢
  generalize msB d e = B at e1 ⊢
  cases A
  · (refine St.assign ?_; refine WO.nil ?_; refine WK.seq ?_; refine WK.seq ?_; refine WK.region ?_; refine St.move ?_; refine St.un ?_; refine St.move ?_; refine St.skip ?_; refine St.skip ?_; refine St.pickT ?_; refine St.move ?_; refine St.skip ?_; refine St.skip ?_; refine St.skip ?_; refine St.skip ?_; refine St.skip ?_; refine St.pickT ?_; refine WO.nil ?_; refine WK.condT ?_; refine WK.seq ?_; refine WK.region ?_; refine St.assign ?_; refine WO.nil ?_)
    refine St.ret (by first | exact .tmp .nil | exact .cell .nil | exact .cell (.tmp .nil) | exact .tmp (.tmp .nil) | exact .cell (.cell .nil) | exact .tmp (.cell .nil) | exact .nil | exact .tmp (.cell (.tmp .nil)) | exact .cell (.tmp (.tmp .nil)) | exact .cell (.cell (.tmp .nil)) | exact .tmp (.tmp (.tmp .nil)) | exact .cell (.cell (.cell .nil))) ?_
    rw [bad (by rw [e1]; rfl)]
    rfl
  cases B
  · (refine St.assign ?_; refine WO.nil ?_; refine WK.seq ?_; refine WK.seq ?_; refine WK.region ?_; refine St.move ?_; refine St.un ?_; refine St.move ?_; refine St.move ?_; refine St.un ?_; refine St.pickF ?_; refine St.move ?_; refine St.skip ?_; refine St.skip ?_; refine St.skip ?_; refine St.skip ?_; refine St.skip ?_; refine St.pickT ?_; refine WO.nil ?_; refine WK.condT ?_; refine WK.seq ?_; refine WK.region ?_; refine St.assign ?_; refine WO.nil ?_)
    refine St.ret (by first | exact .tmp .nil | exact .cell .nil | exact .cell (.tmp .nil) | exact .tmp (.tmp .nil) | exact .cell (.cell .nil) | exact .tmp (.cell .nil) | exact .nil | exact .tmp (.cell (.tmp .nil)) | exact .cell (.tmp (.tmp .nil)) | exact .cell (.cell (.tmp .nil)) | exact .tmp (.tmp (.tmp .nil)) | exact .cell (.cell (.cell .nil))) ?_
    rw [bad (by rw [e1]; rfl)]
    rfl
  (refine St.assign ?_; refine WO.nil ?_; refine WK.seq ?_; refine WK.seq ?_; refine WK.region ?_; refine St.move ?_; refine St.un ?_; refine St.move ?_; refine St.move ?_; refine St.un ?_; refine St.pickF ?_; refine St.move ?_; refine St.fieldAddr ?_; refine St.load ?_; refine St.fieldAddr ?_; refine St.load ?_; refine St.bin ?_; refine St.pickF ?_; refine WO.nil ?_)
  refine St.splitC (fun q => ?_) (fun q => ?_)
  · have q' : b = c := by simpa using q
    (refine WK.seq ?_; refine WK.region ?_; refine St.assign ?_; refine WO.nil ?_)
    refine St.ret (by first | exact .tmp .nil | exact .cell .nil | exact .cell (.tmp .nil) | exact .tmp (.tmp .nil) | exact .cell (.cell .nil) | exact .tmp (.cell .nil) | exact .nil | exact .tmp (.cell (.tmp .nil)) | exact .cell (.tmp (.tmp .nil)) | exact .cell (.cell (.tmp .nil)) | exact .tmp (.tmp (.tmp .nil)) | exact .cell (.cell (.cell .nil))) ?_
    rw [bad (by rw [e1]; simp [q'])]
    rfl
  have q' : b ≠ c := by simpa using q
  have he : mvErr l ⟨a, b, c, d, e⟩ = if b ∉ hids l ∨ c ∉ hids l then 5 else 0 := by unfold mvErr; rw [if_neg (by rw [e1]; simp [q'])]
  rw [he]
  (refine WK.skip ?_; refine WK.seq ?_; refine WK.seq ?_; refine WK.region ?_; refine St.load ?_; refine St.fieldAddr ?_; refine St.load ?_)
  refine St.call (fun _ => rfl) (fun h2 hh2 => place_con h2 hh2.gd hv mv l b (hh.vw hh2) hl) ?_
  (refine St.bin ?_; refine St.move ?_)
  refine St.split (fun q1 => ?_) (fun q1 => ?_)
  · (refine St.skip ?_; refine St.skip ?_; refine St.skip ?_; refine St.skip ?_; refine St.skip ?_; refine St.pickT ?_; refine WO.nil ?_; refine WK.condT ?_; refine WK.seq ?_; refine WK.region ?_; refine St.assign ?_; refine WO.nil ?_)
    refine St.ret (by first | exact .tmp .nil | exact .cell .nil | exact .cell (.tmp .nil) | exact .tmp (.tmp .nil) | exact .cell (.cell .nil) | exact .tmp (.cell .nil) | exact .nil | exact .tmp (.cell (.tmp .nil)) | exact .cell (.tmp (.tmp .nil)) | exact .cell (.cell (.tmp .nil)) | exact .tmp (.tmp (.tmp .nil)) | exact .cell (.cell (.cell .nil))) ?_
    rw [if_pos (.inl (fun e => by have := plI_ge.2 e; simp at q1; omega))]; rfl
  have m1 : b ∈ hids l := plI_ge.1 (by simp at q1; omega)
  (refine St.load ?_; refine St.fieldAddr ?_; refine St.load ?_)
  refine St.call (fun _ => rfl) (fun h2 hh2 => place_con h2 hh2.gd hv mv l c (hh.vw hh2) hl) ?_
  (refine St.bin ?_; refine St.pickF ?_; refine WO.nil ?_)
  refine St.splitC (fun q2 => ?_) (fun q2 => ?_)
  · (refine WK.seq ?_; refine WK.region ?_; refine St.assign ?_; refine WO.nil ?_)
    refine St.ret (by first | exact .tmp .nil | exact .cell .nil | exact .cell (.tmp .nil) | exact .tmp (.tmp .nil) | exact .cell (.cell .nil) | exact .tmp (.cell .nil) | exact .nil | exact .tmp (.cell (.tmp .nil)) | exact .cell (.tmp (.tmp .nil)) | exact .cell (.cell (.tmp .nil)) | exact .tmp (.tmp (.tmp .nil)) | exact .cell (.cell (.cell .nil))) ?_
    rw [if_pos (.inr (fun e => by have := plI_ge.2 e; simp at q2; omega))]; rfl
  have m2 : c ∈ hids l := plI_ge.1 (by simp at q2; omega)
  (refine WK.skip ?_; refine WK.seq ?_; refine WK.region ?_; refine St.assign ?_; refine WO.nil ?_)
  refine St.ret (by first | exact .tmp .nil | exact .cell .nil | exact .cell (.tmp .nil) | exact .tmp (.tmp .nil) | exact .cell (.cell .nil) | exact .tmp (.cell .nil) | exact .nil | exact .tmp (.cell (.tmp .nil)) | exact .cell (.tmp (.tmp .nil)) | exact .cell (.cell (.tmp .nil)) | exact .tmp (.tmp (.tmp .nil)) | exact .cell (.cell (.cell .nil))) ?_
  rw [if_neg (by simp [m1, m2])]; rfl
end Go.Proofs.Ytjlpoomjgidgaaa
