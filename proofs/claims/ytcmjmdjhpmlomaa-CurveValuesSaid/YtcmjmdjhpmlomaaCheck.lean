/- Curves in memory; the contracts of Check, domain, covers and of the checks over lists. -/
import Derived.Test.YtcmjmdjhpmlomaaFrac
namespace Go.Proofs.Ytcmjmdjhpmlomaa
open Go.RowKit

/-- the slice at A holds the knots -/
def KnAt (w : World) (A : Option Addr) (ks : List (Int × Int)) : Prop :=
  ks ≠ [] → ∃ b off, A = some ⟨b, off, none⟩ ∧ b < w.heap.size ∧ ∀ i (h : i < ks.length), w.cell? ⟨b, off + i * 2, none⟩ = some (.int .i64 ks[i].1) ∧ w.cell? ⟨b, off + i * 2 + 1, none⟩ = some (.int .i64 ks[i].2)

theorem KnAt.below {w w' : World} {A : Option Addr} {ks : List (Int × Int)} (h : KnAt w A ks) (hb : Below w.heap.size w w') : KnAt w' A ks := fun hne => by
  obtain ⟨b, off, rfl, hlt, hc⟩ := h hne
  exact ⟨b, off, rfl, Nat.lt_of_lt_of_le hlt hb.size, fun i hi => ⟨(hb.cell (p := ⟨b, _, none⟩) hlt).trans (hc i hi).1, (hb.cell (p := ⟨b, _, none⟩) hlt).trans (hc i hi).2⟩⟩

def okFrom : Int → List (Int × Int) → Bool
  | _, [] => true
  | x, k :: r => decide (x < k.1) && decide (k.1 ≤ 2000) && inB k.2 65536 && okFrom k.1 r

def chk (ks : List (Int × Int)) (err : Int) : Int :=
  if 40 < ks.length then 2 else if ks.length = 0 ∨ err < 0 ∨ 4000 < err then 1 else if okFrom (-1) ks then 0 else 1

/-- the number that was met before -/
def before (ks : List (Int × Int)) (k : Nat) : Int := if k = 0 then -1 else ((ks[k - 1]?).getD (0, 0)).1

theorem okFrom_step {ks : List (Int × Int)} {k : Nat} (h : k < ks.length) :
    okFrom (before ks k) (ks.drop k) = (decide (before ks k < ks[k].1) && decide (ks[k].1 ≤ 2000) && inB ks[k].2 65536 && okFrom (before ks (k + 1)) (ks.drop (k + 1))) := by
  rw [List.drop_eq_getElem_cons h, okFrom]
  simp [before, h]

theorem chk_long {ks err} (h : 40 < ks.length) : chk ks err = 2 := by unfold chk; rw [if_pos h]
theorem chk_bad {ks err} (h : ¬ 40 < ks.length) (h2 : ks.length = 0 ∨ err < 0 ∨ 4000 < err) : chk ks err = 1 := by unfold chk; rw [if_neg h, if_pos h2]
theorem chk_ok {ks err} (h : ¬ 40 < ks.length) (h2 : ¬ (ks.length = 0 ∨ err < 0 ∨ 4000 < err)) : chk ks err = if okFrom (-1) ks then 0 else 1 := by unfold chk; rw [if_neg h, if_neg h2]

set_option maxHeartbeats 400000 in
theorem check_short (w : World) (A : Option Addr) (c : Nat) (ks : List (Int × Int)) (err : Int) (hn : ks.length ≤ 1000000000000) (hbad : 40 < ks.length ∨ ks.length = 0 ∨ err < 0 ∨ 4000 < err) :
    Calls Try.prog 26 #[.agg #[.slice A ks.length c, .int .i64 err]] w fun e w' => e = .returned (.int .i64 (chk ks err)) ∧ Below w.heap.size w w' := by
  by_cases h40 : 40 < ks.length
  · have e1 := Lib.hid (chk_long (err := err) h40)
    have h40' : (40 : Int) < ks.length := by omega
    go_enter Try.func26, Try.ntmps26
    go_wp2
    go_ret
    exact ⟨ret_int e1.out.symm, by (repeat' (first | with_reducible exact Below.refl _ _ | with_reducible assumption | (with_reducible refine Below.setCell ?_ (by first | omega | (simp; done) | (simp; omega)) _) | (with_reducible refine Below.alloc ?_ (by first | omega | (simp; done) | (simp; omega)) _) | (with_reducible refine Below.drew ?_) | (with_reducible refine Below.trans ?_ (Below.mono (by with_reducible assumption) (by first | omega | (simp; done) | (simp; omega))))))⟩
  · have e1 := Lib.hid (chk_bad h40 (hbad.resolve_left h40))
    have hbad' := hbad.resolve_left h40
    have h40' : ¬ (40 : Int) < ks.length := by omega
    by_cases h0 : ks.length = 0
    · have h0' : ((ks.length : Int) == 0) = true := by simp [h0]
      have h00 : ((ks.length) == 0) = true := by simp [h0]
      clear hbad h40 hbad'
      have H0 := Lib.hid h0
      clear h0
      go_enter Try.func26, Try.ntmps26
      go_wp2
      go_ret
      exact ⟨ret_int e1.out.symm, by (repeat' (first | with_reducible exact Below.refl _ _ | with_reducible assumption | (with_reducible refine Below.setCell ?_ (by first | omega | (simp; done) | (simp; omega)) _) | (with_reducible refine Below.alloc ?_ (by first | omega | (simp; done) | (simp; omega)) _) | (with_reducible refine Below.drew ?_) | (with_reducible refine Below.trans ?_ (Below.mono (by with_reducible assumption) (by first | omega | (simp; done) | (simp; omega))))))⟩
    · have h0' : ((ks.length : Int) == 0) = false := by rw [beq_eq_false_iff_ne]; omega
      by_cases h1 : err < 0
      · clear hbad h40 hbad'
        go_enter Try.func26, Try.ntmps26
        go_wp2
        go_ret
        exact ⟨ret_int e1.out.symm, by (repeat' (first | with_reducible exact Below.refl _ _ | with_reducible assumption | (with_reducible refine Below.setCell ?_ (by first | omega | (simp; done) | (simp; omega)) _) | (with_reducible refine Below.alloc ?_ (by first | omega | (simp; done) | (simp; omega)) _) | (with_reducible refine Below.drew ?_) | (with_reducible refine Below.trans ?_ (Below.mono (by with_reducible assumption) (by first | omega | (simp; done) | (simp; omega))))))⟩
      · have h2 : 4000 < err := (hbad'.resolve_left h0).resolve_left (by omega)
        clear hbad h40 hbad'
        go_enter Try.func26, Try.ntmps26
        go_wp2
        go_ret
        exact ⟨ret_int e1.out.symm, by (repeat' (first | with_reducible exact Below.refl _ _ | with_reducible assumption | (with_reducible refine Below.setCell ?_ (by first | omega | (simp; done) | (simp; omega)) _) | (with_reducible refine Below.alloc ?_ (by first | omega | (simp; done) | (simp; omega)) _) | (with_reducible refine Below.drew ?_) | (with_reducible refine Below.trans ?_ (Below.mono (by with_reducible assumption) (by first | omega | (simp; done) | (simp; omega))))))⟩

set_option maxHeartbeats 1000000 in
theorem check_any (w : World) (A : Option Addr) (c : Nat) (ks : List (Int × Int)) (err : Int) (hn : ks.length ≤ 1000000000000) (hk : KnAt w A ks) :
    Calls Try.prog 26 #[.agg #[.slice A ks.length c, .int .i64 err]] w fun e w' => e = .returned (.int .i64 (chk ks err)) ∧ Below w.heap.size w w' := by
  by_cases hbad : 40 < ks.length ∨ ks.length = 0 ∨ err < 0 ∨ 4000 < err
  · exact check_short w A c ks err hn hbad
  have h40 : ¬ (40 : Int) < ks.length := by omega
  have h0' : ((ks.length : Int) == 0) = false := by simp; intro h; simp [h] at hbad
  have h1 : ¬ err < 0 := by omega
  have h2 : ¬ 4000 < err := by omega
  have e1 := Lib.hid (chk_ok (show ¬ 40 < ks.length by omega) (show ¬ (ks.length = 0 ∨ err < 0 ∨ 4000 < err) by omega))
  obtain ⟨b, off, rfl, hb, hcell⟩ := hk (by intro h; simp [h] at hbad)
  have hlen : ks.length ≤ 40 := by omega
  clear hbad hk
  go_enter Try.func26, Try.ntmps26
  go_wp2
  go_loopw [3, 5, 27] (fun x _ i wr => ∃ k : Nat, k ≤ ks.length ∧ i = .int .i64 k ∧ x = .int .i64 (before ks k) ∧ Hid (okFrom (-1) ks = okFrom (before ks k) (ks.drop k)) ∧ Below (w.heap.size + 1) (w.alloc (.cells #[.slice (some ⟨b, off, none⟩) ks.length c, .int .i64 err] 33)) wr) (fun _ _ i _ => ks.length - (intOf i).toNat)
  case atStart => exact ⟨0, by omega, rfl, rfl, rfl, Below.refl _ _⟩
  case round =>
    obtain ⟨k, hkl, rfl, rfl, hok, hbw⟩ := hrel
    have hbl : ∀ o, wr.cell? ⟨b, o, none⟩ = w.cell? ⟨b, o, none⟩ := fun o => (hbw.cell (p := ⟨b, o, none⟩) (by simp; omega)).trans (World.cell?_alloc_lt w _ _ hb)
    have hz := hbw.size
    simp at hz
    by_cases hlt : k < ks.length
    · obtain ⟨x, hx⟩ : ∃ x, x = ks[k].1 := ⟨_, rfl⟩
      obtain ⟨y, hy⟩ : ∃ y, y = ks[k].2 := ⟨_, rfl⟩
      have hcx : wr.cell? ⟨b, off + k * 2, none⟩ = some (.int .i64 x) := by rw [hbl, hx]; exact (hcell k hlt).1
      have hcy : wr.cell? ⟨b, off + k * 2 + 1, none⟩ = some (.int .i64 y) := by rw [hbl, hy]; exact (hcell k hlt).2
      have hs := Lib.hid (okFrom_step hlt)
      have hbf := Lib.hid (show x = before ks (k + 1) by simp [before, hx, hlt])
      rw [← hx, ← hy] at hs
      clear hx hy hbl hcell
      have hlt' : (k : Int) < ks.length := by omega
      by_cases h3 : x ≤ before ks k
      · have e2 : Hid (chk ks err = 1) := by
          show _ = _
          rw [e1.out, hok.out, hs.out]; simp; omega
        go_wp2
        go_ret
        exact ⟨ret_int e2.out.symm, by (repeat' (first | with_reducible exact Below.refl _ _ | with_reducible assumption | (with_reducible refine Below.setCell ?_ (by first | omega | (simp; done) | (simp; omega)) _) | (with_reducible refine Below.alloc ?_ (by first | omega | (simp; done) | (simp; omega)) _) | (with_reducible refine Below.drew ?_) | (with_reducible refine Below.trans ?_ (Below.mono (by with_reducible assumption) (by first | omega | (simp; done) | (simp; omega))))))⟩
      by_cases h4 : 2000 < x
      · have e2 : Hid (chk ks err = 1) := by
          show _ = _
          rw [e1.out, hok.out, hs.out]; simp; omega
        go_wp2
        go_ret
        exact ⟨ret_int e2.out.symm, by (repeat' (first | with_reducible exact Below.refl _ _ | with_reducible assumption | (with_reducible refine Below.setCell ?_ (by first | omega | (simp; done) | (simp; omega)) _) | (with_reducible refine Below.alloc ?_ (by first | omega | (simp; done) | (simp; omega)) _) | (with_reducible refine Below.drew ?_) | (with_reducible refine Below.trans ?_ (Below.mono (by with_reducible assumption) (by first | omega | (simp; done) | (simp; omega))))))⟩
      cases h5 : inB y 65536
      · have e2 : Hid (chk ks err = 1) := by
          show _ = _
          rw [e1.out, hok.out, hs.out]; simp [h5]
        go_wp2_with (go_at_call 57; ((with_reducible refine (within_any _ _ (by omega) (by omega) _).mono ?_); rintro e w1 ⟨rfl, rfl⟩))
        go_ret
        exact ⟨ret_int e2.out.symm, by (repeat' (first | with_reducible exact Below.refl _ _ | with_reducible assumption | (with_reducible refine Below.setCell ?_ (by first | omega | (simp; done) | (simp; omega)) _) | (with_reducible refine Below.alloc ?_ (by first | omega | (simp; done) | (simp; omega)) _) | (with_reducible refine Below.drew ?_) | (with_reducible refine Below.trans ?_ (Below.mono (by with_reducible assumption) (by first | omega | (simp; done) | (simp; omega))))))⟩
      · have e2 : Hid (okFrom (-1) ks = okFrom (before ks (k + 1)) (ks.drop (k + 1))) := by
          show _ = _
          rw [hok.out, hs.out]; simp [h5]; omega
        go_wp2_with (go_at_call 57; ((with_reducible refine (within_any _ _ (by omega) (by omega) _).mono ?_); rintro e w1 ⟨rfl, rfl⟩))
        exact ⟨⟨k + 1, by omega, by simp, by rw [hbf.out], e2, by (repeat' (first | with_reducible exact Below.refl _ _ | with_reducible assumption | (with_reducible refine Below.setCell ?_ (by first | omega | (simp; done) | (simp; omega)) _) | (with_reducible refine Below.alloc ?_ (by first | omega | (simp; done) | (simp; omega)) _) | (with_reducible refine Below.drew ?_) | (with_reducible refine Below.trans ?_ (Below.mono (by with_reducible assumption) (by first | omega | (simp; done) | (simp; omega))))))⟩, by simp [intOf]; omega⟩
    · obtain rfl : k = ks.length := by omega
      have e2 : Hid (chk ks err = 0) := by
        show _ = _
        rw [e1.out, hok.out]; simp [okFrom]
      clear hcell
      go_wp2
      go_ret
      exact ⟨ret_int e2.out.symm, by (repeat' (first | with_reducible exact Below.refl _ _ | with_reducible assumption | (with_reducible refine Below.setCell ?_ (by first | omega | (simp; done) | (simp; omega)) _) | (with_reducible refine Below.alloc ?_ (by first | omega | (simp; done) | (simp; omega)) _) | (with_reducible refine Below.drew ?_) | (with_reducible refine Below.trans ?_ (Below.mono (by with_reducible assumption) (by first | omega | (simp; done) | (simp; omega))))))⟩

/-! valid curves -/
structure Vd (ks : List (Int × Int)) (err : Int) : Prop where
  ne : ks ≠ []
  le : ks.length ≤ 40
  e0 : 0 ≤ err
  e1 : err ≤ 4000
  ok : okFrom (-1) ks = true

theorem vd_of_chk {ks err} (h : chk ks err = 0) : Vd ks err := by
  unfold chk at h
  split at h
  · cases h
  split at h
  · cases h
  split at h
  · rename_i h1 h2 h3
    exact ⟨by rintro rfl; simp at h2, by omega, by omega, by omega, h3⟩
  · cases h
theorem Vd.chk {ks err} (h : Vd ks err) : chk ks err = 0 := by
  have h1 := h.le
  have h2 := h.e0
  have h3 := h.e1
  have h4 : ks.length ≠ 0 := by simpa using h.ne
  unfold Go.Proofs.Ytcmjmdjhpmlomaa.chk
  rw [if_neg (by omega), if_neg (by omega), if_pos h.ok]

theorem okFrom_bd {x : Int} {ks : List (Int × Int)} (h : okFrom x ks = true) : ∀ i (hi : i < ks.length), x < ks[i].1 ∧ ks[i].1 ≤ 2000 ∧ -65536 ≤ ks[i].2 ∧ ks[i].2 ≤ 65536 ∧ ∀ j (hj : j < i), ks[j].1 < ks[i].1 := by
  induction ks generalizing x with
  | nil => intro i hi; simp at hi
  | cons k r ih =>
    simp only [okFrom, Bool.and_eq_true, decide_eq_true_eq, inB] at h
    obtain ⟨⟨⟨h1, h2⟩, h3, h4⟩, h5⟩ := h
    intro i hi
    cases i with
    | zero => exact ⟨h1, h2, h3, h4, fun j hj => by omega⟩
    | succ i =>
      have := ih h5 i (by simpa using hi)
      obtain ⟨a, b, c, d, e⟩ := this
      refine ⟨by simp; omega, by simpa using b, by simpa using c, by simpa using d, fun j hj => ?_⟩
      cases j with
      | zero => simpa using a
      | succ j => simpa using e j (by omega)

theorem Vd.x0 {ks err} (h : Vd ks err) (i : Nat) (hi : i < ks.length) : 0 ≤ ks[i].1 := by have := (okFrom_bd h.ok i hi).1; omega
theorem Vd.x1 {ks err} (h : Vd ks err) (i : Nat) (hi : i < ks.length) : ks[i].1 ≤ 2000 := (okFrom_bd h.ok i hi).2.1
theorem Vd.y0 {ks err} (h : Vd ks err) (i : Nat) (hi : i < ks.length) : -65536 ≤ ks[i].2 := (okFrom_bd h.ok i hi).2.2.1
theorem Vd.y1 {ks err} (h : Vd ks err) (i : Nat) (hi : i < ks.length) : ks[i].2 ≤ 65536 := (okFrom_bd h.ok i hi).2.2.2.1
theorem Vd.lt {ks err} (h : Vd ks err) {j i : Nat} (hj : j < i) (hi : i < ks.length) : ks[j].1 < ks[i].1 := (okFrom_bd h.ok i hi).2.2.2.2 j hj
theorem Vd.pos {ks err} (h : Vd ks err) : 0 < ks.length := by have := h.ne; cases ks <;> simp_all

/-- the first and the last X -/
def dLo (ks : List (Int × Int)) : Int := (ks[0]?.getD (0, 0)).1
def dHi (ks : List (Int × Int)) : Int := (ks[ks.length - 1]?.getD (0, 0)).1

set_option maxHeartbeats 400000 in
theorem domain_any (w : World) (A : Option Addr) (c : Nat) (ks : List (Int × Int)) (err : Int) (hne : ks ≠ []) (hn : ks.length ≤ 1000000000000) (hk : KnAt w A ks) :
    Calls Try.prog 64 #[.agg #[.slice A ks.length c, .int .i64 err]] w fun e w' => e = .returned (.agg #[.int .i64 (dLo ks), .int .i64 (dHi ks)]) ∧ Below w.heap.size w w' := by
  obtain ⟨b, off, rfl, hb, hcell⟩ := hk hne
  have hpos : 0 < ks.length := by cases ks <;> simp_all
  have g0 : w.cell? ⟨b, off, none⟩ = some (.int .i64 (dLo ks)) := by have := (hcell 0 hpos).1; simpa [dLo, hpos] using this
  have g1 : w.cell? ⟨b, off + (ks.length - 1) * 2, none⟩ = some (.int .i64 (dHi ks)) := by
    have h' : ks.length - 1 < ks.length := by omega
    have := (hcell (ks.length - 1) h').1
    simpa [dHi, h'] using this
  clear hcell hk hne
  have h3 : (0:Int) < ks.length := by omega
  have h4 : (0:Int) ≤ (ks.length:Int) - 1 := by omega
  have h5 : (ks.length:Int) - 1 < ks.length := by omega
  have h6 : ((ks.length:Int) - 1).toNat = ks.length - 1 := by omega
  go_enter Try.func64, Try.ntmps64
  go_wp2
  go_region
  go_wp2
  refine bodyPost_ret (v := .agg #[.int .i64 (dLo ks), .int .i64 (dHi ks)]) (by simp [results, Try.results64, go_sem]) rfl ⟨rfl, ?_⟩
  (repeat' (first | with_reducible exact Below.refl _ _ | with_reducible assumption | (with_reducible refine Below.setCell ?_ (by first | omega | (simp; done) | (simp; omega)) _) | (with_reducible refine Below.alloc ?_ (by first | omega | (simp; done) | (simp; omega)) _) | (with_reducible refine Below.drew ?_) | (with_reducible refine Below.trans ?_ (Below.mono (by with_reducible assumption) (by first | omega | (simp; done) | (simp; omega))))))

set_option maxHeartbeats 400000 in
theorem covers_any (w : World) (A : Option Addr) (c : Nat) (ks : List (Int × Int)) (err lo hi : Int) (hne : ks ≠ []) (hn : ks.length ≤ 1000000000000) (hk : KnAt w A ks) :
    Calls Try.prog 112 #[.agg #[.slice A ks.length c, .int .i64 err], .agg #[.int .i64 lo, .int .i64 hi]] w fun e w' => e = .returned (.bool (decide (dLo ks ≤ lo) && decide (hi ≤ dHi ks))) ∧ Below w.heap.size w w' := by
  have hk2 : KnAt ((w.alloc (.cells #[.slice A ks.length c, .int .i64 err] 33)).alloc (.cells #[.int .i64 lo, .int .i64 hi] 36)) A ks := hk.below (by (repeat' (first | with_reducible exact Below.refl _ _ | with_reducible assumption | (with_reducible refine Below.setCell ?_ (by first | omega | (simp; done) | (simp; omega)) _) | (with_reducible refine Below.alloc ?_ (by first | omega | (simp; done) | (simp; omega)) _) | (with_reducible refine Below.drew ?_) | (with_reducible refine Below.trans ?_ (Below.mono (by with_reducible assumption) (by first | omega | (simp; done) | (simp; omega)))))))
  go_enter Try.func112, Try.ntmps112
  go_wp2_with (go_at_call 64; ((with_reducible refine (domain_any _ _ _ _ _ hne hn hk2).mono ?_); rintro e w1 ⟨rfl, hb⟩; obtain ⟨hc, hf⟩ := bcell hb; have hz := hb.size; (try simp at hz); (try have hzw0 : w.heap.size < w1.heap.size := by omega); (try have hzw1 : w.heap.size + 1 < w1.heap.size := by omega); (try have hzw2 : w.heap.size + 1 + 1 < w1.heap.size := by omega); (try have hzw3 : w.heap.size + 1 + 1 + 1 < w1.heap.size := by omega); (try have hzwr0 : wr.heap.size < w1.heap.size := by omega); (try have hzwr1 : wr.heap.size + 1 < w1.heap.size := by omega); (try have hzwr2 : wr.heap.size + 1 + 1 < w1.heap.size := by omega); (try have hzwr3 : wr.heap.size + 1 + 1 + 1 < w1.heap.size := by omega); (try have hzw20 : w2.heap.size < w1.heap.size := by omega); (try have hzw21 : w2.heap.size + 1 < w1.heap.size := by omega); (try have hzw30 : w3.heap.size < w1.heap.size := by omega); (try have hzw31 : w3.heap.size + 1 < w1.heap.size := by omega); (try have hzb : b < w1.heap.size := by omega); (try have hzb2 : b2 < w1.heap.size := by omega); (try have hzb3 : b3 < w1.heap.size := by omega); (try have hzb4 : b4 < w1.heap.size := by omega); (try have hzBs : Bs < w1.heap.size := by omega); (try have hcwb := fun o => (show Below w.heap.size w w1 by ((repeat' (first | with_reducible exact Below.refl _ _ | with_reducible assumption | (with_reducible refine Below.setCell ?_ (by first | omega | (simp; done) | (simp; omega)) _) | (with_reducible refine Below.alloc ?_ (by first | omega | (simp; done) | (simp; omega)) _) | (with_reducible refine Below.drew ?_) | (with_reducible refine Below.trans ?_ (Below.mono (by with_reducible assumption) (by first | omega | (simp; done) | (simp; omega)))))); first | done | fail)).cell (p := ⟨b, o, none⟩) (show b < w.heap.size by with_reducible assumption)); (try have hcwb2 := fun o => (show Below w.heap.size w w1 by ((repeat' (first | with_reducible exact Below.refl _ _ | with_reducible assumption | (with_reducible refine Below.setCell ?_ (by first | omega | (simp; done) | (simp; omega)) _) | (with_reducible refine Below.alloc ?_ (by first | omega | (simp; done) | (simp; omega)) _) | (with_reducible refine Below.drew ?_) | (with_reducible refine Below.trans ?_ (Below.mono (by with_reducible assumption) (by first | omega | (simp; done) | (simp; omega)))))); first | done | fail)).cell (p := ⟨b2, o, none⟩) (show b2 < w.heap.size by with_reducible assumption)); (try have hcwb3 := fun o => (show Below w.heap.size w w1 by ((repeat' (first | with_reducible exact Below.refl _ _ | with_reducible assumption | (with_reducible refine Below.setCell ?_ (by first | omega | (simp; done) | (simp; omega)) _) | (with_reducible refine Below.alloc ?_ (by first | omega | (simp; done) | (simp; omega)) _) | (with_reducible refine Below.drew ?_) | (with_reducible refine Below.trans ?_ (Below.mono (by with_reducible assumption) (by first | omega | (simp; done) | (simp; omega)))))); first | done | fail)).cell (p := ⟨b3, o, none⟩) (show b3 < w.heap.size by with_reducible assumption)); (try have hcwrb := fun o => (show Below wr.heap.size wr w1 by ((repeat' (first | with_reducible exact Below.refl _ _ | with_reducible assumption | (with_reducible refine Below.setCell ?_ (by first | omega | (simp; done) | (simp; omega)) _) | (with_reducible refine Below.alloc ?_ (by first | omega | (simp; done) | (simp; omega)) _) | (with_reducible refine Below.drew ?_) | (with_reducible refine Below.trans ?_ (Below.mono (by with_reducible assumption) (by first | omega | (simp; done) | (simp; omega)))))); first | done | fail)).cell (p := ⟨b, o, none⟩) (show b < wr.heap.size by with_reducible assumption)); (try have hcwrb2 := fun o => (show Below wr.heap.size wr w1 by ((repeat' (first | with_reducible exact Below.refl _ _ | with_reducible assumption | (with_reducible refine Below.setCell ?_ (by first | omega | (simp; done) | (simp; omega)) _) | (with_reducible refine Below.alloc ?_ (by first | omega | (simp; done) | (simp; omega)) _) | (with_reducible refine Below.drew ?_) | (with_reducible refine Below.trans ?_ (Below.mono (by with_reducible assumption) (by first | omega | (simp; done) | (simp; omega)))))); first | done | fail)).cell (p := ⟨b2, o, none⟩) (show b2 < wr.heap.size by with_reducible assumption)); (try have hcwrb3 := fun o => (show Below wr.heap.size wr w1 by ((repeat' (first | with_reducible exact Below.refl _ _ | with_reducible assumption | (with_reducible refine Below.setCell ?_ (by first | omega | (simp; done) | (simp; omega)) _) | (with_reducible refine Below.alloc ?_ (by first | omega | (simp; done) | (simp; omega)) _) | (with_reducible refine Below.drew ?_) | (with_reducible refine Below.trans ?_ (Below.mono (by with_reducible assumption) (by first | omega | (simp; done) | (simp; omega)))))); first | done | fail)).cell (p := ⟨b3, o, none⟩) (show b3 < wr.heap.size by with_reducible assumption))))
  all_goals go_ret
  all_goals exact ⟨ret_bool (by (first | (simp [*]; done) | (simp [*]; omega) | (simp; omega))), by (repeat' (first | with_reducible exact Below.refl _ _ | with_reducible assumption | (with_reducible refine Below.setCell ?_ (by first | omega | (simp; done) | (simp; omega)) _) | (with_reducible refine Below.alloc ?_ (by first | omega | (simp; done) | (simp; omega)) _) | (with_reducible refine Below.drew ?_) | (with_reducible refine Below.trans ?_ (Below.mono (by with_reducible assumption) (by first | omega | (simp; done) | (simp; omega))))))⟩

end Go.Proofs.Ytcmjmdjhpmlomaa
