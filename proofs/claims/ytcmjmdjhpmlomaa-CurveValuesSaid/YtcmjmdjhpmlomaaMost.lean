/- The contracts of foremost, at fractions and at ends. -/
import Derived.Test.YtcmjmdjhpmlomaaVal
namespace Go.Proofs.Ytcmjmdjhpmlomaa
open Go.RowKit

/-- the index of the first one of the first k that no other one goes before -/
def bestIx {α : Type} (lt : α → α → Bool) (d : α) (l : List α) : Nat → Nat
  | 0 => 0
  | k + 1 => if lt (l[k]?.getD d) (l[bestIx lt d l k]?.getD d) then k else bestIx lt d l k
theorem bestIx_lt {α : Type} (lt : α → α → Bool) (d : α) (l : List α) : ∀ {k : Nat}, k ≤ l.length → 0 < l.length → bestIx lt d l k < l.length
  | 0, _, h => h
  | k + 1, h, h0 => by
    unfold bestIx
    split
    · omega
    · exact bestIx_lt lt d l (by omega) h0

set_option maxHeartbeats 1000000 in
theorem foremostF_any (w : World) (b off cap : Nat) (fs : List (Int × Int)) (hne : 0 < fs.length) (hlen : fs.length ≤ 1000000) (hb : b < w.heap.size) (hc : ∀ i (h : i < fs.length), w.cell? ⟨b, off + i * 2, none⟩ = some (.int .i64 fs[i].1) ∧ w.cell? ⟨b, off + i * 2 + 1, none⟩ = some (.int .i64 fs[i].2))
    (hs : ∀ i (h : i < fs.length), Small fs[i].1 fs[i].2) (g : Nat) (lt : Int × Int → Int × Int → Bool) (eg : ∀ args w, (callFunc g args).run Try.prog w = .ok (.enter g args) w)
    (hg : ∀ (W : World) (x y : Int × Int), Small x.1 x.2 → Small y.1 y.2 → Calls Try.prog g #[.agg #[.int .i64 x.1, .int .i64 x.2], .agg #[.int .i64 y.1, .int .i64 y.2]] W fun e W' => e = .returned (.bool (lt x y)) ∧ Below W.heap.size W W') :
    Calls Try.prog 82 #[.slice (some ⟨b, off, none⟩) fs.length cap, .func (.func g) #[] #[]] w fun e w' => e = .returned (.int .i64 (bestIx lt (0, 0) fs fs.length)) ∧ Below w.heap.size w w' := by
  go_enter Try.func82, Try.ntmps82
  go_wp2
  go_loopw [5, 6, 9] (fun p _ i wr => ∃ k : Nat, k ≤ fs.length ∧ i = .int .i64 k ∧ p = .int .i64 (bestIx lt (0, 0) fs k) ∧ Below w.heap.size w wr) (fun _ _ i _ => fs.length - (intOf i).toNat)
  case atStart => exact ⟨0, by omega, rfl, rfl, Below.refl _ _⟩
  case round =>
    obtain ⟨k, hkl, rfl, rfl, hbw⟩ := hrel
    have hz := hbw.size
    by_cases hlt : k < fs.length
    · have hbi := bestIx_lt lt (0, 0) fs hkl hne
      have hstep : bestIx lt (0, 0) fs (k + 1) = if lt fs[k] (fs[bestIx lt (0, 0) fs k]) then k else bestIx lt (0, 0) fs k := by
        rw [bestIx]; simp [hlt, hbi]
      generalize hj : bestIx lt (0, 0) fs k = j at *
      have hx1 := (hbw.cell (p := ⟨b, _, none⟩) hb).trans (hc k hlt).1
      have hx2 := (hbw.cell (p := ⟨b, _, none⟩) hb).trans (hc k hlt).2
      have hy1 := (hbw.cell (p := ⟨b, _, none⟩) hb).trans (hc j hbi).1
      have hy2 := (hbw.cell (p := ⟨b, _, none⟩) hb).trans (hc j hbi).2
      have hsx := hs k hlt
      have hsy := hs j hbi
      have Hstep := Lib.hid hstep
      generalize fs[k] = x at *
      generalize fs[j] = y at *
      have hlt' : (k : Int) < fs.length := by omega
      have hji : (j : Int) < fs.length := by omega
      have hb2 : b < wr.heap.size := by omega
      clear hstep hj hc hs
      go_wp2
      (refine wp_region_below 9 (by kernel_rfl) (by kernel_rfl) ?_; simp only [List.take_succ_cons, List.take_zero, List.drop_succ_cons, List.drop_zero]; (repeat (first | (apply quiet_op; (focus (go_simp; done)); (focus (intro w2 hC; obtain ⟨hc, hf⟩ := bcell hC; clear hC; go_simp; (try go_bits); first | with_reducible rfl | with_reducible exact ⟨rfl, rfl⟩)); intro K hK; go_simp; (try go_bits); refine hK _ ?_; clear hK K) | (apply quiet_skip; (focus (go_simp; done)); intro K hK; go_simp; (try go_bits); refine hK _ ?_; clear hK K))); refine wpQuiet_nil ?_; intro w1 hb; obtain ⟨hc, hf⟩ := bcell hb; have hz := hb.size; (try simp at hz); (try have hzw0 : w.heap.size < w1.heap.size := by omega); (try have hzw1 : w.heap.size + 1 < w1.heap.size := by omega); (try have hzw2 : w.heap.size + 1 + 1 < w1.heap.size := by omega); (try have hzw3 : w.heap.size + 1 + 1 + 1 < w1.heap.size := by omega); (try have hzwr0 : wr.heap.size < w1.heap.size := by omega); (try have hzwr1 : wr.heap.size + 1 < w1.heap.size := by omega); (try have hzwr2 : wr.heap.size + 1 + 1 < w1.heap.size := by omega); (try have hzwr3 : wr.heap.size + 1 + 1 + 1 < w1.heap.size := by omega); (try have hzw20 : w2.heap.size < w1.heap.size := by omega); (try have hzw21 : w2.heap.size + 1 < w1.heap.size := by omega); (try have hzw30 : w3.heap.size < w1.heap.size := by omega); (try have hzw31 : w3.heap.size + 1 < w1.heap.size := by omega); (try have hzb : b < w1.heap.size := by omega); (try have hzb2 : b2 < w1.heap.size := by omega); (try have hzb3 : b3 < w1.heap.size := by omega); (try have hzb4 : b4 < w1.heap.size := by omega); (try have hzBs : Bs < w1.heap.size := by omega); (try have hcwb := fun o => (show Below w.heap.size w w1 by ((repeat' (first | with_reducible exact Below.refl _ _ | with_reducible assumption | (with_reducible refine Below.setCell ?_ (by first | omega | (simp; done) | (simp; omega)) _) | (with_reducible refine Below.alloc ?_ (by first | omega | (simp; done) | (simp; omega)) _) | (with_reducible refine Below.drew ?_) | (with_reducible refine Below.trans ?_ (Below.mono (by with_reducible assumption) (by first | omega | (simp; done) | (simp; omega)))))); first | done | fail)).cell (p := ⟨b, o, none⟩) (show b < w.heap.size by with_reducible assumption)); (try have hcwb2 := fun o => (show Below w.heap.size w w1 by ((repeat' (first | with_reducible exact Below.refl _ _ | with_reducible assumption | (with_reducible refine Below.setCell ?_ (by first | omega | (simp; done) | (simp; omega)) _) | (with_reducible refine Below.alloc ?_ (by first | omega | (simp; done) | (simp; omega)) _) | (with_reducible refine Below.drew ?_) | (with_reducible refine Below.trans ?_ (Below.mono (by with_reducible assumption) (by first | omega | (simp; done) | (simp; omega)))))); first | done | fail)).cell (p := ⟨b2, o, none⟩) (show b2 < w.heap.size by with_reducible assumption)); (try have hcwb3 := fun o => (show Below w.heap.size w w1 by ((repeat' (first | with_reducible exact Below.refl _ _ | with_reducible assumption | (with_reducible refine Below.setCell ?_ (by first | omega | (simp; done) | (simp; omega)) _) | (with_reducible refine Below.alloc ?_ (by first | omega | (simp; done) | (simp; omega)) _) | (with_reducible refine Below.drew ?_) | (with_reducible refine Below.trans ?_ (Below.mono (by with_reducible assumption) (by first | omega | (simp; done) | (simp; omega)))))); first | done | fail)).cell (p := ⟨b3, o, none⟩) (show b3 < w.heap.size by with_reducible assumption)); (try have hcwrb := fun o => (show Below wr.heap.size wr w1 by ((repeat' (first | with_reducible exact Below.refl _ _ | with_reducible assumption | (with_reducible refine Below.setCell ?_ (by first | omega | (simp; done) | (simp; omega)) _) | (with_reducible refine Below.alloc ?_ (by first | omega | (simp; done) | (simp; omega)) _) | (with_reducible refine Below.drew ?_) | (with_reducible refine Below.trans ?_ (Below.mono (by with_reducible assumption) (by first | omega | (simp; done) | (simp; omega)))))); first | done | fail)).cell (p := ⟨b, o, none⟩) (show b < wr.heap.size by with_reducible assumption)); (try have hcwrb2 := fun o => (show Below wr.heap.size wr w1 by ((repeat' (first | with_reducible exact Below.refl _ _ | with_reducible assumption | (with_reducible refine Below.setCell ?_ (by first | omega | (simp; done) | (simp; omega)) _) | (with_reducible refine Below.alloc ?_ (by first | omega | (simp; done) | (simp; omega)) _) | (with_reducible refine Below.drew ?_) | (with_reducible refine Below.trans ?_ (Below.mono (by with_reducible assumption) (by first | omega | (simp; done) | (simp; omega)))))); first | done | fail)).cell (p := ⟨b2, o, none⟩) (show b2 < wr.heap.size by with_reducible assumption)); (try have hcwrb3 := fun o => (show Below wr.heap.size wr w1 by ((repeat' (first | with_reducible exact Below.refl _ _ | with_reducible assumption | (with_reducible refine Below.setCell ?_ (by first | omega | (simp; done) | (simp; omega)) _) | (with_reducible refine Below.alloc ?_ (by first | omega | (simp; done) | (simp; omega)) _) | (with_reducible refine Below.drew ?_) | (with_reducible refine Below.trans ?_ (Below.mono (by with_reducible assumption) (by first | omega | (simp; done) | (simp; omega)))))); first | done | fail)).cell (p := ⟨b3, o, none⟩) (show b3 < wr.heap.size by with_reducible assumption)))
      have hgx := hg w1 x y hsx hsy
      have HB := Lib.hid (hbw.trans (hb.mono (by omega)))
      have hz2 : w.heap.size ≤ w1.heap.size := by omega
      clear hc hf hcwb hcwrb hb hg hbw
      cases hq : lt x y
      · rw [hq] at Hstep hgx
        go_wp2_with ((with_reducible refine hgx.mono ?_); rintro e w2 ⟨rfl, hb4⟩)
        refine ⟨⟨k + 1, by omega, by simp, ?_, HB.out.trans (hb4.mono hz2)⟩, by simp [intOf]; omega⟩
        rw [Hstep.out]; rfl
      · rw [hq] at Hstep hgx
        go_wp2_with ((with_reducible refine hgx.mono ?_); rintro e w2 ⟨rfl, hb4⟩)
        refine ⟨⟨k + 1, by omega, by simp, ?_, HB.out.trans (hb4.mono hz2)⟩, by simp [intOf]; omega⟩
        rw [Hstep.out]; rfl
    · obtain rfl : k = fs.length := by omega
      clear hc hs hg
      go_wp2
      go_ret
      exact ⟨rfl, hbw⟩

/-- both ends of a range -/
structure En where
  a : Int
  b : Int
  c : Int
  d : Int
def En.Ok (x : En) : Prop := Small x.a x.b ∧ Small x.c x.d

set_option maxHeartbeats 1000000 in
theorem foremostE_any (w : World) (b off cap : Nat) (fs : List En) (hne : 0 < fs.length) (hlen : fs.length ≤ 1000000) (hb : b < w.heap.size) (hc : ∀ i (h : i < fs.length), w.cell? ⟨b, off + i * 4, none⟩ = some (.int .i64 fs[i].a) ∧ w.cell? ⟨b, off + i * 4 + 1, none⟩ = some (.int .i64 fs[i].b) ∧ w.cell? ⟨b, off + i * 4 + 2, none⟩ = some (.int .i64 fs[i].c) ∧ w.cell? ⟨b, off + i * 4 + 3, none⟩ = some (.int .i64 fs[i].d))
    (hs : ∀ i (h : i < fs.length), fs[i].Ok) (g : Nat) (lt : En → En → Bool) (eg : ∀ args w, (callFunc g args).run Try.prog w = .ok (.enter g args) w)
    (hg : ∀ (W : World) (x y : En), x.Ok → y.Ok → Calls Try.prog g #[.agg #[.int .i64 x.a, .int .i64 x.b, .int .i64 x.c, .int .i64 x.d], .agg #[.int .i64 y.a, .int .i64 y.b, .int .i64 y.c, .int .i64 y.d]] W fun e W' => e = .returned (.bool (lt x y)) ∧ Below W.heap.size W W') :
    Calls Try.prog 92 #[.slice (some ⟨b, off, none⟩) fs.length cap, .func (.func g) #[] #[]] w fun e w' => e = .returned (.int .i64 (bestIx lt (⟨0, 0, 0, 0⟩ : En) fs fs.length)) ∧ Below w.heap.size w w' := by
  go_enter Try.func92, Try.ntmps92
  go_wp2
  go_loopw [5, 6, 9] (fun p _ i wr => ∃ k : Nat, k ≤ fs.length ∧ i = .int .i64 k ∧ p = .int .i64 (bestIx lt (⟨0, 0, 0, 0⟩ : En) fs k) ∧ Below w.heap.size w wr) (fun _ _ i _ => fs.length - (intOf i).toNat)
  case atStart => exact ⟨0, by omega, rfl, rfl, Below.refl _ _⟩
  case round =>
    obtain ⟨k, hkl, rfl, rfl, hbw⟩ := hrel
    have hz := hbw.size
    by_cases hlt : k < fs.length
    · have hbi := bestIx_lt lt (⟨0, 0, 0, 0⟩ : En) fs hkl hne
      have hstep : bestIx lt (⟨0, 0, 0, 0⟩ : En) fs (k + 1) = if lt fs[k] (fs[bestIx lt (⟨0, 0, 0, 0⟩ : En) fs k]) then k else bestIx lt (⟨0, 0, 0, 0⟩ : En) fs k := by
        rw [bestIx]; simp [hlt, hbi]
      generalize hj : bestIx lt (⟨0, 0, 0, 0⟩ : En) fs k = j at *
      have hx1 := (hbw.cell (p := ⟨b, _, none⟩) hb).trans (hc k hlt).1
      have hx2 := (hbw.cell (p := ⟨b, _, none⟩) hb).trans (hc k hlt).2.1
      have hx3 := (hbw.cell (p := ⟨b, _, none⟩) hb).trans (hc k hlt).2.2.1
      have hx4 := (hbw.cell (p := ⟨b, _, none⟩) hb).trans (hc k hlt).2.2.2
      have hy1 := (hbw.cell (p := ⟨b, _, none⟩) hb).trans (hc j hbi).1
      have hy2 := (hbw.cell (p := ⟨b, _, none⟩) hb).trans (hc j hbi).2.1
      have hy3 := (hbw.cell (p := ⟨b, _, none⟩) hb).trans (hc j hbi).2.2.1
      have hy4 := (hbw.cell (p := ⟨b, _, none⟩) hb).trans (hc j hbi).2.2.2
      have hsx := hs k hlt
      have hsy := hs j hbi
      have Hstep := Lib.hid hstep
      generalize fs[k] = x at *
      generalize fs[j] = y at *
      have hlt' : (k : Int) < fs.length := by omega
      have hji : (j : Int) < fs.length := by omega
      have hb2 : b < wr.heap.size := by omega
      clear hstep hj hc hs
      go_wp2
      (refine wp_region_below 9 (by kernel_rfl) (by kernel_rfl) ?_; simp only [List.take_succ_cons, List.take_zero, List.drop_succ_cons, List.drop_zero]; (repeat (first | (apply quiet_op; (focus (go_simp; done)); (focus (intro w2 hC; obtain ⟨hc, hf⟩ := bcell hC; clear hC; go_simp; (try go_bits); first | with_reducible rfl | with_reducible exact ⟨rfl, rfl⟩)); intro K hK; go_simp; (try go_bits); refine hK _ ?_; clear hK K) | (apply quiet_skip; (focus (go_simp; done)); intro K hK; go_simp; (try go_bits); refine hK _ ?_; clear hK K))); refine wpQuiet_nil ?_; intro w1 hb; obtain ⟨hc, hf⟩ := bcell hb; have hz := hb.size; (try simp at hz); (try have hzw0 : w.heap.size < w1.heap.size := by omega); (try have hzw1 : w.heap.size + 1 < w1.heap.size := by omega); (try have hzw2 : w.heap.size + 1 + 1 < w1.heap.size := by omega); (try have hzw3 : w.heap.size + 1 + 1 + 1 < w1.heap.size := by omega); (try have hzwr0 : wr.heap.size < w1.heap.size := by omega); (try have hzwr1 : wr.heap.size + 1 < w1.heap.size := by omega); (try have hzwr2 : wr.heap.size + 1 + 1 < w1.heap.size := by omega); (try have hzwr3 : wr.heap.size + 1 + 1 + 1 < w1.heap.size := by omega); (try have hzw20 : w2.heap.size < w1.heap.size := by omega); (try have hzw21 : w2.heap.size + 1 < w1.heap.size := by omega); (try have hzw30 : w3.heap.size < w1.heap.size := by omega); (try have hzw31 : w3.heap.size + 1 < w1.heap.size := by omega); (try have hzb : b < w1.heap.size := by omega); (try have hzb2 : b2 < w1.heap.size := by omega); (try have hzb3 : b3 < w1.heap.size := by omega); (try have hzb4 : b4 < w1.heap.size := by omega); (try have hzBs : Bs < w1.heap.size := by omega); (try have hcwb := fun o => (show Below w.heap.size w w1 by ((repeat' (first | with_reducible exact Below.refl _ _ | with_reducible assumption | (with_reducible refine Below.setCell ?_ (by first | omega | (simp; done) | (simp; omega)) _) | (with_reducible refine Below.alloc ?_ (by first | omega | (simp; done) | (simp; omega)) _) | (with_reducible refine Below.drew ?_) | (with_reducible refine Below.trans ?_ (Below.mono (by with_reducible assumption) (by first | omega | (simp; done) | (simp; omega)))))); first | done | fail)).cell (p := ⟨b, o, none⟩) (show b < w.heap.size by with_reducible assumption)); (try have hcwb2 := fun o => (show Below w.heap.size w w1 by ((repeat' (first | with_reducible exact Below.refl _ _ | with_reducible assumption | (with_reducible refine Below.setCell ?_ (by first | omega | (simp; done) | (simp; omega)) _) | (with_reducible refine Below.alloc ?_ (by first | omega | (simp; done) | (simp; omega)) _) | (with_reducible refine Below.drew ?_) | (with_reducible refine Below.trans ?_ (Below.mono (by with_reducible assumption) (by first | omega | (simp; done) | (simp; omega)))))); first | done | fail)).cell (p := ⟨b2, o, none⟩) (show b2 < w.heap.size by with_reducible assumption)); (try have hcwb3 := fun o => (show Below w.heap.size w w1 by ((repeat' (first | with_reducible exact Below.refl _ _ | with_reducible assumption | (with_reducible refine Below.setCell ?_ (by first | omega | (simp; done) | (simp; omega)) _) | (with_reducible refine Below.alloc ?_ (by first | omega | (simp; done) | (simp; omega)) _) | (with_reducible refine Below.drew ?_) | (with_reducible refine Below.trans ?_ (Below.mono (by with_reducible assumption) (by first | omega | (simp; done) | (simp; omega)))))); first | done | fail)).cell (p := ⟨b3, o, none⟩) (show b3 < w.heap.size by with_reducible assumption)); (try have hcwrb := fun o => (show Below wr.heap.size wr w1 by ((repeat' (first | with_reducible exact Below.refl _ _ | with_reducible assumption | (with_reducible refine Below.setCell ?_ (by first | omega | (simp; done) | (simp; omega)) _) | (with_reducible refine Below.alloc ?_ (by first | omega | (simp; done) | (simp; omega)) _) | (with_reducible refine Below.drew ?_) | (with_reducible refine Below.trans ?_ (Below.mono (by with_reducible assumption) (by first | omega | (simp; done) | (simp; omega)))))); first | done | fail)).cell (p := ⟨b, o, none⟩) (show b < wr.heap.size by with_reducible assumption)); (try have hcwrb2 := fun o => (show Below wr.heap.size wr w1 by ((repeat' (first | with_reducible exact Below.refl _ _ | with_reducible assumption | (with_reducible refine Below.setCell ?_ (by first | omega | (simp; done) | (simp; omega)) _) | (with_reducible refine Below.alloc ?_ (by first | omega | (simp; done) | (simp; omega)) _) | (with_reducible refine Below.drew ?_) | (with_reducible refine Below.trans ?_ (Below.mono (by with_reducible assumption) (by first | omega | (simp; done) | (simp; omega)))))); first | done | fail)).cell (p := ⟨b2, o, none⟩) (show b2 < wr.heap.size by with_reducible assumption)); (try have hcwrb3 := fun o => (show Below wr.heap.size wr w1 by ((repeat' (first | with_reducible exact Below.refl _ _ | with_reducible assumption | (with_reducible refine Below.setCell ?_ (by first | omega | (simp; done) | (simp; omega)) _) | (with_reducible refine Below.alloc ?_ (by first | omega | (simp; done) | (simp; omega)) _) | (with_reducible refine Below.drew ?_) | (with_reducible refine Below.trans ?_ (Below.mono (by with_reducible assumption) (by first | omega | (simp; done) | (simp; omega)))))); first | done | fail)).cell (p := ⟨b3, o, none⟩) (show b3 < wr.heap.size by with_reducible assumption)))
      have hgx := hg w1 x y hsx hsy
      have HB := Lib.hid (hbw.trans (hb.mono (by omega)))
      have hz2 : w.heap.size ≤ w1.heap.size := by omega
      clear hc hf hcwb hcwrb hb hg hbw
      cases hq : lt x y
      · rw [hq] at Hstep hgx
        go_wp2_with ((with_reducible refine hgx.mono ?_); rintro e w2 ⟨rfl, hb4⟩)
        refine ⟨⟨k + 1, by omega, by simp, ?_, HB.out.trans (hb4.mono hz2)⟩, by simp [intOf]; omega⟩
        rw [Hstep.out]; rfl
      · rw [hq] at Hstep hgx
        go_wp2_with ((with_reducible refine hgx.mono ?_); rintro e w2 ⟨rfl, hb4⟩)
        refine ⟨⟨k + 1, by omega, by simp, ?_, HB.out.trans (hb4.mono hz2)⟩, by simp [intOf]; omega⟩
        rw [Hstep.out]; rfl
    · obtain rfl : k = fs.length := by omega
      clear hc hs hg
      go_wp2
      go_ret
      exact ⟨rfl, hbw⟩
end Go.Proofs.Ytcmjmdjhpmlomaa
