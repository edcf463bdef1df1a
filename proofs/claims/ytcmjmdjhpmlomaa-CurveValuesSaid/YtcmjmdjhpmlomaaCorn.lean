/- The contract of corners: the X at which some curves can bend, sorted, each once. -/
import Derived.Test.YtcmjmdjhpmlomaaSort
namespace Go.Proofs.Ytcmjmdjhpmlomaa
open Go.RowKit Go.Shelf

theorem info_int : (Try.prog.info? 3).map (fun i => (i.zero, i.size, i.bytes)) = some (some (.int .i64 0), 1, 8) := by kernel_rfl

/-- a new slice of ints is returned -/
def RetInts (B : Nat) (w : World) (l : List Int) (e : Ending) (w' : World) : Prop := ∃ v, e = .returned v ∧ w'.ownsRow B 3 1 v l.length (l.map (Value.int .i64)) ∧ Below B w w'

def innerX (lo hi : Int) (ks : List (Int × Int)) : List Int := (ks.filter fun k => decide (lo < k.1) && decide (k.1 < hi)).map (·.1)
def rawX (lo hi : Int) (l : List Cur) : List Int := [lo, hi] ++ l.flatMap fun c => innerX lo hi c.ks
def cornX (lo hi : Int) (l : List Cur) : List Int := uniq (sortX (rawX lo hi l))

theorem ownsRow_base {w : World} {B B' n : Nat} {v : Value} {xs : List Value} (h : w.ownsRow B 3 1 v n xs) (hB : B' ≤ B) : w.ownsRow B' 3 1 v n xs :=
  ⟨h.1, h.2.imp id fun ⟨g, cap, cur, a, b, r⟩ => ⟨g, cap, cur, a, by omega, r⟩⟩

theorem innerX_take {lo hi : Int} {ks : List (Int × Int)} {m : Nat} (h : m < ks.length) : innerX lo hi (ks.take (m + 1)) = innerX lo hi (ks.take m) ++ if lo < ks[m].1 ∧ ks[m].1 < hi then [ks[m].1] else [] := by
  unfold innerX
  rw [List.take_succ_eq_append_getElem h, List.filter_append, List.map_append]
  congr 1
  by_cases h1 : lo < ks[m].1 <;> by_cases h2 : ks[m].1 < hi <;> simp [h1, h2]
theorem innerX_len {lo hi : Int} {ks : List (Int × Int)} : (innerX lo hi ks).length ≤ ks.length := by
  unfold innerX
  rw [List.length_map]
  exact List.length_filter_le _ _
theorem rawX_take {lo hi : Int} {l : List Cur} {k : Nat} (h : k < l.length) : rawX lo hi (l.take (k + 1)) = rawX lo hi (l.take k) ++ innerX lo hi l[k].ks := by
  unfold rawX
  rw [List.take_succ_eq_append_getElem h, List.flatMap_append]
  simp
theorem rawX_len {lo hi : Int} : ∀ {l : List Cur}, (∀ i (h : i < l.length), l[i].ks.length ≤ 40) → (rawX lo hi l).length ≤ 2 + 40 * l.length
  | [], _ => by simp [rawX]
  | c :: l, h => by
    have h1 := rawX_len (lo := lo) (hi := hi) (l := l) (fun i hi => by have := h (i + 1) (by simpa using hi); simpa using this)
    have h2 := innerX_len (lo := lo) (hi := hi) (ks := c.ks)
    have h3 := h 0 (by simp)
    simp [rawX] at h1 h2 h3 ⊢
    omega

set_option maxRecDepth 100000 in
set_option maxHeartbeats 1000000 in
theorem corners_any (w : World) (A : Option Addr) (c : Nat) (l : List Cur) (lo hi : Int) (hn : l.length ≤ 12) (hk : CvAt w A l) (h40 : ∀ i (h : i < l.length), l[i].ks.length ≤ 40) :
    Calls Try.prog 99 #[.agg #[.int .i64 lo, .int .i64 hi], .slice A l.length c] w (RetInts w.heap.size w (cornX lo hi l)) := by
  obtain ⟨i0, hi0, hz0, hz1, hz2⟩ := info_parts info_int
  go_enter Try.func99, Try.ntmps99
  go_wp2
  have hrow0 : World.ownsRow ((w.alloc (.cells #[.int .i64 lo, .int .i64 hi] 36)).alloc (.cells #[.int .i64 lo, .int .i64 hi] 3)) (w.heap.size + 1) 3 1 (.slice (some ⟨w.heap.size + 1, 0, none⟩) 2 2) (rawX lo hi (l.take 0)).length ((rawX lo hi (l.take 0)).map (Value.int .i64)) := by
    have := World.ownsRow_lit (base := w.heap.size + 1) (e := 3) (size := 1) (w.alloc (.cells #[.int .i64 lo, .int .i64 hi] 36)) #[.int .i64 lo, .int .i64 hi] 2 (by simp) (by decide) rfl
    simpa [rawX] using this
  go_loopw [5, 17] (fun v i wr => ∃ k : Nat, k ≤ l.length ∧ i = .int .i64 k ∧ wr.ownsRow (w.heap.size + 1) 3 1 v (rawX lo hi (l.take k)).length ((rawX lo hi (l.take k)).map (Value.int .i64)) ∧ Below (w.heap.size + 1) (w.alloc (.cells #[.int .i64 lo, .int .i64 hi] 36)) wr) (fun _ i _ => l.length - (intOf i).toNat)
  case atStart => exact ⟨0, by omega, rfl, hrow0, by (repeat' (first | with_reducible exact Below.refl _ _ | with_reducible assumption | (with_reducible refine Below.setCell ?_ (by first | omega | (simp; done) | (simp; omega)) _) | (with_reducible refine Below.alloc ?_ (by first | omega | (simp; done) | (simp; omega)) _) | (with_reducible refine Below.drew ?_) | (with_reducible refine Below.trans ?_ (Below.mono (by with_reducible assumption) (by first | omega | (simp; done) | (simp; omega))))))⟩
  case round =>
    obtain ⟨k, hkl, rfl, hown, hbw⟩ := hrel
    obtain ⟨wq, rfl⟩ : ∃ wq : World, wq = wr := ⟨_, rfl⟩
    clear hrow0
    have hz := hbw.size
    simp at hz
    have hzw0 : w.heap.size < wq.heap.size := by omega
    have hBw : Below w.heap.size w wq := by (repeat' (first | with_reducible exact Below.refl _ _ | with_reducible assumption | (with_reducible refine Below.setCell ?_ (by first | omega | (simp; done) | (simp; omega)) _) | (with_reducible refine Below.alloc ?_ (by first | omega | (simp; done) | (simp; omega)) _) | (with_reducible refine Below.drew ?_) | (with_reducible refine Below.trans ?_ (Below.mono (by with_reducible assumption) (by first | omega | (simp; done) | (simp; omega))))))
    by_cases hlt : k < l.length
    · have hk' := hk.below hBw
      obtain ⟨b, off, hA, hb2, hcell⟩ := hk'.rows (by rintro rfl; simp at hlt)
      have hcs := (hcell k hlt).1
      have hce := (hcell k hlt).2
      have hkn := (hk.each k hlt).1
      have hl40 := h40 k hlt
      have hrlen := rawX_len (lo := lo) (hi := hi) (l := l.take k) (fun i hi => by rw [List.getElem_take]; exact h40 i (by simp at hi; omega))
      have hstep := Lib.hid (rawX_take (lo := lo) (hi := hi) hlt)
      have htk : (l.take k).length ≤ 12 := by simp; omega
      generalize hR : rawX lo hi (l.take k) = R at *
      generalize l[k] = cu at *
      have hA' := Lib.hid hA
      subst hA
      clear hcell hk hk' hR
      have hlt' : (k : Int) < l.length := by omega
      have hBw1 := Lib.hid hbw
      clear hbw
      go_wp2
      obtain ⟨wo, hwo⟩ : ∃ wo, wo = wq.alloc (.cells #[.slice cu.a cu.ks.length cu.cap, .int .i64 cu.err] 33) := ⟨_, rfl⟩
      have hwoB : Below wq.heap.size wq wo := by rw [hwo]; (repeat' (first | with_reducible exact Below.refl _ _ | with_reducible assumption | (with_reducible refine Below.setCell ?_ (by first | omega | (simp; done) | (simp; omega)) _) | (with_reducible refine Below.alloc ?_ (by first | omega | (simp; done) | (simp; omega)) _) | (with_reducible refine Below.drew ?_) | (with_reducible refine Below.trans ?_ (Below.mono (by with_reducible assumption) (by first | omega | (simp; done) | (simp; omega))))))
      rw [← hwo]
      have hown0 : wo.ownsRow (w.heap.size + 1) 3 1 u5 R.length (R.map (Value.int .i64)) := by rw [hwo]; exact hown.alloc _
      have hlo : wo.cell? ⟨w.heap.size, 0, none⟩ = some (.int .i64 lo) := (hwoB.cell (p := ⟨w.heap.size, 0, none⟩) (by simp; omega)).trans ((hBw1.out.cell (p := ⟨w.heap.size, 0, none⟩) (by simp)).trans (by simp))
      have hhi : wo.cell? ⟨w.heap.size, 1, none⟩ = some (.int .i64 hi) := (hwoB.cell (p := ⟨w.heap.size, 1, none⟩) (by simp; omega)).trans ((hBw1.out.cell (p := ⟨w.heap.size, 1, none⟩) (by simp)).trans (by simp))
      have hzo := hwoB.size
      have hsz0 : w.heap.size + 1 ≤ wo.heap.size := by omega
      have hBwo : Below w.heap.size w wo := hBw.trans (hwoB.mono (by omega))
      clear hwo hown hcs hce
      go_loopw [5, 24] (fun v j wi => ∃ m : Nat, m ≤ cu.ks.length ∧ j = .int .i64 m ∧ wi.ownsRow (w.heap.size + 1) 3 1 v (R ++ innerX lo hi (cu.ks.take m)).length ((R ++ innerX lo hi (cu.ks.take m)).map (Value.int .i64)) ∧ Below (w.heap.size + 1) wo wi) (fun _ j _ => cu.ks.length - (intOf j).toNat)
      case atStart => exact ⟨0, by omega, rfl, by simpa [innerX] using hown0, Below.refl _ _⟩
      case round =>
        obtain ⟨m, hm, rfl, hown2, hbi⟩ := hrel
        have hzi := hbi.size
        have hilo := (hbi.cell (p := ⟨w.heap.size, 0, none⟩) (by simp)).trans hlo
        have hihi := (hbi.cell (p := ⟨w.heap.size, 1, none⟩) (by simp)).trans hhi
        have hzi1 : w.heap.size < wr.heap.size := by omega
        by_cases hlt2 : m < cu.ks.length
        · obtain ⟨bk, ok, hAk, hbk, hck⟩ := hkn (by intro h; simp [h] at hlt2)
          have hAk' := Lib.hid hAk
          have hBi : Below w.heap.size w wr := hBwo.trans (hbi.mono (by omega))
          have hx := (hBi.cell (p := ⟨bk, _, none⟩) hbk).trans (hck m hlt2).1
          have hy := (hBi.cell (p := ⟨bk, _, none⟩) hbk).trans (hck m hlt2).2
          have hit := Lib.hid (innerX_take (lo := lo) (hi := hi) hlt2)
          have hil := innerX_len (lo := lo) (hi := hi) (ks := cu.ks.take m)
          have hml : (cu.ks.take m).length ≤ 40 := by simp; omega
          have hlt2' : (m : Int) < cu.ks.length := by omega
          generalize cu.ks[m].1 = x at *
          generalize cu.ks[m].2 = y at *
          generalize hS : R ++ innerX lo hi (cu.ks.take m) = S at *
          have hSl : S.length ≤ 600 := by rw [← hS, List.length_append]; omega
          have HS := Lib.hid hS
          rw [hAk] at *
          clear hck hS hAk
          have HB := Lib.hid hbi
          clear hbi hlo hhi hkn hown0 hBwo hBi
          by_cases h1 : lo < x
          · by_cases h2 : x < hi
            · have e1 : Hid (R ++ innerX lo hi (cu.ks.take (m + 1)) = S ++ [x]) := by
                show _ = _
                rw [hit.out, ← List.append_assoc, HS.out, if_pos ⟨h1, h2⟩]
              have hc1 : ∀ j u, ([Value.int .i64 x])[j]? = some u → ((wr.alloc (.cells #[.int .i64 x, .int .i64 y] 98)).alloc (.cells #[.int .i64 x] 3)).cell? ((⟨wr.heap.size + 1, 0, none⟩ : Addr).add j) = some u := by
                intro j u hj
                cases j with
                | zero => (simp at hj; subst hj; simp [Addr.add])
                | succ j => simp at hj
              have hc2 : ∀ u ∈ ([Value.int .i64 x]), u.oneCell' = true := by intro u hu; simp at hu; subst hu; rfl
              have hc3 : S.length + 1 ≤ maxLen := by unfold maxLen; omega
              have hc4 : (S.length + 1) * 8 ≤ 140737488355328 := by omega
              have hc5 : w.heap.size + 1 ≤ ((wr.alloc (.cells #[.int .i64 x, .int .i64 y] 98)).alloc (.cells #[.int .i64 x] 3)).heap.size := by simp; omega
              have hcc := And.intro hc1 (And.intro hc2 (And.intro hc3 (And.intro hc4 hc5)))
              have Hcc := Lib.hid hcc
              clear hc1 hc2 hc3 hc4 hc5 hcc
              go_wp2_with (at_builtin; refine wpList_append_own _ rfl _ _ 127 rfl (w.heap.size + 1) 3 i0 (.int .i64 0) 1 8 Try.underlying127 hi0 hz0 hz1 hz2 rfl (by decide) _ _ _ rfl ((hown2.alloc _).alloc _) ⟨wr.heap.size + 1, 0, none⟩ 1 1 [.int .i64 x] rfl rfl Hcc.out.1 Hcc.out.2.1 (by simpa using Hcc.out.2.2.1) (by simpa using Hcc.out.2.2.2.1) Hcc.out.2.2.2.2 ?_; intro v2 w2 hown3 hgrow _)
              have hB2 : Below (w.heap.size + 1) wr w2 := by
                have hq : Below (w.heap.size + 1) wr ((wr.alloc (.cells #[.int .i64 x, .int .i64 y] 98)).alloc (.cells #[.int .i64 x] 3)) := by (repeat' (first | with_reducible exact Below.refl _ _ | with_reducible assumption | (with_reducible refine Below.setCell ?_ (by first | omega | (simp; done) | (simp; omega)) _) | (with_reducible refine Below.alloc ?_ (by first | omega | (simp; done) | (simp; omega)) _) | (with_reducible refine Below.drew ?_) | (with_reducible refine Below.trans ?_ (Below.mono (by with_reducible assumption) (by first | omega | (simp; done) | (simp; omega))))))
                exact hq.grown hgrow (by simp; omega) (fun r hr => (hown2.lt r hr).1)
              refine ⟨⟨m + 1, by omega, by simp, ?_, HB.out.trans hB2⟩, by simp [intOf]; omega⟩
              rw [e1.out]; simpa using hown3
            · have e1 : Hid (R ++ innerX lo hi (cu.ks.take (m + 1)) = S) := by
                show _ = _
                rw [hit.out, ← List.append_assoc, HS.out, if_neg (by omega), List.append_nil]
              go_wp2
              refine ⟨⟨m + 1, by omega, by simp, ?_, HB.out.trans ((Below.refl _ _).alloc (by omega) _)⟩, by simp [intOf]; omega⟩
              rw [e1.out]; exact hown2.alloc _
          · have e1 : Hid (R ++ innerX lo hi (cu.ks.take (m + 1)) = S) := by
              show _ = _
              rw [hit.out, ← List.append_assoc, HS.out, if_neg (by omega), List.append_nil]
            go_wp2
            refine ⟨⟨m + 1, by omega, by simp, ?_, HB.out.trans ((Below.refl _ _).alloc (by omega) _)⟩, by simp [intOf]; omega⟩
            rw [e1.out]; exact hown2.alloc _
        · obtain rfl : m = cu.ks.length := by omega
          have HB := Lib.hid hbi
          clear hbi hlo hhi hkn hown0
          rw [List.take_length, ← hstep.out] at hown2
          go_wp2
          exact ⟨⟨k + 1, by omega, by simp, hown2, hBw1.out.trans ((hwoB.mono (by omega)).trans HB.out)⟩, by simp [intOf]; omega⟩
    · obtain rfl : k = l.length := by omega
      rw [List.take_length] at hown
      have hrlen := rawX_len (lo := lo) (hi := hi) h40
      have hcorn := Lib.hid (show cornX lo hi l = uniq (sortX (rawX lo hi l)) from rfl)
      have hRne := Lib.hid (show rawX lo hi l ≠ [] by simp [rawX])
      generalize rawX lo hi l = R at *
      clear hk h40
      have HB := Lib.hid hbw
      clear hbw
      have hsne := Lib.hid (show sortX R ≠ [] by intro h; have := sortX_len R; rw [h] at this; exact hRne.out (List.length_eq_zero_iff.1 this.symm))
      have hsl := sortX_len R
      have hsl2 : (sortX R).length < 1000000 := by omega
      have hRl : R.length < 1000000 := by omega
      have Hsl := Lib.hid hsl
      clear hsl
      go_wp2_with fail
      refine (sort_own _ _ _ _ hRne.out hRl hown).mono ?_
      rintro e w1 ⟨rfl, hown1, hg1⟩
      have Hg1 := Lib.hid hg1
      clear hg1
      go_wp2_with fail
      refine (compact_own _ _ _ _ hsne.out hsl2 hown1).mono ?_
      rintro e w2 ⟨v', rfl, hown2, hg2⟩
      have hlt1 := hown.lt
      have hlt2 := hown1.lt
      have hB2 : Below w.heap.size w w2 := by
        have q1 := hBw.grown Hg1.out (by omega) (fun r hr => by have := (hlt1 r hr).1; omega)
        exact q1.grown hg2 (by have := Hg1.out.size; omega) (fun r hr => by have := (hlt2 r hr).1; omega)
      have HB2 := Lib.hid hB2
      have Hg2 := Lib.hid hg2
      clear hB2 hg2 hlt1 hlt2
      go_wp2
      go_ret
      refine ⟨_, rfl, ?_, HB2.out⟩
      rw [hcorn.out]
      exact ownsRow_base hown2 (by omega)
end Go.Proofs.Ytcmjmdjhpmlomaa
