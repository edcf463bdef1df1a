/- The iterator 'pieces': its contract for every loop body that keeps what lay when the loop began. -/
import Derived.RangeFuncNested
import Derived.RangeFuncBound
import Derived.RangeFuncCalls
import Derived.RangeFuncLeaves
import Derived.RangeFuncBox
import Derived.Shelf.Abstract
import Derived.Shelf.RegionOpen
import Derived.OwnWalkIn
import Derived.TacticsInMore
import Derived.LoopNIn
import Derived.LoopIn
import Derived.RegionIn
import Derived.Stop.RegionWithIn
import Derived.Test.YtcmjmdjhpmlomaaOn
import Derived.Test.YtcmjmdjhpmlomaaQuietIn
namespace Go.Proofs.Ytcmjmdjhpmlomaa
open Go.RowKit Go.Shelf
attribute [local go_sem] Oper.semAt_some

/-- number i of the pieces -/
def pcN (ks : List (Int × Int)) : Nat := ks.length - 1
abbrev Pc (ks : List (Int × Int)) := { i : Nat // i + 1 < ks.length }
def kx (ks : List (Int × Int)) (i : Nat) : Int := (ks[i]?.getD (0, 0)).1
def ky (ks : List (Int × Int)) (i : Nat) : Int := (ks[i]?.getD (0, 0)).2
def encPc (ks : List (Int × Int)) (i : Pc ks) : Array Value := #[.int .i64 (i.1 : Int), .agg #[.int .i64 (kx ks i.1), .int .i64 (ky ks i.1), .int .i64 (kx ks (i.1 + 1)), .int .i64 (ky ks (i.1 + 1))]]

/-- the first k pieces -/
def uptoPc (ks : List (Int × Int)) (k : Nat) : List (Pc ks) := (List.range k).filterMap fun i => if h : i + 1 < ks.length then some ⟨i, h⟩ else none
theorem uptoPc_succ (ks : List (Int × Int)) {k : Nat} (h : k + 1 < ks.length) : uptoPc ks (k + 1) = uptoPc ks k ++ [⟨k, h⟩] := by
  simp [uptoPc, List.range_succ, List.filterMap_append, h]
theorem uptoPc_length (ks : List (Int × Int)) : ∀ {k : Nat}, k < ks.length → (uptoPc ks k).length = k
  | 0, _ => by simp [uptoPc]
  | k + 1, h => by rw [uptoPc_succ ks h, List.length_append, uptoPc_length ks (by omega)]; rfl

set_option maxRecDepth 100000 in
set_option maxHeartbeats 2000000 in
theorem pieces1_in (F : Fence) (n : Nat) (hF : ∀ f, F.fn f) (hro : F.round = none) (hn : 1 ≤ n) (l Bs n₀ b off c : Nat) (ks : List (Int × Int)) (err : Int) (hlen : ks.length ≤ 1000000000000) (hb : b < n₀) (hB : Bs < n₀) (J Jx : List (Pc ks) → World → Prop)
    (hY : ∀ pre x W, J pre W → pre.length < pcN ks → YieldAt F (n - 1) Try.prog l (encPc ks x) W fun e W' =>
      (e = .returned (.bool true) ∧ J (pre ++ [x]) W' ∧ Below n₀ W W') ∨ (e = .returned (.bool false) ∧ Jx (pre ++ [x]) W'))
    (hJ : ∀ s (A B : World), J s A → Below A.heap.size A B → J s B) (W : World) (hn₀ : n₀ ≤ W.heap.size) (hBs : W.cell? ⟨Bs, 0, none⟩ = some (.slice (some ⟨b, off, none⟩) ks.length c))
    (hcx : ∀ i, i < ks.length → W.cell? ⟨b, off + i * 2, none⟩ = some (.int .i64 (kx ks i))) (hcy : ∀ i, i < ks.length → W.cell? ⟨b, off + i * 2 + 1, none⟩ = some (.int .i64 (ky ks i))) (h0 : J [] W) :
    CallsIn F n Try.prog 117 #[.func (.yield l) #[] #[], .pointer (some ⟨Bs, 0, none⟩)] W fun e W' => (∃ v, e = .returned v) ∧
      ((∃ ys, ys = uptoPc ks (pcN ks) ∧ J ys W') ∨ (∃ pre, (∃ k, k ≤ pcN ks ∧ pre = uptoPc ks k) ∧ Jx pre W')) := by
  refine callsIn_of_wp Try.func117 rfl (hF _) ?_ hro
  simp only [Try.ntmps117, List.size_toArray, List.length_cons, List.length_nil, Nat.reduceAdd, Nat.reduceSub, Array.replicate_succ, Array.replicate_zero, List.push_toArray, List.append_toArray, List.nil_append, List.cons_append]
  gi_wp2
  gi_loopw [3] (fun i wr => ∃ k : Nat, (k = 0 ∨ k < ks.length) ∧ i = .int .i64 ((k + 1 : Nat) : Int) ∧ J (uptoPc ks k) wr ∧ Below n₀ W wr)
    (fun i _ => ks.length - (intOf i).toNat)
  case atStart => exact ⟨0, .inl rfl, by simp, h0, Below.refl _ _⟩
  case round =>
    obtain ⟨k, hk, rfl, hJs, hnx⟩ := hrel
    have hBw : wr.cell? ⟨Bs, 0, none⟩ = some (.slice (some ⟨b, off, none⟩) ks.length c) := (hnx.cell (p := ⟨Bs, 0, none⟩) hB).trans hBs
    by_cases hlt : k + 1 < ks.length
    · have hc1 : wr.cell? ⟨b, off + k * 2, none⟩ = some (.int .i64 (kx ks k)) := (hnx.cell (p := ⟨b, _, none⟩) hb).trans (hcx k (by omega))
      have hc2 : wr.cell? ⟨b, off + k * 2 + 1, none⟩ = some (.int .i64 (ky ks k)) := (hnx.cell (p := ⟨b, _, none⟩) hb).trans (hcy k (by omega))
      have hc3 : wr.cell? ⟨b, off + (k + 1) * 2, none⟩ = some (.int .i64 (kx ks (k + 1))) := (hnx.cell (p := ⟨b, _, none⟩) hb).trans (hcx (k + 1) (by omega))
      have hc4 : wr.cell? ⟨b, off + (k + 1) * 2 + 1, none⟩ = some (.int .i64 (ky ks (k + 1))) := (hnx.cell (p := ⟨b, _, none⟩) hb).trans (hcy (k + 1) (by omega))
      have g1 : (k : Int) < ks.length := by omega
      have g2 : (k : Int) + 1 < ks.length := by omega
      have g3 : (k : Int) + 1 ≤ 1000000000000 := by omega
      have g4 : (0 : Int) ≤ (k : Int) + 1 := by omega
      have g5 : ((k : Int) + 1).toNat = k + 1 := by omega
      have hB2 : Bs < wr.heap.size := World.block_lt_of_cell? _ _ hBw
      have hb2 : b < wr.heap.size := World.block_lt_of_cell? _ _ hc1
      clear hBs hcx hcy
      gi_wp2
      (refine wpIn_region_below hro 15 (by kernel_rfl) (by kernel_rfl) ?_; simp only [List.take_succ_cons, List.take_zero, List.drop_succ_cons, List.drop_zero]; (repeat (first | (apply quietIn_op hF; (focus (go_simp; done)); (focus (intro w2 hC; obtain ⟨hc, hf⟩ := bcell hC; clear hC; go_simp; (try go_bits); first | with_reducible rfl | with_reducible exact ⟨rfl, rfl⟩)); intro K hK; go_simp; (try go_bits); refine hK _ ?_; clear hK K) | (apply quietIn_skip hF; (focus (go_simp; done)); intro K hK; go_simp; (try go_bits); refine hK _ ?_; clear hK K))); refine wpQuietIn_nil ?_; intro w1 hb; obtain ⟨hc, hf⟩ := bcell hb; have hz := hb.size; (try simp at hz); (try have hzw0 : w.heap.size < w1.heap.size := by omega); (try have hzw1 : w.heap.size + 1 < w1.heap.size := by omega); (try have hzw2 : w.heap.size + 1 + 1 < w1.heap.size := by omega); (try have hzw3 : w.heap.size + 1 + 1 + 1 < w1.heap.size := by omega); (try have hzwr0 : wr.heap.size < w1.heap.size := by omega); (try have hzwr1 : wr.heap.size + 1 < w1.heap.size := by omega); (try have hzwr2 : wr.heap.size + 1 + 1 < w1.heap.size := by omega); (try have hzwr3 : wr.heap.size + 1 + 1 + 1 < w1.heap.size := by omega); (try have hzw20 : w2.heap.size < w1.heap.size := by omega); (try have hzw21 : w2.heap.size + 1 < w1.heap.size := by omega); (try have hzw30 : w3.heap.size < w1.heap.size := by omega); (try have hzw31 : w3.heap.size + 1 < w1.heap.size := by omega); (try have hzb : b < w1.heap.size := by omega); (try have hzb2 : b2 < w1.heap.size := by omega); (try have hzb3 : b3 < w1.heap.size := by omega); (try have hzb4 : b4 < w1.heap.size := by omega); (try have hzBs : Bs < w1.heap.size := by omega); (try have hcwb := fun o => (show Below w.heap.size w w1 by ((repeat' (first | with_reducible exact Below.refl _ _ | with_reducible assumption | (with_reducible refine Below.setCell ?_ (by first | omega | (simp; done) | (simp; omega)) _) | (with_reducible refine Below.alloc ?_ (by first | omega | (simp; done) | (simp; omega)) _) | (with_reducible refine Below.drew ?_) | (with_reducible refine Below.trans ?_ (Below.mono (by with_reducible assumption) (by first | omega | (simp; done) | (simp; omega)))))); first | done | fail)).cell (p := ⟨b, o, none⟩) (show b < w.heap.size by with_reducible assumption)); (try have hcwb2 := fun o => (show Below w.heap.size w w1 by ((repeat' (first | with_reducible exact Below.refl _ _ | with_reducible assumption | (with_reducible refine Below.setCell ?_ (by first | omega | (simp; done) | (simp; omega)) _) | (with_reducible refine Below.alloc ?_ (by first | omega | (simp; done) | (simp; omega)) _) | (with_reducible refine Below.drew ?_) | (with_reducible refine Below.trans ?_ (Below.mono (by with_reducible assumption) (by first | omega | (simp; done) | (simp; omega)))))); first | done | fail)).cell (p := ⟨b2, o, none⟩) (show b2 < w.heap.size by with_reducible assumption)); (try have hcwb3 := fun o => (show Below w.heap.size w w1 by ((repeat' (first | with_reducible exact Below.refl _ _ | with_reducible assumption | (with_reducible refine Below.setCell ?_ (by first | omega | (simp; done) | (simp; omega)) _) | (with_reducible refine Below.alloc ?_ (by first | omega | (simp; done) | (simp; omega)) _) | (with_reducible refine Below.drew ?_) | (with_reducible refine Below.trans ?_ (Below.mono (by with_reducible assumption) (by first | omega | (simp; done) | (simp; omega)))))); first | done | fail)).cell (p := ⟨b3, o, none⟩) (show b3 < w.heap.size by with_reducible assumption)); (try have hcwrb := fun o => (show Below wr.heap.size wr w1 by ((repeat' (first | with_reducible exact Below.refl _ _ | with_reducible assumption | (with_reducible refine Below.setCell ?_ (by first | omega | (simp; done) | (simp; omega)) _) | (with_reducible refine Below.alloc ?_ (by first | omega | (simp; done) | (simp; omega)) _) | (with_reducible refine Below.drew ?_) | (with_reducible refine Below.trans ?_ (Below.mono (by with_reducible assumption) (by first | omega | (simp; done) | (simp; omega)))))); first | done | fail)).cell (p := ⟨b, o, none⟩) (show b < wr.heap.size by with_reducible assumption)); (try have hcwrb2 := fun o => (show Below wr.heap.size wr w1 by ((repeat' (first | with_reducible exact Below.refl _ _ | with_reducible assumption | (with_reducible refine Below.setCell ?_ (by first | omega | (simp; done) | (simp; omega)) _) | (with_reducible refine Below.alloc ?_ (by first | omega | (simp; done) | (simp; omega)) _) | (with_reducible refine Below.drew ?_) | (with_reducible refine Below.trans ?_ (Below.mono (by with_reducible assumption) (by first | omega | (simp; done) | (simp; omega)))))); first | done | fail)).cell (p := ⟨b2, o, none⟩) (show b2 < wr.heap.size by with_reducible assumption)); (try have hcwrb3 := fun o => (show Below wr.heap.size wr w1 by ((repeat' (first | with_reducible exact Below.refl _ _ | with_reducible assumption | (with_reducible refine Below.setCell ?_ (by first | omega | (simp; done) | (simp; omega)) _) | (with_reducible refine Below.alloc ?_ (by first | omega | (simp; done) | (simp; omega)) _) | (with_reducible refine Below.drew ?_) | (with_reducible refine Below.trans ?_ (Below.mono (by with_reducible assumption) (by first | omega | (simp; done) | (simp; omega)))))); first | done | fail)).cell (p := ⟨b3, o, none⟩) (show b3 < wr.heap.size by with_reducible assumption)))
      obtain ⟨fn, tmps, assign, body, hy, hR⟩ := hY _ ⟨k, hlt⟩ w1 (hJ _ _ _ hJs hb) (by rw [uptoPc_length ks (by omega)]; unfold pcN; omega)
      dsimp only [encPc] at hy
      have hb3 : Below n₀ W w1 := hnx.trans (hb.mono (Nat.le_trans hn₀ hnx.size))
      clear hc hf hc1 hc2 hc3 hc4 hBw hb
      gi_wp2
      refine hR.mono ?_
      rintro e W3 (⟨rfl, hJ3, hk3⟩ | ⟨rfl, hJx3⟩)
      · gi_wp2
        go_roundw
        case rel => exact ⟨k + 1, .inr hlt, by simp, by rw [uptoPc_succ ks hlt]; exact hJ3, hb3.trans hk3⟩
        case measure => simp [intOf]; omega
      · gi_wp2
        refine bodyPost_ret (results_none rfl _ _ _) rfl ?_
        exact ⟨⟨_, rfl⟩, .inr ⟨_, ⟨k + 1, by unfold pcN; omega, (uptoPc_succ ks hlt).symm⟩, hJx3⟩⟩
    · have e1 : k = pcN ks := by unfold pcN; omega
      have g2 : ¬ (k : Int) + 1 < ks.length := by omega
      have g3 : (k : Int) + 1 ≤ 1000000000001 := by omega
      have E1 := Lib.hid e1
      clear e1
      gi_wp2
      go_end0
      exact ⟨⟨_, rfl⟩, .inl (E1.out ▸ hJs)⟩

theorem grownBy_of_below {A B : World} (h : Below A.heap.size A B) : A.grownBy B none := ⟨h.os, h.tape, h.output, h.size, fun k hk _ => h.block k hk⟩

set_option maxHeartbeats 1000000 in
theorem pieces_in (F : Fence) (n : Nat) (hF : ∀ f, F.fn f) (hro : F.round = none) (A : Option Addr) (len c : Nat) (err : Int) (w : World) :
    CallsIn F n Try.prog 79 #[.agg #[.slice A len c, .int .i64 err]] w fun e w' => e = .returned (.func (.func 117) #[] #[.pointer (some ⟨w.heap.size, 0, none⟩)]) ∧ w' = w.alloc (.cells #[.slice A len c, .int .i64 err] 33) := by
  refine callsIn_of_wp Try.func79 rfl (hF _) ?_ hro
  simp only [Try.ntmps79, List.size_toArray, List.length_cons, List.length_nil, Nat.reduceAdd, Nat.reduceSub, Array.replicate_succ, Array.replicate_zero, List.push_toArray, List.append_toArray, List.nil_append, List.cons_append]
  gi_wp2
  go_ret
  exact ⟨rfl, rfl⟩

/-- 'pieces(c)' hands back a value that yields the pieces in order: all, or the first k -/
theorem pieces_stops (F : Fence) (n : Nat) (hF : ∀ f, F.fn f) (hro : F.round = none) (hn : 1 ≤ n) (Bs n₀ c : Nat) (A : Option Addr) (ks : List (Int × Int)) (err : Int) (hlen : ks.length ≤ 1000000000000) (hne : ks ≠ []) (w : World) (hn₀ : n₀ ≤ w.heap.size) (hBs : Bs < n₀)
    (hc : w.cell? ⟨Bs, 0, none⟩ = some (.slice A ks.length c)) (hk : KnAt w A ks) (hlt : ∀ a, A = some a → a.block < n₀) :
    SeqStopsK F n Try.prog 117 #[.pointer (some ⟨Bs, 0, none⟩)] (encPc ks) (Below n₀) (fun ys => ys = uptoPc ks (pcN ks)) (fun pre => ∃ k, k ≤ pcN ks ∧ pre = uptoPc ks k) (pcN ks) w := fun l J Jx W hW hJ _ hY h0 => by
  obtain ⟨b, off, rfl, hb, hcell⟩ := (hk.below hW) hne
  exact pieces1_in F n hF hro hn l Bs n₀ b off c ks err hlen (hlt _ rfl) hBs J Jx hY (fun s A B hs hb => hJ s A B none hs (grownBy_of_below hb) (fun _ h => by cases h)) W (Nat.le_trans hn₀ hW.size) ((hW.cell (p := ⟨Bs, 0, none⟩) (Nat.lt_of_lt_of_le hBs hn₀)).trans hc)
    (fun i hi => by have := (hcell i hi).1; simpa [kx, hi] using this) (fun i hi => by have := (hcell i hi).2; simpa [ky, hi] using this) h0
end Go.Proofs.Ytcmjmdjhpmlomaa
