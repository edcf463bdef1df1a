/- Layer 5: the program's Contains of ints, Clone of holders, without, Without. -/
import Derived.Test.YtjlpoomjgidgaaaGc
namespace Go.Proofs.Ytjlpoomjgidgaaa
open Go.Proofs.Ytjlpoomjgidgaaa.Ev

theorem perm_cnt {α : Type} {l1 l2 : List α} (h : ∀ (_ : DecidableEq α) (a : α), l1.count a = l2.count a) : l1.Perm l2 := perm_count h

set_option maxRecDepth 100000 in
set_option maxHeartbeats 4000000 in
theorem index_con (h : Heap) (g : Gd h) (v : AV) (l : List Int) (n : Int) (hv : InV h v l) (hl : l.length ≤ 1000000) :
    Con Try.prog Bs 73 [v, .int .i64 n] h [] (.int .i64 (plI l n)) [] := by
  refine Con.start rfl Try.func73 rfl rfl Try.ntmps73 rfl rfl g ?_
  (refine WK.seq ?_; refine WK.region ?_; refine St.assign ?_; refine WO.nil ?_; refine WK.seq ?_; refine WK.seq ?_; refine WK.region ?_; refine St.move ?_)
  refine St.lenG rfl (InV.ilen hv) ?_
  (refine St.move ?_; refine WO.nil ?_; refine WK.block ?_)
  by_cases hn : l.length = 0
  · have e1 : l = [] := List.length_eq_zero_iff.1 hn
    subst e1
    refine WK.unroll ?_
    (refine WK.seq ?_; refine WK.region ?_; refine St.bin ?_; refine WO.nil ?_; refine WK.seq ?_; refine WK.condF ?_; refine WK.exit ?_; refine WK.seq ?_; refine WK.region ?_; refine St.assign ?_; refine WO.nil ?_)
    refine St.ret (by first | exact .tmp .nil | exact .cell .nil | exact .cell (.tmp .nil) | exact .tmp (.tmp .nil) | exact .cell (.cell .nil) | exact .tmp (.cell .nil) | exact .nil | exact .tmp (.cell (.tmp .nil)) | exact .cell (.tmp (.tmp .nil)) | exact .cell (.cell (.tmp .nil)) | exact .tmp (.tmp (.tmp .nil)) | exact .cell (.cell (.cell .nil))) ?_
    rfl
  obtain ⟨b, off, c, rfl, hk⟩ := hv.ne (by omega)
  refine WK.inv (ι := Nat) (fun z => [(0, .slice b off l.length c), (1, .int .i64 n), (4, .int .i64 0), (7, .int .i64 l.length), (8, .int .i64 z)]) (fun _ => []) (fun z => z ≤ l.length ∧ n ∉ l.take z) (fun z => l.length - z) 0 ⟨by omega, by simp⟩ ⟨rfl, rfl, rfl, rfl, rfl, trivial⟩ (by (repeat (first | exact List.Sublist.refl _ | exact List.nil_sublist _ | apply List.Sublist.cons_cons | apply List.Sublist.cons))) ?_
  rintro k ⟨hkl, hno⟩ ih
  (refine WK.seq ?_; refine WK.region ?_; refine St.bin ?_; refine WO.nil ?_; refine WK.seq ?_)
  refine St.splitC (fun hc => ?_) (fun hc => ?_)
  · have hlt : k < l.length := by simp at hc; omega
    (refine WK.skip ?_; refine WK.seq ?_; refine WK.block ?_; refine WK.seq ?_; refine WK.region ?_; refine St.move ?_; refine St.assign ?_; refine WO.nil ?_; refine WK.seq ?_; refine WK.region ?_; refine St.move ?_; refine St.move ?_; refine St.move ?_)
    refine St.at ?_
    skip
    refine St.loadX (fun h2 hh => (Rds.headG ((hk.vw hh).at_ (z := (k : Int)) (n := k) (by omega) hlt)).one rfl) ?_
    (refine St.bin ?_; refine WO.nil ?_)
    refine St.splitC (fun hc2 => ?_) (fun hc2 => ?_)
    · have hid : n = nthE l k := by simpa using hc2
      (refine WK.seq ?_; refine WK.region ?_; refine St.move ?_; refine St.assign ?_; refine WO.nil ?_)
      refine St.ret (by first | exact .tmp .nil | exact .cell .nil | exact .cell (.tmp .nil) | exact .tmp (.tmp .nil) | exact .cell (.cell .nil) | exact .tmp (.cell .nil) | exact .nil | exact .tmp (.cell (.tmp .nil)) | exact .cell (.tmp (.tmp .nil)) | exact .cell (.cell (.tmp .nil)) | exact .tmp (.tmp (.tmp .nil)) | exact .cell (.cell (.cell .nil))) ?_
      rw [plI_at (i := k) hlt (by rw [← nthE_eq hlt]; exact hid.symm) hno]
      rfl
    · have hid : n ≠ nthE l k := by simpa using hc2
      (refine WK.skip ?_; refine WK.blk ?_; refine WK.region ?_; refine St.binI ?_; refine St.move ?_; refine WO.nil ?_)
      refine WK.le ?_ (by (repeat (first | exact List.Sublist.refl _ | exact List.nil_sublist _ | apply List.Sublist.cons_cons | apply List.Sublist.cons))) (ih (k + 1) ⟨hlt, ?_⟩ (by omega))
      · exact ⟨rfl, rfl, rfl, rfl, rfl, trivial⟩
      · rw [take_succE hlt]
        simp only [List.mem_append, List.mem_singleton, not_or]
        exact ⟨hno, hid⟩
  · have : k = l.length := by simp at hc; omega
    subst this
    (refine WK.exit ?_; refine WK.seq ?_; refine WK.region ?_; refine St.assign ?_; refine WO.nil ?_)
    refine St.ret (by first | exact .tmp .nil | exact .cell .nil | exact .cell (.tmp .nil) | exact .tmp (.tmp .nil) | exact .cell (.cell .nil) | exact .tmp (.cell .nil) | exact .nil | exact .tmp (.cell (.tmp .nil)) | exact .cell (.tmp (.tmp .nil)) | exact .cell (.cell (.tmp .nil)) | exact .tmp (.tmp (.tmp .nil)) | exact .cell (.cell (.cell .nil))) ?_
    rw [plI_no (by rw [List.take_length] at hno; exact hno)]
    rfl
set_option maxRecDepth 100000 in
theorem contains_con (h : Heap) (g : Gd h) (v : AV) (l : List Int) (n : Int) (hv : InV h v l) (hl : l.length ≤ 1000000) :
    Con Try.prog Bs 50 [v, .int .i64 n] h [] (.bool (decide (n ∈ l))) [] := by
  refine Con.start rfl Try.func50 rfl rfl Try.ntmps50 rfl rfl g ?_
  (refine WK.seq ?_; refine WK.region ?_; refine St.assign ?_; refine WO.nil ?_; refine WK.seq ?_; refine WK.region ?_; refine St.move ?_; refine St.move ?_)
  refine St.call (fun _ => rfl) (fun h2 hh => index_con h2 hh.gd v l n (hv.vw hh) hl) ?_
  (refine St.bin ?_; refine St.assign ?_; refine WO.nil ?_)
  refine St.ret (by first | exact .tmp .nil | exact .cell .nil | exact .cell (.tmp .nil) | exact .tmp (.tmp .nil) | exact .cell (.cell .nil) | exact .tmp (.cell .nil) | exact .nil | exact .tmp (.cell (.tmp .nil)) | exact .cell (.tmp (.tmp .nil)) | exact .cell (.cell (.tmp .nil)) | exact .tmp (.tmp (.tmp .nil)) | exact .cell (.cell (.cell .nil))) ?_
  show AV.bool (decide (0 ≤ plI l n)) = _
  rw [decide_eq_decide.2 plI_ge]
theorem hoC_ok (x : Ho) : (hoC x).all okCell = true := rfl
/-- what an append takes of an argument -/
theorem ho_comes {h : Heap} {b off : Nat} {c : ACap} {l : List Ho} {L : Ob} (hk : HoH h b off l) (hz : ∀ h2, Vw h [] L h2 → h2.loadN b off 0 = some []) (hl : l.length ≤ 1000000) : ComesA h [] L (.slice b off l.length c) 6 l.length (enF hoC l) :=
  comesE hoC_len (by omega) hk (fun x _ => hoC_ok x) (fun _ => hz) hl
/-- holders that are an argument; nothing can be read of an empty one -/
def HoZ (h : Heap) (v : AV) (l : List Ho) : Prop := (v = .slice0 ∧ l = []) ∨ ∃ b off m, v = .slice b off l.length (.k m) ∧ l.length ≤ m ∧ HoH h b off l ∧ b < h.next ∧ h.loadN b off 0 = some []
theorem HoZ.hoA {h : Heap} {v : AV} {l : List Ho} (k : HoZ h v l) : HoA h v l := by
  rcases k with k | ⟨b, off, m, rfl, hm, k, _, _⟩
  · exact .inl k
  · exact .inr ⟨b, off, m, rfl, hm, k⟩
theorem loadN_old {h0 h : Heap} {V : Ob} {b off n : Nat} (hh : Vw h0 [] V h) (hb : b < h0.next) : h.loadN b off n = h0.loadN b off n := by
  unfold Heap.loadN
  rw [hh.old b hb (by simp)]
theorem HoZ.vw {h0 h : Heap} {V : Ob} {v : AV} {l : List Ho} (k : HoZ h0 v l) (hh : Vw h0 [] V h) : HoZ h v l := by
  rcases k with k | ⟨b, off, m, rfl, hm, k, hb, hz⟩
  · exact .inl k
  · exact .inr ⟨b, off, m, rfl, hm, k.vw hh, Nat.lt_of_lt_of_le hb hh.nx, by rw [loadN_old hh hb]; exact hz⟩
end Go.Proofs.Ytjlpoomjgidgaaa
