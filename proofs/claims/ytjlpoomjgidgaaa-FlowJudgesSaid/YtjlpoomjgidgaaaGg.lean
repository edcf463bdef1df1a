/- Layer 5: the specification's in, drop, Without, SameTrade; the program's Without. -/
import Derived.Test.YtjlpoomjgidgaaaGf
namespace Go.Proofs.Ytjlpoomjgidgaaa
open Go.Proofs.Ytjlpoomjgidgaaa.Ev

set_option maxRecDepth 100000 in
set_option maxHeartbeats 4000000 in
theorem in_con (h : Heap) (g : Gd h) (v : AV) (l : List Int) (n : Int) (hv : InV h v l) (hl : l.length ≤ 1000000) :
    Con Try.prog Bs 76 [v, .int .i64 n] h [] (.bool (decide (n ∈ l))) [] := by
  refine Con.start rfl Try.func76 rfl rfl Try.ntmps76 rfl rfl g ?_
  (refine WK.seq ?_; refine WK.region ?_; refine St.assign ?_; refine WO.nil ?_; refine WK.seq ?_; refine WK.seq ?_; refine WK.region ?_; refine St.assign ?_; refine WO.nil ?_; refine WK.block ?_)
  refine WK.inv (ι := Nat) (fun z => [(0, v), (1, .int .i64 n), (5, .int .i64 z)]) (fun _ => []) (fun z => z ≤ l.length ∧ n ∉ l.take z) (fun z => l.length - z) 0 ⟨by omega, by simp⟩ ⟨rfl, rfl, rfl, trivial⟩ (by (repeat (first | exact List.Sublist.refl _ | exact List.nil_sublist _ | apply List.Sublist.cons_cons | apply List.Sublist.cons))) ?_
  rintro k ⟨hkl, hno⟩ ih
  (refine WK.seq ?_; refine WK.seq ?_; refine WK.region ?_; refine St.move ?_; refine St.move ?_)
  refine St.lenG rfl hv.ilen ?_
  (refine St.bin ?_; refine WO.nil ?_)
  refine St.splitC (fun hc => ?_) (fun hc => ?_)
  · have hlt : k < l.length := by simp at hc; omega
    obtain ⟨b, off, c, rfl, hk⟩ := hv.ne (by omega)
    (refine WK.skip ?_; refine WK.seq ?_; refine WK.block ?_; refine WK.seq ?_; refine WK.region ?_; refine St.move ?_; refine St.move ?_)
    refine St.at ?_
    refine St.loadX (fun h2 hh2 => (Rds.headG ((hk.vw hh2).at_ (z := (k : Int)) (n := k) (by omega) hlt)).one rfl) ?_
    (refine St.move ?_; refine St.bin ?_; refine WO.nil ?_)
    refine St.splitC (fun hc2 => ?_) (fun hc2 => ?_)
    · have hid : nthE l k = n := by simpa using hc2
      (refine WK.seq ?_; refine WK.region ?_; refine St.assign ?_; refine WO.nil ?_)
      refine St.ret (by first | exact .tmp .nil | exact .cell .nil | exact .cell (.tmp .nil) | exact .tmp (.tmp .nil) | exact .cell (.cell .nil) | exact .tmp (.cell .nil) | exact .nil | exact .tmp (.cell (.tmp .nil)) | exact .cell (.tmp (.tmp .nil)) | exact .cell (.cell (.tmp .nil)) | exact .tmp (.tmp (.tmp .nil)) | exact .cell (.cell (.cell .nil))) ?_
      have : n ∈ l := by rw [← hid]; exact nthE_mem hlt
      simp [oneOf, this]
    · have hid : nthE l k ≠ n := by simpa using hc2
      (refine WK.skip ?_; refine WK.blk ?_; refine WK.region ?_; refine St.move ?_; refine St.binI ?_; refine St.assign ?_; refine WO.nil ?_)
      refine WK.le ?_ (by (repeat (first | exact List.Sublist.refl _ | exact List.nil_sublist _ | apply List.Sublist.cons_cons | apply List.Sublist.cons))) (ih (k + 1) ⟨hlt, ?_⟩ (by omega))
      · exact ⟨rfl, rfl, rfl, trivial⟩
      · rw [take_succE hlt]
        simp only [List.mem_append, List.mem_singleton, not_or]
        exact ⟨hno, fun e => hid e.symm⟩
  · have : k = l.length := by simp at hc; omega
    subst this
    rw [List.take_length] at hno
    (refine WK.exit ?_; refine WK.seq ?_; refine WK.region ?_; refine St.assign ?_; refine WO.nil ?_)
    refine St.ret (by first | exact .tmp .nil | exact .cell .nil | exact .cell (.tmp .nil) | exact .tmp (.tmp .nil) | exact .cell (.cell .nil) | exact .tmp (.cell .nil) | exact .nil | exact .tmp (.cell (.tmp .nil)) | exact .cell (.tmp (.tmp .nil)) | exact .cell (.cell (.tmp .nil)) | exact .tmp (.tmp (.tmp .nil)) | exact .cell (.cell (.cell .nil))) ?_
    simp [oneOf, hno]
theorem HoZ.comes {h : Heap} {v : AV} {l : List Ho} {L : Ob} (k : HoZ h v l) (hl : l.length ≤ 1000000) : ComesA h [] L v 6 l.length (enF hoC l) := by
  rcases k with ⟨rfl, rfl⟩ | ⟨b, off, m, rfl, hm, hk, hb, hz⟩
  · exact .inl ⟨rfl, rfl, rfl, fun _ _ => rfl⟩
  · exact ho_comes hk (fun h2 hh => by rw [loadN_old hh hb]; exact hz) hl
/-- a list of movements of the call's own -/
abbrev OwM (l : List Mv) (v : AV) (L : Ob) : Prop := IsR 65 5 l.length (enF mvC l) v L
/-- what Without returns -/
def woH (hs : List Ho) (ms : List Mv) : List Ho := if chkT hs ms = 0 then hs else []
def woM (hs : List Ho) (ms : List Mv) (ids : List Int) : List Mv := if chkT hs ms = 0 then wout ms ids else []
theorem chkT_len {hs : List Ho} {ms : List Mv} (h : chkT hs ms = 0) : hs.length ≤ 9 ∧ ms.length ≤ 24 := by
  unfold chkT at h
  by_cases q : 9 < hs.length ∨ 24 < ms.length
  · rw [if_pos q] at h; cases h
  · omega
end Go.Proofs.Ytjlpoomjgidgaaa
