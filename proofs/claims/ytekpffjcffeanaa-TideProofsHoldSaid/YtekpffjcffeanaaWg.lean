/- The law TideSame over the calculator's memory. -/
import Derived.Test.YtekpffjcffeanaaWf
namespace Go.Proofs.Ytekpffjcffeanaa
open Go.Proofs.Ytekpffjcffeanaa.Ev

def shortB (lo hi : Int) : Bool := decide (lo < 0) || (decide (hi < lo) || (decide (1048576 < hi) || (decide (hi - lo < 400) || decide (10080 ≤ hi - lo))))
set_option maxRecDepth 100000 in
set_option maxHeartbeats 4000000 in
theorem short_con (h : Heap) (g : Gd h) (lo hi : Int) : Con Try.prog Bs 21 [.agg [.int .i64 lo, .int .i64 hi]] h [] (.bool (shortB lo hi)) [] := by
  refine Con.start rfl Try.func21 rfl rfl Try.ntmps21 rfl rfl g ?_
  (refine WK.seq ?_; refine WK.region ?_; refine St.box fun _ _ => ?_; refine St.assign ?_; refine WO.nil ?_; refine WK.seq ?_; refine WK.region ?_; refine St.fieldAddr ?_; refine St.load ?_; refine St.bin ?_; refine St.move ?_)
  refine St.split (fun h1 => ?_) (fun h1 => ?_)
  · (refine St.skip ?_; refine St.skip ?_; refine St.skip ?_; refine St.skip ?_; refine St.skip ?_; refine St.pickT ?_; refine St.move ?_; refine St.skip ?_; refine St.skip ?_; refine St.skip ?_; refine St.pickT ?_; refine St.move ?_; refine St.skip ?_; refine St.skip ?_; refine St.skip ?_; refine St.skip ?_; refine St.skip ?_; refine St.skip ?_; refine St.pickT ?_; refine St.move ?_; refine St.skip ?_; refine St.skip ?_; refine St.skip ?_; refine St.skip ?_; refine St.skip ?_; refine St.skip ?_; refine St.pickT ?_; refine St.assign ?_; refine WO.nil ?_)
    refine St.ret (by first | exact .tmp .nil | exact .cell .nil | exact .cell (.tmp .nil) | exact .tmp (.tmp .nil) | exact .cell (.cell .nil) | exact .tmp (.cell .nil) | exact .nil | exact .tmp (.cell (.tmp .nil)) | exact .cell (.tmp (.tmp .nil)) | exact .cell (.cell (.tmp .nil)) | exact .tmp (.tmp (.tmp .nil)) | exact .cell (.cell (.cell .nil))) ?_
    simp at h1
    simp [oneOf, shortB, h1]
  (refine St.fieldAddr ?_; refine St.load ?_; refine St.fieldAddr ?_; refine St.load ?_; refine St.bin ?_; refine St.pickF ?_; refine St.move ?_)
  refine St.split (fun h2 => ?_) (fun h2 => ?_)
  · (refine St.skip ?_; refine St.skip ?_; refine St.skip ?_; refine St.pickT ?_; refine St.move ?_; refine St.skip ?_; refine St.skip ?_; refine St.skip ?_; refine St.skip ?_; refine St.skip ?_; refine St.skip ?_; refine St.pickT ?_; refine St.move ?_; refine St.skip ?_; refine St.skip ?_; refine St.skip ?_; refine St.skip ?_; refine St.skip ?_; refine St.skip ?_; refine St.pickT ?_; refine St.assign ?_; refine WO.nil ?_)
    refine St.ret (by first | exact .tmp .nil | exact .cell .nil | exact .cell (.tmp .nil) | exact .tmp (.tmp .nil) | exact .cell (.cell .nil) | exact .tmp (.cell .nil) | exact .nil | exact .tmp (.cell (.tmp .nil)) | exact .cell (.tmp (.tmp .nil)) | exact .cell (.cell (.tmp .nil)) | exact .tmp (.tmp (.tmp .nil)) | exact .cell (.cell (.cell .nil))) ?_
    simp at h2
    simp [oneOf, shortB, h2]
  (refine St.fieldAddr ?_; refine St.load ?_; refine St.bin ?_; refine St.pickF ?_; refine St.move ?_)
  refine St.split (fun h3 => ?_) (fun h3 => ?_)
  · (refine St.skip ?_; refine St.skip ?_; refine St.skip ?_; refine St.skip ?_; refine St.skip ?_; refine St.skip ?_; refine St.pickT ?_; refine St.move ?_; refine St.skip ?_; refine St.skip ?_; refine St.skip ?_; refine St.skip ?_; refine St.skip ?_; refine St.skip ?_; refine St.pickT ?_; refine St.assign ?_; refine WO.nil ?_)
    refine St.ret (by first | exact .tmp .nil | exact .cell .nil | exact .cell (.tmp .nil) | exact .tmp (.tmp .nil) | exact .cell (.cell .nil) | exact .tmp (.cell .nil) | exact .nil | exact .tmp (.cell (.tmp .nil)) | exact .cell (.tmp (.tmp .nil)) | exact .cell (.cell (.tmp .nil)) | exact .tmp (.tmp (.tmp .nil)) | exact .cell (.cell (.cell .nil))) ?_
    simp at h3
    simp [oneOf, shortB, h3]
  simp at h1 h2 h3
  (refine St.fieldAddr ?_; refine St.load ?_; refine St.fieldAddr ?_; refine St.load ?_; refine St.binI ?_; refine St.bin ?_; refine St.pickF ?_; refine St.move ?_)
  refine St.split (fun h4 => ?_) (fun h4 => ?_)
  · (refine St.skip ?_; refine St.skip ?_; refine St.skip ?_; refine St.skip ?_; refine St.skip ?_; refine St.skip ?_; refine St.pickT ?_; refine St.assign ?_; refine WO.nil ?_)
    refine St.ret (by first | exact .tmp .nil | exact .cell .nil | exact .cell (.tmp .nil) | exact .tmp (.tmp .nil) | exact .cell (.cell .nil) | exact .tmp (.cell .nil) | exact .nil | exact .tmp (.cell (.tmp .nil)) | exact .cell (.tmp (.tmp .nil)) | exact .cell (.cell (.tmp .nil)) | exact .tmp (.tmp (.tmp .nil)) | exact .cell (.cell (.cell .nil))) ?_
    simp at h4
    simp [oneOf, shortB, h4]
  (refine St.fieldAddr ?_; refine St.load ?_; refine St.fieldAddr ?_; refine St.load ?_; refine St.binI ?_; refine St.bin ?_; refine St.pickF ?_; refine St.assign ?_; refine WO.nil ?_)
  refine St.ret (by first | exact .tmp .nil | exact .cell .nil | exact .cell (.tmp .nil) | exact .tmp (.tmp .nil) | exact .cell (.cell .nil) | exact .tmp (.cell .nil) | exact .nil | exact .tmp (.cell (.tmp .nil)) | exact .cell (.tmp (.tmp .nil)) | exact .cell (.cell (.tmp .nil)) | exact .tmp (.tmp (.tmp .nil)) | exact .cell (.cell (.cell .nil))) ?_
  simp at h4
  refine congrArg AV.bool ?_
  unfold shortB
  rw [Bool.eq_iff_iff]
  simp
  omega
set_option maxRecDepth 100000 in
set_option maxHeartbeats 16000000 in
theorem sameLaw_con (h : Heap) (g : Gd h) (lva lvb lo hi : Int) (ca sa cb sb : AV) (la lb : List Cw) (ssa ssb : List Sh) (hca : CyV h ca la) (hsa : ShV h sa ssa) (hcb : CyV h cb lb) (hsb : ShV h sb ssb) (hla : la.length ≤ 9223372036854775807) (hlb : lb.length ≤ 9223372036854775807) :
    Con Try.prog Bs 16 [.agg [.int .i64 lva, ca, sa], .agg [.int .i64 lvb, cb, sb], .agg [.int .i64 lo, .int .i64 hi]] h [] (.bool true) [] := by
  obtain ⟨R, hR⟩ : ∃ R, R = sameR (chkW lva (cys la) ssa) (minR lvb (cys lb) ssb lo hi) lo (fun k => lva + bareV (cys la) ssa (lo + k)) (fun k => lvb + bareV (cys lb) ssb (lo + k)) (hi - lo + 1).toNat := ⟨_, rfl⟩
  have hP : ∀ (h2 : Heap) {V : Ob}, Vw h [] V h2 → Con Try.prog Bs 58 [.agg [.int .i64 lva, ca, sa], .agg [.int .i64 lvb, cb, sb], .agg [.int .i64 lo, .int .i64 hi]] h2 [] (.tup [.int .i64 R.1, .bool R.2.1, .int .i64 R.2.2]) [] := fun h2 V hh => by
    obtain ⟨r, hr, k⟩ := same_con h2 hh.gd lva lvb lo hi ca sa cb sb la lb ssa ssb (hca.vw hh) (hsa.vw hh) (hcb.vw hh) (hsb.vw hh)
    rw [← hR] at hr
    subst hr
    exact k
  have hQ : ∀ (h2 : Heap) {V : Ob}, Vw h [] V h2 → Con Try.prog Bs 59 [.agg [.int .i64 lva, ca, sa], .agg [.int .i64 lvb, cb, sb], .agg [.int .i64 lo, .int .i64 hi]] h2 [] (.tup [.int .i64 R.1, .bool R.2.1, .int .i64 R.2.2]) [] := fun h2 V hh => by
    obtain ⟨r, hr, k⟩ := rsame_con h2 hh.gd lva lvb lo hi ca sa cb sb la lb ssa ssb (hca.vw hh) (hsa.vw hh) (hcb.vw hh) (hsb.vw hh)
    rw [← hR] at hr
    subst hr
    exact k
  clear hR
  obtain ⟨R1, R2, R3⟩ := R
  simp only at hP hQ
  refine Con.start rfl Try.func16 rfl rfl Try.ntmps16 rfl rfl g ?_
  (refine WK.seq ?_; refine WK.region ?_; refine St.box fun _ _ => ?_; refine St.box fun _ _ => ?_; refine St.box fun _ _ => ?_; refine St.assign ?_; refine WO.nil ?_; refine WK.seq ?_; refine WK.seq ?_; refine WK.region ?_; refine St.load ?_)
  refine St.call (fun _ => rfl) (fun h2 hh => few_con h2 hh.gd lva ca sa la ssa (hca.vw hh) (hsa.vw hh) hla) ?_
  (refine St.un ?_; refine St.move ?_)
  refine St.split (fun h1 => ?_) (fun h1 => ?_)
  · (refine St.skip ?_; refine St.skip ?_; refine St.skip ?_; refine St.pickT ?_; refine St.move ?_; refine St.skip ?_; refine St.skip ?_; refine St.skip ?_; refine St.pickT ?_; refine WO.nil ?_; refine WK.condT ?_; refine WK.seq ?_; refine WK.region ?_)
    refine St.call (fun _ => rfl) (fun h2 hh => sanity_con h2 hh.gd) ?_
    (refine St.assign ?_; refine WO.nil ?_)
    refine St.ret (by first | exact .tmp .nil | exact .cell .nil | exact .cell (.tmp .nil) | exact .tmp (.tmp .nil) | exact .cell (.cell .nil) | exact .tmp (.cell .nil) | exact .nil | exact .tmp (.cell (.tmp .nil)) | exact .cell (.tmp (.tmp .nil)) | exact .cell (.cell (.tmp .nil)) | exact .tmp (.tmp (.tmp .nil)) | exact .cell (.cell (.cell .nil))) ?_
    rfl
  (refine St.load ?_)
  refine St.call (fun _ => rfl) (fun h2 hh => few_con h2 hh.gd lvb cb sb lb ssb (hcb.vw hh) (hsb.vw hh) hlb) ?_
  (refine St.un ?_; refine St.pickF ?_; refine St.move ?_)
  refine St.split (fun h1 => ?_) (fun h1 => ?_)
  · (refine St.skip ?_; refine St.skip ?_; refine St.skip ?_; refine St.pickT ?_; refine WO.nil ?_; refine WK.condT ?_; refine WK.seq ?_; refine WK.region ?_)
    refine St.call (fun _ => rfl) (fun h2 hh => sanity_con h2 hh.gd) ?_
    (refine St.assign ?_; refine WO.nil ?_)
    refine St.ret (by first | exact .tmp .nil | exact .cell .nil | exact .cell (.tmp .nil) | exact .tmp (.tmp .nil) | exact .cell (.cell .nil) | exact .tmp (.cell .nil) | exact .nil | exact .tmp (.cell (.tmp .nil)) | exact .cell (.tmp (.tmp .nil)) | exact .cell (.cell (.tmp .nil)) | exact .tmp (.tmp (.tmp .nil)) | exact .cell (.cell (.cell .nil))) ?_
    rfl
  (refine St.load ?_)
  refine St.call (fun _ => rfl) (fun h2 hh => short_con h2 hh.gd lo hi) ?_
  (refine St.un ?_; refine St.pickF ?_; refine WO.nil ?_)
  refine St.splitC (fun h1 => ?_) (fun h1 => ?_)
  · (refine WK.seq ?_; refine WK.region ?_)
    refine St.call (fun _ => rfl) (fun h2 hh => sanity_con h2 hh.gd) ?_
    (refine St.assign ?_; refine WO.nil ?_)
    refine St.ret (by first | exact .tmp .nil | exact .cell .nil | exact .cell (.tmp .nil) | exact .tmp (.tmp .nil) | exact .cell (.cell .nil) | exact .tmp (.cell .nil) | exact .nil | exact .tmp (.cell (.tmp .nil)) | exact .cell (.tmp (.tmp .nil)) | exact .cell (.cell (.tmp .nil)) | exact .tmp (.tmp (.tmp .nil)) | exact .cell (.cell (.cell .nil))) ?_
    rfl
  (refine WK.skip ?_; refine WK.seq ?_; refine WK.region ?_; refine St.load ?_; refine St.load ?_; refine St.load ?_)
  refine St.call (fun _ => rfl) (fun h2 hh => hP h2 hh) ?_
  (refine St.move ?_; refine St.extract ?_; refine St.extract ?_; refine St.extract ?_; refine St.assign ?_; refine St.assign ?_; refine St.assign ?_; refine WO.nil ?_; refine WK.seq ?_; refine WK.region ?_; refine St.load ?_; refine St.load ?_; refine St.load ?_)
  refine St.call (fun _ => rfl) (fun h2 hh => hQ h2 hh) ?_
  (refine St.move ?_; refine St.extract ?_; refine St.extract ?_; refine St.extract ?_; refine St.assign ?_; refine St.assign ?_; refine St.assign ?_; refine WO.nil ?_; refine WK.seq ?_; refine WK.region ?_)
  refine St.call (fun _ => rfl) (fun h2 hh => sanity_con h2 hh.gd) ?_
  (refine St.move ?_; refine St.move ?_; refine St.move ?_; refine St.bin ?_; refine St.pickT ?_; refine St.move ?_)
  refine St.split (fun _ => ?_) (fun hb => ?_)
  rotate_left
  · simp at hb
  (refine St.move ?_; refine St.move ?_; refine St.bin ?_; refine St.pickT ?_; refine St.move ?_)
  refine St.split (fun _ => ?_) (fun hb => ?_)
  rotate_left
  · simp at hb
  (refine St.move ?_; refine St.move ?_; refine St.bin ?_; refine St.pickT ?_; refine St.assign ?_; refine WO.nil ?_)
  refine St.ret (by first | exact .tmp .nil | exact .cell .nil | exact .cell (.tmp .nil) | exact .tmp (.tmp .nil) | exact .cell (.cell .nil) | exact .tmp (.cell .nil) | exact .nil | exact .tmp (.cell (.tmp .nil)) | exact .cell (.tmp (.tmp .nil)) | exact .cell (.cell (.tmp .nil)) | exact .tmp (.tmp (.tmp .nil)) | exact .cell (.cell (.cell .nil))) ?_
  simp [oneOf]
end Go.Proofs.Ytekpffjcffeanaa
