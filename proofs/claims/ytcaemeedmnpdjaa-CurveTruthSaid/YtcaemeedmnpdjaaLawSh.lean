/- The law CurveSheaves over the calculator's memory. -/
import Derived.Test.YtcaemeedmnpdjaaOpl
import Derived.Test.YtcaemeedmnpdjaaSr
namespace Go.Proofs.Ytcaemeedmnpdjaa
open Go.RowKit Go.Proofs.Ytcaemeedmnpdjaa.Ev

def fewL (l : List Cv) : Bool := l.all fun c => decide (c.ks.length ≤ 60)
theorem fewL_drop {l : List Cv} {k : Nat} (h : k < l.length) : fewL (l.drop k) = (decide (l[k].ks.length ≤ 60) && fewL (l.drop (k + 1))) := by
  rw [List.drop_eq_getElem_cons h]
  rfl
set_option maxRecDepth 100000 in
set_option maxHeartbeats 4000000 in
theorem sheafB_con (h : Heap) (g : Gd h) (lv : AV) (l : List Cv) (hl : l.length ≤ 9223372036854775807) (hk : CwV h lv l) : Con Try.prog Bs 45 [lv] h [] (.bool (fewL l && decide (l.length ≤ 20))) [] := by
  rcases hk with ⟨rfl, rfl⟩ | ⟨b, off, c, rfl, hk⟩
  · refine Con.start rfl Try.func45 rfl rfl Try.ntmps45 rfl rfl g ?_
    (refine WK.seq ?_; refine WK.region ?_; refine St.assign ?_; refine WO.nil ?_; refine WK.seq ?_; refine WK.seq ?_; refine WK.region ?_; refine St.assign ?_; refine WO.nil ?_; refine WK.block ?_)
    refine WK.unroll ?_
    (refine WK.seq ?_; refine WK.seq ?_; refine WK.region ?_; refine St.move ?_; refine St.move ?_; refine St.len0 ?_; refine St.bin ?_; refine WO.nil ?_; refine WK.condF ?_; refine WK.exit ?_; refine WK.seq ?_; refine WK.region ?_; refine St.move ?_; refine St.len0 ?_; refine St.bin ?_; refine St.assign ?_; refine WO.nil ?_)
    refine St.ret (by first | exact .tmp .nil | exact .cell .nil | exact .cell (.tmp .nil) | exact .tmp (.tmp .nil) | exact .cell (.cell .nil) | exact .tmp (.cell .nil) | exact .nil | exact .tmp (.cell (.tmp .nil)) | exact .cell (.tmp (.tmp .nil)) | exact .cell (.cell (.tmp .nil)) | exact .tmp (.tmp (.tmp .nil)) | exact .cell (.cell (.cell .nil))) ?_
    rfl
  refine Con.start rfl Try.func45 rfl rfl Try.ntmps45 rfl rfl g ?_
  (refine WK.seq ?_; refine WK.region ?_; refine St.assign ?_; refine WO.nil ?_; refine WK.seq ?_; refine WK.seq ?_; refine WK.region ?_; refine St.assign ?_; refine WO.nil ?_; refine WK.block ?_)
  refine WK.inv (ι := Nat) (fun k => [(0, .slice b off l.length c), (3, .int .i64 k)]) (fun _ => []) (fun k => k ≤ l.length ∧ fewL l = fewL (l.drop k)) (fun k => l.length - k) 0 ⟨by omega, rfl⟩ ⟨rfl, rfl, trivial⟩ (by (repeat (first | exact List.Sublist.refl _ | exact List.nil_sublist _ | apply List.Sublist.cons_cons | apply List.Sublist.cons))) ?_
  intro k ⟨hkl, he⟩ ih
  (refine WK.seq ?_; refine WK.seq ?_; refine WK.region ?_; refine St.move ?_; refine St.move ?_; refine St.len ?_; refine St.bin ?_; refine WO.nil ?_)
  refine St.splitC (fun hc => ?_) (fun hc => ?_)
  · have hlt : k < l.length := by simp at hc; omega
    have hd := fewL_drop hlt
    (refine WK.skip ?_; refine WK.seq ?_; refine WK.block ?_; refine WK.seq ?_; refine WK.region ?_; refine St.move ?_; refine St.move ?_)
    refine St.at ?_
    skip
    refine St.loadX (fun h hh => ((hk.vw hh).at_ (z := (k : Int)) (n := k) (by omega) hlt).agg (by simp) rfl rfl rfl) ?_
    skip
    refine St.call (v := .bool (decide ((l[k]'hlt).ks.length ≤ 60))) (fun _ => rfl) (fun h hh => fewB_con h hh.gd (l[k]'hlt).kv (l[k]'hlt).ks (l[k]'hlt).err ((hk.vw hh) k hlt).2) ?_
    (refine St.un ?_; refine WO.nil ?_)
    refine St.splitC (fun hc2 => ?_) (fun hc2 => ?_)
    · (refine WK.seq ?_; refine WK.region ?_; refine St.assign ?_; refine WO.nil ?_)
      refine St.ret (by first | exact .tmp .nil | exact .cell .nil | exact .cell (.tmp .nil) | exact .tmp (.tmp .nil) | exact .cell (.cell .nil) | exact .tmp (.cell .nil) | exact .nil | exact .tmp (.cell (.tmp .nil)) | exact .cell (.tmp (.tmp .nil)) | exact .cell (.cell (.tmp .nil)) | exact .tmp (.tmp (.tmp .nil)) | exact .cell (.cell (.cell .nil))) ?_
      have hne : decide ((l[k]'hlt).ks.length ≤ 60) = false := by simpa using hc2
      rw [he, hd, hne]
      rfl
    · have h0 : decide ((l[k]'hlt).ks.length ≤ 60) = true := by simpa using hc2
      (refine WK.skip ?_; refine WK.blk ?_; refine WK.region ?_; refine St.move ?_; refine St.binI ?_; refine St.assign ?_; refine WO.nil ?_)
      refine WK.le ?_ (by (repeat (first | exact List.Sublist.refl _ | exact List.nil_sublist _ | apply List.Sublist.cons_cons | apply List.Sublist.cons))) (ih (k + 1) ⟨hlt, ?_⟩ (by omega))
      · exact ⟨rfl, rfl, trivial⟩
      · rw [he, hd, h0, Bool.true_and]
  · have : k = l.length := by simp at hc; omega
    subst this
    rw [List.drop_eq_nil_of_le (by simp)] at he
    rw [he]
    (refine WK.exit ?_; refine WK.seq ?_; refine WK.region ?_; refine St.move ?_; refine St.len ?_; refine St.bin ?_; refine St.assign ?_; refine WO.nil ?_)
    refine St.ret (by first | exact .tmp .nil | exact .cell .nil | exact .cell (.tmp .nil) | exact .tmp (.tmp .nil) | exact .cell (.cell .nil) | exact .tmp (.cell .nil) | exact .nil | exact .tmp (.cell (.tmp .nil)) | exact .cell (.tmp (.tmp .nil)) | exact .cell (.cell (.tmp .nil)) | exact .tmp (.tmp (.tmp .nil)) | exact .cell (.cell (.cell .nil))) ?_
    simp [oneOf, fewL]; omega
theorem CwV.cv {h : Heap} {lv l} (k : CwV h lv l) (hf : fewL l = true) : CvV h lv l := by
  rcases k with h1 | ⟨b, off, c, h1, h2⟩
  · exact .inl h1
  · refine .inr ⟨b, off, c, h1, fun i hi => ⟨(h2 i hi).1, (h2 i hi).2, ?_⟩⟩
    unfold fewL at hf
    rw [List.all_eq_true] at hf
    have := hf _ (List.getElem_mem hi)
    simp at this
    omega
set_option maxRecDepth 100000 in
set_option maxHeartbeats 4000000 in
theorem sheaves_con (h : Heap) (g : Gd h) (lv : AV) (l : List Cv) (x : Int) (hl : l.length ≤ 9223372036854775807) (hk : CwV h lv l) : Con Try.prog Bs 9 [lv, .int .i64 x] h [] (.bool true) [] := by
  refine Con.start rfl Try.func9 rfl rfl Try.ntmps9 rfl rfl g ?_
  (refine WK.seq ?_; refine WK.region ?_; refine St.assign ?_; refine WO.nil ?_; refine WK.seq ?_; refine WK.region ?_)
  refine St.call (fun _ => rfl) (fun h hh => headB_con h hh.gd) ?_
  (refine St.assign ?_; refine WO.nil ?_; refine WK.seq ?_; refine WK.seq ?_; refine WK.region ?_; refine St.move ?_)
  refine St.call (fun _ => rfl) (fun h hh => sheafB_con h hh.gd lv l hl (hk.vw hh)) ?_
  (refine St.un ?_; refine WO.nil ?_)
  refine St.splitC (fun hc => ?_) (fun hc => ?_)
  · (refine WK.seq ?_; refine WK.region ?_; refine St.move ?_; refine St.assign ?_; refine WO.nil ?_)
    refine St.ret (by first | exact .tmp .nil | exact .cell .nil | exact .cell (.tmp .nil) | exact .tmp (.tmp .nil) | exact .cell (.cell .nil) | exact .tmp (.cell .nil) | exact .nil | exact .tmp (.cell (.tmp .nil)) | exact .cell (.tmp (.tmp .nil)) | exact .cell (.cell (.tmp .nil)) | exact .tmp (.tmp (.tmp .nil)) | exact .cell (.cell (.cell .nil))) ?_
    rfl
  obtain ⟨h1, h2⟩ : fewL l = true ∧ l.length ≤ 20 := by simpa using hc
  have hk' := hk.cv h1
  (refine WK.skip ?_; refine WK.seq ?_; refine WK.region ?_; refine St.move ?_; refine St.move ?_)
  refine St.call (fun _ => rfl) (fun h hh => bothP_con h hh.gd lv l x (by omega) (hk'.vw hh)) ?_
  (refine St.move ?_; refine St.extract ?_; refine St.extract ?_; refine St.alloc fun _ _ => ?_; refine St.store0 ?_; refine St.assign ?_; refine WO.nil ?_; refine WK.seq ?_; refine WK.region ?_; refine St.move ?_; refine St.move ?_)
  refine St.call (fun _ => rfl) (fun h hh => bothRef_con h hh.gd lv l x (by omega) (hk'.vw hh)) ?_
  (refine St.move ?_; refine St.extract ?_; refine St.extract ?_; refine St.alloc fun _ _ => ?_; refine St.store0 ?_; refine St.assign ?_; refine WO.nil ?_; refine WK.seq ?_; refine WK.region ?_; refine St.move ?_; refine St.move ?_)
  refine St.call (fun _ => rfl) (fun h hh => leastP_con h hh.gd lv l x (by omega) (hk'.vw hh)) ?_
  (refine St.move ?_; refine St.extract ?_; refine St.extract ?_; refine St.extract ?_; refine St.alloc fun _ _ => ?_; refine St.assign ?_; refine St.store0 ?_; refine St.assign ?_; refine WO.nil ?_; refine WK.seq ?_; refine WK.region ?_; refine St.move ?_; refine St.move ?_)
  refine St.call (fun _ => rfl) (fun h hh => leastRef_con h hh.gd lv l x (by omega) (hk'.vw hh)) ?_
  (refine St.alloc fun _ _ => ?_; refine St.store0 ?_; refine WO.nil ?_; refine WK.seq ?_; refine WK.region ?_; refine St.move ?_; refine St.move ?_; refine St.load ?_; refine St.load ?_)
  refine St.binX (r := .bool true) (by simp [evBin, evEq, guardOk, eqT, eqFs, partE, isAggT, szF, takeN, dropN, nthN]) rfl rfl ?_
  (refine St.pickT ?_; refine St.move ?_; refine St.move ?_; refine St.move ?_; refine St.bin ?_; refine St.pickT ?_; refine St.move ?_)
  refine St.split (fun _ => ?_) (fun hb => ?_)
  rotate_left
  · simp at hb
  (refine St.move ?_; refine St.fieldAddr ?_; refine St.load ?_; refine St.bin ?_; refine St.pickT ?_; refine St.move ?_)
  refine St.split (fun _ => ?_) (fun hb => ?_)
  rotate_left
  · simp at hb
  (refine St.load ?_; refine St.fieldAddr ?_; refine St.load ?_)
  refine St.split (fun _ => ?_) (fun hb => ?_)
  rotate_left
  · simp at hb
  skip
  refine St.binX (r := .bool true) (by simp [evBin, evEq, guardOk, eqT, eqFs, partE, isAggT, szF, takeN, dropN, nthN]) rfl rfl ?_
  (refine St.pickT ?_; refine St.move ?_; refine St.move ?_; refine St.fieldAddr ?_; refine St.load ?_; refine St.bin ?_; refine St.pickT ?_; refine St.assign ?_; refine WO.nil ?_)
  refine St.ret (by first | exact .tmp .nil | exact .cell .nil | exact .cell (.tmp .nil) | exact .tmp (.tmp .nil) | exact .cell (.cell .nil) | exact .tmp (.cell .nil) | exact .nil | exact .tmp (.cell (.tmp .nil)) | exact .cell (.tmp (.tmp .nil)) | exact .cell (.cell (.tmp .nil)) | exact .tmp (.tmp (.tmp .nil)) | exact .cell (.cell (.cell .nil))) ?_
  simp [oneOf]
/-- the law, said of the model -/
theorem sheaves_of (w : World) (A : Option Addr) (c : Nat) (l : List Cv) (x : Int) (hA : SlOk w A l.length c) (hl : l.length ≤ 9223372036854775807) (hk : l ≠ [] → ∃ b off, A = some ⟨b, off, none⟩ ∧ b < w.heap.size ∧ CwH (absH w) b off l) :
    Calls Try.prog 9 #[.slice A l.length c, .int .i64 x] w fun e w' => e = .returned (.bool true) ∧ RowKit.Below w.heap.size w w' := by
  obtain ⟨lv, h1, h2⟩ := cv_abs hA hk
  refine (Con.calls (by kernel_rfl) Bs_sound (sheaves_con _ (absH_good w) lv l x hl h1) (vrs2 h2 vr_int)).mono ?_
  rintro e w' ⟨U, E, rfl, hU, hb⟩
  simp only [VR] at hU
  exact ⟨by rw [hU], hb⟩
end Go.Proofs.Ytcaemeedmnpdjaa
