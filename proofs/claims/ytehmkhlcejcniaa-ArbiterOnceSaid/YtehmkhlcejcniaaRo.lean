/- Layer 9: the law ArbiterOnce. -/
import Derived.Test.YtehmkhlcejcniaaRy
namespace Go.Proofs.Ytehmkhlcejcniaa
open Go.Proofs.Ytehmkhlcejcniaa.Ev

theorem slM_to {h2 : Heap} {j n i : Nat} {cs : List AV} {e : TypeId} (hg : h2.get j = some (.row cs e 3)) (hc : cs.length = n * 3) (hi : i ≤ n) : evSlice Try.prog h2 40 (.slice j 0 n (.m 0)) none (some (.int .i64 (i : Int))) none = some (.slice j 0 i (.m 0)) := by
  have hs : sizeT Try.prog 32 = some 3 := by kernel_rfl
  have hk : knownN h2 j 3 = n := by
    unfold knownN
    simp [hg, hc]
  unfold evSlice
  rw [if_neg (by simp), Try.underlying40]
  simp only [hs, hk, evSliceM, optB, boundIn]
  rw [if_pos (by omega)]
  simp
set_option maxRecDepth 100000 in
set_option maxHeartbeats 32000000 in
theorem onceLaw_con (h : Heap) (g : Gd h) (c : Int) (v : AV) (l : List Le) (hv : LeA h v l) : Con Try.prog Bs 5 [.agg [.int .i64 c], v] h [] (.bool true) [] := by
  have hvV : LeV h v l := hv.eV
  refine Con.start rfl Try.func5 rfl rfl Try.ntmps5 rfl rfl g ?_
  (refine WK.seq ?_; refine WK.region ?_; refine St.box fun _ _ => ?_; refine St.assign ?_; refine WO.nil ?_; refine WK.seq ?_; refine WK.seq ?_; refine WK.region ?_; refine St.move ?_)
  refine St.lenG rfl hvV.llen ?_
  (refine St.bin ?_; refine WO.nil ?_)
  refine St.splitC (fun q => ?_) (fun q => ?_)
  · (refine WK.seq ?_; refine WK.region ?_)
    refine St.call (fun _ => rfl) (fun h2 hh2 => sanity_con h2 hh2.gd) ?_
    (refine St.assign ?_; refine WO.nil ?_)
    refine St.ret (by first | exact .tmp .nil | exact .cell .nil | exact .cell (.tmp .nil) | exact .tmp (.tmp .nil) | exact .cell (.cell .nil) | exact .tmp (.cell .nil) | exact .nil | exact .tmp (.cell (.tmp .nil)) | exact .cell (.tmp (.tmp .nil)) | exact .cell (.cell (.tmp .nil)) | exact .tmp (.tmp (.tmp .nil)) | exact .cell (.cell (.cell .nil))) ?_
    rfl
  have hl : l.length ≤ 60 := by simp at q; omega
  (refine WK.skip ?_; refine WK.seq ?_; refine WK.region ?_; refine St.load ?_; refine St.move ?_)
  refine St.call (fun _ => rfl) (fun h2 hh => lawful_con h2 hh.gd c v l (hv.eV.vw hh)) ?_
  (refine St.move ?_; refine St.extract ?_; refine St.extract ?_; refine St.extract ?_; refine St.assign ?_; refine St.assign ?_; refine St.assign ?_; refine WO.nil ?_; refine WK.seq ?_; refine WK.region ?_; refine St.load ?_; refine St.move ?_)
  refine St.callR (R := rlsR c l) (fun _ => rfl) (fun h2 hh => rulings_con h2 hh.gd c v l (hv.eV.vw hh) (by omega)) (fun u L hR => ?_)
  rcases hR with ⟨hne, rfl⟩ | ⟨he, w, rfl, hw⟩
  · rw [if_pos hne, if_pos hne]
    (refine St.move ?_; refine St.extract ?_; refine St.extract ?_; refine St.assign ?_; refine St.assign ?_; refine WO.nil ?_; refine WK.seq ?_; refine WK.seq ?_; refine WK.region ?_; refine St.move ?_; refine St.bin ?_; refine St.move ?_)
    refine St.split (fun q => ?_) (fun q => ?_)
    rotate_left
    · exact absurd q (by simp [hne])
    (refine St.skip ?_; refine St.skip ?_; refine St.pickT ?_; refine WO.nil ?_; refine WK.condT ?_; refine WK.seq ?_; refine WK.region ?_)
    refine St.call (fun _ => rfl) (fun h2 hh2 => sanity_con h2 hh2.gd) ?_
    (refine St.move ?_; refine St.move ?_; refine St.move ?_; refine St.bin ?_; refine St.pickT ?_; refine St.assign ?_; refine WO.nil ?_)
    refine St.ret (by first | exact .tmp .nil | exact .cell .nil | exact .cell (.tmp .nil) | exact .tmp (.tmp .nil) | exact .cell (.cell .nil) | exact .tmp (.cell .nil) | exact .nil | exact .tmp (.cell (.tmp .nil)) | exact .cell (.tmp (.tmp .nil)) | exact .cell (.cell (.tmp .nil)) | exact .tmp (.tmp (.tmp .nil)) | exact .cell (.cell (.cell .nil))) ?_
    simp [oneOf]
  · rw [if_neg (by simp [he]), if_neg (by simp [he]), he]
    cases hok : decide (fstN (badN c l) l.length 0 < 0)
    · (refine St.move ?_; refine St.extract ?_; refine St.extract ?_; refine St.assign ?_; refine St.assign ?_; refine WO.nil ?_; refine WK.seq ?_; refine WK.seq ?_; refine WK.region ?_; refine St.move ?_; refine St.bin ?_; refine St.move ?_; refine St.move ?_; refine St.un ?_; refine St.pickF ?_; refine WO.nil ?_; refine WK.condT ?_; refine WK.seq ?_; refine WK.region ?_)
      refine St.call (fun _ => rfl) (fun h2 hh2 => sanity_con h2 hh2.gd) ?_
      (refine St.move ?_; refine St.move ?_; refine St.move ?_; refine St.bin ?_; refine St.pickT ?_; refine St.assign ?_; refine WO.nil ?_)
      refine St.ret (by first | exact .tmp .nil | exact .cell .nil | exact .cell (.tmp .nil) | exact .tmp (.tmp .nil) | exact .cell (.cell .nil) | exact .tmp (.cell .nil) | exact .nil | exact .tmp (.cell (.tmp .nil)) | exact .cell (.tmp (.tmp .nil)) | exact .cell (.cell (.tmp .nil)) | exact .tmp (.tmp (.tmp .nil)) | exact .cell (.cell (.cell .nil))) ?_
      simp [oneOf]
    · have hlw := lw_of he (of_decide_eq_true hok)
      have hone : ∀ r ∈ rlsOf c l, ∀ s ∈ rlsOf c l, r.1 = s.1 → r.2.2 = s.2.2 := fun r hr s hs e => by
        obtain ⟨S1, k1⟩ := rls_ruled (fun x hx => (frm_fr he x hx).1) hr
        obtain ⟨S2, k2⟩ := rls_ruled (fun x hx => (frm_fr he x hx).1) hs
        rw [← e] at k2
        exact hlw.once k1 k2
      have hrs : (rlsOf c l).length ≤ 60 := by
        have h1 := (srtT_perm (ofT c (tlN l l.length))).length_eq
        have h2 : (ofT c (tlN l l.length)).length ≤ (tlN l l.length).length := by unfold ofT; rw [List.length_map]; exact List.length_filter_le _ _
        have h3 := tlN_len (l := l) l.length
        unfold rlsOf
        omega
      generalize rlsOf c l = rs at hw hone hrs
      (refine St.move ?_; refine St.extract ?_; refine St.extract ?_; refine St.assign ?_; refine St.assign ?_; refine WO.nil ?_; refine WK.seq ?_; refine WK.seq ?_; refine WK.region ?_; refine St.move ?_; refine St.bin ?_; refine St.move ?_; refine St.move ?_; refine St.un ?_; refine St.pickF ?_; refine WO.nil ?_; refine WK.condF ?_; refine WK.skip ?_; refine WK.seq ?_; refine WK.seq ?_; refine WK.region ?_; refine St.move ?_)
      refine St.lenG rfl (hw.isL.lenG (q := 32) (by kernel_rfl)) ?_
      (refine St.move ?_; refine WO.nil ?_; refine WK.block ?_)
      refine WK.inv (ι := Nat) (fun i => [(8, w), (9, .int .i64 0), (43, w), (44, .int .i64 rs.length), (45, .int .i64 i)]) (fun _ => L) (fun i => i ≤ rs.length) (fun i => rs.length - i) 0 (Nat.zero_le _) ⟨rfl, rfl, rfl, rfl, rfl, trivial⟩ (by exact List.sublist_append_left _ _) ?_
      intro i hil ih
      (refine WK.seq ?_; refine WK.region ?_; refine St.bin ?_; refine WO.nil ?_; refine WK.seq ?_)
      refine St.splitC (fun q => ?_) (fun q => ?_)
      rotate_left
      · have e : i = rs.length := by simp at q; omega
        subst e
        (refine WK.exit ?_; refine WK.seq ?_; refine WK.region ?_)
        refine St.call (fun _ => rfl) (fun h2 hh2 => sanity_con h2 hh2.gd) ?_
        (refine St.move ?_; refine St.move ?_; refine St.bin ?_; refine St.pickT ?_; refine St.assign ?_; refine WO.nil ?_)
        refine St.ret (by first | exact .tmp .nil | exact .cell .nil | exact .cell (.tmp .nil) | exact .tmp (.tmp .nil) | exact .cell (.cell .nil) | exact .tmp (.cell .nil) | exact .nil | exact .tmp (.cell (.tmp .nil)) | exact .cell (.tmp (.tmp .nil)) | exact .cell (.cell (.tmp .nil)) | exact .tmp (.tmp (.tmp .nil)) | exact .cell (.cell (.cell .nil))) ?_
        simp [oneOf]
      have hlt : i < rs.length := by simp at q; omega
      cases hw with
      | nil h1 _ => omega
      | row j h1 =>
      have hk : ∀ {V : Ob} {h2 : Heap}, Vw h [] V h2 → (j, AObj.row (enF rlC rs) 32 3) ∈ V → EH rlC 3 h2 j 0 rs := fun hh hm => by
        rcases en_v (enc := rlC) (fun _ => rfl) (IsL.row j h1) rfl hh (fun x hx => by rw [List.mem_singleton.1 hx]; exact hm) with ⟨h3 | h3, _⟩ | ⟨b, off, c2, e, k⟩
        · cases h3
        · cases h3
        · cases e
          exact k
      (refine WK.skip ?_; refine WK.seq ?_; refine WK.block ?_; refine WK.seq ?_; refine WK.region ?_; refine St.move ?_)
      refine St.at ?_
      refine St.loadX (fun h2 hh => ((hk hh (by simp)).at_ (z := (i : Int)) (n := i) (by omega) hlt).agg (by simp [rlC]) rfl rfl rfl) ?_
      (refine St.alloc fun _ _ => ?_; refine St.assign ?_; refine St.store0 ?_; refine WO.nil ?_; refine WK.seq ?_; refine WK.region ?_; refine St.move ?_; refine St.move ?_)
      rename_i p11 hp11
      refine St.sliceG (v := .slice j 0 i (.m 0)) (fun h2 hh => ?_) ?_
      · show plainV (evSlice Try.prog h2 40 (.slice j 0 rs.length (.m 0)) none (some (.int .i64 (i : Int))) none) h2 = _
        rw [slM_to (hh.getO (j := j) (o := .row (enF rlC rs) 32 3) (by simp)) h1 (by omega)]
        rfl
      (refine St.len ?_; refine St.move ?_; refine WO.nil ?_; refine WK.block ?_)
      refine WK.inv (ι := Nat) (fun k => [(8, .slice j 0 rs.length (.m 0)), (9, .int .i64 0), (43, .slice j 0 rs.length (.m 0)), (44, .int .i64 rs.length), (45, .int .i64 i), (11, .ptr p11 0), (52, .slice j 0 i (.m 0)), (53, .int .i64 i), (54, .int .i64 k)]) (fun _ => [(p11, .cells (rlC (nthE rs i)) 32), (j, .row (enF rlC rs) 32 3)]) (fun k => k ≤ i) (fun k => i - k) 0 (Nat.zero_le _) ⟨rfl, rfl, rfl, rfl, rfl, rfl, rfl, rfl, rfl, trivial⟩ (by exact List.Sublist.refl _) ?_
      intro k hki ih2
      (refine WK.seq ?_; refine WK.region ?_; refine St.bin ?_; refine WO.nil ?_; refine WK.seq ?_)
      refine St.splitC (fun q2 => ?_) (fun q2 => ?_)
      rotate_left
      · have e : k = i := by simp at q2; omega
        subst e
        (refine WK.exit ?_; refine WK.blk ?_; refine WK.region ?_; refine St.binI ?_; refine St.move ?_; refine WO.nil ?_)
        refine WK.le ?_ (by (repeat (first | exact List.Sublist.refl _ | exact List.nil_sublist _ | apply List.Sublist.cons_cons | apply List.Sublist.cons))) (ih (k + 1) hlt (by omega))
        exact ⟨rfl, rfl, rfl, rfl, rfl, trivial⟩
      have hlk : k < i := by simp at q2; omega
      (refine WK.skip ?_; refine WK.seq ?_; refine WK.block ?_; refine WK.seq ?_; refine WK.region ?_)
      refine St.at ?_
      refine St.loadX (fun h2 hh => ((hk hh (by simp)).at_ (z := (k : Int)) (n := k) (by omega) (by omega)).agg (by simp [rlC]) rfl rfl rfl) ?_
      (refine St.alloc fun _ _ => ?_; refine St.store0 ?_; refine WO.nil ?_; refine WK.seq ?_; refine WK.region ?_; refine St.fieldAddr ?_; refine St.load ?_; refine St.fieldAddr ?_; refine St.load ?_; refine St.bin ?_; refine St.move ?_)
      have hmi := nthE_mem hlt
      have hmk := nthE_mem (l := rs) (i := k) (by omega)
      have hon := hone _ hmi _ hmk
      refine St.split (fun q3 => ?_) (fun q3 => ?_)
      · have e1 : (nthE rs i).1 = (nthE rs k).1 := by simpa using q3
        have e2 := hon e1
        (refine St.fieldAddr ?_; refine St.load ?_; refine St.fieldAddr ?_; refine St.load ?_; refine St.bin ?_; refine St.pickT ?_; refine WO.nil ?_)
        refine St.splitC (fun q4 => ?_) (fun q4 => ?_)
        · exact absurd e2 (by simpa using q4)
        (refine WK.skip ?_; refine WK.blk ?_; refine WK.region ?_; refine St.binI ?_; refine St.move ?_; refine WO.nil ?_)
        refine WK.le ?_ (by (repeat (first | exact List.Sublist.refl _ | exact List.nil_sublist _ | apply List.Sublist.cons_cons | apply List.Sublist.cons))) (ih2 (k + 1) hlk (by omega))
        exact ⟨rfl, rfl, rfl, rfl, rfl, rfl, rfl, rfl, rfl, trivial⟩
      · (refine St.skip ?_; refine St.skip ?_; refine St.skip ?_; refine St.skip ?_; refine St.skip ?_; refine St.pickF ?_; refine WO.nil ?_; refine WK.condF ?_; refine WK.skip ?_; refine WK.blk ?_; refine WK.region ?_; refine St.binI ?_; refine St.move ?_; refine WO.nil ?_)
        refine WK.le ?_ (by (repeat (first | exact List.Sublist.refl _ | exact List.nil_sublist _ | apply List.Sublist.cons_cons | apply List.Sublist.cons))) (ih2 (k + 1) hlk (by omega))
        exact ⟨rfl, rfl, rfl, rfl, rfl, rfl, rfl, rfl, rfl, trivial⟩
end Go.Proofs.Ytehmkhlcejcniaa
