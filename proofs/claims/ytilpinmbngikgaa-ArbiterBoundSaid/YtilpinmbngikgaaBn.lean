/- Layer 9: the law ArbiterBound. -/
import Derived.Test.YtilpinmbngikgaaCa
import Derived.Test.YtilpinmbngikgaaRo
namespace Go.Proofs.Ytilpinmbngikgaa
open Go.Proofs.Ytilpinmbngikgaa.Ev

set_option maxRecDepth 100000 in
set_option maxHeartbeats 32000000 in
theorem boundLaw_con (h : Heap) (g : Gd h) (c : Int) (v : AV) (l : List Le) (hv : LeA h v l) : Con Try.prog Bs 6 [.agg [.int .i64 c], v] h [] (.bool true) [] := by
  have hvV : LeV h v l := hv.eV
  refine Con.start rfl Try.func6 rfl rfl Try.ntmps6 rfl rfl g ?_
  (refine WK.seq ?_; refine WK.region ?_; refine St.box fun _ _ => ?_; refine St.assign ?_; refine WO.nil ?_; refine WK.seq ?_; refine WK.seq ?_; refine WK.region ?_; refine St.move ?_)
  rename_i p2 hp2
  refine St.lenG rfl hvV.llen ?_
  (refine St.bin ?_; refine WO.nil ?_)
  refine St.splitC (fun q => ?_) (fun q => ?_)
  · (refine WK.seq ?_; refine WK.region ?_)
    refine St.call (fun _ => rfl) (fun h2 hh2 => sanity_con h2 hh2.gd) ?_
    (refine St.assign ?_; refine WO.nil ?_)
    refine St.ret (by first | exact .tmp .nil | exact .cell .nil | exact .cell (.tmp .nil) | exact .tmp (.tmp .nil) | exact .cell (.cell .nil) | exact .tmp (.cell .nil) | exact .nil | exact .tmp (.cell (.tmp .nil)) | exact .cell (.tmp (.tmp .nil)) | exact .cell (.cell (.tmp .nil)) | exact .tmp (.tmp (.tmp .nil)) | exact .tmp (.tmp (.tmp (.tmp .nil))) | exact .cell (.cell (.cell .nil))) ?_
    rfl
  have hl : l.length ≤ 40 := by simp at q; omega
  (refine WK.skip ?_; refine WK.seq ?_; refine WK.region ?_; refine St.load ?_; refine St.move ?_)
  refine St.call (fun _ => rfl) (fun h2 hh => lawful_con h2 hh.gd c v l (hv.eV.vw hh)) ?_
  by_cases he : errL c l = 0
  rotate_left
  · rw [if_pos he, if_pos he]
    (refine St.move ?_; refine St.extract ?_; refine St.extract ?_; refine St.extract ?_; refine St.assign ?_; refine St.assign ?_; refine St.assign ?_; refine WO.nil ?_; refine WK.seq ?_; refine WK.seq ?_; refine WK.region ?_; refine St.move ?_; refine St.bin ?_; refine St.move ?_)
    refine St.split (fun q => ?_) (fun q => ?_)
    rotate_left
    · exact absurd q (by simp [he])
    (refine St.skip ?_; refine St.skip ?_; refine St.pickT ?_; refine WO.nil ?_; refine WK.condT ?_; refine WK.seq ?_; refine WK.region ?_)
    refine St.call (fun _ => rfl) (fun h2 hh2 => sanity_con h2 hh2.gd) ?_
    (refine St.assign ?_; refine WO.nil ?_)
    refine St.ret (by first | exact .tmp .nil | exact .cell .nil | exact .cell (.tmp .nil) | exact .tmp (.tmp .nil) | exact .cell (.cell .nil) | exact .tmp (.cell .nil) | exact .nil | exact .tmp (.cell (.tmp .nil)) | exact .cell (.tmp (.tmp .nil)) | exact .cell (.cell (.tmp .nil)) | exact .tmp (.tmp (.tmp .nil)) | exact .tmp (.tmp (.tmp (.tmp .nil))) | exact .cell (.cell (.cell .nil))) ?_
    rfl
  rw [if_neg (by simp [he]), if_neg (by simp [he]), he]
  cases hok : decide (fstN (badN c l) l.length 0 < 0)
  · (refine St.move ?_; refine St.extract ?_; refine St.extract ?_; refine St.extract ?_; refine St.assign ?_; refine St.assign ?_; refine St.assign ?_; refine WO.nil ?_; refine WK.seq ?_; refine WK.seq ?_; refine WK.region ?_; refine St.move ?_; refine St.bin ?_; refine St.move ?_; refine St.move ?_; refine St.un ?_; refine St.pickF ?_; refine WO.nil ?_; refine WK.condT ?_; refine WK.seq ?_; refine WK.region ?_)
    refine St.call (fun _ => rfl) (fun h2 hh2 => sanity_con h2 hh2.gd) ?_
    (refine St.assign ?_; refine WO.nil ?_)
    refine St.ret (by first | exact .tmp .nil | exact .cell .nil | exact .cell (.tmp .nil) | exact .tmp (.tmp .nil) | exact .cell (.cell .nil) | exact .tmp (.cell .nil) | exact .nil | exact .tmp (.cell (.tmp .nil)) | exact .cell (.tmp (.tmp .nil)) | exact .cell (.cell (.tmp .nil)) | exact .tmp (.tmp (.tmp .nil)) | exact .tmp (.tmp (.tmp (.tmp .nil))) | exact .cell (.cell (.cell .nil))) ?_
    rfl
  have hlw := lw_of he (of_decide_eq_true hok)
  have hcase := frm_case he
  have hE : ∀ x ∈ l, ∀ r : Int, 1 ≤ r → r ≤ x.rd → canE c l x.cs r = 0 := fun x hx r h1 h2 => by
    have h3 := hcase x hx
    simp only [Bool.and_eq_true] at h3
    have h4 := inB_yes h3.2
    unfold canE
    rw [if_neg (by simp [he]), if_pos]
    simp only [Bool.and_eq_true]
    refine ⟨h3.1, ?_⟩
    unfold rdB inB
    simp
    omega
  have hrd : ∀ x ∈ l, 1 ≤ x.rd ∧ x.rd ≤ 1048576 := fun x hx => by
    have h3 := hcase x hx
    simp only [Bool.and_eq_true] at h3
    exact inB_yes h3.2
  (refine St.move ?_; refine St.extract ?_; refine St.extract ?_; refine St.extract ?_; refine St.assign ?_; refine St.assign ?_; refine St.assign ?_; refine WO.nil ?_; refine WK.seq ?_; refine WK.seq ?_; refine WK.region ?_; refine St.move ?_; refine St.bin ?_; refine St.move ?_; refine St.move ?_; refine St.un ?_; refine St.pickF ?_; refine WO.nil ?_; refine WK.condF ?_; refine WK.skip ?_; refine WK.seq ?_; refine WK.seq ?_; refine WK.region ?_; refine St.move ?_)
  refine St.lenG rfl hvV.llen ?_
  (refine St.move ?_; refine WO.nil ?_; refine WK.block ?_)
  refine WK.inv (ι := Nat) (fun i => [(1, v), (2, .ptr p2 0), (41, v), (42, .int .i64 l.length), (43, .int .i64 i)]) (fun _ => [(p2, .cells [.int .i64 c] 23)]) (fun i => i ≤ l.length) (fun i => l.length - i) 0 (Nat.zero_le _) ⟨rfl, rfl, rfl, rfl, rfl, trivial⟩ (by (repeat (first | exact List.Sublist.refl _ | exact List.nil_sublist _ | apply List.Sublist.cons_cons | apply List.Sublist.cons))) ?_
  intro i hil ih
  (refine WK.seq ?_; refine WK.region ?_; refine St.bin ?_; refine WO.nil ?_; refine WK.seq ?_)
  refine St.splitC (fun q => ?_) (fun q => ?_)
  · have hlt : i < l.length := by simp at q; omega
    have hv' := hvV
    obtain ⟨b, off, m, rfl, hk⟩ := hv'.ne (by omega)
    have hx := nthE_mem hlt
    have hxr := hrd _ hx
    have hxE := hE _ hx
    (refine WK.skip ?_; refine WK.seq ?_; refine WK.block ?_; refine WK.seq ?_; refine WK.region ?_)
    refine St.at ?_
    refine St.loadX (fun h2 hh => ((hk.vw hh).at_ (z := (i : Int)) (n := i) (by omega) hlt).agg (by simp [leC]) rfl rfl rfl) ?_
    (refine St.alloc fun _ _ => ?_; refine St.store0 ?_; refine WO.nil ?_; refine WK.seq ?_; refine WK.seq ?_; refine WK.region ?_; refine St.fieldAddr ?_; refine St.load ?_; refine St.bin ?_; refine WO.nil ?_)
    rename_i p9 hp9
    refine St.splitC (fun q1 => ?_) (fun q1 => ?_)
    · (refine WK.exit ?_; refine WK.region ?_; refine St.binI ?_; refine St.move ?_; refine WO.nil ?_)
      refine WK.le ?_ (by (repeat (first | exact List.Sublist.refl _ | exact List.nil_sublist _ | apply List.Sublist.cons_cons | apply List.Sublist.cons))) (ih (i + 1) hlt (by omega))
      exact ⟨rfl, rfl, rfl, rfl, rfl, trivial⟩
    have hk3 : (nthE l i).kd = 3 := by simpa using q1
    (refine WK.skip ?_; refine WK.seq ?_; refine WK.region ?_; refine St.fieldAddr ?_; refine St.load ?_; refine St.binI ?_; refine St.maxI ?_; refine St.assign ?_; refine WO.nil ?_; refine WK.block ?_)
    refine WK.inv (ι := Int) (fun r => [(1, .slice b off l.length m), (2, .ptr p2 0), (41, .slice b off l.length m), (42, .int .i64 l.length), (43, .int .i64 i), (9, .ptr p9 0), (10, .int .i64 r)]) (fun _ => [(p9, .cells (leC (nthE l i)) 38), (p2, .cells [.int .i64 c] 23)]) (fun r => 1 ≤ r ∧ r ≤ (nthE l i).rd) (fun r => ((nthE l i).rd - r).toNat) (max 1 ((nthE l i).rd - 60)) (by omega) ⟨rfl, rfl, rfl, rfl, rfl, rfl, rfl, trivial⟩ (by (repeat (first | exact List.Sublist.refl _ | exact List.nil_sublist _ | apply List.Sublist.cons_cons | apply List.Sublist.cons))) ?_
    rintro r ⟨hr1, hr2⟩ ih2
    have hxr := hrd _ hx
    (refine WK.seq ?_; refine WK.seq ?_; refine WK.region ?_; refine St.move ?_; refine St.fieldAddr ?_; refine St.load ?_; refine St.bin ?_; refine WO.nil ?_)
    refine St.splitC (fun q2 => ?_) (fun q2 => ?_)
    · have hrlt : r < (nthE l i).rd := by simpa using q2
      obtain ⟨hA, hF⟩ := can_below hlw hx hk3 (by omega : 0 < r) hrlt
      have he0 := hxE r hr1 hr2
      (refine WK.skip ?_; refine WK.seq ?_; refine WK.block ?_; refine WK.seq ?_; refine WK.region ?_; refine St.load ?_; refine St.move ?_; refine St.fieldAddr ?_; refine St.load ?_; refine St.move ?_)
      refine St.call (v := .tup [.int .i64 (canF c l (nthE l i).cs r), .bool (canO c l (nthE l i).cs r), .bool false, .int .i64 0]) (fun _ => rfl) (fun h2 hh => by
        have := can_con h2 hh.gd c (.slice b off l.length m) l (nthE l i).cs r (hvV.vw hh) (by omega)
        rwa [hA, he0] at this) ?_
      cases hO : canO c l (nthE l i).cs r
      · (refine St.move ?_; refine St.extract ?_; refine St.extract ?_; refine St.extract ?_; refine St.extract ?_; refine St.assign ?_; refine St.assign ?_; refine St.assign ?_; refine St.assign ?_; refine WO.nil ?_; refine WK.seq ?_; refine WK.region ?_; refine St.move ?_; refine St.bin ?_; refine St.move ?_; refine St.move ?_; refine St.pickF ?_; refine St.move ?_; refine St.move ?_; refine St.move ?_; refine St.skip ?_; refine St.skip ?_; refine St.skip ?_; refine St.skip ?_; refine St.pickF ?_; refine St.pickF ?_; refine WO.nil ?_; refine WK.condF ?_; refine WK.skip ?_; refine WK.blk ?_; refine WK.region ?_; refine St.move ?_; refine St.binI ?_; refine St.assign ?_; refine WO.nil ?_)
        refine WK.le ?_ (by (repeat (first | exact List.Sublist.refl _ | exact List.nil_sublist _ | apply List.Sublist.cons_cons | apply List.Sublist.cons))) (ih2 (r + 1) (by omega) (by omega))
        exact ⟨rfl, rfl, rfl, rfl, rfl, rfl, rfl, trivial⟩
      · have hF' := hF hO
        (refine St.move ?_; refine St.extract ?_; refine St.extract ?_; refine St.extract ?_; refine St.extract ?_; refine St.assign ?_; refine St.assign ?_; refine St.assign ?_; refine St.assign ?_; refine WO.nil ?_; refine WK.seq ?_; refine WK.region ?_; refine St.move ?_; refine St.bin ?_; refine St.move ?_; refine St.move ?_; refine St.pickF ?_; refine St.move ?_; refine St.move ?_; refine St.move ?_; refine St.move ?_; refine St.fieldAddr ?_; refine St.load ?_; refine St.bin ?_; refine St.pickT ?_; refine St.pickF ?_; refine WO.nil ?_)
        refine St.splitC (fun q3 => ?_) (fun q3 => ?_)
        · exact absurd hF' (by simpa using q3)
        (refine WK.skip ?_; refine WK.blk ?_; refine WK.region ?_; refine St.move ?_; refine St.binI ?_; refine St.assign ?_; refine WO.nil ?_)
        refine WK.le ?_ (by (repeat (first | exact List.Sublist.refl _ | exact List.nil_sublist _ | apply List.Sublist.cons_cons | apply List.Sublist.cons))) (ih2 (r + 1) (by omega) (by omega))
        exact ⟨rfl, rfl, rfl, rfl, rfl, rfl, rfl, trivial⟩
    · (refine WK.exit ?_; refine WK.blk ?_; refine WK.region ?_; refine St.binI ?_; refine St.move ?_; refine WO.nil ?_)
      refine WK.le ?_ (by (repeat (first | exact List.Sublist.refl _ | exact List.nil_sublist _ | apply List.Sublist.cons_cons | apply List.Sublist.cons))) (ih (i + 1) hlt (by omega))
      exact ⟨rfl, rfl, rfl, rfl, rfl, trivial⟩
  (refine WK.exit ?_; refine WK.seq ?_; refine WK.region ?_; refine St.load ?_; refine St.move ?_)
  refine St.callR (R := rlsR c l) (fun _ => rfl) (fun h2 hh => rulings_con h2 hh.gd c v l (hv.eV.vw hh) (by omega)) (fun u L hR => ?_)
  rcases hR with ⟨hne, rfl⟩ | ⟨_, w, rfl, hw⟩
  · exact absurd he hne
  have hone : ∀ r ∈ rlsOf c l, canE c l r.1 r.2.1 = 0 ∧ canO c l r.1 r.2.1 = true ∧ canF c l r.1 r.2.1 = r.2.2 ∧ canA c l r.1 r.2.1 = false := fun r hr => by
    obtain ⟨h1, h2, h3⟩ := can_ruled hlw hr
    obtain ⟨y, y1, y2, y3, y4, y5⟩ := rls_vote hlw hr
    have h0 := hE y y1 y.rd (hrd y y1).1 (Int.le_refl _)
    rw [y3, y4] at h0
    have hO : canO c l r.1 r.2.1 = true := by simp [canO, h0, h1, h3]
    refine ⟨h0, hO, ?_, by simp [canA, h1]⟩
    unfold canF
    rw [if_pos hO, h2]
  have hrs : (rlsOf c l).length ≤ 40 := by
    have h1 := (srtT_perm (ofT c (tlN l l.length))).length_eq
    have h2 : (ofT c (tlN l l.length)).length ≤ (tlN l l.length).length := by unfold ofT; rw [List.length_map]; exact List.length_filter_le _ _
    have h3 := tlN_len (l := l) l.length
    unfold rlsOf
    omega
  generalize rlsOf c l = rs at hw hone hrs
  (refine St.move ?_; refine St.extract ?_; refine St.extract ?_; refine St.assign ?_; refine St.assign ?_; refine WO.nil ?_; refine WK.seq ?_; refine WK.seq ?_; refine WK.region ?_; refine St.move ?_; refine St.bin ?_; refine WO.nil ?_; refine WK.condF ?_; refine WK.skip ?_; refine WK.seq ?_; refine WK.seq ?_; refine WK.region ?_; refine St.move ?_)
  refine St.lenG rfl (hw.isL.lenG (q := 32) (by kernel_rfl)) ?_
  (refine St.move ?_; refine WO.nil ?_; refine WK.block ?_)
  refine WK.inv (ι := Nat) (fun i => [(1, v), (2, .ptr p2 0), (94, w), (95, .int .i64 rs.length), (96, .int .i64 i)]) (fun _ => L ++ [(p2, .cells [.int .i64 c] 23)]) (fun i => i ≤ rs.length) (fun i => rs.length - i) 0 (Nat.zero_le _) ⟨rfl, rfl, rfl, rfl, rfl, trivial⟩ (by exact List.Sublist.refl _) ?_
  intro k hkl ih2
  (refine WK.seq ?_; refine WK.region ?_; refine St.bin ?_; refine WO.nil ?_; refine WK.seq ?_)
  refine St.splitC (fun q => ?_) (fun q => ?_)
  rotate_left
  · (refine WK.exit ?_; refine WK.seq ?_; refine WK.region ?_)
    refine St.call (fun _ => rfl) (fun h2 hh2 => sanity_con h2 hh2.gd) ?_
    (refine St.assign ?_; refine WO.nil ?_)
    refine St.ret (by first | exact .tmp .nil | exact .cell .nil | exact .cell (.tmp .nil) | exact .tmp (.tmp .nil) | exact .cell (.cell .nil) | exact .tmp (.cell .nil) | exact .nil | exact .tmp (.cell (.tmp .nil)) | exact .cell (.tmp (.tmp .nil)) | exact .cell (.cell (.tmp .nil)) | exact .tmp (.tmp (.tmp .nil)) | exact .tmp (.tmp (.tmp (.tmp .nil))) | exact .cell (.cell (.cell .nil))) ?_
    rfl
  have hlt : k < rs.length := by simp at q; omega
  cases hw with
  | nil h1 _ => omega
  | row j h1 =>
  have hk : ∀ {V : Ob} {h2 : Heap}, Vw h [] V h2 → (j, AObj.row (enF rlC rs) 32 3) ∈ V → EH rlC 3 h2 j 0 rs := fun hh hm => by
    rcases en_v (enc := rlC) (fun _ => rfl) (IsL.row j h1) rfl hh (fun x hx => by rw [List.mem_singleton.1 hx]; exact hm) with ⟨h3 | h3, _⟩ | ⟨b, off, c2, e, k⟩
    · cases h3
    · cases h3
    · cases e
      exact k
  obtain ⟨c1, c2, c3, c4⟩ := hone _ (nthE_mem hlt)
  (refine WK.skip ?_; refine WK.seq ?_; refine WK.block ?_; refine WK.seq ?_; refine WK.region ?_)
  refine St.at ?_
  refine St.loadX (fun h2 hh => ((hk hh (by simp)).at_ (z := (k : Int)) (n := k) (by omega) hlt).agg (by simp [rlC]) rfl rfl rfl) ?_
  (refine St.alloc fun _ _ => ?_; refine St.store0 ?_; refine WO.nil ?_; refine WK.seq ?_; refine WK.region ?_; refine St.load ?_; refine St.move ?_; refine St.fieldAddr ?_; refine St.load ?_; refine St.fieldAddr ?_; refine St.load ?_)
  rename_i p18 hp18
  refine St.call (v := .tup [.int .i64 (nthE rs k).2.2, .bool true, .bool false, .int .i64 0]) (fun _ => rfl) (fun h2 hh => by
    have := can_con h2 hh.gd c v l (nthE rs k).1 (nthE rs k).2.1 (hvV.vw hh) (by omega)
    rwa [c1, c2, c3, c4] at this) ?_
  (refine St.move ?_; refine St.extract ?_; refine St.extract ?_; refine St.extract ?_; refine St.extract ?_; refine St.assign ?_; refine St.assign ?_; refine St.assign ?_; refine St.assign ?_; refine WO.nil ?_; refine WK.seq ?_; refine WK.region ?_; refine St.move ?_; refine St.bin ?_; refine St.move ?_; refine St.move ?_; refine St.pickF ?_; refine St.move ?_; refine St.move ?_; refine St.un ?_; refine St.pickF ?_; refine St.move ?_; refine St.move ?_; refine St.fieldAddr ?_; refine St.load ?_; refine St.bin ?_; refine St.pickF ?_; refine WO.nil ?_)
  refine St.splitC (fun q3 => ?_) (fun q3 => ?_)
  · simp at q3
  (refine WK.skip ?_; refine WK.blk ?_; refine WK.region ?_; refine St.binI ?_; refine St.move ?_; refine WO.nil ?_)
  refine WK.le ?_ (by (repeat (first | exact List.Sublist.refl _ | exact List.nil_sublist _ | apply List.Sublist.cons_cons | apply List.Sublist.cons))) (ih2 (k + 1) hlt (by omega))
  exact ⟨rfl, rfl, rfl, rfl, rfl, trivial⟩
end Go.Proofs.Ytilpinmbngikgaa
