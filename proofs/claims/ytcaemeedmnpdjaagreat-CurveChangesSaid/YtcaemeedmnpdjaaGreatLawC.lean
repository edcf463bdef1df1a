/- The law CurveChanges over the calculator's memory. -/
import Derived.Test.YtcaemeedmnpdjaaGreatLiftA
import Derived.Test.YtcaemeedmnpdjaaGreatCv
namespace Go.Proofs.YtcaemeedmnpdjaaGreat
open Go.RowKit Go.Proofs.YtcaemeedmnpdjaaGreat.Ev

section
variable (L1 L2 L3 L4 L5 L6 : Ob)
theorem subP6 : L6.Sublist (L1 ++ L2 ++ L3 ++ L4 ++ L5 ++ L6) := List.sublist_append_right _ _
theorem subP5 : L5.Sublist (L1 ++ L2 ++ L3 ++ L4 ++ L5 ++ L6) := (List.sublist_append_right (L1 ++ L2 ++ L3 ++ L4) L5).trans (List.sublist_append_left _ _)
theorem subP4 : L4.Sublist (L1 ++ L2 ++ L3 ++ L4 ++ L5 ++ L6) := (List.sublist_append_right (L1 ++ L2 ++ L3) L4).trans ((List.sublist_append_left _ L5).trans (List.sublist_append_left _ _))
theorem subP3 : L3.Sublist (L1 ++ L2 ++ L3 ++ L4 ++ L5 ++ L6) := (List.sublist_append_right (L1 ++ L2) L3).trans ((List.sublist_append_left _ L4).trans ((List.sublist_append_left _ L5).trans (List.sublist_append_left _ _)))
theorem subP2 : L2.Sublist (L1 ++ L2 ++ L3 ++ L4 ++ L5 ++ L6) := (List.sublist_append_right L1 L2).trans ((List.sublist_append_left _ L3).trans ((List.sublist_append_left _ L4).trans ((List.sublist_append_left _ L5).trans (List.sublist_append_left _ _))))
theorem subP1 : L1.Sublist (L1 ++ L2 ++ L3 ++ L4 ++ L5 ++ L6) := (List.sublist_append_left L1 L2).trans ((List.sublist_append_left _ L3).trans ((List.sublist_append_left _ L4).trans ((List.sublist_append_left _ L5).trans (List.sublist_append_left _ _))))
end
theorem refineR_len (ks : List (Int × Int)) (err : Int) (xs : List Int) : (refineR ks err xs).1.length ≤ 1000000 := by
  unfold refineR
  repeat' split
  all_goals simp only [List.length_nil]
  all_goals omega
theorem thinR_len {ks : List (Int × Int)} {err : Int} (h : ks.length ≤ 60) : (thinR ks err).1.length ≤ 1000000 := by
  have := thinK_len ks
  unfold thinR
  split
  · simp only; omega
  · simp
theorem cutR_len (ks : List (Int × Int)) (err lo hi : Int) : (cutR ks err lo hi).1.length ≤ 1000000 := by
  unfold cutR
  split
  · simp
  · rename_i h
    have v := vd_of_chk (errOn_zero (by simpa using h)).1
    split
    · simp
    · have hcl : (corX ks lo hi).length ≤ 2 + 40 * 1 := cornX_le2 (lo := lo) (hi := hi) (l := [⟨none, 0, ks, 0⟩]) (one_all (p := fun c : Cur => c.ks.length ≤ 40) v.le)
      simp only [newK_length]
      omega
theorem Ev.St.lenV {P : Program} {B : Base} {Q : Post} {h0 : Heap} {W : List Nat} {N : Nat} {D : List Nat} {K : List Fr} {s : Sl} {L : Ob} {T : Tg} {md : Bool} {ops : Array Oper} {d : Nat} {ty : TypeId} {pos : String} {af : Array Edge} {gd : Option (Nat × Bool)} {l : List Oper} {x : Operand} {t : TypeId} {n : Nat} {v : AV} (hx : evS s x = some v) (hl : ∀ h, lenA P t h v = some (.int .i64 (n : Int))) (k : WO P B Q h0 W N D K md ops l ((d, .int .i64 (n : Int)) :: s) L T) (hw : wantS ops s N ⟨some d, .call ⟨.builtin .len, #[x], #[t]⟩, ty, pos, af, gd⟩ = some true := by exact rfl) (hd : Nat.blt d N = true := by exact rfl) : WO P B Q h0 W N D K md ops (⟨some d, .call ⟨.builtin .len, #[x], #[t]⟩, ty, pos, af, gd⟩ :: l) s L T :=
  WO.pure hw hd (fun h => by unfold evOp; simp [oCall, mapO, hx, evBuiltin, hl h]) k
theorem XsH.len {h : Heap} {v : AV} {xs : List Int} (k : XsH h v xs) : ∀ h2, lenA Tryz.prog 25 h2 v = some (.int .i64 (xs.length : Int)) := by
  intro h2
  unfold lenA
  rw [Tryz.underlying25]
  rcases k with ⟨rfl | rfl, rfl⟩ | ⟨b, off, c, rfl, _⟩ <;> rfl
set_option maxRecDepth 100000 in
set_option maxHeartbeats 16000000 in
theorem changes_con (h : Heap) (g : Gd h) (kv xv : AV) (ks : List (Int × Int)) (err lo hi : Int) (xs : List Int) (hk : KnV h kv ks) (hx : XsH h xv xs) : Con Tryz.prog Bs 3 [.agg [kv, .int .i64 err], xv, .agg [.int .i64 lo, .int .i64 hi]] h [] (.bool true) [] := by
  refine Con.start rfl Tryz.func3 rfl rfl Tryz.ntmps3 rfl rfl g ?_
  (refine WK.seq ?_; refine WK.region ?_; refine St.box fun _ _ => ?_; refine St.box fun _ _ => ?_; refine St.assign ?_; refine WO.nil ?_; refine WK.seq ?_; refine WK.region ?_)
  rename_i p hp q hq
  refine St.call (fun _ => rfl) (fun h hh => headB_con h hh.gd) ?_
  (refine St.assign ?_; refine WO.nil ?_; refine WK.seq ?_; refine WK.seq ?_; refine WK.region ?_; refine St.load ?_)
  refine St.call (fun _ => rfl) (fun h hh => fewB_con h hh.gd kv ks err (hk.vw hh)) ?_
  (refine St.un ?_; refine St.move ?_)
  refine St.split (fun hc => ?_) (fun hc => ?_)
  · (refine St.skip ?_; refine St.skip ?_; refine St.skip ?_; refine St.pickT ?_; refine WO.nil ?_; refine WK.condT ?_; refine WK.seq ?_; refine WK.region ?_; refine St.move ?_; refine St.assign ?_; refine WO.nil ?_)
    refine St.ret (by first | exact .tmp .nil | exact .cell .nil | exact .cell (.tmp .nil) | exact .tmp (.tmp .nil) | exact .cell (.cell .nil) | exact .tmp (.cell .nil) | exact .nil | exact .tmp (.cell (.tmp .nil)) | exact .cell (.tmp (.tmp .nil)) | exact .cell (.cell (.tmp .nil)) | exact .tmp (.tmp (.tmp .nil)) | exact .cell (.cell (.cell .nil))) ?_
    rfl
  have hna : ks.length ≤ 60 := by simpa using hc
  (refine St.move ?_)
  refine St.lenV rfl hx.len ?_
  (refine St.bin ?_; refine St.pickF ?_; refine WO.nil ?_)
  refine St.splitC (fun hc2 => ?_) (fun hc2 => ?_)
  · (refine WK.seq ?_; refine WK.region ?_; refine St.move ?_; refine St.assign ?_; refine WO.nil ?_)
    refine St.ret (by first | exact .tmp .nil | exact .cell .nil | exact .cell (.tmp .nil) | exact .tmp (.tmp .nil) | exact .cell (.cell .nil) | exact .tmp (.cell .nil) | exact .nil | exact .tmp (.cell (.tmp .nil)) | exact .cell (.tmp (.tmp .nil)) | exact .cell (.cell (.tmp .nil)) | exact .tmp (.tmp (.tmp .nil)) | exact .cell (.cell (.cell .nil))) ?_
    rfl
  have hnx : xs.length ≤ 80 := by simp at hc2; omega
  have hr1 := refineR_len ks err xs
  have hr2 := thinR_len (err := err) hna
  have hr3 := cutR_len ks err lo hi
  have hA : ∀ (h2 : Heap) {V : Ob}, Vw h [] V h2 → ∃ v L, Con Tryz.prog Bs 8 [.agg [kv, .int .i64 err], xv] h2 [] v L ∧ SumOut (refineR ks err xs) v L := fun h2 V hh => refineP_con h2 hh.gd kv xv ks err xs (hk.vw hh) (hx.vw hh) (by omega) (by omega)
  have hB : ∀ (h2 : Heap) {V : Ob}, Vw h [] V h2 → ∃ v L, Con Tryz.prog Bs 9 [.agg [kv, .int .i64 err], xv] h2 [] v L ∧ MixOut (refineR ks err xs) v L := fun h2 V hh => refineRef_con h2 hh.gd kv xv ks err xs (hk.vw hh) (hx.vw hh) (by omega) (by omega)
  have hC : ∀ (h2 : Heap) {V : Ob}, Vw h [] V h2 → ∃ v L, Con Tryz.prog Bs 10 [.agg [kv, .int .i64 err]] h2 [] v L ∧ SumOut (thinR ks err) v L := fun h2 V hh => thinP_con h2 hh.gd kv ks err (hk.vw hh) (by omega)
  have hD : ∀ (h2 : Heap) {V : Ob}, Vw h [] V h2 → ∃ v L, Con Tryz.prog Bs 11 [.agg [kv, .int .i64 err]] h2 [] v L ∧ MixOut (thinR ks err) v L := fun h2 V hh => thinRef_con h2 hh.gd kv ks err (hk.vw hh) (by omega)
  have hE : ∀ (h2 : Heap) {V : Ob}, Vw h [] V h2 → ∃ v L, Con Tryz.prog Bs 12 [.agg [kv, .int .i64 err], .agg [.int .i64 lo, .int .i64 hi]] h2 [] v L ∧ SumOut (cutR ks err lo hi) v L := fun h2 V hh => cutP_con h2 hh.gd kv ks err lo hi (hk.vw hh) (by omega)
  have hF : ∀ (h2 : Heap) {V : Ob}, Vw h [] V h2 → ∃ v L, Con Tryz.prog Bs 13 [.agg [kv, .int .i64 err], .agg [.int .i64 lo, .int .i64 hi]] h2 [] v L ∧ MixOut (cutR ks err lo hi) v L := fun h2 V hh => cutRef_con h2 hh.gd kv ks err lo hi (hk.vw hh) (by omega)
  generalize hR1 : refineR ks err xs = R1 at hr1 hA hB
  generalize hR2 : thinR ks err = R2 at hr2 hC hD
  generalize hR3 : cutR ks err lo hi = R3 at hr3 hE hF
  obtain ⟨k1, e1, n1⟩ := R1
  obtain ⟨k2, e2, n2⟩ := R2
  obtain ⟨k3, e3, n3⟩ := R3
  simp only at hr1 hr2 hr3
  clear hR1 hR2 hR3 hc hc2
  (refine WK.skip ?_; refine WK.seq ?_; refine WK.region ?_; refine St.load ?_; refine St.move ?_)
  refine St.callR (fun _ => rfl) (fun h2 hh => hA h2 hh) ?_
  rintro v L1 ⟨v1, c1, rfl⟩
  simp only at c1
  refine WO.permF (L' := [(q, .cells [.int .i64 lo, .int .i64 hi] 27), (p, .cells [kv, .int .i64 err] 24)] ++ L1) List.perm_append_comm ?_
  (refine St.move ?_; refine St.extract ?_; refine St.extract ?_; refine St.alloc fun _ _ => ?_)
  refine St.store0 (hv := store2 rfl c1.ok rfl) ?_
  (refine St.assign ?_; refine WO.nil ?_; refine WK.seq ?_; refine WK.region ?_; refine St.load ?_; refine St.move ?_)
  rename_i a1 ha1
  refine St.callR (fun _ => rfl) (fun h2 hh => hB h2 hh) ?_
  rintro v L2 ⟨v2, c2, rfl⟩
  simp only at c2
  refine WO.permF (L' := [(a1, .cells [v1, .int .i64 e1] 24), (q, .cells [.int .i64 lo, .int .i64 hi] 27), (p, .cells [kv, .int .i64 err] 24)] ++ (L1 ++ L2)) (List.perm_append_comm (l₁ := [(a1, .cells [v1, .int .i64 e1] 24), (q, .cells [.int .i64 lo, .int .i64 hi] 27), (p, .cells [kv, .int .i64 err] 24)] ++ L1)) ?_
  (refine St.alloc fun _ _ => ?_)
  refine St.store0 (hv := store3 rfl c2.ok rfl rfl) ?_
  (refine WO.nil ?_; refine WK.seq ?_; refine WK.region ?_; refine St.load ?_)
  rename_i a2 ha2
  refine St.callR (fun _ => rfl) (fun h2 hh => hC h2 hh) ?_
  rintro v L3 ⟨v3, c3, rfl⟩
  simp only at c3
  refine WO.permF (L' := [(a2, .cells [v2, .int .i64 e1, .int .i64 n1] 34), (a1, .cells [v1, .int .i64 e1] 24), (q, .cells [.int .i64 lo, .int .i64 hi] 27), (p, .cells [kv, .int .i64 err] 24)] ++ ((L1 ++ L2) ++ L3)) (List.perm_append_comm (l₁ := [(a2, .cells [v2, .int .i64 e1, .int .i64 n1] 34), (a1, .cells [v1, .int .i64 e1] 24), (q, .cells [.int .i64 lo, .int .i64 hi] 27), (p, .cells [kv, .int .i64 err] 24)] ++ (L1 ++ L2))) ?_
  (refine St.move ?_; refine St.extract ?_; refine St.extract ?_; refine St.alloc fun _ _ => ?_)
  refine St.store0 (hv := store2 rfl c3.ok rfl) ?_
  (refine St.assign ?_; refine WO.nil ?_; refine WK.seq ?_; refine WK.region ?_; refine St.load ?_)
  rename_i a3 ha3
  refine St.callR (fun _ => rfl) (fun h2 hh => hD h2 hh) ?_
  rintro v L4 ⟨v4, c4, rfl⟩
  simp only at c4
  refine WO.permF (L' := [(a3, .cells [v3, .int .i64 e2] 24), (a2, .cells [v2, .int .i64 e1, .int .i64 n1] 34), (a1, .cells [v1, .int .i64 e1] 24), (q, .cells [.int .i64 lo, .int .i64 hi] 27), (p, .cells [kv, .int .i64 err] 24)] ++ (((L1 ++ L2) ++ L3) ++ L4)) (List.perm_append_comm (l₁ := [(a3, .cells [v3, .int .i64 e2] 24), (a2, .cells [v2, .int .i64 e1, .int .i64 n1] 34), (a1, .cells [v1, .int .i64 e1] 24), (q, .cells [.int .i64 lo, .int .i64 hi] 27), (p, .cells [kv, .int .i64 err] 24)] ++ ((L1 ++ L2) ++ L3))) ?_
  (refine St.alloc fun _ _ => ?_)
  refine St.store0 (hv := store3 rfl c4.ok rfl rfl) ?_
  (refine WO.nil ?_; refine WK.seq ?_; refine WK.region ?_; refine St.load ?_; refine St.load ?_)
  rename_i a4 ha4
  refine St.callR (fun _ => rfl) (fun h2 hh => hE h2 hh) ?_
  rintro v L5 ⟨v5, c5, rfl⟩
  simp only at c5
  refine WO.permF (L' := [(a4, .cells [v4, .int .i64 e2, .int .i64 n2] 34), (a3, .cells [v3, .int .i64 e2] 24), (a2, .cells [v2, .int .i64 e1, .int .i64 n1] 34), (a1, .cells [v1, .int .i64 e1] 24), (q, .cells [.int .i64 lo, .int .i64 hi] 27), (p, .cells [kv, .int .i64 err] 24)] ++ ((((L1 ++ L2) ++ L3) ++ L4) ++ L5)) (List.perm_append_comm (l₁ := [(a4, .cells [v4, .int .i64 e2, .int .i64 n2] 34), (a3, .cells [v3, .int .i64 e2] 24), (a2, .cells [v2, .int .i64 e1, .int .i64 n1] 34), (a1, .cells [v1, .int .i64 e1] 24), (q, .cells [.int .i64 lo, .int .i64 hi] 27), (p, .cells [kv, .int .i64 err] 24)] ++ (((L1 ++ L2) ++ L3) ++ L4))) ?_
  (refine St.move ?_; refine St.extract ?_; refine St.extract ?_; refine St.alloc fun _ _ => ?_)
  refine St.store0 (hv := store2 rfl c5.ok rfl) ?_
  (refine St.assign ?_; refine WO.nil ?_; refine WK.seq ?_; refine WK.region ?_; refine St.load ?_; refine St.load ?_)
  rename_i a5 ha5
  refine St.callR (fun _ => rfl) (fun h2 hh => hF h2 hh) ?_
  rintro v L6 ⟨v6, c6, rfl⟩
  simp only at c6
  refine WO.permF (L' := [(a5, .cells [v5, .int .i64 e3] 24), (a4, .cells [v4, .int .i64 e2, .int .i64 n2] 34), (a3, .cells [v3, .int .i64 e2] 24), (a2, .cells [v2, .int .i64 e1, .int .i64 n1] 34), (a1, .cells [v1, .int .i64 e1] 24), (q, .cells [.int .i64 lo, .int .i64 hi] 27), (p, .cells [kv, .int .i64 err] 24)] ++ (((((L1 ++ L2) ++ L3) ++ L4) ++ L5) ++ L6)) (List.perm_append_comm (l₁ := [(a5, .cells [v5, .int .i64 e3] 24), (a4, .cells [v4, .int .i64 e2, .int .i64 n2] 34), (a3, .cells [v3, .int .i64 e2] 24), (a2, .cells [v2, .int .i64 e1, .int .i64 n1] 34), (a1, .cells [v1, .int .i64 e1] 24), (q, .cells [.int .i64 lo, .int .i64 hi] 27), (p, .cells [kv, .int .i64 err] 24)] ++ ((((L1 ++ L2) ++ L3) ++ L4) ++ L5))) ?_
  (refine St.alloc fun _ _ => ?_)
  refine St.store0 (hv := store3 rfl c6.ok rfl rfl) ?_
  (refine WO.nil ?_; refine WK.seq ?_; refine WK.region ?_; refine St.move ?_; refine St.move ?_; refine St.load ?_; refine St.fieldAddr ?_; refine St.load ?_)
  rename_i a6 ha6
  refine St.call (fun _ => rfl) (fun h2 hh => sameCurve_con h2 hh.gd v1 v2 k1 e1 (hh.twoKn c1 c2 (by (repeat apply List.Sublist.cons); exact subP1 L1 L2 L3 L4 L5 L6) (by (repeat apply List.Sublist.cons); exact subP2 L1 L2 L3 L4 L5 L6)) hr1) ?_
  (refine St.pickT ?_; refine St.move ?_; refine St.move ?_; refine St.fieldAddr ?_; refine St.load ?_; refine St.bin ?_; refine St.pickT ?_; refine St.move ?_)
  refine St.split (fun _ => ?_) (fun hb => ?_)
  rotate_left
  · simp at hb
  (refine St.load ?_; refine St.fieldAddr ?_; refine St.load ?_)
  refine St.call (fun _ => rfl) (fun h2 hh => sameCurve_con h2 hh.gd v3 v4 k2 e2 (hh.twoKn c3 c4 (by (repeat apply List.Sublist.cons); exact subP3 L1 L2 L3 L4 L5 L6) (by (repeat apply List.Sublist.cons); exact subP4 L1 L2 L3 L4 L5 L6)) hr2) ?_
  (refine St.pickT ?_; refine St.move ?_; refine St.move ?_; refine St.fieldAddr ?_; refine St.load ?_; refine St.bin ?_; refine St.pickT ?_; refine St.move ?_)
  refine St.split (fun _ => ?_) (fun hb => ?_)
  rotate_left
  · simp at hb
  (refine St.load ?_; refine St.fieldAddr ?_; refine St.load ?_)
  refine St.call (fun _ => rfl) (fun h2 hh => sameCurve_con h2 hh.gd v5 v6 k3 e3 (hh.twoKn c5 c6 (by (repeat apply List.Sublist.cons); exact subP5 L1 L2 L3 L4 L5 L6) (by (repeat apply List.Sublist.cons); exact subP6 L1 L2 L3 L4 L5 L6)) hr3) ?_
  (refine St.pickT ?_; refine St.move ?_; refine St.move ?_; refine St.fieldAddr ?_; refine St.load ?_; refine St.bin ?_; refine St.pickT ?_; refine St.assign ?_; refine WO.nil ?_)
  refine St.ret (by first | exact .tmp .nil | exact .cell .nil | exact .cell (.tmp .nil) | exact .tmp (.tmp .nil) | exact .cell (.cell .nil) | exact .tmp (.cell .nil) | exact .nil | exact .tmp (.cell (.tmp .nil)) | exact .cell (.tmp (.tmp .nil)) | exact .cell (.cell (.tmp .nil)) | exact .tmp (.tmp (.tmp .nil)) | exact .cell (.cell (.cell .nil))) ?_
  simp [oneOf]
/-- ints in the model's memory -/
def ItAt (w : World) (A : Option Addr) (xs : List Int) : Prop := xs ≠ [] → ∃ b off, A = some ⟨b, off, none⟩ ∧ b < w.heap.size ∧ ∀ i (h : i < xs.length), w.cell? ⟨b, off + i, none⟩ = some (.int .i64 xs[i])
theorem it_abs {w : World} {A : Option Addr} {c : Nat} {xs : List Int} (hA : SlOk w A xs.length c) (hk : ItAt w A xs) : ∃ xv, XsH (absH w) xv xs ∧ VR (idE w.heap.size) xv (.slice A xs.length c) := by
  rcases hA with ⟨rfl, h0, rfl⟩ | ⟨b, off, rfl, C, t, fr, hC⟩
  · have : xs = [] := List.length_eq_zero_iff.1 h0
    subst this
    exact ⟨.slice0, .inl ⟨.inl rfl, rfl⟩, by simp [VR]⟩
  · have hb := (Array.getElem?_eq_some_iff.1 hC).1
    refine ⟨.slice b off xs.length (.k c), .inr ⟨b, off, .k c, rfl, fun i hi => ?_⟩, by simp only [VR]; exact ⟨b, 0, if_pos hb, rfl⟩⟩
    obtain ⟨b', off', e, hb', hc⟩ := hk (by intro h; subst h; simp at hi)
    cases e
    exact absH_rd (hc i hi) rfl
/-- the law, said of the model -/
theorem changes_of (w : World) (A1 A2 : Option Addr) (c1 c2 : Nat) (ks : List (Int × Int)) (err lo hi : Int) (xs : List Int) (hA1 : SlOk w A1 ks.length c1) (hk1 : KnAt w A1 ks) (hA2 : SlOk w A2 xs.length c2) (hk2 : ItAt w A2 xs) :
    Calls Tryz.prog 3 #[.agg #[.slice A1 ks.length c1, .int .i64 err], .slice A2 xs.length c2, .agg #[.int .i64 lo, .int .i64 hi]] w fun e w' => e = .returned (.bool true) ∧ RowKit.Below w.heap.size w w' := by
  obtain ⟨kv, h1, h2⟩ := kn_abs hA1 hk1
  obtain ⟨xv, h3, h4⟩ := it_abs hA2 hk2
  refine (Con.calls (by kernel_rfl) Bs_sound (changes_con _ (absH_good w) kv xv ks err lo hi xs h1 h3) (vrs3 (vr_agg2 h2 vr_int) h4 (vr_agg2 vr_int vr_int))).mono ?_
  rintro e w' ⟨U, E, rfl, hU, hb⟩
  simp only [VR] at hU
  exact ⟨by rw [hU], hb⟩
end Go.Proofs.YtcaemeedmnpdjaaGreat
