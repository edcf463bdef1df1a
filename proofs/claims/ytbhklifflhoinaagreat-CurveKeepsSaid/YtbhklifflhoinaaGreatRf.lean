/- Refine, the program's, over the calculator's memory. -/
import Derived.Test.YtbhklifflhoinaaGreatTn
import Derived.Test.YtbhklifflhoinaaGreatSk
namespace Go.Proofs.YtbhklifflhoinaaGreat
open Go.Proofs.YtbhklifflhoinaaGreat.Ev

/-- a list of ints in memory -/
def XsH (h : Heap) (v : AV) (xs : List Int) : Prop := ((v = .slice0 ∨ v = .sliceZ) ∧ xs = []) ∨ ∃ b off c, v = .slice b off xs.length c ∧ ∀ i (hi : i < xs.length), Rd h b (off + i) (.int .i64 xs[i])
theorem XsH.vw {h0 h : Heap} {V : Ob} {v xs} (k : XsH h0 v xs) (hh : Vw h0 [] V h) : XsH h v xs := by
  rcases k with h1 | ⟨b, off, c, h1, h2⟩
  · exact .inl h1
  · exact .inr ⟨b, off, c, h1, fun i hi => hh.rd (by simp) (h2 i hi)⟩
/-- the knots that xs give -/
def newK (ks : List (Int × Int)) (xs : List Int) : List (Int × Int) := xs.map fun x => (x, valN ks x)
/-- all of xs have a knot -/
def allK (ks : List (Int × Int)) (xs : List Int) : Bool := xs.all (hasKn ks)
namespace Ev
/-- a call that rewrites what it is lent, of whose answer something is known -/
theorem St.callWR {P : Program} {B : Base} {Q : Post} {h0 : Heap} {W : List Nat} {N : Nat} {D : List Nat} {K : List Fr} {s : Sl} {L : Ob} {ops : Array Oper} {d : Nat} {op : Op} {ty : TypeId} {pos : String} {af : Array Edge} {gd : Option (Nat × Bool)} {l : List Oper} {f : Nat} {args : List AV} {R : AV → Ob → Prop} {Lw Lk : Ob} {W' : List Nat} (he : ∀ h, evOp P h (evS s) ⟨some d, op, ty, pos, af, gd⟩ = some (.enter f args, h)) (hc : ∀ h, SS h0 W L h → ∃ v L', Con P B f args h W' v L' ∧ R v L') (hL : (Lw ++ Lk).Perm L) (hW : Lw.map (·.1) = W') (k : ∀ v L', R v L' → WO P B Q h0 W N D K false ops l ((d, v) :: s) (L' ++ Lk) []) (hw : wantS ops s N ⟨some d, op, ty, pos, af, gd⟩ = some true := by exact rfl) (hd : Nat.blt d N = true := by exact rfl) : WO P B Q h0 W N D K false ops (⟨some d, op, ty, pos, af, gd⟩ :: l) s L [] := by
  constructor
  · rintro - a h ha hh
    obtain ⟨v, L', ⟨g, h1, h2⟩, hR⟩ := hc h hh
    obtain ⟨a', h3, h4⟩ := ha.put (d := some d) hd v
    exact KRun.op (wantS_eq ha hw) (ROp.enter ha (he h) h1) h3 ((k v L' hR).seq rfl a' g h4 (hh.trans h2 hL hW))
  · intro e; cases e
end Ev
theorem flatA_flI (ps : List (Int × Int)) : (flI ps).map (AV.int .i64) = flatA ps := by
  unfold flI flatA
  rw [List.map_flatMap]
  rfl
theorem Bs_sortK (i n : Nat) (h : Heap) : Bs.ans 39 [.slice i 0 n (.m 0), .fn (.func 40) [] []] h = inpfA 39 40 sortI 39 [.slice i 0 n (.m 0), .fn (.func 40) [] []] h := (orB_right rfl).trans ((orB_right rfl).trans (orB_right rfl))
theorem sortK_con {h : Heap} {i : Nat} {ps : List (Int × Int)} (k0 : SS h [i] [(i, .row (flatA ps) 81 2)] h) (hn0 : 0 < ps.length) (hb : ps.length < 500000) :
    Con Tryz.prog Bs 39 [.slice i 0 ps.length (.m 0), .fn (.func 40) [] []] h [i] (.tup []) [(i, .row (flatA (sortP ps)) 81 2)] := by
  have := Con.inpf (P := Tryz.prog) (B := Bs) (e := 81) (zs := flI ps) (Bs_sortK i ps.length h) (by rw [flatA_flI]; exact k0) (flI_len ps) hb hn0
  rw [sortI_fl, flatA_flI] at this
  exact this
/-- what Refine returns -/
def mergeK (ks : List (Int × Int)) (xs : List Int) : List (Int × Int) := compP (sortP (ks ++ newK ks xs))
def refineR (ks : List (Int × Int)) (err : Int) (xs : List Int) : List (Int × Int) × Int × Int :=
  if chk ks err ≠ 0 then ([], 0, chk ks err) else if allK ks xs = false then ([], 0, 3) else if (mergeK ks xs).length > 40 then ([], 0, 2) else (mergeK ks xs, err, 0)
theorem newK_len (ks : List (Int × Int)) (xs : List Int) : (ks ++ newK ks xs).length = ks.length + xs.length := by simp [newK]
theorem newK_succ {ks : List (Int × Int)} {xs : List Int} {k : Nat} (h : k < xs.length) : ks ++ newK ks (xs.take (k + 1)) = (ks ++ newK ks (xs.take k)) ++ [(xs[k], valN ks xs[k])] := by
  rw [List.take_succ_eq_append_getElem h]
  unfold newK
  rw [List.map_append, ← List.append_assoc]
  rfl
theorem allK_no {ks : List (Int × Int)} {xs : List Int} {k : Nat} (h : k < xs.length) (hn : hasKn ks xs[k] = false) : allK ks xs = false := by
  unfold allK
  rw [List.all_eq_false]
  exact ⟨_, List.getElem_mem h, by simp [hn]⟩
theorem compP_pos {ps : List (Int × Int)} (h : 0 < ps.length) : 0 < (compP ps).length := by
  have : ∀ m, 0 < m → 0 < (cmpTo ps m).length := by
    intro m
    induction m with
    | zero => intro h; omega
    | succ m ih =>
      intro _
      by_cases h0 : m = 0
      · subst h0
        simp [cmpTo]
      · have := ih (by omega)
        simp only [cmpTo]
        rw [List.length_append]
        omega
  exact this _ h
theorem mergeK_pos {ks : List (Int × Int)} {xs : List Int} (h : 0 < ks.length) : 0 < (mergeK ks xs).length := by
  apply compP_pos
  rw [sortP_len, newK_len]
  omega
set_option maxRecDepth 100000 in
set_option maxHeartbeats 16000000 in
theorem refineP_con (h : Heap) (g : Gd h) (kv xv : AV) (ks : List (Int × Int)) (err : Int) (xs : List Int) (hk : KnV h kv ks) (hx : XsH h xv xs) (hl : ks.length ≤ 1000000) (hxl : xs.length ≤ 1000) :
    ∃ v L, Con Tryz.prog Bs 8 [.agg [kv, .int .i64 err], xv] h [] v L ∧ SumOut (refineR ks err xs) v L := by
  by_cases h1 : chk ks err = 0
  rotate_left
  · have hr : refineR ks err xs = ([], 0, chk ks err) := by unfold refineR; rw [if_pos h1]
    rw [hr]
    refine Con.subR (Con.startR rfl Tryz.func8 rfl rfl Tryz.ntmps8 rfl rfl (SS.init g) ?_)
    (refine WK.seq ?_; refine WK.region ?_; refine St.box fun _ _ => ?_; refine St.alloc fun _ _ => ?_; refine St.assign ?_; refine WO.nil ?_; refine WK.seq ?_; refine WK.seq ?_; refine WK.region ?_; refine St.load ?_)
    refine St.call (fun _ => rfl) (fun h2 hh => check_con h2 hh.gd kv ks err (hk.vw hh) (by omega)) ?_
    (refine St.assign ?_; refine WO.nil ?_; refine WK.seq ?_; refine WK.region ?_; refine St.move ?_; refine St.bin ?_; refine WO.nil ?_)
    refine St.splitC (fun hc => ?_) (fun hc => ?_)
    · (refine WK.seq ?_; refine WK.region ?_; refine St.build ?_; refine St.move ?_; refine St.store0 ?_; refine St.assign ?_; refine WO.nil ?_)
      refine St.ret (by first | exact .tmp .nil | exact .cell .nil | exact .cell (.tmp .nil) | exact .tmp (.tmp .nil) | exact .cell (.cell .nil) | exact .tmp (.cell .nil) | exact .nil | exact .tmp (.cell (.tmp .nil)) | exact .cell (.tmp (.tmp .nil)) | exact .cell (.cell (.tmp .nil)) | exact .tmp (.tmp (.tmp .nil)) | exact .cell (.cell (.cell .nil))) ?_
      exact ⟨[], List.nil_sublist _, .slice0, .inl ⟨rfl, rfl, rfl⟩, rfl⟩
    · simp at hc; exact absurd hc h1
  have v := vd_of_chk h1
  obtain ⟨b, off, c, rfl, hk1⟩ := hk.ne v.ne
  have hpos := v.pos
  have hl40 : ks.length ≤ 40 := v.le
  have hr : refineR ks err xs = if allK ks xs = false then ([], 0, 3) else if (mergeK ks xs).length > 40 then ([], 0, 2) else (mergeK ks xs, err, 0) := by unfold refineR; rw [if_neg (by simp [h1])]
  rw [hr]
  rcases hx with ⟨hx1, rfl⟩ | ⟨b2, off2, c2, rfl, hx2⟩
  · have hyes : allK ks [] = true := rfl
    have hm0 : mergeK ks [] = compP (sortP ks) := by unfold mergeK newK; simp
    have hsl := sortP_len ks
    rw [if_neg (by simp [hyes]), hm0]
    rcases hx1 with rfl | rfl
    · refine Con.subR (Con.startR rfl Tryz.func8 rfl rfl Tryz.ntmps8 rfl rfl (SS.init g) ?_)
      (refine WK.seq ?_; refine WK.region ?_; refine St.box fun _ _ => ?_; refine St.alloc fun _ _ => ?_; refine St.assign ?_; refine WO.nil ?_; refine WK.seq ?_; refine WK.seq ?_; refine WK.region ?_; refine St.load ?_)
      refine St.call (v := .int .i64 0) (fun _ => rfl) (fun h2 hh => by
        have := check_con h2 hh.gd _ ks err (hk.vw hh) (by omega)
        rw [h1] at this
        exact this) ?_
      (refine St.assign ?_; refine WO.nil ?_; refine WK.seq ?_; refine WK.region ?_; refine St.move ?_; refine St.bin ?_; refine WO.nil ?_; refine WK.condF ?_; refine WK.skip ?_; refine WK.seq ?_; refine WK.region ?_; refine St.fieldAddr ?_; refine St.load ?_)
      refine St.call1 (v := fun j => .slice j 0 ks.length (.m 0)) (ob := fun _ => .row (flatA ks) 81 2) (fun _ => rfl) (fun h2 hh => clone_con h2 hh.gd b off c ks (hk1.vw hh) hpos hl) (fun j hj => ?_)
      (refine St.assign ?_; refine WO.nil ?_; refine WK.seq ?_; refine WK.seq ?_; refine WK.region ?_; refine St.move ?_; refine St.len0 ?_; refine St.move ?_; refine WO.nil ?_; refine WK.block ?_)
      rename_i p hp q hq
      refine WK.unroll ?_
      (refine WK.seq ?_; refine WK.region ?_; refine St.bin ?_; refine WO.nil ?_; refine WK.seq ?_; refine WK.condF ?_; refine WK.exit ?_; refine WK.seq ?_; refine WK.region ?_; refine St.move ?_)
      refine St.callW (Lw := [(j, .row (flatA ks) 81 2)]) (Lk := [(q, .cells [.slice0, .int .i64 0] 24), (p, .cells [.slice b off ks.length c, .int .i64 err] 24)]) (L' := [(j, .row (flatA (sortP ks)) 81 2)]) (W' := [j]) (fun _ => rfl) (fun h hh => sortK_con (hh.sub (L' := [(j, .row (flatA ks) 81 2)]) (by (repeat (first | exact List.Sublist.refl _ | exact List.nil_sublist _ | apply List.Sublist.cons_cons | apply List.Sublist.cons)))).lend (by omega) (by omega)) (by (repeat (first | exact List.Perm.refl _ | refine perm_at 0 rfl ?_ | refine perm_at 1 rfl ?_ | refine perm_at 2 rfl ?_ | refine perm_at 3 rfl ?_ | refine perm_at 4 rfl ?_ | refine perm_at 5 rfl ?_ | refine perm_at 6 rfl ?_ | refine perm_at 7 rfl ?_ | refine perm_at 8 rfl ?_ | refine perm_at 9 rfl ?_))) rfl ?_
      (refine WO.nil ?_; refine WK.seq ?_; refine WK.region ?_; refine St.move ?_)
      refine St.callWR (R := fun v L => ∃ rest, v = .slice j 0 (compP (sortP ks)).length (.m 0) ∧ L = [(j, .row (flatA (compP (sortP ks) ++ rest)) 81 2)]) (Lw := [(j, .row (flatA (sortP ks)) 81 2)]) (Lk := [(q, .cells [.slice0, .int .i64 0] 24), (p, .cells [.slice b off ks.length c, .int .i64 err] 24)]) (W' := [j]) (fun _ => rfl) (fun h hh => by
        obtain ⟨rest, hc⟩ := compactKn_con h j (sortP ks) (by omega) (by omega) (hh.sub (L' := [(j, .row (flatA (sortP ks)) 81 2)]) (by (repeat (first | exact List.Sublist.refl _ | exact List.nil_sublist _ | apply List.Sublist.cons_cons | apply List.Sublist.cons)))).lend
        rw [hsl] at hc
        exact ⟨_, _, hc, rest, rfl, rfl⟩) (by (repeat (first | exact List.Perm.refl _ | refine perm_at 0 rfl ?_ | refine perm_at 1 rfl ?_ | refine perm_at 2 rfl ?_ | refine perm_at 3 rfl ?_ | refine perm_at 4 rfl ?_ | refine perm_at 5 rfl ?_ | refine perm_at 6 rfl ?_ | refine perm_at 7 rfl ?_ | refine perm_at 8 rfl ?_ | refine perm_at 9 rfl ?_))) rfl ?_
      rintro _ _ ⟨rest, rfl, rfl⟩
      (refine St.assign ?_; refine WO.nil ?_; refine WK.seq ?_; refine WK.seq ?_; refine WK.region ?_; refine St.move ?_; refine St.len ?_; refine St.bin ?_; refine WO.nil ?_)
      refine St.splitC (fun hc => ?_) (fun hc => ?_)
      · have hm : (compP (sortP ks)).length > 40 := by simp at hc; omega
        (refine WK.seq ?_; refine WK.region ?_; refine St.build ?_; refine St.store1 ?_; refine St.assign ?_; refine WO.nil ?_)
        refine St.ret (by first | exact .tmp .nil | exact .cell .nil | exact .cell (.tmp .nil) | exact .tmp (.tmp .nil) | exact .cell (.cell .nil) | exact .tmp (.cell .nil) | exact .nil | exact .tmp (.cell (.tmp .nil)) | exact .cell (.tmp (.tmp .nil)) | exact .cell (.cell (.tmp .nil)) | exact .tmp (.tmp (.tmp .nil)) | exact .cell (.cell (.cell .nil))) ?_
        rw [if_pos hm]
        exact ⟨[], List.nil_sublist _, .slice0, .inl ⟨rfl, rfl, rfl⟩, rfl⟩
      · have hm : ¬ (compP (sortP ks)).length > 40 := by simp at hc; omega
        (refine WK.skip ?_; refine WK.seq ?_; refine WK.region ?_; refine St.move ?_; refine St.fieldAddr ?_; refine St.load ?_; refine St.build ?_; refine St.store1 ?_; refine St.assign ?_; refine WO.nil ?_)
        refine St.ret (by first | exact .tmp .nil | exact .cell .nil | exact .cell (.tmp .nil) | exact .tmp (.tmp .nil) | exact .cell (.cell .nil) | exact .tmp (.cell .nil) | exact .nil | exact .tmp (.cell (.tmp .nil)) | exact .cell (.tmp (.tmp .nil)) | exact .cell (.cell (.tmp .nil)) | exact .tmp (.tmp (.tmp .nil)) | exact .cell (.cell (.cell .nil))) ?_
        rw [if_neg hm]
        exact ⟨[(j, .row (flatA (compP (sortP ks) ++ rest)) 81 2)], by (repeat (first | exact List.Sublist.refl _ | exact List.nil_sublist _ | apply List.Sublist.cons_cons | apply List.Sublist.cons)), _, .inr ⟨j, .m 0, _, rfl, rfl, (show (AObj.row (flatA (compP (sortP ks) ++ rest)) 81 2).has (flatA (compP (sortP ks)) ++ flatA rest) by rw [← flatA_app]; exact AObj.has_row _ _ _).left, compP_pos (by omega)⟩, rfl⟩
    · refine Con.subR (Con.startR rfl Tryz.func8 rfl rfl Tryz.ntmps8 rfl rfl (SS.init g) ?_)
      (refine WK.seq ?_; refine WK.region ?_; refine St.box fun _ _ => ?_; refine St.alloc fun _ _ => ?_; refine St.assign ?_; refine WO.nil ?_; refine WK.seq ?_; refine WK.seq ?_; refine WK.region ?_; refine St.load ?_)
      refine St.call (v := .int .i64 0) (fun _ => rfl) (fun h2 hh => by
        have := check_con h2 hh.gd _ ks err (hk.vw hh) (by omega)
        rw [h1] at this
        exact this) ?_
      (refine St.assign ?_; refine WO.nil ?_; refine WK.seq ?_; refine WK.region ?_; refine St.move ?_; refine St.bin ?_; refine WO.nil ?_; refine WK.condF ?_; refine WK.skip ?_; refine WK.seq ?_; refine WK.region ?_; refine St.fieldAddr ?_; refine St.load ?_)
      refine St.call1 (v := fun j => .slice j 0 ks.length (.m 0)) (ob := fun _ => .row (flatA ks) 81 2) (fun _ => rfl) (fun h2 hh => clone_con h2 hh.gd b off c ks (hk1.vw hh) hpos hl) (fun j hj => ?_)
      (refine St.assign ?_; refine WO.nil ?_; refine WK.seq ?_; refine WK.seq ?_; refine WK.region ?_; refine St.move ?_; refine St.lenZ ?_; refine St.move ?_; refine WO.nil ?_; refine WK.block ?_)
      rename_i p hp q hq
      refine WK.unroll ?_
      (refine WK.seq ?_; refine WK.region ?_; refine St.bin ?_; refine WO.nil ?_; refine WK.seq ?_; refine WK.condF ?_; refine WK.exit ?_; refine WK.seq ?_; refine WK.region ?_; refine St.move ?_)
      refine St.callW (Lw := [(j, .row (flatA ks) 81 2)]) (Lk := [(q, .cells [.slice0, .int .i64 0] 24), (p, .cells [.slice b off ks.length c, .int .i64 err] 24)]) (L' := [(j, .row (flatA (sortP ks)) 81 2)]) (W' := [j]) (fun _ => rfl) (fun h hh => sortK_con (hh.sub (L' := [(j, .row (flatA ks) 81 2)]) (by (repeat (first | exact List.Sublist.refl _ | exact List.nil_sublist _ | apply List.Sublist.cons_cons | apply List.Sublist.cons)))).lend (by omega) (by omega)) (by (repeat (first | exact List.Perm.refl _ | refine perm_at 0 rfl ?_ | refine perm_at 1 rfl ?_ | refine perm_at 2 rfl ?_ | refine perm_at 3 rfl ?_ | refine perm_at 4 rfl ?_ | refine perm_at 5 rfl ?_ | refine perm_at 6 rfl ?_ | refine perm_at 7 rfl ?_ | refine perm_at 8 rfl ?_ | refine perm_at 9 rfl ?_))) rfl ?_
      (refine WO.nil ?_; refine WK.seq ?_; refine WK.region ?_; refine St.move ?_)
      refine St.callWR (R := fun v L => ∃ rest, v = .slice j 0 (compP (sortP ks)).length (.m 0) ∧ L = [(j, .row (flatA (compP (sortP ks) ++ rest)) 81 2)]) (Lw := [(j, .row (flatA (sortP ks)) 81 2)]) (Lk := [(q, .cells [.slice0, .int .i64 0] 24), (p, .cells [.slice b off ks.length c, .int .i64 err] 24)]) (W' := [j]) (fun _ => rfl) (fun h hh => by
        obtain ⟨rest, hc⟩ := compactKn_con h j (sortP ks) (by omega) (by omega) (hh.sub (L' := [(j, .row (flatA (sortP ks)) 81 2)]) (by (repeat (first | exact List.Sublist.refl _ | exact List.nil_sublist _ | apply List.Sublist.cons_cons | apply List.Sublist.cons)))).lend
        rw [hsl] at hc
        exact ⟨_, _, hc, rest, rfl, rfl⟩) (by (repeat (first | exact List.Perm.refl _ | refine perm_at 0 rfl ?_ | refine perm_at 1 rfl ?_ | refine perm_at 2 rfl ?_ | refine perm_at 3 rfl ?_ | refine perm_at 4 rfl ?_ | refine perm_at 5 rfl ?_ | refine perm_at 6 rfl ?_ | refine perm_at 7 rfl ?_ | refine perm_at 8 rfl ?_ | refine perm_at 9 rfl ?_))) rfl ?_
      rintro _ _ ⟨rest, rfl, rfl⟩
      (refine St.assign ?_; refine WO.nil ?_; refine WK.seq ?_; refine WK.seq ?_; refine WK.region ?_; refine St.move ?_; refine St.len ?_; refine St.bin ?_; refine WO.nil ?_)
      refine St.splitC (fun hc => ?_) (fun hc => ?_)
      · have hm : (compP (sortP ks)).length > 40 := by simp at hc; omega
        (refine WK.seq ?_; refine WK.region ?_; refine St.build ?_; refine St.store1 ?_; refine St.assign ?_; refine WO.nil ?_)
        refine St.ret (by first | exact .tmp .nil | exact .cell .nil | exact .cell (.tmp .nil) | exact .tmp (.tmp .nil) | exact .cell (.cell .nil) | exact .tmp (.cell .nil) | exact .nil | exact .tmp (.cell (.tmp .nil)) | exact .cell (.tmp (.tmp .nil)) | exact .cell (.cell (.tmp .nil)) | exact .tmp (.tmp (.tmp .nil)) | exact .cell (.cell (.cell .nil))) ?_
        rw [if_pos hm]
        exact ⟨[], List.nil_sublist _, .slice0, .inl ⟨rfl, rfl, rfl⟩, rfl⟩
      · have hm : ¬ (compP (sortP ks)).length > 40 := by simp at hc; omega
        (refine WK.skip ?_; refine WK.seq ?_; refine WK.region ?_; refine St.move ?_; refine St.fieldAddr ?_; refine St.load ?_; refine St.build ?_; refine St.store1 ?_; refine St.assign ?_; refine WO.nil ?_)
        refine St.ret (by first | exact .tmp .nil | exact .cell .nil | exact .cell (.tmp .nil) | exact .tmp (.tmp .nil) | exact .cell (.cell .nil) | exact .tmp (.cell .nil) | exact .nil | exact .tmp (.cell (.tmp .nil)) | exact .cell (.tmp (.tmp .nil)) | exact .cell (.cell (.tmp .nil)) | exact .tmp (.tmp (.tmp .nil)) | exact .cell (.cell (.cell .nil))) ?_
        rw [if_neg hm]
        exact ⟨[(j, .row (flatA (compP (sortP ks) ++ rest)) 81 2)], by (repeat (first | exact List.Sublist.refl _ | exact List.nil_sublist _ | apply List.Sublist.cons_cons | apply List.Sublist.cons)), _, .inr ⟨j, .m 0, _, rfl, rfl, (show (AObj.row (flatA (compP (sortP ks) ++ rest)) 81 2).has (flatA (compP (sortP ks)) ++ flatA rest) by rw [← flatA_app]; exact AObj.has_row _ _ _).left, compP_pos (by omega)⟩, rfl⟩
  refine Con.subR (Con.startR rfl Tryz.func8 rfl rfl Tryz.ntmps8 rfl rfl (SS.init g) ?_)
  (refine WK.seq ?_; refine WK.region ?_; refine St.box fun _ _ => ?_; refine St.alloc fun _ _ => ?_; refine St.assign ?_; refine WO.nil ?_; refine WK.seq ?_; refine WK.seq ?_; refine WK.region ?_; refine St.load ?_)
  refine St.call (v := .int .i64 0) (fun _ => rfl) (fun h2 hh => by
    have := check_con h2 hh.gd _ ks err (hk.vw hh) (by omega)
    rw [h1] at this
    exact this) ?_
  (refine St.assign ?_; refine WO.nil ?_; refine WK.seq ?_; refine WK.region ?_; refine St.move ?_; refine St.bin ?_; refine WO.nil ?_; refine WK.condF ?_; refine WK.skip ?_; refine WK.seq ?_; refine WK.region ?_; refine St.fieldAddr ?_; refine St.load ?_)
  refine St.call1 (v := fun j => .slice j 0 ks.length (.m 0)) (ob := fun _ => .row (flatA ks) 81 2) (fun _ => rfl) (fun h2 hh => clone_con h2 hh.gd b off c ks (hk1.vw hh) hpos hl) (fun j hj => ?_)
  (refine St.assign ?_; refine WO.nil ?_; refine WK.seq ?_; refine WK.seq ?_; refine WK.region ?_; refine St.move ?_; refine St.len ?_; refine St.move ?_; refine WO.nil ?_; refine WK.block ?_)
  rename_i p hp q hq
  refine WK.inv (ι := Nat × Nat) (fun z => [(2, .ptr p 0), (4, .ptr q 0), (7, .slice z.2 0 (ks ++ newK ks (xs.take z.1)).length (.m 0)), (21, .slice b2 off2 xs.length c2), (22, .int .i64 xs.length), (23, .int .i64 z.1)]) (fun z => [(z.2, .row (flatA (ks ++ newK ks (xs.take z.1))) 81 2), (q, .cells [.slice0, .int .i64 0] 24), (p, .cells [.slice b off ks.length c, .int .i64 err] 24)]) (fun z => z.1 ≤ xs.length ∧ ∀ i (hi : i < xs.length), i < z.1 → hasKn ks xs[i] = true) (fun z => xs.length - z.1) (0, j) ⟨by simp, fun i hi h => absurd h (by simp)⟩ ⟨rfl, rfl, by simp [newK]; rfl, rfl, rfl, rfl, trivial⟩ (by simp only [List.take_zero, newK, List.map_nil, List.append_nil]; (repeat (first | exact List.Sublist.refl _ | exact List.nil_sublist _ | apply List.Sublist.cons_cons | apply List.Sublist.cons))) ?_
  rintro ⟨k, j⟩ ⟨hkl, hall⟩ ih
  simp only at hkl hall ih ⊢
  (refine WK.seq ?_; refine WK.region ?_; refine St.bin ?_; refine WO.nil ?_; refine WK.seq ?_)
  refine St.splitC (fun hc => ?_) (fun hc => ?_)
  · have hlt : k < xs.length := by simp at hc; omega
    (refine WK.skip ?_; refine WK.seq ?_; refine WK.block ?_; refine WK.seq ?_; refine WK.region ?_)
    refine St.at ?_
    skip
    refine St.loadX (v := .int .i64 (xs[k]'hlt)) (fun h hh => by
      have := hx2 k hlt
      rw [show off2 + k = off2 + (k : Int).toNat * 1 by omega] at this
      exact (hh.rd (by simp) this).one rfl) ?_
    (refine St.assign ?_; refine WO.nil ?_; refine WK.seq ?_; refine WK.region ?_; refine St.load ?_; refine St.move ?_)
    by_cases hn : hasKn ks (xs[k]'hlt) = true
    rotate_left
    · have hn : hasKn ks (xs[k]'hlt) = false := by simpa using hn
      have hno := allK_no hlt hn
      refine St.call (v := .tup [.agg [.int .i64 0, .int .i64 0], .bool false]) (fun _ => rfl) (fun h hh => by
        have := knotAt_con h hh.gd b off c ks err (xs[k]'hlt) v (hk1.vw hh)
        rw [hn] at this
        exact this) ?_
      (refine St.move ?_; refine St.extract ?_; refine St.extract ?_; refine St.alloc fun _ _ => ?_; refine St.store0 ?_; refine St.assign ?_; refine WO.nil ?_; refine WK.seq ?_; refine WK.seq ?_; refine WK.region ?_; refine St.move ?_; refine St.un ?_; refine WO.nil ?_; refine WK.condT ?_; refine WK.seq ?_; refine WK.region ?_; refine St.build ?_; refine St.store2 ?_; refine St.assign ?_; refine WO.nil ?_)
      refine St.ret (by first | exact .tmp .nil | exact .cell .nil | exact .cell (.tmp .nil) | exact .tmp (.tmp .nil) | exact .cell (.cell .nil) | exact .tmp (.cell .nil) | exact .nil | exact .tmp (.cell (.tmp .nil)) | exact .cell (.tmp (.tmp .nil)) | exact .cell (.cell (.tmp .nil)) | exact .tmp (.tmp (.tmp .nil)) | exact .cell (.cell (.cell .nil))) ?_
      rw [if_pos hno]
      exact ⟨[], List.nil_sublist _, .slice0, .inl ⟨rfl, rfl, rfl⟩, rfl⟩
    refine St.call (v := .tup [.agg [.int .i64 (xs[k]'hlt), .int .i64 (valN ks (xs[k]'hlt))], .bool true]) (fun _ => rfl) (fun h hh => by
      have := knotAt_con h hh.gd b off c ks err (xs[k]'hlt) v (hk1.vw hh)
      rw [hn] at this
      exact this) ?_
    (refine St.move ?_; refine St.extract ?_; refine St.extract ?_; refine St.alloc fun _ _ => ?_; refine St.store0 ?_; refine St.assign ?_; refine WO.nil ?_; refine WK.seq ?_; refine WK.seq ?_; refine WK.region ?_; refine St.move ?_; refine St.un ?_; refine WO.nil ?_; refine WK.condF ?_; refine WK.skip ?_; refine WK.region ?_; refine St.move ?_; refine St.load ?_; refine St.mkS fun _ _ => ?_)
    rename_i u hu i2 hi2
    refine St.appR (A := [(i2, .cells [.int .i64 (xs[k]'hlt), .int .i64 (valN ks (xs[k]'hlt))] 81), (u, .cells [.int .i64 (xs[k]'hlt), .int .i64 (valN ks (xs[k]'hlt))] 81)]) (C := [(q, .cells [.slice0, .int .i64 0] 24), (p, .cells [.slice b off ks.length c, .int .i64 err] 24)]) (i := j) (old := flatA (ks ++ newK ks (xs.take k))) (new := [.int .i64 (xs[k]'hlt), .int .i64 (valN ks (xs[k]'hlt))]) (n := 1) (sz := 2) rfl (fun j2 hj2 => ?_) ⟨rfl, rfl, rfl, rfl, rfl, rfl, rfl, rfl, rfl, rfl, rfl, rfl⟩ (List.Mem.head _) rfl (by rw [flatA_len]) (by omega) (by rw [newK_len, List.length_take]; omega)
    (refine St.assign ?_; refine WO.nil ?_; refine WK.blk ?_; refine WK.region ?_; refine St.binI ?_; refine St.move ?_; refine WO.nil ?_)
    have e := newK_succ (ks := ks) hlt
    have e2 : flatA (ks ++ newK ks (xs.take (k + 1))) = flatA (ks ++ newK ks (xs.take k)) ++ [.int .i64 (xs[k]'hlt), .int .i64 (valN ks (xs[k]'hlt))] := by rw [e, flatA_snoc]
    have e3 : (ks ++ newK ks (xs.take (k + 1))).length = (ks ++ newK ks (xs.take k)).length + 1 := by rw [e, List.length_append]; rfl
    have ih2 := ih (k + 1, j2) ⟨hlt, fun i hi h2 => ?_⟩ (by simp only; omega)
    rotate_left
    · rcases Nat.lt_succ_iff_lt_or_eq.1 h2 with h3 | rfl
      · exact hall i hi h3
      · exact hn
    simp only [e2, e3] at ih2
    refine WK.le ?_ (by (repeat (first | exact List.Sublist.refl _ | exact List.nil_sublist _ | apply List.Sublist.cons_cons | apply List.Sublist.cons))) ih2
    exact ⟨rfl, rfl, rfl, rfl, rfl, rfl, trivial⟩
  · have hk' : k = xs.length := by simp at hc; omega
    subst hk'
    rw [List.take_length]
    clear ih
    have hnl := newK_len ks xs
    have hsl := sortP_len (ks ++ newK ks xs)
    have hyes : allK ks xs = true := List.all_eq_true.2 fun y hy => by
      obtain ⟨i, hi, rfl⟩ := List.getElem_of_mem hy
      exact hall i hi hi
    rw [if_neg (by simp [hyes])]
    (refine WK.exit ?_; refine WK.seq ?_; refine WK.region ?_; refine St.move ?_)
    refine St.callW (Lw := [(j, .row (flatA (ks ++ newK ks xs)) 81 2)]) (Lk := [(q, .cells [.slice0, .int .i64 0] 24), (p, .cells [.slice b off ks.length c, .int .i64 err] 24)]) (L' := [(j, .row (flatA (sortP (ks ++ newK ks xs))) 81 2)]) (W' := [j]) (fun _ => rfl) (fun h hh => sortK_con (hh.sub (L' := [(j, .row (flatA (ks ++ newK ks xs)) 81 2)]) (by (repeat (first | exact List.Sublist.refl _ | exact List.nil_sublist _ | apply List.Sublist.cons_cons | apply List.Sublist.cons)))).lend (by omega) (by omega)) (by (repeat (first | exact List.Perm.refl _ | refine perm_at 0 rfl ?_ | refine perm_at 1 rfl ?_ | refine perm_at 2 rfl ?_ | refine perm_at 3 rfl ?_ | refine perm_at 4 rfl ?_ | refine perm_at 5 rfl ?_ | refine perm_at 6 rfl ?_ | refine perm_at 7 rfl ?_ | refine perm_at 8 rfl ?_ | refine perm_at 9 rfl ?_))) rfl ?_
    (refine WO.nil ?_; refine WK.seq ?_; refine WK.region ?_; refine St.move ?_)
    refine St.callWR (R := fun v L => ∃ rest, v = .slice j 0 (mergeK ks xs).length (.m 0) ∧ L = [(j, .row (flatA (mergeK ks xs ++ rest)) 81 2)]) (Lw := [(j, .row (flatA (sortP (ks ++ newK ks xs))) 81 2)]) (Lk := [(q, .cells [.slice0, .int .i64 0] 24), (p, .cells [.slice b off ks.length c, .int .i64 err] 24)]) (W' := [j]) (fun _ => rfl) (fun h hh => by
      obtain ⟨rest, hc⟩ := compactKn_con h j (sortP (ks ++ newK ks xs)) (by omega) (by omega) (hh.sub (L' := [(j, .row (flatA (sortP (ks ++ newK ks xs))) 81 2)]) (by (repeat (first | exact List.Sublist.refl _ | exact List.nil_sublist _ | apply List.Sublist.cons_cons | apply List.Sublist.cons)))).lend
      rw [hsl] at hc
      exact ⟨_, _, hc, rest, rfl, rfl⟩) (by (repeat (first | exact List.Perm.refl _ | refine perm_at 0 rfl ?_ | refine perm_at 1 rfl ?_ | refine perm_at 2 rfl ?_ | refine perm_at 3 rfl ?_ | refine perm_at 4 rfl ?_ | refine perm_at 5 rfl ?_ | refine perm_at 6 rfl ?_ | refine perm_at 7 rfl ?_ | refine perm_at 8 rfl ?_ | refine perm_at 9 rfl ?_))) rfl ?_
    rintro _ _ ⟨rest, rfl, rfl⟩
    (refine St.assign ?_; refine WO.nil ?_; refine WK.seq ?_; refine WK.seq ?_; refine WK.region ?_; refine St.move ?_; refine St.len ?_; refine St.bin ?_; refine WO.nil ?_)
    refine St.splitC (fun hc => ?_) (fun hc => ?_)
    · have hm : (mergeK ks xs).length > 40 := by simp at hc; omega
      (refine WK.seq ?_; refine WK.region ?_; refine St.build ?_; refine St.store1 ?_; refine St.assign ?_; refine WO.nil ?_)
      refine St.ret (by first | exact .tmp .nil | exact .cell .nil | exact .cell (.tmp .nil) | exact .tmp (.tmp .nil) | exact .cell (.cell .nil) | exact .tmp (.cell .nil) | exact .nil | exact .tmp (.cell (.tmp .nil)) | exact .cell (.tmp (.tmp .nil)) | exact .cell (.cell (.tmp .nil)) | exact .tmp (.tmp (.tmp .nil)) | exact .cell (.cell (.cell .nil))) ?_
      rw [if_pos hm]
      exact ⟨[], List.nil_sublist _, .slice0, .inl ⟨rfl, rfl, rfl⟩, rfl⟩
    · have hm : ¬ (mergeK ks xs).length > 40 := by simp at hc; omega
      (refine WK.skip ?_; refine WK.seq ?_; refine WK.region ?_; refine St.move ?_; refine St.fieldAddr ?_; refine St.load ?_; refine St.build ?_; refine St.store1 ?_; refine St.assign ?_; refine WO.nil ?_)
      refine St.ret (by first | exact .tmp .nil | exact .cell .nil | exact .cell (.tmp .nil) | exact .tmp (.tmp .nil) | exact .cell (.cell .nil) | exact .tmp (.cell .nil) | exact .nil | exact .tmp (.cell (.tmp .nil)) | exact .cell (.tmp (.tmp .nil)) | exact .cell (.cell (.tmp .nil)) | exact .tmp (.tmp (.tmp .nil)) | exact .cell (.cell (.cell .nil))) ?_
      rw [if_neg hm]
      exact ⟨[(j, .row (flatA (mergeK ks xs ++ rest)) 81 2)], by (repeat (first | exact List.Sublist.refl _ | exact List.nil_sublist _ | apply List.Sublist.cons_cons | apply List.Sublist.cons)), _, .inr ⟨j, .m 0, _, rfl, rfl, (show (AObj.row (flatA (mergeK ks xs ++ rest)) 81 2).has (flatA (mergeK ks xs) ++ flatA rest) by rw [← flatA_app]; exact AObj.has_row _ _ _).left, mergeK_pos hpos⟩, rfl⟩
end Go.Proofs.YtbhklifflhoinaaGreat
