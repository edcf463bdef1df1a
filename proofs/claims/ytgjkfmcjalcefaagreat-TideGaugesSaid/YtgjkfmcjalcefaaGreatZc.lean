/- Clashes of the program. -/
import Derived.Test.YtgjkfmcjalcefaaGreatZb
import Derived.Test.YtgjkfmcjalcefaaGreatZs
namespace Go.Proofs.YtgjkfmcjalcefaaGreat
open Go.Proofs.YtgjkfmcjalcefaaGreat.Ev

def flP (ps : List (Int × Int)) : List AV := ps.flatMap fun p => [.int .i64 p.1, .int .i64 p.2]
theorem flP_app (a b : List (Int × Int)) : flP (a ++ b) = flP a ++ flP b := by unfold flP; simp
theorem flP_len (a : List (Int × Int)) : (flP a).length = a.length * 2 := by
  induction a with
  | nil => rfl
  | cons p r ih =>
    show ([AV.int .i64 p.1, AV.int .i64 p.2] ++ flP r).length = (r.length + 1) * 2
    rw [List.length_append, ih]
    show 2 + r.length * 2 = _
    omega
def rowG (cs : List Cy) (ss : List Sh) (g : Ga) : Rw := ⟨g.id, g.tk, g.lo, g.hi, (lvG cs ss g).1, (lvG cs ss g).2⟩
def toRb (cs : List Cy) (ss : List Sh) (g : Ga) : Rb := if h : rwOk (rowG cs ss g) = true then ⟨rowG cs ss g, h⟩ else default
theorem toRb_eq {cs ss} {g : Ga} (h : GaOk g) : (toRb cs ss g).1 = rowG cs ss g := by
  have h1 := h.id1
  have h2 := h.id2
  have : rwOk (rowG cs ss g) = true := by
    unfold rwOk rowG
    simp only [Bool.and_eq_true, decide_eq_true_eq]
    omega
  unfold toRb
  rw [dif_pos this]
theorem seeA_fl {cs ss} : ∀ {l : List Ga}, (∀ g ∈ l, GaOk g) → (flR (l.map (toRb cs ss))).map (AV.int .i64) = seeA cs ss l
  | [], _ => rfl
  | g :: r, h => by
    have ih := seeA_fl (cs := cs) (ss := ss) (l := r) (fun x hx => h x (List.mem_cons_of_mem _ hx))
    rw [List.map_cons, flR_cons, toRb_eq (h g (List.mem_cons_self ..))]
    simp only [List.map_cons, ih, rowG]
    rfl
theorem sort_see {cs ss} {l : List Ga} (h : ∀ g ∈ l, GaOk g) : ∃ l' : List Ga, l'.Perm l ∧ l'.Pairwise (fun a b => a.id ≤ b.id) ∧ (sortZ (flR (l.map (toRb cs ss)))).map (AV.int .i64) = seeA cs ss l' := by
  obtain ⟨l', h1, h2⟩ := perm_map (sortR_list (l.map (toRb cs ss))) rfl
  have hg' : ∀ g ∈ l', GaOk g := fun g hg => h g (h1.subset hg)
  refine ⟨l', h1, List.pairwise_iff_getElem.2 fun i j hi hj hij => ?_, ?_⟩
  · have hs := (sortR_perm (l.map (toRb cs ss))).2 i j (Nat.zero_le _) hij (by rw [List.length_map, ← h1.length_eq]; exact hj)
    rw [h2] at hs
    have ei : (l'.map (toRb cs ss)).toArray[i]! = toRb cs ss l'[i] := by simp [hi]
    have ej : (l'.map (toRb cs ss)).toArray[j]! = toRb cs ss l'[j] := by simp [hj]
    rw [ei, ej] at hs
    unfold ltOf cmpR at hs
    rw [toRb_eq (hg' _ (List.getElem_mem hi)), toRb_eq (hg' _ (List.getElem_mem hj))] at hs
    have hs2 := of_decide_eq_false hs
    simp only [rowG] at hs2
    omega
  · rw [sortZ_fl, h2]
    exact seeA_fl fun g hg => h g (h1.subset hg)
theorem Bs_sortF (i n : Nat) (h : Heap) : Bs.ans 41 [.slice i 0 n (.m 0), .fn (.func 42) [] []] h = inpzA 41 42 6 okR sortZ 41 [.slice i 0 n (.m 0), .fn (.func 42) [] []] h := (orB_right rfl).trans ((orB_right rfl).trans ((orB_right rfl).trans (orB_left rfl)))
theorem Bs_sortF0 (h : Heap) : Bs.ans 41 (nilArgs (some 42)) h = nilA 41 (some 42) 41 (nilArgs (some 42)) h := (orB_right rfl).trans ((orB_right rfl).trans ((orB_right rfl).trans ((orB_right rfl).trans ((orB_right rfl).trans (orB_left rfl)))))
theorem sortSg_con {h : Heap} {j : Nat} {cs ss} {l l' : List Ga} (k0 : SS h [j] [(j, .row (seeA cs ss l) 87 6)] h) (hg : ∀ g ∈ l, GaOk g) (hn0 : 0 < l.length) (hb : l.length < 500000) (hl' : (sortZ (flR (l.map (toRb cs ss)))).map (AV.int .i64) = seeA cs ss l') :
    Con Tryz.prog Bs 41 [.slice j 0 l.length (.m 0), .fn (.func 42) [] []] h [j] (.tup []) [(j, .row (seeA cs ss l') 87 6)] := by
  have := Con.inpz (P := Tryz.prog) (B := Bs) (e := 87) (zs := flR (l.map (toRb cs ss))) (Bs_sortF j l.length h) (by rw [seeA_fl hg]; exact k0) (by rw [flR_len, List.length_map]) hb hn0 (okR_fl _)
  rw [hl'] at this
  exact this
theorem toLen {cs ss} (l : List Ga) : ∀ k, k ≤ l.length → (clTo cs ss l k).length ≤ k * l.length
  | 0, _ => by simp [clTo]
  | k + 1, h => by
    have ih := toLen (cs := cs) (ss := ss) l k (by omega)
    have hp : ∀ (a : Ga) (r : List Ga), (pairsTo cs ss a r).length ≤ r.length := by
      intro a r
      induction r with
      | nil => simp [pairsTo]
      | cons b r ih2 =>
        unfold pairsTo at *
        rw [List.flatMap_cons, List.length_append, List.length_cons]
        have : (pairP cs ss a b).length ≤ 1 := by unfold pairP; split <;> simp
        omega
    have hr : (rowCl cs ss (nthG l k) (l.drop (k + 1))).length ≤ l.length := by
      unfold rowCl
      split
      · have := hp (nthG l k) (l.drop (k + 1))
        rw [List.length_drop] at this
        omega
      · simp; omega
    rw [clTo, List.length_append, Nat.succ_mul]
    omega
theorem pairs_len {cs ss} (a : Ga) (r : List Ga) : (pairsTo cs ss a r).length ≤ r.length := by
  induction r with
  | nil => simp [pairsTo]
  | cons b r ih2 =>
    unfold pairsTo at *
    rw [List.flatMap_cons, List.length_append, List.length_cons]
    have : (pairP cs ss a b).length ≤ 1 := by unfold pairP; split <;> simp
    omega
set_option maxRecDepth 100000 in
set_option maxHeartbeats 8000000 in
theorem see0_con (h : Heap) (g : Gd h) (lv : Int) (cv sv v : AV) (hv : GaV h v []) : Con Tryz.prog Bs 35 [.agg [.int .i64 lv, cv, sv], v] h [] .slice0 [] := by
  refine Con.start rfl Tryz.func35 rfl rfl Tryz.ntmps35 rfl rfl g ?_
  (refine WK.seq ?_; refine WK.region ?_; refine St.box fun _ _ => ?_; refine St.assign ?_; refine WO.nil ?_; refine WK.seq ?_; refine WK.region ?_; refine St.assign ?_; refine WO.nil ?_; refine WK.seq ?_; refine WK.seq ?_; refine WK.region ?_; refine St.move ?_)
  refine St.lenV rfl hv.len ?_
  (refine St.move ?_; refine WO.nil ?_; refine WK.block ?_)
  refine WK.unroll ?_
  (refine WK.seq ?_; refine WK.region ?_; refine St.bin ?_; refine WO.nil ?_; refine WK.seq ?_; refine WK.condF ?_; refine WK.exit ?_; refine WK.seq ?_; refine WK.region ?_; refine St.move ?_; refine St.assign ?_; refine WO.nil ?_)
  refine St.ret (by first | exact .tmp .nil | exact .cell .nil | exact .cell (.tmp .nil) | exact .tmp (.tmp .nil) | exact .cell (.cell .nil) | exact .tmp (.cell .nil) | exact .nil | exact .tmp (.cell (.tmp .nil)) | exact .cell (.tmp (.tmp .nil)) | exact .cell (.cell (.tmp .nil)) | exact .tmp (.tmp (.tmp .nil)) | exact .cell (.cell (.cell .nil))) ?_
  rfl
/-- what Clashes returns -/
def ClOut (lv : Int) (cs : List Cy) (ss : List Sh) (l : List Ga) (u : AV) (L : Ob) : Prop :=
  ∃ w l', l'.Perm l ∧ u = .tup [w, .int .i64 (chkGs lv cs ss l)] ∧ IsL 89 2 (if chkGs lv cs ss l = 0 then clTo cs ss l' l'.length else []).length (flP (if chkGs lv cs ss l = 0 then clTo cs ss l' l'.length else [])) w L
/-- what Clashes returns, and that the gauges were put in the order of their IDs -/
def ClOutS (lv : Int) (cs : List Cy) (ss : List Sh) (l : List Ga) (u : AV) (L : Ob) : Prop :=
  ∃ w l', l'.Perm l ∧ (chkGs lv cs ss l = 0 → l'.Pairwise fun a b => a.id ≤ b.id) ∧ u = .tup [w, .int .i64 (chkGs lv cs ss l)] ∧ IsL 89 2 (if chkGs lv cs ss l = 0 then clTo cs ss l' l'.length else []).length (flP (if chkGs lv cs ss l = 0 then clTo cs ss l' l'.length else [])) w L
set_option maxRecDepth 100000 in
set_option maxHeartbeats 16000000 in
theorem clashesS_con (h : Heap) (g : Gd h) (lv : Int) (cv sv v : AV) (cl : List Cw) (ss : List Sh) (l : List Ga) (hc : CyV h cv cl) (hs : ShV h sv ss) (hv : GaV h v l) (hl : l.length ≤ 1000000) :
    ∃ u L, Con Tryz.prog Bs 11 [.agg [.int .i64 lv, cv, sv], v] h [] u L ∧ ClOutS lv (cys cl) ss l u L := by
  have hG : ∀ (h2 : Heap) {V : Ob}, Vw h [] V h2 → Con Tryz.prog Bs 33 [.agg [.int .i64 lv, cv, sv], v] h2 [] (.int .i64 (chkGs lv (cys cl) ss l)) [] := fun h2 V hh => checkGauges_con h2 hh.gd lv cv sv v cl ss l (hc.vw hh) (hs.vw hh) (hv.vw hh) hl
  by_cases h0 : chkGs lv (cys cl) ss l = 0
  rotate_left
  · refine Con.subR (Con.startR rfl Tryz.func11 rfl rfl Tryz.ntmps11 rfl rfl (SS.init g) ?_)
    (refine WK.seq ?_; refine WK.region ?_; refine St.box fun _ _ => ?_; refine St.assign ?_; refine St.assign ?_; refine WO.nil ?_; refine WK.seq ?_; refine WK.seq ?_; refine WK.region ?_; refine St.load ?_; refine St.move ?_)
    refine St.call (fun _ => rfl) (fun h2 hh => hG h2 hh) ?_
    (refine St.assign ?_; refine WO.nil ?_; refine WK.seq ?_; refine WK.region ?_; refine St.move ?_; refine St.bin ?_; refine WO.nil ?_)
    refine St.splitC (fun q => ?_) (fun q => ?_)
    · (refine WK.seq ?_; refine WK.region ?_; refine St.move ?_; refine St.assign ?_; refine St.assign ?_; refine WO.nil ?_)
      refine St.ret (by first | exact .tmp .nil | exact .cell .nil | exact .cell (.tmp .nil) | exact .tmp (.tmp .nil) | exact .cell (.cell .nil) | exact .tmp (.cell .nil) | exact .nil | exact .tmp (.cell (.tmp .nil)) | exact .cell (.tmp (.tmp .nil)) | exact .cell (.cell (.tmp .nil)) | exact .tmp (.tmp (.tmp .nil)) | exact .cell (.cell (.cell .nil))) ?_
      refine ⟨[], List.nil_sublist _, .slice0, l, List.Perm.refl _, fun q => absurd q h0, rfl, ?_⟩
      rw [if_neg h0]
      exact .nil rfl rfl
    · simp at q; exact absurd q h0
  obtain ⟨w, h40, hga⟩ := chkGs_w h0
  refine Con.subR (Con.startR rfl Tryz.func11 rfl rfl Tryz.ntmps11 rfl rfl (SS.init g) ?_)
  (refine WK.seq ?_; refine WK.region ?_; refine St.box fun _ _ => ?_; refine St.assign ?_; refine St.assign ?_; refine WO.nil ?_; refine WK.seq ?_; refine WK.seq ?_; refine WK.region ?_; refine St.load ?_; refine St.move ?_)
  rename_i p hp
  refine St.call (v := .int .i64 0) (fun _ => rfl) (fun h2 hh => by
    have := hG h2 hh
    rw [h0] at this
    exact this) ?_
  (refine St.assign ?_; refine WO.nil ?_; refine WK.seq ?_; refine WK.region ?_; refine St.move ?_; refine St.bin ?_; refine WO.nil ?_; refine WK.condF ?_; refine WK.skip ?_; refine WK.seq ?_; refine WK.region ?_; refine St.load ?_; refine St.move ?_)
  unfold ClOutS
  rw [h0]
  simp only [if_true]
  by_cases hlp : l.length = 0
  · have e1 : l = [] := List.length_eq_zero_iff.1 hlp
    subst e1
    refine St.call (v := .slice0) (fun _ => rfl) (fun h2 hh => see0_con h2 hh.gd lv cv sv v (hv.vw hh)) ?_
    (refine St.assign ?_; refine WO.nil ?_; refine WK.seq ?_; refine WK.region ?_; refine St.move ?_)
    refine St.call (v := .tup []) (fun _ => rfl) (fun h2 hh => Con.nil hh.gd (Bs_sortF0 h2)) ?_
    (refine WO.nil ?_; refine WK.seq ?_; refine WK.region ?_; refine St.assign ?_; refine WO.nil ?_; refine WK.seq ?_; refine WK.seq ?_; refine WK.region ?_; refine St.move ?_; refine St.len0 ?_; refine St.move ?_; refine WO.nil ?_; refine WK.block ?_)
    refine WK.unroll ?_
    (refine WK.seq ?_; refine WK.region ?_; refine St.bin ?_; refine WO.nil ?_; refine WK.seq ?_; refine WK.condF ?_; refine WK.exit ?_; refine WK.seq ?_; refine WK.region ?_; refine St.move ?_; refine St.assign ?_; refine St.assign ?_; refine WO.nil ?_)
    refine St.ret (by first | exact .tmp .nil | exact .cell .nil | exact .cell (.tmp .nil) | exact .tmp (.tmp .nil) | exact .cell (.cell .nil) | exact .tmp (.cell .nil) | exact .nil | exact .tmp (.cell (.tmp .nil)) | exact .cell (.tmp (.tmp .nil)) | exact .cell (.cell (.tmp .nil)) | exact .tmp (.tmp (.tmp .nil)) | exact .cell (.cell (.cell .nil))) ?_
    exact ⟨[], List.nil_sublist _, .slice0, [], List.Perm.refl _, fun _ => List.Pairwise.nil, rfl, .nil rfl rfl⟩
  refine St.callR (fun _ => rfl) (fun h2 hh => see_con h2 hh.gd lv cv sv v cl ss l (hc.vw hh) (hs.vw hh) (hv.vw hh) (by omega) w hga) ?_
  rintro u L1 hu
  generalize hcs : cys cl = cs at *
  cases hu with
  | nil h1 h2 => omega
  | row j hj =>
  obtain ⟨l', hpm, hso, hl'⟩ := sort_see (cs := cs) (ss := ss) hga
  have hll := hpm.length_eq
  (refine St.assign ?_; refine WO.nil ?_; refine WK.seq ?_; refine WK.region ?_; refine St.move ?_)
  refine St.callW (Lw := [(j, .row (seeA cs ss l) 87 6)]) (Lk := [(p, .cells [.int .i64 lv, cv, sv] 25)]) (L' := [(j, .row (seeA cs ss l') 87 6)]) (W' := [j]) (fun _ => rfl) (fun h hh => sortSg_con (hh.sub (L' := [(j, .row (seeA cs ss l) 87 6)]) (by (repeat (first | exact List.Sublist.refl _ | exact List.nil_sublist _ | apply List.Sublist.cons_cons | apply List.Sublist.cons)))).lend hga (by omega) (by omega) hl') (by (repeat (first | exact List.Perm.refl _ | refine perm_at 0 rfl ?_ | refine perm_at 1 rfl ?_ | refine perm_at 2 rfl ?_ | refine perm_at 3 rfl ?_ | refine perm_at 4 rfl ?_ | refine perm_at 5 rfl ?_ | refine perm_at 6 rfl ?_ | refine perm_at 7 rfl ?_ | refine perm_at 8 rfl ?_ | refine perm_at 9 rfl ?_))) rfl ?_
  rw [← hll]
  (refine WO.nil ?_; refine WK.seq ?_; refine WK.region ?_; refine St.assign ?_; refine WO.nil ?_; refine WK.seq ?_; refine WK.seq ?_; refine WK.region ?_; refine St.move ?_; refine St.len ?_; refine St.move ?_; refine WO.nil ?_; refine WK.block ?_)
  have sqr : ∀ k, k ≤ l'.length → (clTo cs ss l' k).length ≤ 1600 := fun k hk => by
    have h1 := toLen (cs := cs) (ss := ss) l' k hk
    have h2 : k * l'.length ≤ 40 * 40 := Nat.mul_le_mul (by omega) (by omega)
    omega
  refine WK.inv (ι := Nat × AV × Ob) (fun z => [(5, .int .i64 0), (7, .slice j 0 l'.length (.m 0)), (8, z.2.1), (24, .slice j 0 l'.length (.m 0)), (25, .int .i64 l'.length), (26, .int .i64 z.1)]) (fun z => (j, .row (seeA cs ss l') 87 6) :: z.2.2) (fun z => z.1 ≤ l'.length ∧ IsL 89 2 (clTo cs ss l' z.1).length (flP (clTo cs ss l' z.1)) z.2.1 z.2.2) (fun z => l'.length - z.1) (0, .slice0, []) ⟨Nat.zero_le _, .nil rfl rfl⟩ ⟨rfl, rfl, rfl, rfl, rfl, rfl, trivial⟩ (by (repeat (first | exact List.Sublist.refl _ | exact List.nil_sublist _ | apply List.Sublist.cons_cons | apply List.Sublist.cons))) ?_
  rintro ⟨k, w1, Lw⟩ ⟨hkl, hw⟩ ih
  simp only at hkl hw ih ⊢
  (refine WK.seq ?_; refine WK.region ?_; refine St.bin ?_; refine WO.nil ?_; refine WK.seq ?_)
  refine St.splitC (fun hc2 => ?_) (fun hc2 => ?_)
  rotate_left
  · have e9 : k = l'.length := by simp at hc2; omega
    subst e9
    (refine WK.exit ?_; refine WK.seq ?_; refine WK.region ?_; refine St.move ?_; refine St.assign ?_; refine St.assign ?_; refine WO.nil ?_)
    refine St.ret (by first | exact .tmp .nil | exact .cell .nil | exact .cell (.tmp .nil) | exact .tmp (.tmp .nil) | exact .cell (.cell .nil) | exact .tmp (.cell .nil) | exact .nil | exact .tmp (.cell (.tmp .nil)) | exact .cell (.tmp (.tmp .nil)) | exact .cell (.cell (.tmp .nil)) | exact .tmp (.tmp (.tmp .nil)) | exact .cell (.cell (.cell .nil))) ?_
    exact ⟨Lw, List.sublist_cons_self _ _, w1, l', hpm, fun _ => hso, rfl, hw⟩
  have hlt : k < l'.length := by simp at hc2; omega
  have est : clTo cs ss l' (k + 1) = clTo cs ss l' k ++ rowCl cs ss (nthG l' k) (l'.drop (k + 1)) := rfl
  have hsq := sqr k (by omega)
  (refine WK.skip ?_; refine WK.seq ?_; refine WK.block ?_; refine WK.seq ?_; refine WK.region ?_; refine St.move ?_)
  refine St.at ?_
  refine St.loadX (fun h2 hh => (see_at hh (List.Mem.head _) (z := (k : Int)) (n := k) (by omega) hlt).agg (by simp) rfl rfl rfl) ?_
  (refine St.alloc fun _ _ => ?_; refine St.assign ?_; refine St.store0 ?_; refine WO.nil ?_; refine WK.seq ?_; refine WK.seq ?_; refine WK.region ?_; refine St.fieldAddr ?_; refine St.load ?_)
  rename_i x hx
  refine St.call (fun _ => rfl) (fun h2 hh => isSpan_con h2 hh.gd (lvG cs ss (nthG l' k)).1 (lvG cs ss (nthG l' k)).2) ?_
  cases hne : decide ((lvG cs ss (nthG l' k)).1 ≤ (lvG cs ss (nthG l' k)).2)
  · have e3 : rowCl cs ss (nthG l' k) (l'.drop (k + 1)) = [((nthG l' k).id, (nthG l' k).id)] := by
      unfold rowCl neG
      rw [hne, if_neg (by simp)]
    rw [e3] at est
    (refine St.un ?_; refine WO.nil ?_; refine WK.condT ?_; refine WK.seq ?_; refine WK.region ?_; refine St.move ?_; refine St.fieldAddr ?_; refine St.fieldAddr ?_; refine St.load ?_; refine St.fieldAddr ?_; refine St.fieldAddr ?_; refine St.load ?_; refine St.build ?_; refine St.mkS fun _ _ => ?_)
    rename_i x3 hx3
    refine St.appL (e := 89) (sz := 2) (new := [.int .i64 (nthG l' k).id, .int .i64 (nthG l' k).id]) (Lk := (x3, .cells [.int .i64 (nthG l' k).id, .int .i64 (nthG l' k).id] 89) :: (x, .cells [.int .i64 (nthG l' k).id, .int .i64 (nthG l' k).tk, .int .i64 (nthG l' k).lo, .int .i64 (nthG l' k).hi, .int .i64 (lvG cs ss (nthG l' k)).1, .int .i64 (lvG cs ss (nthG l' k)).2] 87) :: [(j, .row (seeA cs ss l') 87 6)]) hw List.perm_append_comm (fun v' Lv' hv' => ?_) ⟨rfl, rfl, rfl, rfl, rfl, rfl, rfl, rfl, rfl, rfl, rfl, rfl⟩ (List.Mem.head _) rfl (by omega) (by omega)
    (refine St.assign ?_; refine WO.nil ?_; refine WK.exit ?_; refine WK.region ?_; refine St.binI ?_; refine St.move ?_; refine WO.nil ?_)
    refine WK.perm (L' := (j, .row (seeA cs ss l') 87 6) :: (Lv' ++ (x3, .cells [.int .i64 (nthG l' k).id, .int .i64 (nthG l' k).id] 89) :: [(x, .cells [.int .i64 (nthG l' k).id, .int .i64 (nthG l' k).tk, .int .i64 (nthG l' k).lo, .int .i64 (nthG l' k).hi, .int .i64 (lvG cs ss (nthG l' k)).1, .int .i64 (lvG cs ss (nthG l' k)).2] 87)])) ?_ ?_
    · show List.Perm ((j, .row (seeA cs ss l') 87 6) :: (Lv' ++ (x3, .cells [.int .i64 (nthG l' k).id, .int .i64 (nthG l' k).id] 89) :: [(x, .cells [.int .i64 (nthG l' k).id, .int .i64 (nthG l' k).tk, .int .i64 (nthG l' k).lo, .int .i64 (nthG l' k).hi, .int .i64 (lvG cs ss (nthG l' k)).1, .int .i64 (lvG cs ss (nthG l' k)).2] 87)]) : Ob) (Lv' ++ (x3, .cells [.int .i64 (nthG l' k).id, .int .i64 (nthG l' k).id] 89) :: (x, .cells [.int .i64 (nthG l' k).id, .int .i64 (nthG l' k).tk, .int .i64 (nthG l' k).lo, .int .i64 (nthG l' k).hi, .int .i64 (lvG cs ss (nthG l' k)).1, .int .i64 (lvG cs ss (nthG l' k)).2] 87) :: [(j, .row (seeA cs ss l') 87 6)])
      (refine perm_cnt fun _ _ => ?_; simp only [List.append_eq, List.cons_append, List.nil_append, List.count_append, List.count_cons, List.count_nil, Nat.add_zero, Nat.zero_add]; try ac_rfl)
    refine WK.le ?_ (List.Sublist.cons_cons _ (List.sublist_append_left _ _)) (ih (k + 1, v', Lv') ⟨hlt, ?_⟩ (by simp only; omega))
    · exact ⟨rfl, rfl, rfl, rfl, rfl, rfl, trivial⟩
    · simp only
      rw [est, List.length_append, flP_app]
      exact hv'
  have e3 : rowCl cs ss (nthG l' k) (l'.drop (k + 1)) = pairsTo cs ss (nthG l' k) (l'.drop (k + 1)) := by
    unfold rowCl neG
    rw [hne, if_pos rfl]
  rw [e3] at est
  have hkn : ∀ (h2 : Heap) {W : List Nat} {V : Ob}, Vw h W V h2 → (j, .row (seeA cs ss l') 87 6) ∈ V → knownN h2 j 6 = l'.length := fun h2 W V hh hm => by
    unfold knownN
    rw [(hh.own _ hm).1]
    simp only [if_true, seeA_len]
    omega
  (refine St.un ?_; refine WO.nil ?_; refine WK.condF ?_; refine WK.skip ?_; refine WK.seq ?_; refine WK.region ?_; refine St.move ?_; refine St.move ?_; refine St.binI ?_)
  by_cases hcn : k + 1 < l'.length
  rotate_left
  · refine St.sliceV (v := .sliceZ) (fun h2 hh => ?_) ?_
    · show plainV (evSlice Tryz.prog h2 79 (.slice j 0 l'.length (.m 0)) (some (.int .i64 ((k : Int) + 1))) none none) h2 = _
      rw [show ((k : Int) + 1) = ((k + 1 : Nat) : Int) by omega, sl_seeF (hkn h2 hh (List.Mem.tail _ (List.Mem.head _))) (by omega) (by omega), show frV j l'.length (k + 1) = .sliceZ from if_neg hcn]
      rfl
    (refine St.lenZ ?_; refine St.move ?_; refine WO.nil ?_; refine WK.block ?_)
    refine WK.unroll ?_
    (refine WK.seq ?_; refine WK.region ?_; refine St.bin ?_; refine WO.nil ?_; refine WK.seq ?_; refine WK.condF ?_; refine WK.exit ?_; refine WK.blk ?_; refine WK.region ?_; refine St.binI ?_; refine St.move ?_; refine WO.nil ?_)
    refine WK.le ?_ (List.sublist_cons_self _ _) (ih (k + 1, w1, Lw) ⟨hlt, ?_⟩ (by simp only; omega))
    · exact ⟨rfl, rfl, rfl, rfl, rfl, rfl, trivial⟩
    · simp only
      rw [est, List.drop_eq_nil_of_le (by omega), show pairsTo cs ss (nthG l' k) [] = [] from rfl, List.append_nil]
      exact hw
  refine St.sliceV (v := .slice j ((k + 1) * 6) (l'.length - (k + 1)) (.m (k + 1))) (fun h2 hh => ?_) ?_
  · show plainV (evSlice Tryz.prog h2 79 (.slice j 0 l'.length (.m 0)) (some (.int .i64 ((k : Int) + 1))) none none) h2 = _
    rw [show ((k : Int) + 1) = ((k + 1 : Nat) : Int) by omega, sl_seeF (hkn h2 hh (List.Mem.tail _ (List.Mem.head _))) (by omega) (by omega), show frV j l'.length (k + 1) = .slice j ((k + 1) * 6) (l'.length - (k + 1)) (.m (k + 1)) from if_pos hcn]
    rfl
  (refine St.len ?_; refine St.move ?_; refine WO.nil ?_; refine WK.block ?_)
  generalize hr : l'.drop (k + 1) = r at *
  have hrl : r.length = l'.length - (k + 1) := by rw [← hr, List.length_drop]
  rw [← hrl]
  refine WK.inv (ι := Nat × AV × Ob) (fun z => [(5, .int .i64 0), (7, .slice j 0 l'.length (.m 0)), (8, z.2.1), (10, .ptr x 0), (24, .slice j 0 l'.length (.m 0)), (25, .int .i64 l'.length), (26, .int .i64 k), (48, .slice j ((k + 1) * 6) r.length (.m (k + 1))), (49, .int .i64 r.length), (50, .int .i64 z.1)]) (fun z => (x, .cells [.int .i64 (nthG l' k).id, .int .i64 (nthG l' k).tk, .int .i64 (nthG l' k).lo, .int .i64 (nthG l' k).hi, .int .i64 (lvG cs ss (nthG l' k)).1, .int .i64 (lvG cs ss (nthG l' k)).2] 87) :: (j, .row (seeA cs ss l') 87 6) :: z.2.2) (fun z => z.1 ≤ r.length ∧ IsL 89 2 (clTo cs ss l' k ++ pairsTo cs ss (nthG l' k) (r.take z.1)).length (flP (clTo cs ss l' k ++ pairsTo cs ss (nthG l' k) (r.take z.1))) z.2.1 z.2.2) (fun z => r.length - z.1) (0, w1, Lw) ⟨Nat.zero_le _, by simpa [pairsTo] using hw⟩ ⟨rfl, rfl, rfl, rfl, rfl, rfl, rfl, rfl, rfl, rfl, trivial⟩ (by (repeat (first | exact List.Sublist.refl _ | exact List.nil_sublist _ | apply List.Sublist.cons_cons | apply List.Sublist.cons))) ?_
  rintro ⟨m, w2, Lw2⟩ ⟨hml, hw2⟩ ih2
  simp only at hml hw2 ih2 ⊢
  (refine WK.seq ?_; refine WK.region ?_; refine St.bin ?_; refine WO.nil ?_; refine WK.seq ?_)
  refine St.splitC (fun hc3 => ?_) (fun hc3 => ?_)
  rotate_left
  · have e9 : m = r.length := by simp at hc3; omega
    subst e9
    rw [List.take_length] at hw2
    (refine WK.exit ?_; refine WK.blk ?_; refine WK.region ?_; refine St.binI ?_; refine St.move ?_; refine WO.nil ?_)
    refine WK.le ?_ (List.sublist_cons_self _ _) (ih (k + 1, w2, Lw2) ⟨hlt, ?_⟩ (by simp only; omega))
    · exact ⟨rfl, rfl, rfl, rfl, rfl, rfl, trivial⟩
    · simp only
      rw [est]
      exact hw2
  have hmt : m < r.length := by simp at hc3; omega
  have est2 := pairsTo_succ (cs := cs) (ss := ss) (a := nthG l' k) (r := r) hmt
  have hpl := pairs_len (cs := cs) (ss := ss) (nthG l' k) (r.take m)
  rw [List.length_take] at hpl
  (refine WK.skip ?_; refine WK.seq ?_; refine WK.block ?_; refine WK.seq ?_; refine WK.region ?_)
  refine St.at ?_
  refine St.loadX (fun h2 hh => (by
    have q := ((see_seh hh (List.Mem.tail _ (List.Mem.head _))).drp (k := k + 1)).at_ (z := (m : Int)) (n := m) (by omega) (by rw [hr]; exact hmt)
    rw [Nat.zero_add, hr] at q
    exact q.agg (by simp) rfl rfl rfl)) ?_
  (refine St.alloc fun _ _ => ?_; refine St.store0 ?_; refine WO.nil ?_; refine WK.seq ?_; refine WK.region ?_; refine St.fieldAddr ?_; refine St.load ?_)
  rename_i y hy
  refine St.call (fun _ => rfl) (fun h2 hh => isSpan_con h2 hh.gd (lvG cs ss (nthG r m)).1 (lvG cs ss (nthG r m)).2) ?_
  cases hnb : decide ((lvG cs ss (nthG r m)).1 ≤ (lvG cs ss (nthG r m)).2)
  · have e4 : pairP cs ss (nthG l' k) (nthG r m) = [] := by
      unfold pairP neG
      rw [hnb]
      rfl
    rw [e4, List.append_nil] at est2
    (refine St.move ?_; refine St.skip ?_; refine St.skip ?_; refine St.skip ?_; refine St.skip ?_; refine St.skip ?_; refine St.skip ?_; refine St.skip ?_; refine St.pickF ?_; refine WO.nil ?_; refine WK.condF ?_; refine WK.skip ?_; refine WK.blk ?_; refine WK.region ?_; refine St.binI ?_; refine St.move ?_; refine WO.nil ?_)
    refine WK.le ?_ (List.sublist_cons_self _ _) (ih2 (m + 1, w2, Lw2) ⟨hmt, ?_⟩ (by simp only; omega))
    · exact ⟨rfl, rfl, rfl, rfl, rfl, rfl, rfl, rfl, rfl, rfl, trivial⟩
    · simp only
      rw [est2]
      exact hw2
  (refine St.move ?_; refine St.fieldAddr ?_; refine St.load ?_; refine St.fieldAddr ?_; refine St.load ?_)
  refine St.call (fun _ => rfl) (fun h2 hh => meet_con h2 hh.gd (lvG cs ss (nthG l' k)).1 (lvG cs ss (nthG l' k)).2 (lvG cs ss (nthG r m)).1 (lvG cs ss (nthG r m)).2) ?_
  skip
  refine St.call (fun _ => rfl) (fun h2 hh => isSpan_con h2 hh.gd (max (lvG cs ss (nthG l' k)).1 (lvG cs ss (nthG r m)).1) (min (lvG cs ss (nthG l' k)).2 (lvG cs ss (nthG r m)).2)) ?_
  cases hto : decide (max (lvG cs ss (nthG l' k)).1 (lvG cs ss (nthG r m)).1 ≤ min (lvG cs ss (nthG l' k)).2 (lvG cs ss (nthG r m)).2)
  rotate_left
  · have e4 : pairP cs ss (nthG l' k) (nthG r m) = [] := by
      unfold pairP neG toG
      rw [hnb, hto]
      rfl
    rw [e4, List.append_nil] at est2
    (refine St.un ?_; refine St.pickT ?_; refine WO.nil ?_; refine WK.condF ?_; refine WK.skip ?_; refine WK.blk ?_; refine WK.region ?_; refine St.binI ?_; refine St.move ?_; refine WO.nil ?_)
    refine WK.le ?_ (List.sublist_cons_self _ _) (ih2 (m + 1, w2, Lw2) ⟨hmt, ?_⟩ (by simp only; omega))
    · exact ⟨rfl, rfl, rfl, rfl, rfl, rfl, rfl, rfl, rfl, rfl, trivial⟩
    · simp only
      rw [est2]
      exact hw2
  have e4 : pairP cs ss (nthG l' k) (nthG r m) = [((nthG l' k).id, (nthG r m).id)] := by
    unfold pairP neG toG
    rw [hnb, hto]
    rfl
  rw [e4] at est2
  (refine St.un ?_; refine St.pickT ?_; refine WO.nil ?_; refine WK.condT ?_; refine WK.region ?_; refine St.move ?_; refine St.fieldAddr ?_; refine St.fieldAddr ?_; refine St.load ?_; refine St.fieldAddr ?_; refine St.fieldAddr ?_; refine St.load ?_; refine St.build ?_; refine St.mkS fun _ _ => ?_)
  rename_i x3 hx3
  refine St.appL (e := 89) (sz := 2) (new := [.int .i64 (nthG l' k).id, .int .i64 (nthG r m).id]) (Lk := (x3, .cells [.int .i64 (nthG l' k).id, .int .i64 (nthG r m).id] 89) :: (y, .cells [.int .i64 (nthG r m).id, .int .i64 (nthG r m).tk, .int .i64 (nthG r m).lo, .int .i64 (nthG r m).hi, .int .i64 (lvG cs ss (nthG r m)).1, .int .i64 (lvG cs ss (nthG r m)).2] 87) :: (x, .cells [.int .i64 (nthG l' k).id, .int .i64 (nthG l' k).tk, .int .i64 (nthG l' k).lo, .int .i64 (nthG l' k).hi, .int .i64 (lvG cs ss (nthG l' k)).1, .int .i64 (lvG cs ss (nthG l' k)).2] 87) :: [(j, .row (seeA cs ss l') 87 6)]) hw2 List.perm_append_comm (fun v' Lv' hv' => ?_) ⟨rfl, rfl, rfl, rfl, rfl, rfl, rfl, rfl, rfl, rfl, rfl, rfl⟩ (List.Mem.head _) rfl (by omega) (by rw [List.length_append]; omega)
  (refine St.assign ?_; refine WO.nil ?_; refine WK.blk ?_; refine WK.region ?_; refine St.binI ?_; refine St.move ?_; refine WO.nil ?_)
  refine WK.perm (L' := (x, .cells [.int .i64 (nthG l' k).id, .int .i64 (nthG l' k).tk, .int .i64 (nthG l' k).lo, .int .i64 (nthG l' k).hi, .int .i64 (lvG cs ss (nthG l' k)).1, .int .i64 (lvG cs ss (nthG l' k)).2] 87) :: (j, .row (seeA cs ss l') 87 6) :: (Lv' ++ (x3, .cells [.int .i64 (nthG l' k).id, .int .i64 (nthG r m).id] 89) :: [(y, .cells [.int .i64 (nthG r m).id, .int .i64 (nthG r m).tk, .int .i64 (nthG r m).lo, .int .i64 (nthG r m).hi, .int .i64 (lvG cs ss (nthG r m)).1, .int .i64 (lvG cs ss (nthG r m)).2] 87)])) ?_ ?_
  · show List.Perm ((x, .cells [.int .i64 (nthG l' k).id, .int .i64 (nthG l' k).tk, .int .i64 (nthG l' k).lo, .int .i64 (nthG l' k).hi, .int .i64 (lvG cs ss (nthG l' k)).1, .int .i64 (lvG cs ss (nthG l' k)).2] 87) :: (j, .row (seeA cs ss l') 87 6) :: (Lv' ++ (x3, .cells [.int .i64 (nthG l' k).id, .int .i64 (nthG r m).id] 89) :: [(y, .cells [.int .i64 (nthG r m).id, .int .i64 (nthG r m).tk, .int .i64 (nthG r m).lo, .int .i64 (nthG r m).hi, .int .i64 (lvG cs ss (nthG r m)).1, .int .i64 (lvG cs ss (nthG r m)).2] 87)]) : Ob) (Lv' ++ (x3, .cells [.int .i64 (nthG l' k).id, .int .i64 (nthG r m).id] 89) :: (y, .cells [.int .i64 (nthG r m).id, .int .i64 (nthG r m).tk, .int .i64 (nthG r m).lo, .int .i64 (nthG r m).hi, .int .i64 (lvG cs ss (nthG r m)).1, .int .i64 (lvG cs ss (nthG r m)).2] 87) :: (x, .cells [.int .i64 (nthG l' k).id, .int .i64 (nthG l' k).tk, .int .i64 (nthG l' k).lo, .int .i64 (nthG l' k).hi, .int .i64 (lvG cs ss (nthG l' k)).1, .int .i64 (lvG cs ss (nthG l' k)).2] 87) :: [(j, .row (seeA cs ss l') 87 6)])
    (refine perm_cnt fun _ _ => ?_; simp only [List.append_eq, List.cons_append, List.nil_append, List.count_append, List.count_cons, List.count_nil, Nat.add_zero, Nat.zero_add]; try ac_rfl)
  refine WK.le ?_ (List.Sublist.cons_cons _ (List.Sublist.cons_cons _ (List.sublist_append_left _ _))) (ih2 (m + 1, v', Lv') ⟨hmt, ?_⟩ (by simp only; omega))
  · exact ⟨rfl, rfl, rfl, rfl, rfl, rfl, rfl, rfl, rfl, rfl, trivial⟩
  · simp only
    rw [est2, ← List.append_assoc, List.length_append, flP_app]
    exact hv'
end Go.Proofs.YtgjkfmcjalcefaaGreat
