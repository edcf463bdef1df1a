/- Layer 9: the law ArbiterProves. -/
import Derived.Test.YtilpinmbngikgaaVc
import Derived.Test.YtilpinmbngikgaaOu
/- Layer 9, plain: a proof shows the first ruling of its case; votes of a list show one of its rulings. -/
namespace Go.Proofs.Ytilpinmbngikgaa
open Go.Proofs.Ytilpinmbngikgaa.Ev

theorem sub_err {c : Int} {l m : List Le} (he : errL c l = 0) (hs : ∀ x ∈ m, x ∈ l) (hl : m.length ≤ 2000) : errL c m = 0 := by
  obtain ⟨h1, h2, h3⟩ := errL_ok he
  unfold errL
  rw [h1]
  simp only [cond_true]
  rw [if_neg (by omega)]
  have : m.any (fun x => !frmB c x) = false := by
    rw [List.any_eq_false]
    intro z hz
    simp [h3 z (hs z hz)]
  rw [this]
  rfl
theorem maj_le {c : Int} (hc : crt c = true) : maj c ≤ 4 := by
  have := crt_bd hc
  unfold maj
  rw [hc]
  simp only [cond_true]
  rw [Int.tdiv_eq_ediv_of_nonneg (by omega)]
  omega
theorem rls_case {c : Int} {l : List Le} (he : errL c l = 0) {r : Rl3} (hr : r ∈ rlsOf c l) : inB r.1 1 1099511627776 = true := by
  have hm := maj_pos (crt_bd (errL_ok he).1)
  obtain ⟨S, k⟩ := rls_ruled (fun x hx => (frm_fr he x hx).1) hr
  obtain ⟨a, ha⟩ : ∃ a, a ∈ S := by
    cases S with
    | nil => have := k.big; simp at this; omega
    | cons a S => exact ⟨a, List.mem_cons_self ..⟩
  obtain ⟨v, v1, _, v3, _⟩ := k.is a ha
  have := frm_case he v v1
  rw [v3] at this
  simp only [Bool.and_eq_true] at this
  exact this.1
/-- there is a proof exactly if there is a ruling -/
theorem pr_any {c : Int} {l : List Le} {id : Int} (he : errL c l = 0) : prE c l id = 0 ↔ (rlsOf c l).any (fun r => decide (r.1 = id)) = true := by
  unfold prE
  rw [if_neg (by simp [he])]
  constructor
  · intro h
    split at h
    · split at h
      · rename_i h2; exact h2
      · omega
    · omega
  · intro h
    obtain ⟨r, h1, h2⟩ := List.any_eq_true.1 h
    have h3 := rls_case he h1
    have h4 : r.1 = id := by simpa using h2
    rw [h4] at h3
    rw [if_pos h3, if_pos h]
theorem fst_first {rs : List Rl3} {id : Int} {i : Nat} (hi : i < rs.length) (h : (nthE rs i).1 = id) (hn : (rs.take i).any (fun r => decide (r.1 = id)) = false) : fstR rs id = nthE rs i := by
  have e : rs = rs.take i ++ nthE rs i :: rs.drop (i + 1) := by
    rw [← drop_consE hi, List.take_append_drop]
  unfold fstR
  rw [e, List.find?_append]
  have : (rs.take i).find? (fun r => decide (r.1 = id)) = none := List.find?_eq_none.2 fun x hx => by
    have := List.any_eq_false.1 hn x hx
    simpa using this
  rw [this]
  rw [← e]
  simp [h]
/-- a proof shows the first ruling of its case -/
theorem proof_ok {c : Int} {l : List Le} {id : Int} (he : errL c l = 0) (h0 : prE c l id = 0) : chkE c (prL c l id) = 0 ∧ chkR c (prL c l id) = fstR (rlsOf c l) id := by
  have hc := (errL_ok he).1
  have hm := maj_pos (crt_bd hc)
  have hany := (pr_any he).1 h0
  have hin : fstR (rlsOf c l) id ∈ rlsOf c l := by
    unfold fstR
    cases hf : (rlsOf c l).find? (fun r => decide (r.1 = id)) with
    | none =>
      obtain ⟨r, h1, h2⟩ := List.any_eq_true.1 hany
      exact absurd h2 (List.find?_eq_none.1 hf r h1)
    | some r => exact List.mem_of_find?_eq_some hf
  obtain ⟨k1, k2⟩ := vfN_ok (c := c) (l := l) (r := fstR (rlsOf c l) id) l.length (Nat.le_refl _)
  have hfull := vfN_full hm (fr7 he) hin
  have hlen : (prL c l id).length ≤ 2000 := by
    have := maj_le hc
    unfold prL
    omega
  have hpe : errL c (prL c l id) = 0 := sub_err he (fun x hx => (k1 x hx).1) hlen
  have hok : okVB (fstR (rlsOf c l) id) (prL c l id) = true := okVB_of (fun x hx => (k1 x hx).2) k2
  have h1 := rls_one hm (fr7 hpe) hok
  rw [if_pos (by unfold prL; omega)] at h1
  have hE : chkE c (prL c l id) = 0 := by
    unfold chkE
    rw [if_neg (by simp [hpe]), h1, if_neg (by simp), show hdR [fstR (rlsOf c l) id] = fstR (rlsOf c l) id from rfl, if_pos hok]
  refine ⟨hE, ?_⟩
  unfold chkR
  rw [if_pos hE, h1]
  rfl
/-- votes of a list show one of its rulings -/
theorem shown_in {c : Int} {l m : List Le} (he : errL c l = 0) (hs : ∀ x ∈ m, x ∈ l) (h0 : chkE c m = 0) : chkR c m ∈ rlsOf c l := by
  have hm := maj_pos (crt_bd (errL_ok he).1)
  have hme : errL c m = 0 := by
    unfold chkE at h0
    apply Classical.byContradiction
    intro h
    rw [if_pos h] at h0
    exact h h0
  have hne : (rlsOf c m).length ≠ 0 := by
    intro h
    unfold chkE at h0
    rw [if_neg (by simp [hme]), if_pos h] at h0
    omega
  have hR : chkR c m = hdR (rlsOf c m) := by unfold chkR; rw [if_pos h0]
  have hin : hdR (rlsOf c m) ∈ rlsOf c m := by
    unfold hdR
    rw [List.getElem?_eq_getElem (by omega), Option.getD_some]
    exact List.getElem_mem _
  rw [hR]
  obtain ⟨S, k⟩ := rls_ruled (fun x hx => (frm_fr hme x hx).1) hin
  refine ruled_rls hm k.nd (fun a ha => ?_) k.big fun a ha => ?_
  · obtain ⟨v, v1, _, _, _, v5, _⟩ := k.is a ha
    have := frm_fr hme v v1
    omega
  · obtain ⟨v, v1, v2, v3, v4, v5, v6⟩ := k.is a ha
    refine ⟨v, hs v v1, forB_iff.2 ⟨v2, ?_⟩, by omega⟩
    unfold rlOf
    rw [v3, v4, v6]
theorem take_any {rs : List Rl3} {t : Rl3 → Bool} {k : Nat} (h : k < rs.length) : (rs.take (k + 1)).any t = ((rs.take k).any t || t (nthE rs k)) := by
  rw [take_succE h, List.any_append]
  simp
end Go.Proofs.Ytilpinmbngikgaa

/- Layer 9: the law ArbiterProves. -/
namespace Go.Proofs.Ytilpinmbngikgaa
open Go.Proofs.Ytilpinmbngikgaa.Ev

theorem evRem {P : Program} {t : TypeId} {a b q : Int} (hb : b ≠ 0) (e : a.tmod b = q) : evBin P .rem t (.int .i64 a) (.int .i64 b) = some (.int .i64 q) := by
  subst e
  unfold evBin evInt
  simp [hb]
theorem rl_eql (x r : Rl3) : evBin Try.prog .eql 32 (.agg (rlC x)) (.agg (rlC r)) = some (.bool (decide (x = r))) := by
  obtain ⟨a, b, c⟩ := x
  obtain ⟨d, f, g⟩ := r
  simp [rlC, evBin, evEq, guardOk, eqT, eqFs, partE, isAggT, nthN]
  by_cases h1 : a = d <;> by_cases h2 : b = f <;> by_cases h3 : c = g <;> simp [h1, h2, h3]
abbrev ByA := EA byC 1
theorem EV.blen {h : Heap} {v : AV} {l : List Nat} (k : EV byC 1 h v l) : ∀ h2, lenA Try.prog 45 h2 v = some (.int .i64 (l.length : Int)) := EV.len k Try.underlying45
set_option maxRecDepth 100000 in
set_option maxHeartbeats 64000000 in
theorem provesLaw_con (h : Heap) (g : Gd h) (c : Int) (v : AV) (l : List Le) (id : Int) (vb : AV) (ns : List Nat) (hv : LeA h v l) (hb : ByA h vb ns) (hns : ∀ x ∈ ns, x ≤ 255) : Con Try.prog Bs 7 [.agg [.int .i64 c], v, .int .i64 id, vb] h [] (.bool true) [] := by
  have hvV : LeV h v l := hv.eV
  have hbV : EV byC 1 h vb ns := hb.eV
  refine Con.start rfl Try.func7 rfl rfl Try.ntmps7 rfl rfl g ?_
  (refine WK.seq ?_; refine WK.region ?_; refine St.box fun _ _ => ?_; refine St.assign ?_; refine WO.nil ?_; refine WK.seq ?_; refine WK.seq ?_; refine WK.region ?_; refine St.move ?_)
  rename_i p4 hp4
  refine St.lenG rfl hvV.llen ?_
  (refine St.bin ?_; refine St.move ?_)
  refine St.split (fun q => ?_) (fun q => ?_)
  · (refine St.skip ?_; refine St.skip ?_; refine St.skip ?_; refine St.pickT ?_; refine WO.nil ?_; refine WK.condT ?_; refine WK.seq ?_; refine WK.region ?_)
    refine St.call (fun _ => rfl) (fun h2 hh2 => sanity_con h2 hh2.gd) ?_
    (refine St.assign ?_; refine WO.nil ?_)
    refine St.ret (by first | exact .tmp .nil | exact .cell .nil | exact .cell (.tmp .nil) | exact .tmp (.tmp .nil) | exact .cell (.cell .nil) | exact .tmp (.cell .nil) | exact .nil | exact .tmp (.cell (.tmp .nil)) | exact .cell (.tmp (.tmp .nil)) | exact .cell (.cell (.tmp .nil)) | exact .tmp (.tmp (.tmp .nil)) | exact .tmp (.tmp (.tmp (.tmp .nil))) | exact .cell (.cell (.cell .nil))) ?_
    rfl
  have hl : l.length ≤ 60 := by simp at q; omega
  (refine St.move ?_)
  refine St.lenG rfl (EV.blen hbV) ?_
  (refine St.bin ?_; refine St.pickF ?_; refine WO.nil ?_)
  refine St.splitC (fun q => ?_) (fun q => ?_)
  · (refine WK.seq ?_; refine WK.region ?_)
    refine St.call (fun _ => rfl) (fun h2 hh2 => sanity_con h2 hh2.gd) ?_
    (refine St.assign ?_; refine WO.nil ?_)
    refine St.ret (by first | exact .tmp .nil | exact .cell .nil | exact .cell (.tmp .nil) | exact .tmp (.tmp .nil) | exact .cell (.cell .nil) | exact .tmp (.cell .nil) | exact .nil | exact .tmp (.cell (.tmp .nil)) | exact .cell (.tmp (.tmp .nil)) | exact .cell (.cell (.tmp .nil)) | exact .tmp (.tmp (.tmp .nil)) | exact .tmp (.tmp (.tmp (.tmp .nil))) | exact .cell (.cell (.cell .nil))) ?_
    rfl
  have hnl : ns.length ≤ 20 := by simp at q; omega
  (refine WK.skip ?_; refine WK.seq ?_; refine WK.region ?_; refine St.load ?_; refine St.move ?_)
  refine St.callR (R := rlsR c l) (fun _ => rfl) (fun h2 hh => rulings_con h2 hh.gd c v l (hv.eV.vw hh) (by omega)) (fun u L1 hR => ?_)
  refine WO.permF List.perm_append_comm ?_
  rcases hR with ⟨hne, rfl⟩ | ⟨he, w1, rfl, hw1⟩
  · have hpe : prE c l id = errL c l := by unfold prE; rw [if_pos hne]
    (refine St.move ?_; refine St.extract ?_; refine St.extract ?_; refine St.assign ?_; refine St.assign ?_; refine WO.nil ?_; refine WK.seq ?_; refine WK.region ?_; refine St.load ?_; refine St.move ?_; refine St.move ?_)
    refine St.callR (R := prR9 c l id) (fun _ => rfl) (fun h2 hh => proof_con h2 hh.gd c v l id (hv.eV.vw hh) (by omega)) (fun u L2 hR => ?_)
    rcases hR with ⟨_, rfl⟩ | ⟨h0, _⟩
    rotate_left
    · rw [hpe] at h0
      exact absurd h0 hne
    rw [hpe]
    (refine St.move ?_; refine St.extract ?_; refine St.extract ?_; refine St.assign ?_; refine St.assign ?_; refine WO.nil ?_; refine WK.seq ?_; refine WK.seq ?_; refine WK.region ?_; refine St.move ?_; refine St.bin ?_; refine WO.nil ?_)
    refine St.splitC (fun q => ?_) (fun q => ?_)
    rotate_left
    · exact absurd (by simpa using q) hne
    (refine WK.seq ?_; refine WK.region ?_)
    refine St.call (fun _ => rfl) (fun h2 hh2 => sanity_con h2 hh2.gd) ?_
    (refine St.move ?_; refine St.move ?_; refine St.move ?_; refine St.bin ?_; refine St.pickT ?_; refine St.assign ?_; refine WO.nil ?_)
    refine St.ret (by first | exact .tmp .nil | exact .cell .nil | exact .cell (.tmp .nil) | exact .tmp (.tmp .nil) | exact .cell (.cell .nil) | exact .tmp (.cell .nil) | exact .nil | exact .tmp (.cell (.tmp .nil)) | exact .cell (.tmp (.tmp .nil)) | exact .cell (.cell (.tmp .nil)) | exact .tmp (.tmp (.tmp .nil)) | exact .tmp (.tmp (.tmp (.tmp .nil))) | exact .cell (.cell (.cell .nil))) ?_
    simp [oneOf]
  (refine St.move ?_; refine St.extract ?_; refine St.extract ?_; refine St.assign ?_; refine St.assign ?_; refine WO.nil ?_; refine WK.seq ?_; refine WK.region ?_; refine St.load ?_; refine St.move ?_; refine St.move ?_)
  refine St.callR (R := prR9 c l id) (fun _ => rfl) (fun h2 hh => proof_con h2 hh.gd c v l id (hv.eV.vw hh) (by omega)) (fun u L2 hR => ?_)
  refine WO.permF (List.perm_append_comm_assoc L2 _ L1).symm ?_
  have hP : ∃ w2 pl, u = .tup [w2, .int .i64 (prE c l id)] ∧ (∀ {V : Ob} {h2 : Heap}, Vw h [] V h2 → (∀ x ∈ L2, x ∈ V) → LeS h2 w2 pl) ∧ pl.length ≤ 1000 ∧ (prE c l id = 0 → pl = prL c l id) := by
    rcases hR with ⟨hne, rfl⟩ | ⟨h0, w, rfl, hw⟩
    · exact ⟨.slice0, [], rfl, fun _ _ => ⟨.inl ⟨.inl rfl, rfl⟩, fun i hi => by simp at hi⟩, by simp, fun h0 => absurd h0 hne⟩
    · refine ⟨w, prL c l id, by rw [h0], fun hh hm => IsL.s hw rfl hh hm, ?_, fun _ => rfl⟩
      have := vfN_len (l := l) (r := fstR (rlsOf c l) id) (maj_pos (crt_bd (errL_ok he).1)) l.length
      unfold prL
      omega
  obtain ⟨w2, pl, rfl, hpS, hpl, hpe⟩ := hP
  have hany := pr_any (id := id) he
  have hok : prE c l id = 0 → chkE c pl = 0 ∧ chkR c pl = fstR (rlsOf c l) id := fun h0 => by
    rw [hpe h0]
    exact proof_ok he h0
  have hsh : ∀ m : List Le, (∀ x ∈ m, x ∈ l) → chkE c m = 0 → chkR c m ∈ rlsOf c l := fun m => shown_in he
  have hrl := rls_len (c := c) (l := l)
  clear hR
  generalize prE c l id = F at hany hok hpe ⊢
  generalize rlsOf c l = rs at hw1 hany hok hsh hrl
  have hw1v : ∀ {V : Ob} {h2 : Heap}, Vw h [] V h2 → (∀ x ∈ L1, x ∈ V) → EV rlC 3 h2 w1 rs := fun hh hm => isR_v hw1 rfl hh hm
  have hw1l : ∀ h2, lenA Try.prog 40 h2 w1 = some (.int .i64 (rs.length : Int)) := hw1.isL.lenG (q := 32) (by kernel_rfl)
  (refine St.move ?_; refine St.extract ?_; refine St.extract ?_; refine St.assign ?_; refine St.assign ?_; refine WO.nil ?_; refine WK.seq ?_; refine WK.seq ?_; refine WK.region ?_; refine St.move ?_; refine St.bin ?_; refine WO.nil ?_; refine WK.condF ?_; refine WK.skip ?_; refine WK.seq ?_; refine WK.region ?_; refine St.load ?_; refine St.move ?_)
  refine St.call (fun _ => rfl) (fun h2 hh => checkR_con h2 hh.gd c w2 pl (hpS hh (fun x hx => by simp only [List.mem_cons, List.mem_append, hx, true_or, or_true])) hpl) ?_
  generalize chkE c pl = G at hok ⊢
  generalize chkR c pl = X at hok ⊢
  (refine St.move ?_; refine St.extract ?_; refine St.extract ?_; refine St.alloc fun _ _ => ?_; refine St.store0 ?_; refine St.assign ?_; refine WO.nil ?_; refine WK.seq ?_; refine WK.region ?_; refine St.assign ?_; refine WO.nil ?_; refine WK.seq ?_; refine WK.seq ?_; refine WK.region ?_; refine St.move ?_)
  rename_i p13 hp13
  refine St.lenG rfl hw1l ?_
  (refine St.move ?_; refine WO.nil ?_; refine WK.block ?_)
  refine WK.inv (ι := Nat) (fun i => [(1, v), (2, .int .i64 id), (3, vb), (4, .ptr p4 0), (9, w1), (12, .int .i64 F), (13, .ptr p13 0), (14, .int .i64 G), (15, .bool ((rs.take i).any fun r => decide (r.1 = id))), (62, w1), (63, .int .i64 rs.length), (64, .int .i64 i)]) (fun _ => (p13, .cells (rlC X) 32) :: (p4, .cells [.int .i64 c] 23) :: L1) (fun i => i ≤ rs.length) (fun i => rs.length - i) 0 (Nat.zero_le _) ⟨rfl, rfl, rfl, rfl, rfl, rfl, rfl, rfl, rfl, rfl, rfl, rfl, trivial⟩ (by exact .cons_cons _ (.cons_cons _ (List.sublist_append_right _ _))) ?_
  intro i hil ih
  (refine WK.seq ?_; refine WK.region ?_; refine St.bin ?_; refine WO.nil ?_; refine WK.seq ?_)
  refine St.splitC (fun q => ?_) (fun q => ?_)
  · have hlt : i < rs.length := by simp at q; omega
    have hta := take_any (t := fun r : Rl3 => decide (r.1 = id)) hlt
    have hff : (nthE rs i).1 = id → (rs.take i).any (fun r => decide (r.1 = id)) = false → fstR rs id = nthE rs i := fun h1 h2 => fst_first hlt h1 h2
    have hin := nthE_mem hlt
    have ih' := ih (i + 1) hlt (by omega)
    rw [hta] at ih'
    generalize ((rs.take i).any fun r => decide (r.1 = id)) = fl at ih' hff ⊢
    (refine WK.skip ?_; refine WK.seq ?_; refine WK.block ?_; refine WK.seq ?_; refine WK.region ?_)
    have hat : ∀ {V : Ob} {h2 : Heap}, Vw h [] V h2 → (∀ x ∈ L1, x ∈ V) → ∃ b off n m, w1 = .slice b off n m ∧ EH rlC 3 h2 b off rs := fun hh hm => by
      obtain ⟨b, off, m, e, k⟩ := (hw1v hh hm).ne (by omega)
      exact ⟨b, off, _, m, e, k⟩
    cases hw1 with
    | nil h1 _ => omega
    | row j1 h1 =>
    refine St.at ?_
    refine St.loadX (fun h2 hh => by
      obtain ⟨b, off, n, m, e, k⟩ := hat hh (fun x hx => by simp only [List.mem_cons, List.mem_append, hx, true_or, or_true])
      cases e
      exact (k.at_ (z := (i : Int)) (n := i) (by omega) hlt).agg (by simp [rlC]) rfl rfl rfl) ?_
    (refine St.alloc fun _ _ => ?_; refine St.store0 ?_; refine WO.nil ?_; refine WK.seq ?_; refine WK.region ?_; refine St.fieldAddr ?_; refine St.load ?_; refine St.move ?_; refine St.bin ?_; refine St.move ?_)
    rename_i p17 hp17
    refine St.split (fun q2 => ?_) (fun q2 => ?_)
    rotate_left
    · have hid : ¬ (nthE rs i).1 = id := by simpa using q2
      rw [show decide ((nthE rs i).1 = id) = false by simpa using hid, Bool.or_false] at ih'
      (refine St.skip ?_; refine St.skip ?_; refine St.pickF ?_; refine WO.nil ?_; refine WK.condF ?_; refine WK.skip ?_; refine WK.blk ?_; refine WK.region ?_; refine St.binI ?_; refine St.move ?_; refine WO.nil ?_)
      refine WK.le ?_ (by exact List.sublist_cons_self _ _) ih'
      exact ⟨rfl, rfl, rfl, rfl, rfl, rfl, rfl, rfl, rfl, rfl, rfl, rfl, trivial⟩
    have hid : (nthE rs i).1 = id := by simpa using q2
    cases fl
    rotate_left
    · (refine St.move ?_; refine St.un ?_; refine St.pickT ?_; refine WO.nil ?_; refine WK.condF ?_; refine WK.skip ?_; refine WK.blk ?_; refine WK.region ?_; refine St.binI ?_; refine St.move ?_; refine WO.nil ?_)
      refine WK.le ?_ (by exact List.sublist_cons_self _ _) ih'
      exact ⟨rfl, rfl, rfl, rfl, rfl, rfl, rfl, rfl, rfl, rfl, rfl, rfl, trivial⟩
    rw [show decide ((nthE rs i).1 = id) = true by simpa using hid, Bool.or_true] at ih'
    have hF : F = 0 := hany.2 (List.any_eq_true.2 ⟨_, hin, by simpa using hid⟩)
    subst hF
    obtain ⟨hG, hX⟩ := hok rfl
    rw [hff hid rfl] at hX
    subst hG hX
    (refine St.move ?_; refine St.un ?_; refine St.pickT ?_; refine WO.nil ?_; refine WK.condT ?_; refine WK.seq ?_; refine WK.region ?_; refine St.assign ?_; refine WO.nil ?_; refine WK.seq ?_; refine WK.region ?_; refine St.move ?_; refine St.bin ?_; refine St.move ?_; refine St.move ?_; refine St.bin ?_; refine St.pickF ?_; refine St.move ?_; refine St.load ?_; refine St.load ?_)
    refine St.binX (r := .bool false) (rl_eq _) rfl rfl ?_
    (refine St.pickF ?_; refine WO.nil ?_; refine WK.condF ?_; refine WK.skip ?_; refine WK.blk ?_; refine WK.region ?_; refine St.binI ?_; refine St.move ?_; refine WO.nil ?_)
    refine WK.le ?_ (by exact List.sublist_cons_self _ _) ih'
    exact ⟨rfl, rfl, rfl, rfl, rfl, rfl, rfl, rfl, rfl, rfl, rfl, rfl, trivial⟩
  have hie : i = rs.length := by simp at q; omega
  subst hie
  rw [List.take_length]
  generalize hany2 : (rs.any fun r => decide (r.1 = id)) = fl at hany ⊢
  have hFb : (F == 0) = fl := by
    rw [Bool.eq_iff_iff]
    simpa using hany
  (refine WK.exit ?_; refine WK.seq ?_; refine WK.seq ?_; refine WK.region ?_; refine St.move ?_; refine St.move ?_; refine St.bin ?_; refine St.bin ?_; refine St.move ?_)
  rw [hFb]
  refine St.split (fun q2 => ?_) (fun q2 => ?_)
  · simp at q2
  (refine St.move ?_)
  refine St.lenG rfl hvV.llen ?_
  (refine St.bin ?_; refine St.pickF ?_; refine WO.nil ?_)
  refine St.splitC (fun q3 => ?_) (fun q3 => ?_)
  · (refine WK.seq ?_; refine WK.region ?_)
    refine St.call (fun _ => rfl) (fun h2 hh2 => sanity_con h2 hh2.gd) ?_
    (refine St.move ?_; refine St.move ?_; refine St.move ?_; refine St.bin ?_; refine St.bin ?_; refine St.pickT ?_; refine St.assign ?_; refine WO.nil ?_)
    refine St.ret (by first | exact .tmp .nil | exact .cell .nil | exact .cell (.tmp .nil) | exact .tmp (.tmp .nil) | exact .cell (.cell .nil) | exact .tmp (.cell .nil) | exact .nil | exact .tmp (.cell (.tmp .nil)) | exact .cell (.tmp (.tmp .nil)) | exact .cell (.cell (.tmp .nil)) | exact .tmp (.tmp (.tmp .nil)) | exact .tmp (.tmp (.tmp (.tmp .nil))) | exact .cell (.cell (.cell .nil))) ?_
    simp [oneOf, hFb]
  have hne : 0 < l.length := by simp at q3; exact List.length_pos_iff.2 q3
  obtain ⟨b, off, m, rfl, hm, hk⟩ := hv.ne hne
  (refine WK.skip ?_; refine WK.seq ?_; refine WK.region ?_; refine St.assign ?_; refine WO.nil ?_; refine WK.seq ?_; refine WK.seq ?_; refine WK.region ?_; refine St.move ?_)
  refine St.lenG rfl (EV.blen hbV) ?_
  (refine St.move ?_; refine WO.nil ?_; refine WK.block ?_)
  refine WK.inv (ι := Nat × AV × Ob) (fun z => [(1, .slice b off l.length (.k m)), (4, .ptr p4 0), (9, w1), (18, z.2.1), (104, vb), (105, .int .i64 ns.length), (106, .int .i64 z.1)]) (fun z => (p4, .cells [.int .i64 c] 23) :: (z.2.2 ++ L1)) (fun z => z.1 ≤ ns.length ∧ IsL 38 8 z.1 (enF leC ((ns.take z.1).map fun n => nthE l (n % l.length))) z.2.1 z.2.2) (fun z => ns.length - z.1) (0, .slice0, []) ⟨Nat.zero_le _, .nil rfl rfl⟩ ⟨rfl, rfl, rfl, rfl, rfl, rfl, rfl, trivial⟩ (by exact .cons _ (List.Sublist.refl _)) ?_
  rintro ⟨k, w, Lw⟩ ⟨hkl, hw⟩ ih
  simp only at hkl hw ih ⊢
  (refine WK.seq ?_; refine WK.region ?_; refine St.bin ?_; refine WO.nil ?_; refine WK.seq ?_)
  refine St.splitC (fun q4 => ?_) (fun q4 => ?_)
  · have hlt : k < ns.length := by simp at q4; omega
    obtain ⟨b2, off2, m2, rfl, hk2⟩ := EV.ne hbV (by omega)
    have hn := hns _ (nthE_mem hlt)
    have htk := take_succE hlt
    have hwn : IntKind.wrap .i64 ((nthE ns k : Nat) : Int) = ((nthE ns k : Nat) : Int) := wrap_ok (by omega)
    have hkm : (((nthE ns k : Nat) : Int).tmod (l.length : Int)) = ((nthE ns k % l.length : Nat) : Int) := by rw [Int.tmod_eq_emod_of_nonneg (by omega)]; rfl
    have hil := Nat.mod_lt (nthE ns k) hne
    (refine WK.skip ?_; refine WK.seq ?_; refine WK.block ?_; refine WK.seq ?_; refine WK.region ?_)
    refine St.at ?_
    refine St.loadX (fun h2 hh => ((hk2.vw hh).at_ (z := (k : Int)) (n := k) (by omega) hlt).1.one rfl) ?_
    (refine St.assign ?_; refine WO.nil ?_; refine WK.region ?_; refine St.move ?_; refine St.move ?_; refine St.move ?_; refine St.conv ?_; refine St.move ?_; refine St.len ?_)
    rw [hwn]
    refine St.binX (u := .int .i64 ((nthE ns k : Nat) : Int)) (v := .int .i64 l.length) (r := .int .i64 ((nthE ns k % l.length : Nat) : Int)) (evRem (by omega) hkm) rfl rfl ?_
    refine St.at ?_
    refine St.loadX (fun h2 hh => ((hk.vw hh).at_ (z := ((nthE ns k % l.length : Nat) : Int)) (n := nthE ns k % l.length) (by omega) hil).agg (by simp [leC]) rfl rfl rfl) ?_
    (refine St.mkS fun _ _ => ?_)
    rename_i j119 hj119
    refine St.appG (e := 38) (sz := 8) (len := k) (old := enF leC ((ns.take k).map fun n => nthE l (n % l.length))) (n := 1) (new := leC (nthE l (nthE ns k % l.length))) (Lk := [(j119, .cells (leC (nthE l (nthE ns k % l.length))) 38), (p4, .cells [.int .i64 c] 23)] ++ L1) hw (List.perm_append_comm_assoc Lw [(j119, .cells (leC (nthE l (nthE ns k % l.length))) 38), (p4, .cells [.int .i64 c] 23)] L1) ⟨rfl, rfl, rfl, rfl, rfl, rfl, rfl, rfl⟩ (.inr ⟨by omega, j119, 0, .k 1, rfl, by omega, rfl, rfl, fun h2 hh => readN_load (hh.getO (j := j119) (o := .cells (leC (nthE l (nthE ns k % l.length))) 38) (List.mem_cons_self ..)) rfl⟩) (by omega) (fun w3 Lw3 hw3 => ?_)
    refine WO.permF (List.perm_append_comm_assoc [(j119, .cells (leC (nthE l (nthE ns k % l.length))) 38), (p4, .cells [.int .i64 c] 23)] Lw3 L1) ?_
    have hw4 : IsL 38 8 (k + 1) (enF leC ((ns.take (k + 1)).map fun n => nthE l (n % l.length))) w3 Lw3 := by
      rw [htk, List.map_append, enF_app, List.map_singleton, enF_one]
      exact hw3
    (refine St.assign ?_; refine WO.nil ?_; refine WK.blk ?_; refine WK.region ?_; refine St.binI ?_; refine St.move ?_; refine WO.nil ?_)
    refine WK.le ?_ (by exact List.sublist_cons_self _ _) (ih (k + 1, w3, Lw3) ⟨hlt, hw4⟩ (by simp only; omega))
    exact ⟨rfl, rfl, rfl, rfl, rfl, rfl, rfl, trivial⟩
  have hke : k = ns.length := by simp at q4; omega
  subst hke
  rw [List.take_length] at hw
  have hoth : ∀ x ∈ ns.map (fun n => nthE l (n % l.length)), x ∈ l := fun x hx => by
    obtain ⟨n, _, rfl⟩ := List.mem_map.1 hx
    exact nthE_mem (Nat.mod_lt n hne)
  have hshw := hsh _ hoth
  have hol : (ns.map fun n => nthE l (n % l.length)).length = ns.length := List.length_map _
  generalize (ns.map fun n => nthE l (n % l.length)) = other at hw hshw hol
  (refine WK.exit ?_; refine WK.seq ?_; refine WK.region ?_; refine St.load ?_; refine St.move ?_)
  refine St.call (fun _ => rfl) (fun h2 hh => checkR_con h2 hh.gd c w other (IsL.s hw hol hh (fun x hx => by simp only [List.mem_cons, List.mem_append, hx, true_or, or_true])) (by omega)) ?_
  generalize chkE c other = G2 at hshw ⊢
  generalize chkR c other = Z at hshw ⊢
  (refine St.move ?_; refine St.extract ?_; refine St.extract ?_; refine St.alloc fun _ _ => ?_; refine St.store0 ?_; refine St.assign ?_; refine WO.nil ?_; refine WK.seq ?_; refine WK.region ?_; refine St.move ?_; refine St.bin ?_; refine St.assign ?_; refine WO.nil ?_; refine WK.seq ?_; refine WK.seq ?_; refine WK.region ?_; refine St.move ?_)
  rename_i p21 hp21
  refine St.lenG rfl hw1l ?_
  (refine St.move ?_; refine WO.nil ?_; refine WK.block ?_)
  refine WK.inv (ι := Nat) (fun i => [(21, .ptr p21 0), (23, .bool (Bool.or (G2 != 0) ((rs.take i).any fun r => decide (r = Z)))), (130, w1), (131, .int .i64 rs.length), (132, .int .i64 i)]) (fun _ => (p21, .cells (rlC Z) 32) :: L1) (fun i => i ≤ rs.length) (fun i => rs.length - i) 0 (Nat.zero_le _) ⟨rfl, congrArg (fun z => some (AV.bool z)) (Bool.or_false (G2 != 0)).symm, rfl, rfl, rfl, trivial⟩ (by exact .cons_cons _ (.cons _ (List.sublist_append_right _ _))) ?_
  intro i hil ih
  (refine WK.seq ?_; refine WK.region ?_; refine St.bin ?_; refine WO.nil ?_; refine WK.seq ?_)
  refine St.splitC (fun q5 => ?_) (fun q5 => ?_)
  · have hlt : i < rs.length := by simp at q5; omega
    have hta := take_any (t := fun r : Rl3 => decide (r = Z)) hlt
    have ih' := ih (i + 1) hlt (by omega)
    rw [hta, show Bool.or (G2 != 0) (((rs.take i).any fun r => decide (r = Z)) || decide (nthE rs i = Z)) = Bool.or (Bool.or (G2 != 0) ((rs.take i).any fun r => decide (r = Z))) (decide (nthE rs i = Z)) from (Bool.or_assoc _ _ _).symm] at ih'
    generalize Bool.or (G2 != 0) ((rs.take i).any fun r => decide (r = Z)) = fl2 at ih' ⊢
    (refine WK.skip ?_; refine WK.seq ?_; refine WK.block ?_; refine WK.seq ?_; refine WK.region ?_)
    have hat : ∀ {V : Ob} {h2 : Heap}, Vw h [] V h2 → (∀ x ∈ L1, x ∈ V) → ∃ b off n m, w1 = .slice b off n m ∧ EH rlC 3 h2 b off rs := fun hh hm => by
      obtain ⟨b, off, m, e, k⟩ := (hw1v hh hm).ne (by omega)
      exact ⟨b, off, _, m, e, k⟩
    cases hw1 with
    | nil h1 _ => omega
    | row j1 h1 =>
    refine St.at ?_
    refine St.loadX (fun h2 hh => by
      obtain ⟨b, off, n, m, e, k⟩ := hat hh (fun x hx => by simp only [List.mem_cons, List.mem_append, hx, true_or, or_true])
      cases e
      exact (k.at_ (z := (i : Int)) (n := i) (by omega) hlt).agg (by simp [rlC]) rfl rfl rfl) ?_
    (refine St.alloc fun _ _ => ?_; refine St.store0 ?_; refine WO.nil ?_; refine WK.region ?_; refine St.move ?_; refine St.move ?_)
    rename_i p25 hp25
    cases fl2
    rotate_left
    · (refine St.skip ?_; refine St.skip ?_; refine St.skip ?_; refine St.pickT ?_; refine St.assign ?_; refine WO.nil ?_; refine WK.blk ?_; refine WK.region ?_; refine St.binI ?_; refine St.move ?_; refine WO.nil ?_)
      refine WK.le ?_ (by exact List.sublist_cons_self _ _) ih'
      exact ⟨rfl, rfl, rfl, rfl, rfl, trivial⟩
    (refine St.load ?_; refine St.load ?_)
    refine St.binX (r := .bool (decide (nthE rs i = Z))) (rl_eql _ _) rfl rfl ?_
    (refine St.pickF ?_; refine St.assign ?_; refine WO.nil ?_; refine WK.blk ?_; refine WK.region ?_; refine St.binI ?_; refine St.move ?_; refine WO.nil ?_)
    refine WK.le ?_ (by exact List.sublist_cons_self _ _) ih'
    exact ⟨rfl, rfl, rfl, rfl, rfl, trivial⟩
  have hie : i = rs.length := by simp at q5; omega
  subst hie
  rw [List.take_length]
  have hfl : Bool.or (G2 != 0) (rs.any fun r => decide (r = Z)) = true := by
    by_cases e : G2 = 0
    · have := hshw e
      have h2 : (rs.any fun r => decide (r = Z)) = true := List.any_eq_true.2 ⟨Z, this, by simp⟩
      rw [h2]; simp
    · simp [e]
  rw [hfl]
  (refine WK.exit ?_; refine WK.seq ?_; refine WK.region ?_)
  refine St.call (fun _ => rfl) (fun h2 hh2 => sanity_con h2 hh2.gd) ?_
  (refine St.move ?_; refine St.move ?_; refine St.pickT ?_; refine St.assign ?_; refine WO.nil ?_)
  refine St.ret (by first | exact .tmp .nil | exact .cell .nil | exact .cell (.tmp .nil) | exact .tmp (.tmp .nil) | exact .cell (.cell .nil) | exact .tmp (.cell .nil) | exact .nil | exact .tmp (.cell (.tmp .nil)) | exact .cell (.tmp (.tmp .nil)) | exact .cell (.cell (.tmp .nil)) | exact .tmp (.tmp (.tmp .nil)) | exact .tmp (.tmp (.tmp (.tmp .nil))) | exact .cell (.cell (.cell .nil))) ?_
  rfl
end Go.Proofs.Ytilpinmbngikgaa
