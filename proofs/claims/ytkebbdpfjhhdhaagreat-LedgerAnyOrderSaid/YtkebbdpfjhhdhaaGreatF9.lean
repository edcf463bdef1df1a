/- Layer 8: the law of LedgerAnyOrder. -/
import Derived.Test.YtkebbdpfjhhdhaaGreatF1
namespace Go.Proofs.YtkebbdpfjhhdhaaGreat
open Go.Proofs.YtkebbdpfjhhdhaaGreat.Ev

theorem wrapI {n : Int} (h0 : 0 ≤ n) (h1 : n ≤ 65536) : IntKind.i64.wrap n = n := by
  unfold IntKind.wrap
  simp only [IntKind.bits, IntKind.signed]
  have : n % (2 ^ 64 : Int) = n := Int.emod_eq_of_lt h0 (by omega)
  simp only [this]
  rw [if_neg]
  simp
  omega
theorem chk_same {l m : List Im} (hl : ChkP l) (hm : ∀ x ∈ m, x ∈ l) (hn : m.length ≤ 60) : ChkP m := ⟨hn, fun x hx => hl.fr x (hm x hx), fun x hx y hy => hl.id x (hm x hx) y (hm y hy)⟩
theorem clean_same {l m : List Im} (hl : OneJ l) (hm : OneJ m) (h : ∀ x, x ∈ l ↔ x ∈ m) : cleanJ l = cleanJ m := strict_uniq (comp_ok hl).1 (comp_ok hm).1 fun x => by
  show x ∈ compP (srtJ l) ↔ x ∈ compP (srtJ m)
  rw [(comp_ok hl).2, (comp_ok hm).2, h]
theorem knB_same {l m : List Im} (hl : OneJ l) (hm : OneJ m) (h : ∀ x, x ∈ l ↔ x ∈ m) (k : Int) : knB l k = knB m k := by
  have := clean_same hl hm h
  unfold knB
  unfold cleanJ at this
  rw [this]
theorem mrg_comm {l m : List Im} : mrgE l m = 0 ↔ mrgE m l = 0 := by
  have key : ∀ {a b : List Im}, mrgE a b = 0 → mrgE b a = 0 := fun {a b} h => by
    unfold mrgE at h ⊢
    split at h
    · rename_i h1
      split at h
      · rename_i h2
        rw [if_pos h2, if_pos h1]
        have hc := chk_iff.1 h
        refine chk_iff.2 (chk_same hc (fun x hx => ?_) ?_)
        · rcases List.mem_append.1 hx with hx | hx
          · exact List.mem_append_right _ hx
          · exact List.mem_append_left _ hx
        · have := hc.len
          rw [List.length_append] at this ⊢
          omega
      · rename_i h2; exact absurd h h2
    · rename_i h1; exact absurd h h1
  exact ⟨key, key⟩
theorem mrg_ok {l m : List Im} (h : mrgE l m = 0) : chkI (l ++ m) = 0 := by
  unfold mrgE at h
  split at h
  · split at h
    · exact h
    · rename_i h2; exact absurd h h2
  · rename_i h1; exact absurd h h1
/-- both lists of items are the same -/
theorem sameC_con (h2 : Heap) (g : Gd h2) {h : Heap} {W : List Nat} {V : Ob} {l m : List Im} {u w : AV} {L1 L2 : Ob} (hh : Vw h W V h2) (hc : cleanJ l = cleanJ m) (hl : l.length ≤ 1000) (h1 : ClnR l u L1) (h3 : ClnR m w L2) (m1 : ∀ x ∈ L1, x ∈ V) (m2 : ∀ x ∈ L2, x ∈ V) : Con Tryz.prog Bs 25 [u, w] h2 [] (.bool true) [] := by
  have e2 := ClnR.eV h3 hh m2
  rw [← hc] at e2
  exact same_con h2 g _ _ (cleanJ l) (ClnR.eV h1 hh m1) e2 (by have := cleanJ_len l; omega)
/-- two lists that are the same -/
theorem lstP_same (h2 : Heap) (g : Gd h2) {h : Heap} {W : List Nat} {V : Ob} {er : Int} {xs : List Po} {u w : AV} {L1 L2 : Ob} (hh : Vw h W V h2) (hl : er = 0 → xs.length ≤ 1000000) (h1 : (er ≠ 0 ∧ u = .slice0 ∧ L1 = []) ∨ (er = 0 ∧ IsR 72 4 xs.length (enF poC xs) u L1)) (h3 : (er ≠ 0 ∧ w = .slice0 ∧ L2 = []) ∨ (er = 0 ∧ IsR 72 4 xs.length (enF poC xs) w L2)) (m1 : ∀ x ∈ L1, x ∈ V) (m2 : ∀ x ∈ L2, x ∈ V) : Con Tryz.prog Bs 30 [u, w] h2 [] (.bool true) [] := by
  rcases h1 with ⟨e1, rfl, rfl⟩ | ⟨e1, h1⟩
  · rcases h3 with ⟨_, rfl, rfl⟩ | ⟨e3, _⟩
    · exact sameP_con h2 g _ _ [] (.inl ⟨.inl rfl, rfl⟩) (.inl ⟨.inl rfl, rfl⟩) (by simp)
    · exact absurd e3 e1
  · rcases h3 with ⟨e3, _⟩ | ⟨_, h3⟩
    · exact absurd e1 e3
    · exact sameP_con h2 g _ _ xs (IsR.eVP h1 rfl hh m1) (IsR.eVP h3 rfl hh m2) (hl e1)
theorem lstI_same (h2 : Heap) (g : Gd h2) {h : Heap} {W : List Nat} {V : Ob} {er : Int} {xs : List Im} {u w : AV} {L1 L2 : Ob} (hh : Vw h W V h2) (hl : er = 0 → xs.length ≤ 1000000) (h1 : (er ≠ 0 ∧ u = .slice0 ∧ L1 = []) ∨ (er = 0 ∧ IsR 114 7 xs.length (enF imC xs) u L1)) (h3 : (er ≠ 0 ∧ w = .slice0 ∧ L2 = []) ∨ (er = 0 ∧ IsR 114 7 xs.length (enF imC xs) w L2)) (m1 : ∀ x ∈ L1, x ∈ V) (m2 : ∀ x ∈ L2, x ∈ V) : Con Tryz.prog Bs 25 [u, w] h2 [] (.bool true) [] := by
  rcases h1 with ⟨e1, rfl, rfl⟩ | ⟨e1, h1⟩
  · rcases h3 with ⟨_, rfl, rfl⟩ | ⟨e3, _⟩
    · exact same_con h2 g _ _ [] (.inl ⟨.inl rfl, rfl⟩) (.inl ⟨.inl rfl, rfl⟩) (by simp)
    · exact absurd e3 e1
  · rcases h3 with ⟨e3, _⟩ | ⟨_, h3⟩
    · exact absurd e1 e3
    · exact same_con h2 g _ _ xs (IsR.eVI h1 rfl hh m1) (IsR.eVI h3 rfl hh m2) (hl e1)
theorem finL_len (l : List Im) (known : Int) (e : askE l [dyB known] = 0) : (finL (bookB l known).tk).length ≤ 1000 := by
  have := (book_o (askE_ok e).1 known).tl
  unfold finL
  rw [List.length_map]
  exact Nat.le_trans (List.length_filter_le _ _) this
set_option maxRecDepth 100000 in
set_option maxHeartbeats 32000000 in
theorem anyOrderLaw_con (h : Heap) (g : Gd h) (v vm : AV) (l m : List Im) (turn twice : Nat) (known : Int) (hv : ImG h v l) (ha : ArgS v l.length) (hm : ImG h vm m) (ht : turn ≤ 255) (hw : twice ≤ 255) : Con Tryz.prog Bs 11 [v, vm, .int .u8 turn, .int .u8 twice, .int .i64 known] h [] (.bool true) [] := by
  refine Con.start rfl Tryz.func11 rfl rfl Tryz.ntmps11 rfl rfl g ?_
  (refine WK.seq ?_; refine WK.region ?_; refine St.assign ?_; refine WO.nil ?_; refine WK.seq ?_; refine WK.seq ?_; refine WK.region ?_; refine St.move ?_)
  refine St.lenG rfl hv.z.eV.llen ?_
  (refine St.bin ?_; refine St.move ?_)
  refine St.split (fun q => ?_) (fun q => ?_)
  · (refine St.skip ?_; refine St.skip ?_; refine St.skip ?_; refine St.pickT ?_; refine St.move ?_; refine St.skip ?_; refine St.skip ?_; refine St.skip ?_; refine St.pickT ?_; refine St.move ?_; refine St.skip ?_; refine St.skip ?_; refine St.skip ?_; refine St.pickT ?_; refine WO.nil ?_; refine WK.condT ?_; refine WK.seq ?_; refine WK.region ?_)
    refine St.call (fun _ => rfl) (fun h2 hh => sanity_con h2 hh.gd) ?_
    (refine St.assign ?_; refine WO.nil ?_)
    refine St.ret (by first | exact .tmp .nil | exact .cell .nil | exact .cell (.tmp .nil) | exact .tmp (.tmp .nil) | exact .cell (.cell .nil) | exact .tmp (.cell .nil) | exact .nil | exact .tmp (.cell (.tmp .nil)) | exact .cell (.tmp (.tmp .nil)) | exact .cell (.cell (.tmp .nil)) | exact .tmp (.tmp (.tmp .nil)) | exact .tmp (.tmp (.tmp (.tmp .nil))) | exact .cell (.cell (.cell .nil))) ?_
    rfl
  have hn30 : l.length ≤ 30 := by simp at q; omega
  clear q
  (refine St.move ?_)
  refine St.lenG rfl hv.z.eV.llen ?_
  (refine St.bin ?_; refine St.pickF ?_; refine St.move ?_)
  refine St.split (fun q => ?_) (fun q => ?_)
  · (refine St.skip ?_; refine St.skip ?_; refine St.skip ?_; refine St.pickT ?_; refine St.move ?_; refine St.skip ?_; refine St.skip ?_; refine St.skip ?_; refine St.pickT ?_; refine WO.nil ?_; refine WK.condT ?_; refine WK.seq ?_; refine WK.region ?_)
    refine St.call (fun _ => rfl) (fun h2 hh => sanity_con h2 hh.gd) ?_
    (refine St.assign ?_; refine WO.nil ?_)
    refine St.ret (by first | exact .tmp .nil | exact .cell .nil | exact .cell (.tmp .nil) | exact .tmp (.tmp .nil) | exact .cell (.cell .nil) | exact .tmp (.cell .nil) | exact .nil | exact .tmp (.cell (.tmp .nil)) | exact .cell (.tmp (.tmp .nil)) | exact .cell (.cell (.tmp .nil)) | exact .tmp (.tmp (.tmp .nil)) | exact .tmp (.tmp (.tmp (.tmp .nil))) | exact .cell (.cell (.cell .nil))) ?_
    rfl
  have hn0 : 0 < l.length := by simp at q; exact List.length_pos_iff.2 q
  clear q
  (refine St.move ?_)
  refine St.call (fun _ => rfl) (fun h2 hh => few_con h2 hh.gd vm m (hm.z.eV.vw hh)) ?_
  (refine St.un ?_; refine St.pickF ?_; refine St.move ?_)
  refine St.split (fun q => ?_) (fun q => ?_)
  · (refine St.skip ?_; refine St.skip ?_; refine St.skip ?_; refine St.pickT ?_; refine WO.nil ?_; refine WK.condT ?_; refine WK.seq ?_; refine WK.region ?_)
    refine St.call (fun _ => rfl) (fun h2 hh => sanity_con h2 hh.gd) ?_
    (refine St.assign ?_; refine WO.nil ?_)
    refine St.ret (by first | exact .tmp .nil | exact .cell .nil | exact .cell (.tmp .nil) | exact .tmp (.tmp .nil) | exact .cell (.cell .nil) | exact .tmp (.cell .nil) | exact .nil | exact .tmp (.cell (.tmp .nil)) | exact .cell (.tmp (.tmp .nil)) | exact .cell (.cell (.tmp .nil)) | exact .tmp (.tmp (.tmp .nil)) | exact .tmp (.tmp (.tmp (.tmp .nil))) | exact .cell (.cell (.cell .nil))) ?_
    rfl
  clear q
  (refine St.move ?_)
  refine St.call (fun _ => rfl) (fun h2 hh => check_con h2 hh.gd v l (hv.z.eV.vw hh) (hv.c.vw hh)) ?_
  (refine St.bin ?_; refine St.pickF ?_; refine WO.nil ?_)
  refine St.splitC (fun q => ?_) (fun q => ?_)
  · (refine WK.seq ?_; refine WK.region ?_)
    refine St.call (fun _ => rfl) (fun h2 hh => sanity_con h2 hh.gd) ?_
    (refine St.assign ?_; refine WO.nil ?_)
    refine St.ret (by first | exact .tmp .nil | exact .cell .nil | exact .cell (.tmp .nil) | exact .tmp (.tmp .nil) | exact .cell (.cell .nil) | exact .tmp (.cell .nil) | exact .nil | exact .tmp (.cell (.tmp .nil)) | exact .cell (.tmp (.tmp .nil)) | exact .cell (.cell (.tmp .nil)) | exact .tmp (.tmp (.tmp .nil)) | exact .tmp (.tmp (.tmp (.tmp .nil))) | exact .cell (.cell (.cell .nil))) ?_
    rfl
  have hc : chkI l = 0 := by simpa using q
  clear q
  rcases ha with rfl | ⟨b, off, cp, rfl, hcp⟩
  · have : l.length = 0 := by
      rcases hv.z.eV with ⟨_, rfl⟩ | ⟨_, _, _, e, _⟩
      · rfl
      · cases e
    omega
  have hk : ImH h b off l := by
    rcases hv.z.eV with ⟨e | e, _⟩ | ⟨_, _, _, e, hk⟩
    · cases e
    · cases e
    · cases e; exact hk
  have hs : sizeT Tryz.prog 114 = some 7 := by kernel_rfl
  have hrem1 : ((turn : Nat) : Int).tmod (l.length : Int) = ((turn % l.length : Nat) : Int) := rfl
  have hrem2 : ((twice : Nat) : Int).tmod ((l.length : Int) + 1) = ((twice % (l.length + 1) : Nat) : Int) := rfl
  have hk1 := Nat.mod_lt turn hn0
  have hk2 := Nat.mod_lt twice (Nat.succ_pos l.length)
  (refine WK.skip ?_; refine WK.seq ?_; refine WK.region ?_; refine St.move ?_; refine St.conv ?_; refine St.move ?_; refine St.len ?_)
  rw [show IntKind.i64.wrap ((turn : Nat) : Int) = ((turn : Nat) : Int) from wrapI (by omega) (by omega)]
  refine St.binX (rem_at (by omega)) rfl rfl ?_
  rw [hrem1]
  generalize turn % l.length = k at *
  have hc1 : ∀ L, ComesA h [] L (.slice b (off + k * 7) (l.length - k) (.k (cp - k))) 7 (l.length - k) (enF imC (l.drop k)) := fun L => by
    have := comesE imC_len (by decide) (hk.drp (k := k)) (c := .k (cp - k)) (L := L) (fun _ _ => rfl) (fun e => by simp at e; omega) (by rw [List.length_drop]; omega)
    rwa [List.length_drop] at this
  have hc2 : ∀ q, q ≤ l.length → ∀ L, ComesA h [] L (.slice b off q (.k cp)) 7 q (enF imC (l.take q)) := fun q hq L => by
    have := comesE imC_len (by decide) (hk.tak (k := q)) (c := .k cp) (L := L) (fun _ _ => rfl) (fun _ h2 hh => EH.none (fun x => by simp [imC]) (hk.vw ⟨hh.gd, hh.nx, hh.old, hh.own⟩) hn0 off) (by rw [List.length_take]; omega)
    rwa [List.length_take, Nat.min_eq_left hq] at this
  have hy : enF imC (l.drop k ++ l.take k) = ([] ++ enF imC (l.drop k)) ++ enF imC (l.take k) := by rw [enF_app, List.nil_append]
  have hy0 : k = 0 → enF imC (l.drop k ++ l.take k) = [] ++ enF imC (l.drop k) := fun q => by rw [hy, q]; simp [enF]
  (refine St.assign ?_; refine WO.nil ?_; refine WK.seq ?_)
  refine WK.joinG (X := Nat) (I := fun _ => True) (s2 := fun j => [(0, .slice b off l.length (.k cp)), (1, vm), (3, .int .u8 twice), (4, .int .i64 known), (12, .slice j 0 l.length (.m 0))]) (L2 := fun j => [(j, .row (enF imC (l.drop k ++ l.take k)) 114 7)]) (fun hjoin0 => ?_) (fun j _ => ?_)
  · refine WK.regionE (n := 0) [] (List.nil_sublist _) ?_
    refine WE.mkS 1 (fun jA hjA => ?_)
    refine WE.move ?_
    refine WE.move ?_
    refine WE.sliceP (u := .slice b off l.length (.k cp)) (v := .slice b (off + k * 7) (l.length - k) (.k (cp - k))) (fun h2 => ?_) rfl rfl ?_
    · show plainV (evSlice Tryz.prog h2 22 (.slice b off l.length (.k cp)) (some (.int .i64 (k : Int))) none none) h2 = _
      rw [slK_from Tryz.underlying22 hs (by omega) hcp, if_neg (by omega)]
      rfl
    refine WE.appT 0 rfl (.inl ⟨rfl, rfl, rfl, _, rfl⟩) ⟨rfl, rfl, rfl, rfl, rfl, rfl, rfl, rfl⟩ (hc1 _) (by omega) rfl (fun e => absurd e (by omega)) (fun _ jB hjB o1 => ?_)
    refine WE.move ?_
    refine WE.move ?_
    refine WE.sliceP (u := .slice b off l.length (.k cp)) (v := .slice b off k (.k cp)) (fun h2 => ?_) rfl rfl ?_
    · show plainV (evSlice Tryz.prog h2 22 (.slice b off l.length (.k cp)) none (some (.int .i64 (k : Int))) none) h2 = _
      rw [slK_to Tryz.underlying22 hs (by omega) hcp]
      rfl
    refine WE.appT 1 rfl o1 ⟨rfl, rfl, rfl, rfl, rfl, rfl, rfl, rfl⟩ (hc2 k (by omega) _) (by omega) rfl (fun e3 o3 => ?_) (fun e3 jC hjC o3 => ?_)
    · skip
      refine WE.assign ?_
      refine WE.subT (T2 := [_]) ((List.nil_sublist _).cons_cons _) ?_
      refine WE.nil ?_
      refine WK.le ?_ ?_ (hjoin0 jB trivial)
      · exact ⟨rfl, rfl, rfl, rfl, congrArg (fun z => some (AV.slice jB 0 z (.m 0))) (by omega), trivial⟩
      · rw [hy0 e3]
        (repeat (first | exact List.Sublist.refl _ | exact List.nil_sublist _ | apply List.Sublist.cons_cons | apply List.Sublist.cons))
    · skip
      refine WE.assign ?_
      refine WE.subT (T2 := [_]) ((List.nil_sublist _).cons_cons _) ?_
      refine WE.nil ?_
      refine WK.le ?_ ?_ (hjoin0 jC trivial)
      · exact ⟨rfl, rfl, rfl, rfl, congrArg (fun z => some (AV.slice jC 0 z (.m 0))) (by omega), trivial⟩
      · rw [hy]
        (repeat (first | exact List.Sublist.refl _ | exact List.nil_sublist _ | apply List.Sublist.cons_cons | apply List.Sublist.cons))
  have hco : (l.drop k ++ l.take k).length = l.length := by rw [List.length_append, List.length_drop, List.length_take]; omega
  (refine WK.seq ?_; refine WK.region ?_; refine St.move ?_; refine St.move ?_; refine St.move ?_; refine St.conv ?_; refine St.move ?_; refine St.len ?_; refine St.binI ?_; refine St.bin ?_)
  rw [show IntKind.i64.wrap ((twice : Nat) : Int) = ((twice : Nat) : Int) from wrapI (by omega) (by omega)]
  rw [hrem2]
  generalize twice % (l.length + 1) = q at *
  refine St.sliceG (v := .slice b off q (.k cp)) (fun h2 _ => ?_) ?_
  · show plainV (evSlice Tryz.prog h2 22 (.slice b off l.length (.k cp)) none (some (.int .i64 (q : Int))) none) h2 = _
    rw [slK_to Tryz.underlying22 hs (by omega) hcp]
    rfl
  skip
  refine St.appG (e := 114) (sz := 7) (len := l.length) (n := q) (old := enF imC (l.drop k ++ l.take k)) (new := enF imC (l.take q)) (Lk := []) (IsL.row j (by rw [enF_len imC_len, hco])) (List.Perm.refl _) ⟨rfl, rfl, rfl, rfl, rfl, rfl, rfl, rfl⟩ (hc2 q (by omega) _) (by omega) (fun vo Lo ho => ?_)
  rw [List.append_nil]
  have hcP := chk_iff.1 hc
  obtain ⟨o, ho, hmem, hol⟩ : ∃ o : List Im, IsL 114 7 o.length (enF imC o) vo Lo ∧ (∀ x, x ∈ l ↔ x ∈ o) ∧ o.length ≤ 60 := by
    refine ⟨(l.drop k ++ l.take k) ++ l.take q, ?_, fun x => ⟨fun hx => ?_, fun hx => ?_⟩, ?_⟩
    · rw [enF_app, List.length_append, hco, List.length_take, Nat.min_eq_left (by omega)]
      exact ho
    · rw [← List.take_append_drop k l] at hx
      rcases List.mem_append.1 hx with hx | hx
      · exact List.mem_append_left _ (List.mem_append_right _ hx)
      · exact List.mem_append_left _ (List.mem_append_left _ hx)
    · rcases List.mem_append.1 hx with hx | hx
      · rcases List.mem_append.1 hx with hx | hx
        · exact List.mem_of_mem_drop hx
        · exact List.mem_of_mem_take hx
      · exact List.mem_of_mem_take hx
    · rw [List.length_append, hco, List.length_take]
      omega
  have hoc : chkI o = 0 := chk_iff.2 (chk_same hcP (fun x hx => (hmem x).2 hx) hol)
  have ha : askE o [dyB known] = askE l [dyB known] := by unfold askE; rw [hc, hoc]
  have hb : bookB o known = bookB l known := by
    unfold bookB
    rw [knB_same (one_of_chk hc) (one_of_chk hoc) hmem known]
  have hcl : cleanJ (l ++ l) = cleanJ o := clean_same (one_of_chk (chk_iff.2 (chk_same hcP (fun x hx => by simpa using hx) (by rw [List.length_append]; omega)))) (one_of_chk hoc) fun x => by rw [← hmem]; simp
  have hll : mrgE l l = 0 := by
    unfold mrgE
    rw [if_pos hc, if_pos hc]
    exact chk_iff.2 (chk_same hcP (fun x hx => by simpa using hx) (by rw [List.length_append]; omega))
  (refine St.assign ?_; refine WO.nil ?_; refine WK.seq ?_; refine WK.region ?_; refine St.move ?_; refine St.move ?_)
  have hv : ∀ {h2 : Heap} {V : Ob}, Vw h [] V h2 → ImG h2 (.slice b off l.length (.k cp)) l := fun hh => hv.vw hh
  have hm : ∀ {h2 : Heap} {V : Ob}, Vw h [] V h2 → ImG h2 vm m := fun hh => hm.vw hh
  clear hc1 hc2 hy hy0 hrem1 hrem2 hk
  refine St.callR (fun _ => rfl) (fun h2 hh => Postings_con h2 hh.gd _ l known (hv hh)) ?_
  rintro _ L1 ⟨w1, rfl, h1⟩
  (refine St.move ?_; refine St.extract ?_; refine St.extract ?_; refine St.assign ?_; refine St.assign ?_; refine WO.nil ?_; refine WK.seq ?_; refine WK.region ?_; refine St.move ?_; refine St.move ?_)
  refine St.callR (fun _ => rfl) (fun h2 hh => Postings_con h2 hh.gd _ o known (IsL.g ho rfl hh (fun x hx => by simp [hx]))) ?_
  rintro _ L2 ⟨w2, rfl, h2'⟩
  rw [ha, hb] at h2'
  rw [ha]
  (refine St.move ?_; refine St.extract ?_; refine St.extract ?_; refine St.assign ?_; refine St.assign ?_; refine WO.nil ?_; refine WK.seq ?_; refine WK.region ?_; refine St.move ?_; refine St.move ?_)
  refine St.callR (fun _ => rfl) (fun h2 hh => Final_con h2 hh.gd _ l known (hv hh)) ?_
  rintro _ L3 ⟨w3, rfl, h3⟩
  (refine St.move ?_; refine St.extract ?_; refine St.extract ?_; refine St.assign ?_; refine St.assign ?_; refine WO.nil ?_; refine WK.seq ?_; refine WK.region ?_; refine St.move ?_; refine St.move ?_)
  refine St.callR (fun _ => rfl) (fun h2 hh => Final_con h2 hh.gd _ o known (IsL.g ho rfl hh (fun x hx => by simp [hx]))) ?_
  rintro _ L4 ⟨w4, rfl, h4⟩
  rw [ha, hb] at h4
  rw [ha]
  (refine St.move ?_; refine St.extract ?_; refine St.extract ?_; refine St.assign ?_; refine St.assign ?_; refine WO.nil ?_; refine WK.seq ?_; refine WK.region ?_; refine St.move ?_; refine St.move ?_)
  refine St.callR (fun _ => rfl) (fun h2 hh => merge_con h2 hh.gd _ _ l m (hv hh) (hm hh)) ?_
  rintro _ L5 ⟨w5, rfl, h5⟩
  (refine St.move ?_; refine St.extract ?_; refine St.extract ?_; refine St.assign ?_; refine St.assign ?_; refine WO.nil ?_; refine WK.seq ?_; refine WK.region ?_; refine St.move ?_; refine St.move ?_)
  refine St.callR (fun _ => rfl) (fun h2 hh => merge_con h2 hh.gd _ _ m l (hm hh) (hv hh)) ?_
  rintro _ L6 ⟨w6, rfl, h6⟩
  (refine St.move ?_; refine St.extract ?_; refine St.extract ?_; refine St.assign ?_; refine St.assign ?_; refine WO.nil ?_; refine WK.seq ?_; refine WK.region ?_; refine St.move ?_; refine St.move ?_)
  refine St.callR (fun _ => rfl) (fun h2 hh => merge_con h2 hh.gd _ _ l l (hv hh) (hv hh)) ?_
  rintro _ L7 ⟨w7, rfl, h7⟩
  rw [hll] at h7
  rw [hll]
  (refine St.move ?_; refine St.extract ?_; refine St.extract ?_; refine St.assign ?_; refine St.assign ?_; refine WO.nil ?_; refine WK.seq ?_; refine WK.region ?_; refine St.move ?_)
  refine St.callR (fun _ => rfl) (fun h2 hh => psorted_con h2 hh.gd _ o (IsL.g ho rfl hh (fun x hx => by simp [hx])).z (IsL.g ho rfl hh (fun x hx => by simp [hx])).c) ?_
  rintro _ L8 ⟨w8, rfl, h8⟩
  have h8 : SrtV (chkI o) o w8 L8 := h8
  rw [hoc] at h8
  rw [hoc]
  (refine St.move ?_; refine St.extract ?_; refine St.extract ?_; refine St.assign ?_; refine St.assign ?_; refine WO.nil ?_; refine WK.seq ?_; refine WK.seq ?_; refine WK.region ?_; refine St.move ?_; refine St.move ?_; refine St.bin ?_; refine St.move ?_)
  have hr : ∀ e : Int, (e != e) = false := fun e => by simp
  have hrb : ∀ e : Bool, (e != e) = false := fun e => by simp
  rw [hr]
  rcases h7 with ⟨e7, _⟩ | ⟨_, h7⟩
  · exact absurd rfl e7
  rcases h8 with ⟨e8, _⟩ | ⟨_, h8⟩
  · exact absurd rfl e8
  (refine St.move ?_; refine St.move ?_; refine St.bin ?_; refine St.pickF ?_; refine St.move ?_)
  rw [hr]
  (refine St.move ?_; refine St.move ?_)
  refine St.call (fun _ => rfl) (fun h2 hh => lstP_same h2 hh.gd hh (fun e => by have := book_pl (askE_ok e).1 known; omega) h1 h2' (fun x hx => by simp [hx]) (fun x hx => by simp [hx])) ?_
  (refine St.un ?_; refine St.pickF ?_; refine St.move ?_; refine St.move ?_; refine St.move ?_)
  refine St.call (fun _ => rfl) (fun h2 hh => lstI_same h2 hh.gd hh (fun e => by have := finL_len l known e; omega) h3 h4 (fun x hx => by simp [hx]) (fun x hx => by simp [hx])) ?_
  (refine St.un ?_; refine St.pickF ?_; refine St.move ?_; refine St.move ?_; refine St.bin ?_; refine St.move ?_; refine St.bin ?_; refine St.bin ?_; refine St.pickF ?_; refine St.move ?_)
  have hmc : ((mrgE l m == 0) == (mrgE m l == 0)) = true := by
    by_cases h : mrgE l m = 0
    · rw [h, mrg_comm.1 h]; rfl
    · have h' : ¬ mrgE m l = 0 := fun q => h (mrg_comm.1 q)
      have h1 : (mrgE l m == 0) = false := by simpa using h
      have h2 : (mrgE m l == 0) = false := by simpa using h'
      rw [h1, h2]; rfl
  rw [hmc]
  (refine St.move ?_; refine St.bin ?_; refine St.move ?_)
  refine St.split (fun e => ?_) (fun e => ?_)
  · have e1 : mrgE l m = 0 := by simpa using e
    have e2 := mrg_comm.1 e1
    rw [e1] at h5
    rw [e2] at h6
    have hlm : cleanJ (l ++ m) = cleanJ (m ++ l) := clean_same (one_of_chk (mrg_ok e1)) (one_of_chk (mrg_ok e2)) fun x => by simp [or_comm]
    have hlen := chk_len (mrg_ok e1)
    rcases h5 with ⟨e5, _⟩ | ⟨_, h5⟩
    · exact absurd rfl e5
    rcases h6 with ⟨e6, _⟩ | ⟨_, h6⟩
    · exact absurd rfl e6
    (refine St.move ?_; refine St.move ?_)
    refine St.call (fun _ => rfl) (fun h2 hh => sameC_con h2 hh.gd hh hlm (by omega) h5 h6 (fun x hx => by simp [hx]) (fun x hx => by simp [hx])) ?_
    (refine St.un ?_; refine St.pickT ?_; refine St.pickF ?_; refine WO.nil ?_; refine WK.condF ?_; refine WK.skip ?_; refine WK.seq ?_; refine WK.region ?_)
    refine St.call (fun _ => rfl) (fun h2 hh => sanity_con h2 hh.gd) ?_
    (refine St.move ?_; refine St.move ?_; refine St.bin ?_; refine St.pickT ?_; refine St.move ?_; refine St.move ?_; refine St.bin ?_; refine St.pickT ?_; refine St.move ?_; refine St.move ?_; refine St.move ?_)
    refine St.call (fun _ => rfl) (fun h2 hh => sameC_con h2 hh.gd hh hcl (by rw [List.length_append]; omega) h7 h8 (fun x hx => by simp [hx]) (fun x hx => by simp [hx])) ?_
    (refine St.pickT ?_; refine St.assign ?_; refine WO.nil ?_)
    refine St.ret (by first | exact .tmp .nil | exact .cell .nil | exact .cell (.tmp .nil) | exact .tmp (.tmp .nil) | exact .cell (.cell .nil) | exact .tmp (.cell .nil) | exact .nil | exact .tmp (.cell (.tmp .nil)) | exact .cell (.tmp (.tmp .nil)) | exact .cell (.cell (.tmp .nil)) | exact .tmp (.tmp (.tmp .nil)) | exact .tmp (.tmp (.tmp (.tmp .nil))) | exact .cell (.cell (.cell .nil))) ?_
    rfl
  · (refine St.skip ?_; refine St.skip ?_; refine St.skip ?_; refine St.skip ?_; refine St.pickF ?_; refine St.pickF ?_; refine WO.nil ?_; refine WK.condF ?_; refine WK.skip ?_; refine WK.seq ?_; refine WK.region ?_)
    refine St.call (fun _ => rfl) (fun h2 hh => sanity_con h2 hh.gd) ?_
    (refine St.move ?_; refine St.move ?_; refine St.bin ?_; refine St.pickT ?_; refine St.move ?_; refine St.move ?_; refine St.bin ?_; refine St.pickT ?_; refine St.move ?_; refine St.move ?_; refine St.move ?_)
    refine St.call (fun _ => rfl) (fun h2 hh => sameC_con h2 hh.gd hh hcl (by rw [List.length_append]; omega) h7 h8 (fun x hx => by simp [hx]) (fun x hx => by simp [hx])) ?_
    (refine St.pickT ?_; refine St.assign ?_; refine WO.nil ?_)
    refine St.ret (by first | exact .tmp .nil | exact .cell .nil | exact .cell (.tmp .nil) | exact .tmp (.tmp .nil) | exact .cell (.cell .nil) | exact .tmp (.cell .nil) | exact .nil | exact .tmp (.cell (.tmp .nil)) | exact .cell (.tmp (.tmp .nil)) | exact .cell (.cell (.tmp .nil)) | exact .tmp (.tmp (.tmp .nil)) | exact .tmp (.tmp (.tmp (.tmp .nil))) | exact .cell (.cell (.cell .nil))) ?_
    rfl
end Go.Proofs.YtkebbdpfjhhdhaaGreat
