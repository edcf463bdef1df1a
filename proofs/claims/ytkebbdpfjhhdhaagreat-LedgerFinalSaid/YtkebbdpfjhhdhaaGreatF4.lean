/- Layer 8: Amount; the law of LedgerFinal. -/
import Derived.Test.YtkebbdpfjhhdhaaGreatF1
import Derived.Test.YtkebbdpfjhhdhaaGreatF2
import Derived.Test.YtkebbdpfjhhdhaaGreatFt
/- Layer 8: the law of LedgerAsKnown. -/
namespace Go.Proofs.YtkebbdpfjhhdhaaGreat
open Go.Proofs.YtkebbdpfjhhdhaaGreat.Ev

theorem askE_one {l : List Im} {b : Bool} : askE l [b] = 0 ↔ chkI l = 0 ∧ b = true := by
  unfold askE
  by_cases h : chkI l = 0
  · rw [if_pos h]
    cases b <;> simp [h]
  · rw [if_neg h]
    simp [h]
end Go.Proofs.YtkebbdpfjhhdhaaGreat

/- Layer 8: Amount; the law of LedgerFinal. -/
namespace Go.Proofs.YtkebbdpfjhhdhaaGreat
open Go.Proofs.YtkebbdpfjhhdhaaGreat.Ev

/-- the error of a bill's amount -/
def amE (l : List Im) (n known : Int) : Int := if askE l [dyB known, idB n] = 0 then (if (amB (bookB l known).tk n).2 = true then 0 else 5) else askE l [dyB known, idB n]
def amV (l : List Im) (n known : Int) : Int := if amE l n known = 0 then (amB (bookB l known).tk n).1 else 0
set_option maxRecDepth 100000 in
set_option maxHeartbeats 4000000 in
theorem Amount_con (h : Heap) (g : Gd h) (v : AV) (l : List Im) (n known : Int) (hv : ImG h v l) : Con Tryz.prog Bs 44 [v, .int .i64 n, .int .i64 known] h [] (.tup [.int .i64 (amV l n known), .int .i64 (amE l n known)]) [] := by
  refine Con.start rfl Tryz.func44 rfl rfl Tryz.ntmps44 rfl rfl g ?_
  (refine WK.seq ?_; refine WK.region ?_; refine St.assign ?_; refine St.assign ?_; refine WO.nil ?_; refine WK.seq ?_; refine WK.seq ?_; refine WK.region ?_; refine St.move ?_; refine St.move ?_)
  refine St.call (fun _ => rfl) (fun h2 hh => isDay_con h2 hh.gd known) ?_
  (refine St.move ?_)
  refine St.call (fun _ => rfl) (fun h2 hh => isID_con h2 hh.gd n) ?_
  (refine St.mkS fun _ _ => ?_)
  rename_i p10 hp10
  refine St.call (fun _ => rfl) (fun h2 hh => asked_con h2 hh.gd v _ l [dyB known, idB n] (hv.z.eV.vw hh) (hv.c.vw hh) (boV_of (bs := [dyB known, idB n]) (n := 2) hh (List.Mem.head _) rfl _) (by simp)) ?_
  (refine St.assign ?_; refine WO.nil ?_; refine WK.seq ?_; refine WK.region ?_; refine St.move ?_; refine St.bin ?_; refine WO.nil ?_)
  refine St.splitC (fun q => ?_) (fun q => ?_)
  · have e : ¬ askE l [dyB known, idB n] = 0 := by simpa using q
    (refine WK.seq ?_; refine WK.region ?_; refine St.move ?_; refine St.assign ?_; refine St.assign ?_; refine WO.nil ?_)
    refine St.ret (by first | exact .tmp .nil | exact .cell .nil | exact .cell (.tmp .nil) | exact .tmp (.tmp .nil) | exact .cell (.cell .nil) | exact .tmp (.cell .nil) | exact .nil | exact .tmp (.cell (.tmp .nil)) | exact .cell (.tmp (.tmp .nil)) | exact .cell (.cell (.tmp .nil)) | exact .tmp (.tmp (.tmp .nil)) | exact .tmp (.tmp (.tmp (.tmp .nil))) | exact .cell (.cell (.cell .nil))) ?_
    simp [oneOf, amV, amE, e]
  have e : askE l [dyB known, idB n] = 0 := by simpa using q
  have hc := (askE_ok e).1
  have hO := book_o hc known
  (refine WK.skip ?_; refine WK.seq ?_; refine WK.region ?_; refine St.move ?_; refine St.move ?_)
  refine St.callR (fun _ => rfl) (fun h2 hh => bookOf_g hh.gd (known := known) (hv.vw hh) hc) ?_
  rintro _ _ ⟨j, rfl, vp, vt, vr, Lp, Lt, Lr, hp, ht, hr, rfl⟩
  (refine St.move ?_)
  refine St.call (fun _ => rfl) (fun h2 hh => amount_con h2 hh.gd j n vt _ (hh.rdG (List.Mem.head _) rfl) (IsR.eVI ht rfl hh (fun y hy => List.mem_append_left _ (List.mem_cons_of_mem _ (List.mem_append_right _ (List.mem_append_left _ hy))))) hO.tl) ?_
  have e1 : amE l n known = if (amB (bookB l known).tk n).2 = true then 0 else 5 := by unfold amE; rw [if_pos e]
  (refine St.move ?_; refine St.extract ?_; refine St.extract ?_; refine St.assign ?_; refine St.assign ?_; refine WO.nil ?_; refine WK.seq ?_; refine WK.seq ?_; refine WK.region ?_; refine St.move ?_; refine St.un ?_; refine WO.nil ?_)
  refine St.splitC (fun q => ?_) (fun q => ?_)
  · have e2 : (amB (bookB l known).tk n).2 = false := by simpa using q
    rw [e2] at e1
    (refine WK.seq ?_; refine WK.region ?_; refine St.assign ?_; refine St.assign ?_; refine WO.nil ?_)
    refine St.ret (by first | exact .tmp .nil | exact .cell .nil | exact .cell (.tmp .nil) | exact .tmp (.tmp .nil) | exact .cell (.cell .nil) | exact .tmp (.cell .nil) | exact .nil | exact .tmp (.cell (.tmp .nil)) | exact .cell (.tmp (.tmp .nil)) | exact .cell (.cell (.tmp .nil)) | exact .tmp (.tmp (.tmp .nil)) | exact .tmp (.tmp (.tmp (.tmp .nil))) | exact .cell (.cell (.cell .nil))) ?_
    simp [oneOf, amV, e1]
  · have e2 : (amB (bookB l known).tk n).2 = true := by simpa using q
    rw [e2] at e1
    (refine WK.skip ?_; refine WK.seq ?_; refine WK.region ?_; refine St.move ?_; refine St.assign ?_; refine St.assign ?_; refine WO.nil ?_)
    refine St.ret (by first | exact .tmp .nil | exact .cell .nil | exact .cell (.tmp .nil) | exact .tmp (.tmp .nil) | exact .cell (.cell .nil) | exact .tmp (.cell .nil) | exact .nil | exact .tmp (.cell (.tmp .nil)) | exact .cell (.tmp (.tmp .nil)) | exact .cell (.cell (.tmp .nil)) | exact .tmp (.tmp (.tmp .nil)) | exact .tmp (.tmp (.tmp (.tmp .nil))) | exact .cell (.cell (.cell .nil))) ?_
    simp [oneOf, amV, e1]
set_option maxRecDepth 100000 in
set_option maxHeartbeats 4000000 in
theorem of_con (h : Heap) (g : Gd h) (v : AV) (l : List Im) (id n : Int) (hv : ImV h v l) (hl : l.length ≤ 1000) : Con Tryz.prog Bs 64 [v, .int .i64 id, .int .i64 n] h [] (.bool (ofL l id n)) [] := by
  refine Con.start rfl Tryz.func64 rfl rfl Tryz.ntmps64 rfl rfl g ?_
  (refine WK.seq ?_; refine WK.region ?_; refine St.assign ?_; refine WO.nil ?_; refine WK.seq ?_; refine WK.seq ?_; refine WK.region ?_; refine St.assign ?_; refine WO.nil ?_; refine WK.block ?_)
  refine WK.inv (ι := Nat) (fun z => [(0, v), (1, .int .i64 id), (2, .int .i64 n), (7, .int .i64 z)]) (fun _ => []) (fun z => z ≤ l.length ∧ ofL l id n = ofL (l.drop z) id n) (fun z => l.length - z) 0 ⟨Nat.zero_le _, rfl⟩ ⟨rfl, rfl, rfl, rfl, trivial⟩ (by (repeat (first | exact List.Sublist.refl _ | exact List.nil_sublist _ | apply List.Sublist.cons_cons | apply List.Sublist.cons))) ?_
  rintro k ⟨hkl, hno⟩ ih
  (refine WK.seq ?_; refine WK.seq ?_; refine WK.region ?_; refine St.move ?_; refine St.move ?_)
  refine St.lenG rfl hv.llen ?_
  (refine St.bin ?_; refine WO.nil ?_)
  refine St.splitC (fun hc => ?_) (fun hc => ?_)
  · have hlt : k < l.length := by simp at hc; omega
    rw [drop_consE hlt, ofL] at hno
    have hv' := hv
    obtain ⟨b, off, cc, rfl, hk⟩ := hv'.ne (by omega)
    (refine WK.skip ?_; refine WK.seq ?_; refine WK.block ?_; refine WK.seq ?_; refine WK.region ?_; refine St.move ?_; refine St.move ?_)
    refine St.at ?_
    (refine St.fieldAddr ?_)
    refine St.loadX (v := .int .i64 (nthE l k).id) (fun h2 hh => ((hk.vw hh).at_ (z := (k : Int)) (n := k) (by omega) hlt).1.one rfl) ?_
    (refine St.move ?_; refine St.bin ?_; refine WO.nil ?_)
    refine St.splitC (fun q => ?_) (fun q => ?_)
    · have h1 : (nthE l k).id = id := by simpa using q
      rw [if_pos h1] at hno
      (refine WK.seq ?_; refine WK.region ?_; refine St.move ?_; refine St.move ?_)
      refine St.at ?_
      (refine St.fieldAddr ?_)
      refine St.loadX (v := .int .i64 (nthE l k).bl) (fun h2 hh => ((hk.vw hh).at_ (z := (k : Int)) (n := k) (by omega) hlt).2.2.2.2.1.one rfl) ?_
      (refine St.move ?_; refine St.bin ?_; refine St.move ?_)
      refine St.split (fun q => ?_) (fun q => ?_)
      rotate_left
      · have h2 : ¬ (nthE l k).bl = n := by simpa using q
        (refine St.skip ?_; refine St.skip ?_; refine St.skip ?_; refine St.skip ?_; refine St.skip ?_; refine St.skip ?_; refine St.skip ?_; refine St.skip ?_; refine St.skip ?_; refine St.skip ?_; refine St.skip ?_; refine St.skip ?_; refine St.skip ?_; refine St.skip ?_; refine St.pickF ?_; refine St.assign ?_; refine WO.nil ?_)
        refine St.ret (by first | exact .tmp .nil | exact .cell .nil | exact .cell (.tmp .nil) | exact .tmp (.tmp .nil) | exact .cell (.cell .nil) | exact .tmp (.cell .nil) | exact .nil | exact .tmp (.cell (.tmp .nil)) | exact .cell (.tmp (.tmp .nil)) | exact .cell (.cell (.tmp .nil)) | exact .tmp (.tmp (.tmp .nil)) | exact .tmp (.tmp (.tmp (.tmp .nil))) | exact .cell (.cell (.cell .nil))) ?_
        rw [hno]
        simp [oneOf, h2]
      have h2 : (nthE l k).bl = n := by simpa using q
      (refine St.move ?_; refine St.move ?_)
      refine St.at ?_
      (refine St.fieldAddr ?_)
      refine St.loadX (v := .int .i64 (nthE l k).kd) (fun h2 hh => ((hk.vw hh).at_ (z := (k : Int)) (n := k) (by omega) hlt).2.2.1.one rfl) ?_
      (refine St.bin ?_; refine St.move ?_)
      refine St.split (fun q => ?_) (fun q => ?_)
      · have h3 : (nthE l k).kd = 1 := by simpa using q
        (refine St.skip ?_; refine St.skip ?_; refine St.skip ?_; refine St.skip ?_; refine St.skip ?_; refine St.skip ?_; refine St.pickT ?_; refine St.pickT ?_; refine St.assign ?_; refine WO.nil ?_)
        refine St.ret (by first | exact .tmp .nil | exact .cell .nil | exact .cell (.tmp .nil) | exact .tmp (.tmp .nil) | exact .cell (.cell .nil) | exact .tmp (.cell .nil) | exact .nil | exact .tmp (.cell (.tmp .nil)) | exact .cell (.tmp (.tmp .nil)) | exact .cell (.cell (.tmp .nil)) | exact .tmp (.tmp (.tmp .nil)) | exact .tmp (.tmp (.tmp (.tmp .nil))) | exact .cell (.cell (.cell .nil))) ?_
        rw [hno]
        simp [oneOf, h2, h3]
      have h3 : ¬ (nthE l k).kd = 1 := by simpa using q
      (refine St.move ?_; refine St.move ?_)
      refine St.at ?_
      (refine St.fieldAddr ?_)
      refine St.loadX (v := .int .i64 (nthE l k).kd) (fun h2 hh => ((hk.vw hh).at_ (z := (k : Int)) (n := k) (by omega) hlt).2.2.1.one rfl) ?_
      (refine St.bin ?_; refine St.pickF ?_; refine St.pickT ?_; refine St.assign ?_; refine WO.nil ?_)
      refine St.ret (by first | exact .tmp .nil | exact .cell .nil | exact .cell (.tmp .nil) | exact .tmp (.tmp .nil) | exact .cell (.cell .nil) | exact .tmp (.cell .nil) | exact .nil | exact .tmp (.cell (.tmp .nil)) | exact .cell (.tmp (.tmp .nil)) | exact .cell (.cell (.tmp .nil)) | exact .tmp (.tmp (.tmp .nil)) | exact .tmp (.tmp (.tmp (.tmp .nil))) | exact .cell (.cell (.cell .nil))) ?_
      rw [hno]
      simp [oneOf, h2, h3]
      try rw [Bool.eq_iff_iff]
      try simp
    · have h1 : ¬ (nthE l k).id = id := by simpa using q
      rw [if_neg h1] at hno
      (refine WK.skip ?_; refine WK.blk ?_; refine WK.region ?_; refine St.move ?_; refine St.binI ?_; refine St.assign ?_; refine WO.nil ?_)
      refine WK.le ?_ (by (repeat (first | exact List.Sublist.refl _ | exact List.nil_sublist _ | apply List.Sublist.cons_cons | apply List.Sublist.cons))) (ih (k + 1) ⟨hlt, hno⟩ (by omega))
      exact ⟨rfl, rfl, rfl, rfl, trivial⟩
  · have : k = l.length := by simp at hc; omega
    subst this
    rw [List.drop_length] at hno
    (refine WK.exit ?_; refine WK.seq ?_; refine WK.region ?_; refine St.assign ?_; refine WO.nil ?_)
    refine St.ret (by first | exact .tmp .nil | exact .cell .nil | exact .cell (.tmp .nil) | exact .tmp (.tmp .nil) | exact .cell (.cell .nil) | exact .tmp (.cell .nil) | exact .nil | exact .tmp (.cell (.tmp .nil)) | exact .cell (.tmp (.tmp .nil)) | exact .cell (.cell (.tmp .nil)) | exact .tmp (.tmp (.tmp .nil)) | exact .tmp (.tmp (.tmp (.tmp .nil))) | exact .cell (.cell (.cell .nil))) ?_
    rw [hno]
    rfl
set_option maxRecDepth 100000 in
set_option maxHeartbeats 16000000 in
theorem finalLaw_con (h : Heap) (g : Gd h) (v : AV) (l : List Im) (known bill : Int) (hv : ImG h v l) : Con Tryz.prog Bs 13 [v, .int .i64 known, .int .i64 bill] h [] (.bool true) [] := by
  refine Con.start rfl Tryz.func13 rfl rfl Tryz.ntmps13 rfl rfl g ?_
  (refine WK.seq ?_; refine WK.region ?_; refine St.assign ?_; refine WO.nil ?_; refine WK.seq ?_; refine WK.seq ?_; refine WK.region ?_; refine St.move ?_)
  refine St.call (fun _ => rfl) (fun h2 hh => few_con h2 hh.gd v l (hv.z.eV.vw hh)) ?_
  (refine St.un ?_; refine WO.nil ?_)
  refine St.splitC (fun q => ?_) (fun q => ?_)
  · (refine WK.seq ?_; refine WK.region ?_)
    refine St.call (fun _ => rfl) (fun h2 hh => sanity_con h2 hh.gd) ?_
    (refine St.assign ?_; refine WO.nil ?_)
    refine St.ret (by first | exact .tmp .nil | exact .cell .nil | exact .cell (.tmp .nil) | exact .tmp (.tmp .nil) | exact .cell (.cell .nil) | exact .tmp (.cell .nil) | exact .nil | exact .tmp (.cell (.tmp .nil)) | exact .cell (.tmp (.tmp .nil)) | exact .cell (.cell (.tmp .nil)) | exact .tmp (.tmp (.tmp .nil)) | exact .tmp (.tmp (.tmp (.tmp .nil))) | exact .cell (.cell (.cell .nil))) ?_
    rfl
  clear q
  (refine WK.skip ?_; refine WK.seq ?_; refine WK.region ?_; refine St.move ?_; refine St.move ?_)
  refine St.callR (fun _ => rfl) (fun h2 hh => Final_con h2 hh.gd v l known (hv.vw hh)) ?_
  rintro _ Lx ⟨wx, rfl, hx⟩
  (refine St.move ?_; refine St.extract ?_; refine St.extract ?_; refine St.assign ?_; refine St.assign ?_; refine WO.nil ?_; refine WK.seq ?_; refine WK.seq ?_; refine WK.region ?_; refine St.move ?_; refine St.bin ?_; refine WO.nil ?_)
  refine St.splitC (fun q => ?_) (fun q => ?_)
  · (refine WK.seq ?_; refine WK.region ?_)
    refine St.call (fun _ => rfl) (fun h2 hh => sanity_con h2 hh.gd) ?_
    (refine St.assign ?_; refine WO.nil ?_)
    refine St.ret (by first | exact .tmp .nil | exact .cell .nil | exact .cell (.tmp .nil) | exact .tmp (.tmp .nil) | exact .cell (.cell .nil) | exact .tmp (.cell .nil) | exact .nil | exact .tmp (.cell (.tmp .nil)) | exact .cell (.tmp (.tmp .nil)) | exact .cell (.cell (.tmp .nil)) | exact .tmp (.tmp (.tmp .nil)) | exact .tmp (.tmp (.tmp (.tmp .nil))) | exact .cell (.cell (.cell .nil))) ?_
    rfl
  have e1 : askE l [dyB known] = 0 := by simpa using q
  clear q
  rcases hx with ⟨hx, _⟩ | ⟨_, hx⟩
  · exact absurd e1 hx
  obtain ⟨hc, hd⟩ := askE_one.1 e1
  have hxc := chk_iff.2 (fin_chk hc known)
  have e2 : askE (finL (bookB l known).tk) [dyB known] = 0 := askE_one.2 ⟨hxc, hd⟩
  have d728 : dyB 728 = true := by decide
  have e3 : askE l [dyB 728, dyB known] = 0 := by unfold askE; rw [if_pos hc, d728, hd]; rfl
  have e4 : askE (finL (bookB l known).tk) [dyB 728, dyB known] = 0 := by unfold askE; rw [if_pos hxc, d728, hd]; rfl
  have hft := fin_tk hc known
  have hff := fin_fin hc known
  have hfb := fin_bal hc known
  have hxl := (fin_chk hc known).len
  have hpl := book_pl hc known
  have hbs : ∀ {n : Int}, 1 ≤ n → sumO l n (bookB l known).ps = (amB (bookB l known).tk n).1 := fun hn => bill_sum hc hn known
  have hpo := (book_p hc known).po
  have hl60 := (chk_ok hc).1
  (refine WK.skip ?_; refine WK.seq ?_; refine WK.region ?_; refine St.move ?_; refine St.move ?_)
  refine St.callR (fun _ => rfl) (fun h2 hh => Final_con h2 hh.gd wx _ known (IsR.g hx rfl hh (fun x hx => List.mem_append_left _ hx))) ?_
  rintro _ Ly ⟨wy, rfl, hy⟩
  rcases hy with ⟨hy, _⟩ | ⟨_, hy⟩
  · exact absurd e2 hy
  rw [hft, hff] at hy
  (refine St.move ?_; refine St.extract ?_; refine St.extract ?_; refine St.assign ?_; refine St.assign ?_; refine WO.nil ?_; refine WK.seq ?_; refine WK.region ?_; refine St.move ?_; refine St.move ?_)
  refine St.callR (fun _ => rfl) (fun h2 hh => Balances_con h2 hh.gd v l 728 known (hv.vw hh)) ?_
  rintro _ La ⟨wa, rfl, ha⟩
  rcases ha with ⟨ha, _⟩ | ⟨_, ha⟩
  · exact absurd e3 ha
  (refine St.move ?_; refine St.extract ?_; refine St.extract ?_; refine St.assign ?_; refine St.assign ?_; refine WO.nil ?_; refine WK.seq ?_; refine WK.region ?_; refine St.move ?_; refine St.move ?_)
  refine St.callR (fun _ => rfl) (fun h2 hh => Balances_con h2 hh.gd wx _ 728 known (IsR.g hx rfl hh (fun x hx => by simp [hx]))) ?_
  rintro _ Lb ⟨wb, rfl, hb⟩
  rcases hb with ⟨hb, _⟩ | ⟨_, hb⟩
  · exact absurd e4 hb
  rw [hfb] at hb
  rw [e2, e3, e4]
  have hbl : (balL (sumQ (hldP (bookB l known).ps 728))).length ≤ 1000000 := by rw [balL_len]; exact Nat.le_trans (hldP_len _ _) (by omega)
  (refine St.move ?_; refine St.extract ?_; refine St.extract ?_; refine St.assign ?_; refine St.assign ?_; refine WO.nil ?_; refine WK.seq ?_; refine WK.seq ?_; refine WK.region ?_; refine St.move ?_; refine St.bin ?_; refine St.move ?_; refine St.move ?_; refine St.bin ?_; refine St.pickF ?_; refine St.move ?_; refine St.move ?_; refine St.bin ?_; refine St.pickF ?_; refine St.move ?_; refine St.move ?_; refine St.move ?_)
  refine St.call (fun _ => rfl) (fun h2 hh => same_con h2 hh.gd wx wy (finL (bookB l known).tk) (IsR.eVI hx rfl hh (fun x hx => by simp [hx])) (IsR.eVI hy rfl hh (fun x hx => by simp [hx])) (by omega)) ?_
  (refine St.un ?_; refine St.pickF ?_; refine St.move ?_; refine St.move ?_; refine St.move ?_)
  refine St.call (fun _ => rfl) (fun h2 hh => sameB_con h2 hh.gd wa wb (balL (sumQ (hldP (bookB l known).ps 728))) (en_v baC_len ha.isL rfl hh (fun x hx => by simp [hx])) (en_v baC_len hb.isL rfl hh (fun x hx => by simp [hx])) hbl) ?_
  (refine St.un ?_; refine St.pickF ?_; refine WO.nil ?_; refine WK.condF ?_; refine WK.skip ?_; refine WK.seq ?_; refine WK.region ?_; refine St.move ?_; refine St.move ?_; refine St.move ?_)
  refine St.call (fun _ => rfl) (fun h2 hh => Amount_con h2 hh.gd v l bill known (hv.vw hh)) ?_
  (refine St.move ?_; refine St.extract ?_; refine St.extract ?_; refine St.assign ?_; refine St.assign ?_; refine WO.nil ?_; refine WK.seq ?_; refine WK.region ?_; refine St.move ?_; refine St.move ?_)
  refine St.callR (fun _ => rfl) (fun h2 hh => Postings_con h2 hh.gd v l known (hv.vw hh)) ?_
  rintro _ Lp ⟨wp, rfl, hp⟩
  rcases hp with ⟨hp, _⟩ | ⟨_, hp⟩
  · exact absurd e1 hp
  rw [e1]
  (refine St.move ?_; refine St.extract ?_; refine St.extract ?_; refine St.assign ?_; refine St.assign ?_; refine WO.nil ?_; refine WK.seq ?_; refine WK.seq ?_; refine WK.region ?_; refine St.move ?_; refine St.bin ?_; refine WO.nil ?_)
  refine St.splitC (fun q => ?_) (fun q => ?_)
  · (refine WK.seq ?_; refine WK.region ?_)
    refine St.call (fun _ => rfl) (fun h2 hh => sanity_con h2 hh.gd) ?_
    (refine St.assign ?_; refine WO.nil ?_)
    refine St.ret (by first | exact .tmp .nil | exact .cell .nil | exact .cell (.tmp .nil) | exact .tmp (.tmp .nil) | exact .cell (.cell .nil) | exact .tmp (.cell .nil) | exact .nil | exact .tmp (.cell (.tmp .nil)) | exact .cell (.tmp (.tmp .nil)) | exact .cell (.cell (.tmp .nil)) | exact .tmp (.tmp (.tmp .nil)) | exact .tmp (.tmp (.tmp (.tmp .nil))) | exact .cell (.cell (.cell .nil))) ?_
    rfl
  have e5 : amE l bill known = 0 := by simpa using q
  clear q
  have hbn : 1 ≤ bill := by
    unfold amE at e5
    split at e5
    · rename_i h5
      have := (askE_ok h5).2
      simp [idB, inB] at this
      omega
    · rename_i h5; exact absurd e5 h5
  have hbs := hbs hbn
  have e6 : amV l bill known = (amB (bookB l known).tk bill).1 := by unfold amV; rw [if_pos e5]
  rw [e6, ← hbs]
  generalize (bookB l known).ps = ps at *
  clear hx hy ha hb
  (refine WK.skip ?_; refine WK.seq ?_; refine WK.region ?_; refine St.assign ?_; refine WO.nil ?_; refine WK.seq ?_; refine WK.seq ?_; refine WK.region ?_; refine St.assign ?_; refine WO.nil ?_; refine WK.block ?_)
  refine WK.le (s' := [(0, v), (2, .int .i64 bill), (15, .int .i64 (sumO l bill ps)), (17, wp), (18, .int .i64 0), (19, .int .i64 0), (20, .int .i64 0)]) (L' := Lp) ⟨rfl, rfl, rfl, rfl, rfl, rfl, rfl, trivial⟩ (List.sublist_append_left _ _) ?_
  have hsb : ∀ k : Nat, -((k : Int) * 16777216) ≤ sumO l bill (ps.take k) ∧ sumO l bill (ps.take k) ≤ (k : Int) * 16777216 := fun k => by
    have key : ∀ qs : List Po, (∀ p ∈ qs, PoOk p) → -((qs.length : Int) * 16777216) ≤ sumO l bill qs ∧ sumO l bill qs ≤ (qs.length : Int) * 16777216 := fun qs => by
      induction qs with
      | nil => intro _; simp [sumO]
      | cons p r ih =>
        intro hp
        have h1 := ih fun q hq => hp q (List.mem_cons_of_mem _ hq)
        have h2 := (hp p (List.mem_cons_self ..)).am
        simp only [sumO, List.length_cons]
        split <;> omega
    have h1 := key (ps.take k) fun p hp => hpo p (List.mem_of_mem_take hp)
    have h2 : (ps.take k).length ≤ k := by rw [List.length_take]; omega
    omega
  refine WK.inv (ι := Nat) (fun z => [(0, v), (2, .int .i64 bill), (15, .int .i64 (sumO l bill ps)), (17, wp), (18, .int .i64 0), (19, .int .i64 (sumO l bill (ps.take z))), (20, .int .i64 z)]) (fun _ => Lp) (fun z => z ≤ ps.length) (fun z => ps.length - z) 0 (Nat.zero_le _) ⟨rfl, rfl, rfl, rfl, rfl, rfl, rfl, trivial⟩ (List.Sublist.refl _) ?_
  intro k hkl ih
  (refine WK.seq ?_; refine WK.seq ?_; refine WK.region ?_; refine St.move ?_; refine St.move ?_)
  refine St.lenG rfl (hp.isL.lenG Tryz.underlying35) ?_
  (refine St.bin ?_; refine WO.nil ?_)
  refine St.splitC (fun hc => ?_) (fun hc => ?_)
  · have hlt : k < ps.length := by simp at hc; omega
    have hpk := (hpo _ (nthE_mem hlt)).am
    have hsk := hsb k
    have htk := take_succE hlt
    have hsn : sumO l bill (ps.take (k + 1)) = sumO l bill (ps.take k) + (if (nthE ps k).ac ≥ 10 ∧ ofL l (nthE ps k).it bill = true then (nthE ps k).am else 0) := by rw [htk, sumO_app]; simp [sumO]
    rcases hp.rowN with ⟨_, _, h0, _⟩ | ⟨jw, rfl, rfl, hlw⟩
    · omega
    have hrd : ∀ {h2 : Heap} {V : Ob} {W : List Nat}, Vw h W V h2 → (∀ x ∈ [(jw, AObj.row (enF poC ps) 72 4)], x ∈ V) → ∀ i : Nat, i < ps.length → Rds h2 jw (0 + i * 4) (poC (nthE ps i)) := fun {h2 V W} hh hm i hi => by
      have hv := IsR.eVP (l := ps) hp rfl hh hm
      obtain ⟨b, off, cc, e, hk⟩ := hv.ne (by omega)
      cases e
      exact hk i hi
    (refine WK.skip ?_; refine WK.seq ?_; refine WK.block ?_; refine WK.seq ?_; refine WK.region ?_; refine St.move ?_; refine St.move ?_)
    refine St.at ?_
    (refine St.fieldAddr ?_)
    refine St.loadX (v := .int .i64 (nthE ps k).ac) (fun h2 hh => (hrd hh (fun x hx => hx) k hlt).2.2.1.one rfl) ?_
    (refine St.bin ?_; refine St.move ?_)
    refine St.split (fun q => ?_) (fun q => ?_)
    · have h1 : (nthE ps k).ac ≥ 10 := by simpa using q
      (refine St.move ?_; refine St.move ?_; refine St.move ?_)
      refine St.at ?_
      (refine St.fieldAddr ?_)
      refine St.loadX (v := .int .i64 (nthE ps k).it) (fun h2 hh => (hrd hh (fun x hx => hx) k hlt).1.one rfl) ?_
      (refine St.move ?_)
      refine St.call (fun _ => rfl) (fun h2 hh => of_con h2 hh.gd v l (nthE ps k).it bill (hv.z.eV.vw hh) (by omega)) ?_
      cases ho : ofL l (nthE ps k).it bill
      · rw [ho, if_neg (by simp)] at hsn
        (refine St.pickT ?_; refine WO.nil ?_; refine WK.condF ?_; refine WK.skip ?_; refine WK.blk ?_; refine WK.region ?_; refine St.move ?_; refine St.binI ?_; refine St.assign ?_; refine WO.nil ?_)
        refine WK.le ?_ (List.Sublist.refl _) (ih (k + 1) (by omega) (by omega))
        exact ⟨rfl, rfl, rfl, rfl, rfl, by rw [hsn, Int.add_zero]; rfl, rfl, trivial⟩
      · rw [ho, if_pos ⟨h1, rfl⟩] at hsn
        (refine St.pickT ?_; refine WO.nil ?_; refine WK.condT ?_; refine WK.region ?_; refine St.move ?_; refine St.move ?_; refine St.move ?_)
        refine St.at ?_
        (refine St.fieldAddr ?_)
        refine St.loadX (v := .int .i64 (nthE ps k).am) (fun h2 hh => (hrd hh (fun x hx => hx) k hlt).2.2.2.1.one rfl) ?_
        (refine St.binI ?_; refine St.assign ?_; refine WO.nil ?_; refine WK.blk ?_; refine WK.region ?_; refine St.move ?_; refine St.binI ?_; refine St.assign ?_; refine WO.nil ?_)
        refine WK.le ?_ (List.Sublist.refl _) (ih (k + 1) (by omega) (by omega))
        exact ⟨rfl, rfl, rfl, rfl, rfl, by rw [hsn]; rfl, rfl, trivial⟩
    · have h1 : ¬ (nthE ps k).ac ≥ 10 := by simpa using q
      rw [if_neg (fun q => h1 q.1)] at hsn
      (refine St.skip ?_; refine St.skip ?_; refine St.skip ?_; refine St.skip ?_; refine St.skip ?_; refine St.skip ?_; refine St.skip ?_; refine St.skip ?_; refine St.pickF ?_; refine WO.nil ?_; refine WK.condF ?_; refine WK.skip ?_; refine WK.blk ?_; refine WK.region ?_; refine St.move ?_; refine St.binI ?_; refine St.assign ?_; refine WO.nil ?_)
      refine WK.le ?_ (List.Sublist.refl _) (ih (k + 1) (by omega) (by omega))
      exact ⟨rfl, rfl, rfl, rfl, rfl, by rw [hsn, Int.add_zero]; rfl, rfl, trivial⟩
  · have hke : k = ps.length := by simp at hc; omega
    subst hke
    rw [List.take_length]
    (refine WK.exit ?_; refine WK.seq ?_; refine WK.region ?_)
    refine St.call (fun _ => rfl) (fun h2 hh => sanity_con h2 hh.gd) ?_
    (refine St.move ?_; refine St.move ?_; refine St.bin ?_; refine St.pickT ?_; refine St.move ?_; refine St.move ?_; refine St.move ?_; refine St.bin ?_; refine St.pickT ?_; refine St.assign ?_; refine WO.nil ?_)
    refine St.ret (by first | exact .tmp .nil | exact .cell .nil | exact .cell (.tmp .nil) | exact .tmp (.tmp .nil) | exact .cell (.cell .nil) | exact .tmp (.cell .nil) | exact .nil | exact .tmp (.cell (.tmp .nil)) | exact .cell (.tmp (.tmp .nil)) | exact .cell (.cell (.tmp .nil)) | exact .tmp (.tmp (.tmp .nil)) | exact .tmp (.tmp (.tmp (.tmp .nil))) | exact .cell (.cell (.cell .nil))) ?_
    simp [oneOf]
end Go.Proofs.YtkebbdpfjhhdhaaGreat
