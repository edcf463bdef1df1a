/- The reference's Over over the calculator's memory. -/
import Derived.Test.YtcaemeedmnpdjaaRo
namespace Go.Proofs.Ytcaemeedmnpdjaa
open Go.Proofs.Ytcaemeedmnpdjaa.Ev

def overE (ks : List (Int × Int)) (err lo hi : Int) : PE :=
  if errOn ks err lo hi = 0 then ⟨pkR lo ((intsX lo hi).map (valF ks)), 0⟩ else ⟨⟨0, 0, 0, 0, 0, 0⟩, errOn ks err lo hi⟩
theorem errL_one {ks : List (Int × Int)} {err lo hi : Int} : errL [(⟨none, 0, ks, err⟩ : Cur)] lo hi = errOn ks err lo hi := by
  unfold errL errOn
  by_cases h : chk ks err = 0
  · simp [chkL, chkOn_one, h]
  · simp [chkL, h]
theorem errOn_zero {ks err lo hi} (h : errOn ks err lo hi = 0) : chk ks err = 0 ∧ lo ≤ hi ∧ inDom ks lo hi = true := by
  unfold errOn at h
  split at h
  · rename_i h0
    split at h
    · cases h
    · split at h
      · rename_i h1 h2; exact ⟨h0, by omega, h2⟩
      · cases h
  · rename_i h0; exact absurd h h0
theorem inDom_at {ks : List (Int × Int)} {lo hi x : Int} (h : inDom ks lo hi = true) (h1 : lo ≤ x) (h2 : x ≤ hi) : inDom ks x x = true := by
  simp only [inDom, Bool.and_eq_true, decide_eq_true_eq] at h ⊢
  omega
set_option maxRecDepth 100000 in
set_option maxHeartbeats 8000000 in
theorem overRef_con (h : Heap) (g : Gd h) (kv : AV) (ks : List (Int × Int)) (err lo hi : Int) (hk : KnV h kv ks) (hl : ks.length ≤ 1000000000000) : Con Try.prog Bs 29 [.agg [kv, .int .i64 err], .agg [.int .i64 lo, .int .i64 hi]] h [] (avP (overE ks err lo hi)) [] := by
  have hR : ∀ (h2 : Heap) {V : Ob} (i1 : Nat) (l : List AV) (t : TypeId), Vw h [] V h2 → (i1, AObj.cells l t) ∈ V → l = [kv, .int .i64 err] → Con Try.prog Bs 75 [.slice i1 0 1 (.k 1), .agg [.int .i64 lo, .int .i64 hi]] h2 [] (.int .i64 (errOn ks err lo hi)) [] := fun h2 V i1 l t hh hm hl2 => by
    have := rover_con h2 hh.gd i1 0 (.k 1) [⟨kv, ks, err⟩] lo hi (by simp) (hh.cv1 hm hl2 (hk.vw hh) hl)
    rw [show errL ([(⟨kv, ks, err⟩ : Cv)].map Cv.c) lo hi = errOn ks err lo hi from errL_one] at this
    exact this
  by_cases he : errOn ks err lo hi = 0
  · obtain ⟨hch, hlh, hd⟩ := errOn_zero he
    have v := vd_of_chk hch
    obtain ⟨d1, d2⟩ := v.dom hd
    obtain ⟨b, off, c, rfl, hk'⟩ := hk.ne v.ne
    have hX := intsX_len lo hi
    have hsm : ∀ i, i < ((intsX lo hi).map (valF ks)).length → Small (kx ((intsX lo hi).map (valF ks)) i) (ky ((intsX lo hi).map (valF ks)) i) := fun i hi' => by
      have hi2 : i < (hi - lo + 1).toNat := by simpa [hX] using hi'
      have e : ((intsX lo hi).map (valF ks))[i]? = some (valF ks (lo + i)) := by simp [intsX_get hi2]
      have := (v.fr (x := lo + i) (by omega) (by omega)).small
      simpa [kx, ky, e, valF] using this
    refine Con.start rfl Try.func29 rfl rfl Try.ntmps29 rfl rfl g ?_
    (refine WK.seq ?_; refine WK.region ?_; refine St.box fun _ _ => ?_; refine St.box fun _ _ => ?_; refine St.alloc fun _ _ => ?_; refine St.assign ?_; refine WO.nil ?_; refine WK.seq ?_; refine WK.region ?_; refine St.load ?_; refine St.mkS fun _ _ => ?_; refine St.load ?_)
    rename_i p hp q hq r hr i1 hi1
    refine St.call (fun _ => rfl) (fun h hh => hR h i1 _ _ hh (List.Mem.head _) rfl) ?_
    rw [he]
    (refine St.assign ?_; refine WO.nil ?_; refine WK.seq ?_; refine WK.seq ?_; refine WK.region ?_; refine St.move ?_; refine St.bin ?_; refine WO.nil ?_; refine WK.condF ?_; refine WK.skip ?_; refine WK.seq ?_; refine WK.region ?_; refine St.assign ?_; refine WO.nil ?_; refine WK.seq ?_; refine WK.seq ?_; refine WK.region ?_; refine St.fieldAddr ?_; refine St.load ?_; refine St.assign ?_; refine WO.nil ?_; refine WK.block ?_)
    refine WK.inv (ι := Nat × AV × Ob) (fun z => [(2, .ptr p 0), (3, .ptr q 0), (4, .ptr r 0), (7, z.2.1), (8, .int .i64 (lo + (z.1 : Int)))]) (fun z => (r, .cells [.int .i64 0, .int .i64 0, .int .i64 0, .int .i64 0, .int .i64 0, .int .i64 0] 47) :: (q, .cells [.int .i64 lo, .int .i64 hi] 36) :: (p, .cells [.slice b off ks.length c, .int .i64 err] 33) :: z.2.2)
      (fun z => (z.1 : Int) ≤ hi - lo + 1 ∧ IsL 23 2 z.1 (flatA (((intsX lo hi).take z.1).map (valF ks))) z.2.1 z.2.2) (fun z => (hi - lo + 1).toNat - z.1) (0, .slice0, [])
      ⟨by simp only; omega, .nil rfl rfl⟩ ⟨rfl, rfl, rfl, rfl, congrArg (fun z => some (AV.int .i64 z)) (show lo = lo + ((0 : Nat) : Int) by simp), trivial⟩ (by (repeat (first | exact List.Sublist.refl _ | exact List.nil_sublist _ | apply List.Sublist.cons_cons | apply List.Sublist.cons))) ?_
    rintro ⟨k, w, Lw⟩ ⟨hkl, hw⟩ ih
    simp only at hkl hw ih ⊢
    (refine WK.seq ?_; refine WK.seq ?_; refine WK.region ?_; refine St.move ?_; refine St.fieldAddr ?_; refine St.load ?_; refine St.bin ?_; refine WO.nil ?_)
    refine St.splitC (fun hc => ?_) (fun hc => ?_)
    · have hx : lo + (k : Int) ≤ hi := by simpa using hc
      have hlt : k < (intsX lo hi).length := by rw [hX]; omega
      have e3 : flatA (((intsX lo hi).take (k + 1)).map (valF ks)) = flatA (((intsX lo hi).take k).map (valF ks)) ++ [.int .i64 (valN ks (lo + k)), .int .i64 (valD ks (lo + k))] := by
        have e4 : (intsX lo hi)[k] = lo + (k : Int) := by
          have := intsX_get (lo := lo) (hi := hi) (i := k) (by omega)
          rw [List.getElem?_eq_getElem hlt] at this
          exact Option.some.inj this
        rw [List.take_succ_eq_append_getElem hlt, List.map_append, e4]
        exact flatA_snoc _ _
      (refine WK.skip ?_; refine WK.seq ?_; refine WK.block ?_; refine WK.region ?_; refine St.move ?_; refine St.load ?_; refine St.move ?_)
      refine St.call (fun _ => rfl) (fun h hh => rat_con h hh.gd b off c ks err (lo + k) (hk'.vw hh) v (inDom_at hd (by omega) hx)) ?_
      (refine St.mkS fun _ _ => ?_)
      rename_i i2 hi2
      refine St.appL (new := [.int .i64 (valN ks (lo + k)), .int .i64 (valD ks (lo + k))]) (Lk := [(i2, .cells [.int .i64 (valN ks (lo + k)), .int .i64 (valD ks (lo + k))] 23), (r, .cells [.int .i64 0, .int .i64 0, .int .i64 0, .int .i64 0, .int .i64 0, .int .i64 0] 47), (q, .cells [.int .i64 lo, .int .i64 hi] 36), (p, .cells [.slice b off ks.length c, .int .i64 err] 33)]) hw List.perm_append_comm (fun w3 Lw3 hw3 => ?_) ⟨rfl, rfl, rfl, rfl, rfl, rfl, rfl, rfl, rfl, rfl, rfl, rfl⟩ (List.Mem.head _) rfl (by omega) (by omega)
      refine WO.permF (L' := [(i2, .cells [.int .i64 (valN ks (lo + k)), .int .i64 (valD ks (lo + k))] 23), (r, .cells [.int .i64 0, .int .i64 0, .int .i64 0, .int .i64 0, .int .i64 0, .int .i64 0] 47), (q, .cells [.int .i64 lo, .int .i64 hi] 36), (p, .cells [.slice b off ks.length c, .int .i64 err] 33)] ++ Lw3) List.perm_append_comm ?_
      (refine St.assign ?_; refine WO.nil ?_; refine WK.blk ?_; refine WK.region ?_; refine St.move ?_; refine St.binI ?_; refine St.assign ?_; refine WO.nil ?_)
      refine WK.le ?_ (by (repeat (first | exact List.Sublist.refl _ | exact List.nil_sublist _ | apply List.Sublist.cons_cons | apply List.Sublist.cons))) (ih (k + 1, w3, Lw3) ⟨by simp only; omega, ?_⟩ (by simp only; omega))
      · exact ⟨rfl, rfl, rfl, rfl, congrArg (fun z => some (AV.int .i64 z)) (show lo + (k : Int) + 1 = lo + ((k + 1 : Nat) : Int) by omega), trivial⟩
      · simp only
        rw [e3]
        exact hw3
    · have hx : (k : Int) = hi - lo + 1 := by simp at hc; omega
      have hke : k = (intsX lo hi).length := by rw [hX]; omega
      rw [List.take_of_length_le (by omega)] at hw
      obtain ⟨i, c1, o, rfl, rfl, ho, -⟩ := hw.ne (by omega)
      have hlen : ((intsX lo hi).map (valF ks)).length = k := by simp [hke]
      (refine WK.exit ?_; refine WK.seq ?_; refine WK.region ?_; refine St.fieldAddr ?_; refine St.load ?_; refine St.move ?_)
      refine St.call (v := pkA (pkR lo ((intsX lo hi).map (valF ks)))) (fun _ => rfl) (fun h2 hh => by
        have := rpeak_con h2 hh.gd i 0 c1 lo ((intsX lo hi).map (valF ks)) (by omega) (by omega) (hh.frs (j := i) (o := o) (by simp) ho) (by omega) (by omega) hsm
        rw [hlen] at this
        exact this) ?_
      (refine St.store0 ?_; refine St.assign ?_; refine WO.nil ?_)
      refine St.ret (by first | exact .tmp .nil | exact .cell .nil | exact .cell (.tmp .nil) | exact .tmp (.tmp .nil) | exact .cell (.cell .nil) | exact .tmp (.cell .nil) | exact .nil | exact .tmp (.cell (.tmp .nil)) | exact .cell (.tmp (.tmp .nil)) | exact .cell (.cell (.tmp .nil)) | exact .tmp (.tmp (.tmp .nil)) | exact .cell (.cell (.cell .nil))) ?_
      unfold overE
      rw [if_pos he]
      rfl
  · have hbad : overE ks err lo hi = ⟨⟨0, 0, 0, 0, 0, 0⟩, errOn ks err lo hi⟩ := by unfold overE; rw [if_neg he]
    rw [hbad]
    rcases hk with ⟨rfl | rfl, rfl⟩ | ⟨b, off, c, rfl, hk'⟩
    · refine Con.start rfl Try.func29 rfl rfl Try.ntmps29 rfl rfl g ?_
      (refine WK.seq ?_; refine WK.region ?_; refine St.box fun _ _ => ?_; refine St.box fun _ _ => ?_; refine St.alloc fun _ _ => ?_; refine St.assign ?_; refine WO.nil ?_; refine WK.seq ?_; refine WK.region ?_; refine St.load ?_; refine St.mkS fun _ _ => ?_; refine St.load ?_)
      rename_i i1 hi1
      refine St.call (fun _ => rfl) (fun h hh => hR h i1 _ _ hh (List.Mem.head _) rfl) ?_
      (refine St.assign ?_; refine WO.nil ?_; refine WK.seq ?_; refine WK.seq ?_; refine WK.region ?_; refine St.move ?_; refine St.bin ?_; refine WO.nil ?_; refine WK.condT ?_; refine WK.seq ?_; refine WK.region ?_; refine St.build ?_; refine St.move ?_; refine St.store1 ?_; refine St.assign ?_; refine WO.nil ?_)
      refine St.ret (by first | exact .tmp .nil | exact .cell .nil | exact .cell (.tmp .nil) | exact .tmp (.tmp .nil) | exact .cell (.cell .nil) | exact .tmp (.cell .nil) | exact .nil | exact .tmp (.cell (.tmp .nil)) | exact .cell (.tmp (.tmp .nil)) | exact .cell (.cell (.tmp .nil)) | exact .tmp (.tmp (.tmp .nil)) | exact .cell (.cell (.cell .nil))) ?_
      rfl
    · refine Con.start rfl Try.func29 rfl rfl Try.ntmps29 rfl rfl g ?_
      (refine WK.seq ?_; refine WK.region ?_; refine St.box fun _ _ => ?_; refine St.box fun _ _ => ?_; refine St.alloc fun _ _ => ?_; refine St.assign ?_; refine WO.nil ?_; refine WK.seq ?_; refine WK.region ?_; refine St.load ?_; refine St.mkS fun _ _ => ?_; refine St.load ?_)
      rename_i i1 hi1
      refine St.call (fun _ => rfl) (fun h hh => hR h i1 _ _ hh (List.Mem.head _) rfl) ?_
      (refine St.assign ?_; refine WO.nil ?_; refine WK.seq ?_; refine WK.seq ?_; refine WK.region ?_; refine St.move ?_; refine St.bin ?_; refine WO.nil ?_; refine WK.condT ?_; refine WK.seq ?_; refine WK.region ?_; refine St.build ?_; refine St.move ?_; refine St.store1 ?_; refine St.assign ?_; refine WO.nil ?_)
      refine St.ret (by first | exact .tmp .nil | exact .cell .nil | exact .cell (.tmp .nil) | exact .tmp (.tmp .nil) | exact .cell (.cell .nil) | exact .tmp (.cell .nil) | exact .nil | exact .tmp (.cell (.tmp .nil)) | exact .cell (.tmp (.tmp .nil)) | exact .cell (.cell (.tmp .nil)) | exact .tmp (.tmp (.tmp .nil)) | exact .cell (.cell (.cell .nil))) ?_
      rfl
    · refine Con.start rfl Try.func29 rfl rfl Try.ntmps29 rfl rfl g ?_
      (refine WK.seq ?_; refine WK.region ?_; refine St.box fun _ _ => ?_; refine St.box fun _ _ => ?_; refine St.alloc fun _ _ => ?_; refine St.assign ?_; refine WO.nil ?_; refine WK.seq ?_; refine WK.region ?_; refine St.load ?_; refine St.mkS fun _ _ => ?_; refine St.load ?_)
      rename_i i1 hi1
      refine St.call (fun _ => rfl) (fun h hh => hR h i1 _ _ hh (List.Mem.head _) rfl) ?_
      (refine St.assign ?_; refine WO.nil ?_; refine WK.seq ?_; refine WK.seq ?_; refine WK.region ?_; refine St.move ?_; refine St.bin ?_; refine WO.nil ?_)
      refine St.splitC (fun hc => ?_) (fun hc => ?_)
      · (refine WK.seq ?_; refine WK.region ?_; refine St.build ?_; refine St.move ?_; refine St.store1 ?_; refine St.assign ?_; refine WO.nil ?_)
        refine St.ret (by first | exact .tmp .nil | exact .cell .nil | exact .cell (.tmp .nil) | exact .tmp (.tmp .nil) | exact .cell (.cell .nil) | exact .tmp (.cell .nil) | exact .nil | exact .tmp (.cell (.tmp .nil)) | exact .cell (.tmp (.tmp .nil)) | exact .cell (.cell (.tmp .nil)) | exact .tmp (.tmp (.tmp .nil)) | exact .cell (.cell (.cell .nil))) ?_
        rfl
      · simp at hc; exact absurd hc he
end Go.Proofs.Ytcaemeedmnpdjaa
