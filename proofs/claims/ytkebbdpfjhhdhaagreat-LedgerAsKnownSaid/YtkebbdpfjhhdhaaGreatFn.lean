/- Layer 8: Balances, Hold; the law of LedgerBalanced. -/
import Derived.Test.YtkebbdpfjhhdhaaGreatFu
/- Layer 8: items that were made, as what is asked of; a row's beginning. -/
namespace Go.Proofs.YtkebbdpfjhhdhaaGreat
open Go.Proofs.YtkebbdpfjhhdhaaGreat.Ev

theorem IsR.g {h0 h : Heap} {W : List Nat} {V : Ob} {l : List Im} {w : AV} {Lw : Ob} {n : Nat} (k : IsR 114 7 n (enF imC l) w Lw) (hn : l.length = n) (hh : Vw h0 W V h) (hm : ∀ x ∈ Lw, x ∈ V) : ImG h w l := by
  subst hn
  rcases k.rowN with ⟨rfl, rfl, h1, h2⟩ | ⟨j, rfl, rfl, h1⟩
  · have : l = [] := List.length_eq_zero_iff.1 h1
    subst this
    exact ⟨.nil, fun q hq => by simp at hq⟩
  · have ho := hh.own _ (hm _ (List.mem_cons_self ..))
    refine ⟨?_, fun q hq => ⟨.slice j 0 q (.m 0), ?_, fun h2 V2 hh2 => ?_⟩⟩
    · rcases Nat.eq_zero_or_pos l.length with h0 | h0
      · have : l = [] := List.length_eq_zero_iff.1 h0
        subst this
        refine .emp j 0 (.m 0) ho.2 ?_
        unfold Heap.loadN
        rw [ho.1]
        rfl
      · exact .some j 0 (.m 0) l h0 (eh_row hh (hm _ (List.mem_cons_self ..)))
    · exact (eh_row hh (hm _ (List.mem_cons_self ..))).takV (by omega)
    · exact slice_toK (qs := l) ((hh2.old j ho.2 (by simp)).trans ho.1) (by omega)
set_option maxRecDepth 100000 in
theorem sliceP_to {h : Heap} {i k : Nat} {qs : List Po} {e : TypeId} (hg : h.get i = some (.row (enF poC qs) e 4)) (hk : k ≤ qs.length) : evSlice Tryz.prog h 35 (.slice i 0 qs.length (.m 0)) none (some (.int .i64 k)) none = some (.slice i 0 k (.m 0)) := by
  have e1 : sizeT Tryz.prog 72 = some 4 := by kernel_rfl
  have e2 : knownN h i 4 = qs.length := by
    unfold knownN
    rw [hg]
    simp only [if_true]
    rw [enF_len poC_len, Nat.mul_div_cancel _ (by omega)]
  unfold evSlice
  rw [if_neg (by simp), Tryz.underlying35]
  simp only [e1, evSliceM, optB, boundIn, e2]
  rw [if_pos (by omega)]
  simp
end Go.Proofs.YtkebbdpfjhhdhaaGreat

/- Layer 8: Balances, Hold; the law of LedgerBalanced. -/
namespace Go.Proofs.YtkebbdpfjhhdhaaGreat
open Go.Proofs.YtkebbdpfjhhdhaaGreat.Ev

def acB (n : Int) : Bool := inB n 1 3 || otB n
set_option maxRecDepth 100000 in
theorem isAccount_con (h : Heap) (g : Gd h) (n : Int) : Con Tryz.prog Bs 82 [.int .i64 n] h [] (.bool (acB n)) [] := by
  refine Con.start rfl Tryz.func82 rfl rfl Tryz.ntmps82 rfl rfl g ?_
  (refine WK.seq ?_; refine WK.region ?_; refine St.assign ?_; refine WO.nil ?_; refine WK.seq ?_; refine WK.region ?_; refine St.move ?_)
  refine St.call (fun _ => rfl) (fun h2 hh => within_con h2 hh.gd n 1 3) ?_
  cases h1 : inB n 1 3
  · (refine St.move ?_; refine St.move ?_)
    refine St.call (fun _ => rfl) (fun h2 hh => isOther_con h2 hh.gd n) ?_
    (refine St.pickF ?_; refine St.assign ?_; refine WO.nil ?_)
    refine St.ret (by first | exact .tmp .nil | exact .cell .nil | exact .cell (.tmp .nil) | exact .tmp (.tmp .nil) | exact .cell (.cell .nil) | exact .tmp (.cell .nil) | exact .nil | exact .tmp (.cell (.tmp .nil)) | exact .cell (.tmp (.tmp .nil)) | exact .cell (.cell (.tmp .nil)) | exact .tmp (.tmp (.tmp .nil)) | exact .tmp (.tmp (.tmp (.tmp .nil))) | exact .cell (.cell (.cell .nil))) ?_
    simp [oneOf, acB, h1]
  · (refine St.move ?_; refine St.skip ?_; refine St.skip ?_; refine St.pickT ?_; refine St.assign ?_; refine WO.nil ?_)
    refine St.ret (by first | exact .tmp .nil | exact .cell .nil | exact .cell (.tmp .nil) | exact .tmp (.tmp .nil) | exact .cell (.cell .nil) | exact .tmp (.cell .nil) | exact .nil | exact .tmp (.cell (.tmp .nil)) | exact .cell (.tmp (.tmp .nil)) | exact .cell (.cell (.tmp .nil)) | exact .tmp (.tmp (.tmp .nil)) | exact .tmp (.tmp (.tmp (.tmp .nil))) | exact .cell (.cell (.cell .nil))) ?_
    simp [oneOf, acB, h1]
set_option maxRecDepth 100000 in
set_option maxHeartbeats 4000000 in
theorem Hold_con (h : Heap) (g : Gd h) (v : AV) (l : List Im) (ac day known : Int) (hv : ImG h v l) : Con Tryz.prog Bs 32 [v, .int .i64 ac, .int .i64 day, .int .i64 known] h [] (.tup [.int .i64 (if askE l [dyB day, dyB known, acB ac] = 0 then getQ (sumQ (hldP (bookB l known).ps day)) ac else 0), .int .i64 (askE l [dyB day, dyB known, acB ac])]) [] := by
  refine Con.start rfl Tryz.func32 rfl rfl Tryz.ntmps32 rfl rfl g ?_
  (refine WK.seq ?_; refine WK.region ?_; refine St.assign ?_; refine St.assign ?_; refine WO.nil ?_; refine WK.seq ?_; refine WK.seq ?_; refine WK.region ?_; refine St.move ?_; refine St.move ?_)
  refine St.call (fun _ => rfl) (fun h2 hh => isDay_con h2 hh.gd day) ?_
  (refine St.move ?_)
  refine St.call (fun _ => rfl) (fun h2 hh => isDay_con h2 hh.gd known) ?_
  (refine St.move ?_)
  refine St.call (fun _ => rfl) (fun h2 hh => isAccount_con h2 hh.gd ac) ?_
  (refine St.mkS fun _ _ => ?_)
  rename_i p10 hp10
  refine St.call (fun _ => rfl) (fun h2 hh => asked_con h2 hh.gd v _ l [dyB day, dyB known, acB ac] (hv.z.eV.vw hh) (hv.c.vw hh) (boV_of (bs := [dyB day, dyB known, acB ac]) (n := 3) hh (List.Mem.head _) rfl _) (by simp)) ?_
  (refine St.assign ?_; refine WO.nil ?_; refine WK.seq ?_; refine WK.region ?_; refine St.move ?_; refine St.bin ?_; refine WO.nil ?_)
  refine St.splitC (fun q => ?_) (fun q => ?_)
  · have e : ¬ askE l [dyB day, dyB known, acB ac] = 0 := by simpa using q
    (refine WK.seq ?_; refine WK.region ?_; refine St.move ?_; refine St.assign ?_; refine St.assign ?_; refine WO.nil ?_)
    refine St.ret (by first | exact .tmp .nil | exact .cell .nil | exact .cell (.tmp .nil) | exact .tmp (.tmp .nil) | exact .cell (.cell .nil) | exact .tmp (.cell .nil) | exact .nil | exact .tmp (.cell (.tmp .nil)) | exact .cell (.tmp (.tmp .nil)) | exact .cell (.cell (.tmp .nil)) | exact .tmp (.tmp (.tmp .nil)) | exact .tmp (.tmp (.tmp (.tmp .nil))) | exact .cell (.cell (.cell .nil))) ?_
    rw [if_neg e]
    rfl
  have e : askE l [dyB day, dyB known, acB ac] = 0 := by simpa using q
  have hc := (askE_ok e).1
  have hpo := (book_p hc known).po
  have hpl := book_pl hc known
  (refine WK.skip ?_; refine WK.seq ?_; refine WK.region ?_; refine St.move ?_; refine St.move ?_)
  refine St.callR (fun _ => rfl) (fun h2 hh => bookOf_g hh.gd (known := known) (hv.vw hh) hc) ?_
  rintro _ _ ⟨j, rfl, vp, vt, vr, Lp, Lt, Lr, hp, ht, hr, rfl⟩
  (refine St.move ?_)
  refine St.callR (fun _ => rfl) (fun h2 hh => holding_con h2 hh.gd j day vp (bookB l known).ps (hh.rdG (List.Mem.head _) rfl) (IsR.eVP hp rfl hh (fun y hy => List.mem_append_left _ (List.mem_cons_of_mem _ (List.mem_append_left _ hy)))) (by omega) hpo) ?_
  rintro _ _ ⟨m, rfl, rfl⟩
  (refine St.move ?_)
  refine St.lookupV (v := .int .i64 (getQ (sumQ (hldP (bookB l known).ps day)) ac)) (fun h2 hh => lookQ (hh.own _ (List.Mem.head _)).1) ?_
  (refine St.assign ?_; refine St.assign ?_; refine WO.nil ?_)
  refine St.ret (by first | exact .tmp .nil | exact .cell .nil | exact .cell (.tmp .nil) | exact .tmp (.tmp .nil) | exact .cell (.cell .nil) | exact .tmp (.cell .nil) | exact .nil | exact .tmp (.cell (.tmp .nil)) | exact .cell (.tmp (.tmp .nil)) | exact .cell (.cell (.tmp .nil)) | exact .tmp (.tmp (.tmp .nil)) | exact .tmp (.tmp (.tmp (.tmp .nil))) | exact .cell (.cell (.cell .nil))) ?_
  rw [if_pos e, e]
  rfl
end Go.Proofs.YtkebbdpfjhhdhaaGreat
