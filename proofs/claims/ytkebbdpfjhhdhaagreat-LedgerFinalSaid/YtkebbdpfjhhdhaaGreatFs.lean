/- Layer 8, plain: postings are in pairs that are together 0. -/
import Derived.Test.YtkebbdpfjhhdhaaGreatFu
/- Layer 8: Balances, Hold; the law of LedgerBalanced. -/
namespace Go.Proofs.YtkebbdpfjhhdhaaGreat
open Go.Proofs.YtkebbdpfjhhdhaaGreat.Ev

theorem hldP_mem {ps : List Po} {d : Int} (hp : ∀ p ∈ ps, PoOk p) : ∀ z ∈ sumQ (hldP ps d), 1 ≤ z.1 ∧ z.1 ≤ 1099511627776 := by
  intro z hz
  have h1 : z.1 ∈ (sumQ (hldP ps d)).map (·.1) := List.mem_map_of_mem hz
  rw [sumQ_mem] at h1
  unfold hldP at h1
  rw [List.map_map] at h1
  obtain ⟨p, hp1, e⟩ := List.mem_map.1 h1
  have := (hp p (List.mem_filter.1 hp1).1).ac
  simp only [Function.comp] at e
  omega
theorem hldP_len (ps : List Po) (d : Int) : (sumQ (hldP ps d)).length ≤ ps.length := by
  refine Nat.le_trans (sumQ_len _) ?_
  unfold hldP
  rw [List.length_map]
  exact List.length_filter_le _ _
def acB (n : Int) : Bool := inB n 1 3 || otB n
set_option maxRecDepth 100000 in
set_option maxHeartbeats 4000000 in
theorem Balances_con (h : Heap) (g : Gd h) (v : AV) (l : List Im) (day known : Int) (hv : ImG h v l) : ∃ u L, Con Tryz.prog Bs 34 [v, .int .i64 day, .int .i64 known] h [] u L ∧ LstR 110 2 baC (askE l [dyB day, dyB known]) (balL (sumQ (hldP (bookB l known).ps day))) u L := by
  refine Con.subG (Con.startR rfl Tryz.func34 rfl rfl Tryz.ntmps34 rfl rfl (SS.init g) ?_)
  (refine WK.seq ?_; refine WK.region ?_; refine St.assign ?_; refine St.assign ?_; refine WO.nil ?_; refine WK.seq ?_; refine WK.seq ?_; refine WK.region ?_; refine St.move ?_; refine St.move ?_)
  refine St.call (fun _ => rfl) (fun h2 hh => isDay_con h2 hh.gd day) ?_
  (refine St.move ?_)
  refine St.call (fun _ => rfl) (fun h2 hh => isDay_con h2 hh.gd known) ?_
  (refine St.mkS fun _ _ => ?_)
  rename_i p10 hp10
  refine St.call (fun _ => rfl) (fun h2 hh => asked_con h2 hh.gd v _ l [dyB day, dyB known] (hv.z.eV.vw hh) (hv.c.vw hh) (boV_of (bs := [dyB day, dyB known]) (n := 2) hh (List.Mem.head _) rfl _) (by simp)) ?_
  (refine St.assign ?_; refine WO.nil ?_; refine WK.seq ?_; refine WK.region ?_; refine St.move ?_; refine St.bin ?_; refine WO.nil ?_)
  refine St.splitC (fun q => ?_) (fun q => ?_)
  · have e : ¬ askE l [dyB day, dyB known] = 0 := by simpa using q
    (refine WK.seq ?_; refine WK.region ?_; refine St.move ?_; refine St.assign ?_; refine St.assign ?_; refine WO.nil ?_)
    refine St.ret (by first | exact .tmp .nil | exact .cell .nil | exact .cell (.tmp .nil) | exact .tmp (.tmp .nil) | exact .cell (.cell .nil) | exact .tmp (.cell .nil) | exact .nil | exact .tmp (.cell (.tmp .nil)) | exact .cell (.tmp (.tmp .nil)) | exact .cell (.cell (.tmp .nil)) | exact .tmp (.tmp (.tmp .nil)) | exact .tmp (.tmp (.tmp (.tmp .nil))) | exact .cell (.cell (.cell .nil))) ?_
    exact ⟨[], List.nil_sublist _, _, rfl, .inl ⟨e, rfl, rfl⟩⟩
  have e : askE l [dyB day, dyB known] = 0 := by simpa using q
  have hc := (askE_ok e).1
  have hpo := (book_p hc known).po
  have hpl := book_pl hc known
  (refine WK.skip ?_; refine WK.seq ?_; refine WK.region ?_; refine St.move ?_; refine St.move ?_)
  refine St.callR (fun _ => rfl) (fun h2 hh => bookOf_g hh.gd (known := known) (hv.vw hh) hc) ?_
  rintro _ _ ⟨j, rfl, vp, vt, vr, Lp, Lt, Lr, hp, ht, hr, rfl⟩
  (refine St.move ?_)
  refine St.callR (fun _ => rfl) (fun h2 hh => holding_con h2 hh.gd j day vp (bookB l known).ps (hh.rdG (List.Mem.head _) rfl) (IsR.eVP hp rfl hh (fun y hy => List.mem_append_left _ (List.mem_cons_of_mem _ (List.mem_append_left _ hy)))) (by omega) hpo) ?_
  rintro _ _ ⟨m, rfl, rfl⟩
  skip
  refine St.callR (fun _ => rfl) (fun h2 hh => balances_con h2 hh.gd m _ (hh.own _ (List.Mem.head _)).1 (hh.own _ (List.Mem.head _)).2 (by have := hldP_len (bookB l known).ps day; omega) (sumQ_nd _) (fun z hz => by have := hldP_mem hpo z hz; omega)) ?_
  intro u L hu
  (refine St.assign ?_; refine St.assign ?_; refine WO.nil ?_)
  refine St.ret (by first | exact .tmp .nil | exact .cell .nil | exact .cell (.tmp .nil) | exact .tmp (.tmp .nil) | exact .cell (.cell .nil) | exact .tmp (.cell .nil) | exact .nil | exact .tmp (.cell (.tmp .nil)) | exact .cell (.tmp (.tmp .nil)) | exact .cell (.cell (.tmp .nil)) | exact .tmp (.tmp (.tmp .nil)) | exact .tmp (.tmp (.tmp (.tmp .nil))) | exact .cell (.cell (.cell .nil))) ?_
  exact ⟨L, List.sublist_append_left _ _, _, by rw [e]; rfl, .inr ⟨e, hu⟩⟩
end Go.Proofs.YtkebbdpfjhhdhaaGreat

/- Layer 8, plain: postings are in pairs that are together 0. -/
namespace Go.Proofs.YtkebbdpfjhhdhaaGreat
open Go.Proofs.YtkebbdpfjhhdhaaGreat.Ev

inductive Prs : List Po → Prop
  | nil : Prs []
  | snoc {l : List Po} (p q : Po) : Prs l → p.it = q.it → p.dy = q.dy → q.am = 0 - p.am → Prs (l ++ [p, q])
theorem Prs.doB {b c : Bk} {x : Im} (k : Prs b.ps) (h : doB b x = some c) : Prs c.ps := by
  have ht : ∀ {it dy am to fr}, trB b it dy am to fr = some c → Prs c.ps := fun h => by
    rw [(trB_tk h).2.2.2.2]
    exact .snoc _ _ k rfl rfl rfl
  unfold Proofs.YtkebbdpfjhhdhaaGreat.doB at h
  repeat' split at h
  all_goals first | (cases h; done) | (cases h; exact k) | exact ht h
theorem Prs.list : ∀ {l : List Im} {b : Bk}, Prs b.ps → Prs (bookL b l).ps
  | [], _, k => k
  | x :: l, b, k => Prs.list (l := l) (b := stepB b x) (by
    unfold stepB
    cases h : Proofs.YtkebbdpfjhhdhaaGreat.doB b x with
    | none => exact k
    | some c =>
      have h2 := k.doB h
      exact h2)
theorem Prs.at_ {l : List Po} (k : Prs l) : l.length % 2 = 0 ∧ ∀ i, i < l.length → i % 2 = 0 → (nthE l (i + 1)).it = (nthE l i).it ∧ (nthE l (i + 1)).am = 0 - (nthE l i).am := by
  induction k with
  | nil => exact ⟨rfl, fun i h => by simp at h⟩
  | @snoc l p q k h1 h2 h3 ih =>
    obtain ⟨i1, i2⟩ := ih
    refine ⟨by simp; omega, fun i hi he => ?_⟩
    by_cases hl : i < l.length
    · have h4 : i + 1 < l.length := by omega
      have e1 : nthE (l ++ [p, q]) i = nthE l i := by unfold nthE; rw [List.getElem?_append_left hl]
      have e2 : nthE (l ++ [p, q]) (i + 1) = nthE l (i + 1) := by unfold nthE; rw [List.getElem?_append_left h4]
      rw [e1, e2]
      exact i2 i hl he
    · have h4 : i = l.length := by simp at hi; omega
      subst h4
      have e1 : nthE (l ++ [p, q]) l.length = p := by simp [nthE]
      have e2 : nthE (l ++ [p, q]) (l.length + 1) = q := by simp [nthE]
      rw [e1, e2]
      exact ⟨h1.symm, h3⟩
theorem Prs.sum {l : List Po} (k : Prs l) (d : Int) : ((hldP l d).map (·.2)).sum = 0 := by
  induction k with
  | nil => rfl
  | @snoc l p q k h1 h2 h3 ih =>
    unfold hldP at *
    rw [List.filter_append, List.map_append, List.map_append, List.sum_append, ih]
    by_cases h : p.dy ≤ d
    · have h' : q.dy ≤ d := by omega
      simp [h, h']
      omega
    · have h' : ¬ q.dy ≤ d := by omega
      simp [h, h']
theorem srtI_lt {l : List Int} (h : l.Nodup) : (srtI l).Pairwise (fun a b => a < b) := by
  have h1 := srtI_pw l
  have h2 : (srtI l).Nodup := (srtI_perm l).nodup_iff.2 h
  exact (h1.and h2).imp fun h => by omega
end Go.Proofs.YtkebbdpfjhhdhaaGreat
