/- The reference's sheaf, Both and Least over the calculator's memory. -/
import Derived.Test.YtcaemeedmnpdjaaBt
import Derived.Test.YtcaemeedmnpdjaaLs
namespace Go.Proofs.Ytcaemeedmnpdjaa
open Go.Proofs.Ytcaemeedmnpdjaa.Ev

set_option maxRecDepth 100000 in
set_option maxHeartbeats 8000000 in
theorem rsheaf_con (h : Heap) (g : Gd h) (lv : AV) (l : List Cv) (x : Int) (hl : l.length ≤ 1000000) (hk : CvV h lv l) : Con Try.prog Bs 96 [lv, .int .i64 x] h [] (.int .i64 (sheafErr (l.map Cv.c) x)) [] := by
  rcases hk with ⟨rfl, rfl⟩ | ⟨b, off, c, rfl, hk⟩
  · refine Con.start rfl Try.func96 rfl rfl Try.ntmps96 rfl rfl g ?_
    (refine WK.seq ?_; refine WK.region ?_; refine St.assign ?_; refine WO.nil ?_; refine WK.seq ?_; refine WK.seq ?_; refine WK.region ?_; refine St.move ?_; refine St.len0 ?_; refine St.bin ?_; refine WO.nil ?_; refine WK.condF ?_; refine WK.skip ?_; refine WK.seq ?_; refine WK.seq ?_; refine WK.region ?_; refine St.assign ?_; refine WO.nil ?_; refine WK.block ?_)
    refine WK.unroll ?_
    (refine WK.seq ?_; refine WK.seq ?_; refine WK.region ?_; refine St.move ?_; refine St.move ?_; refine St.len0 ?_; refine St.bin ?_; refine WO.nil ?_; refine WK.condF ?_; refine WK.exit ?_; refine WK.seq ?_; refine WK.seq ?_; refine WK.region ?_; refine St.assign ?_; refine WO.nil ?_; refine WK.block ?_)
    refine WK.unroll ?_
    (refine WK.seq ?_; refine WK.seq ?_; refine WK.region ?_; refine St.move ?_; refine St.move ?_; refine St.len0 ?_; refine St.bin ?_; refine WO.nil ?_; refine WK.condF ?_; refine WK.exit ?_; refine WK.seq ?_; refine WK.seq ?_; refine WK.region ?_; refine St.move ?_; refine St.len0 ?_; refine St.bin ?_; refine WO.nil ?_; refine WK.condT ?_; refine WK.seq ?_; refine WK.region ?_; refine St.assign ?_; refine WO.nil ?_)
    refine St.ret (by first | exact .tmp .nil | exact .cell .nil | exact .cell (.tmp .nil) | exact .tmp (.tmp .nil) | exact .cell (.cell .nil) | exact .tmp (.cell .nil) | exact .nil | exact .tmp (.cell (.tmp .nil)) | exact .cell (.tmp (.tmp .nil)) | exact .cell (.cell (.tmp .nil)) | exact .tmp (.tmp (.tmp .nil)) | exact .cell (.cell (.cell .nil))) ?_
    simp [oneOf, sheafErr, chkSheaf, chkL, chkOn, covL]
  refine Con.start rfl Try.func96 rfl rfl Try.ntmps96 rfl rfl g ?_
  (refine WK.seq ?_; refine WK.region ?_; refine St.assign ?_; refine WO.nil ?_; refine WK.seq ?_; refine WK.seq ?_; refine WK.region ?_; refine St.move ?_; refine St.len ?_; refine St.bin ?_; refine WO.nil ?_)
  refine St.splitC (fun hc => ?_) (fun hc => ?_)
  · (refine WK.seq ?_; refine WK.region ?_; refine St.assign ?_; refine WO.nil ?_)
    refine St.ret (by first | exact .tmp .nil | exact .cell .nil | exact .cell (.tmp .nil) | exact .tmp (.tmp .nil) | exact .cell (.cell .nil) | exact .tmp (.cell .nil) | exact .nil | exact .tmp (.cell (.tmp .nil)) | exact .cell (.tmp (.tmp .nil)) | exact .cell (.cell (.tmp .nil)) | exact .tmp (.tmp (.tmp .nil)) | exact .cell (.cell (.cell .nil))) ?_
    have : 12 < l.length := by simp at hc; omega
    simp [oneOf, sheafErr, chkSheaf, this]
  have hle : ¬ 12 < l.length := by simp at hc; omega
  have hS : chkSheaf (l.map Cv.c) = chkL (l.map Cv.c) := by simp [chkSheaf, hle]
  (refine WK.skip ?_; refine WK.seq ?_; refine WK.seq ?_; refine WK.region ?_; refine St.assign ?_; refine WO.nil ?_; refine WK.block ?_)
  refine WK.inv (ι := Nat) (fun k => [(0, .slice b off l.length c), (1, .int .i64 x), (5, .int .i64 k)]) (fun _ => []) (fun k => k ≤ l.length ∧ chkL (l.map Cv.c) = chkL ((l.map Cv.c).drop k)) (fun k => l.length - k) 0 ⟨by omega, rfl⟩ ⟨rfl, rfl, rfl, trivial⟩ (by (repeat (first | exact List.Sublist.refl _ | exact List.nil_sublist _ | apply List.Sublist.cons_cons | apply List.Sublist.cons))) ?_
  intro k ⟨hkl, he⟩ ih
  (refine WK.seq ?_; refine WK.seq ?_; refine WK.region ?_; refine St.move ?_; refine St.move ?_; refine St.len ?_; refine St.bin ?_; refine WO.nil ?_)
  refine St.splitC (fun hc => ?_) (fun hc => ?_)
  · have hlt : k < l.length := by simp at hc; omega
    have hd := chkL_drop (l := l.map Cv.c) (k := k) (by simpa using hlt)
    simp only [List.getElem_map] at hd
    (refine WK.skip ?_; refine WK.seq ?_; refine WK.block ?_; refine WK.seq ?_; refine WK.region ?_; refine St.move ?_; refine St.move ?_)
    refine St.at ?_
    skip
    refine St.loadX (fun h hh => ((hk.vw hh).at_ (z := (k : Int)) (n := k) (by omega) hlt).agg (by simp) rfl rfl rfl) ?_
    skip
    refine St.call (v := .int .i64 (chk (l[k]'hlt).ks (l[k]'hlt).err)) (fun _ => rfl) (fun h hh => rcheck_con h hh.gd (l[k]'hlt).kv (l[k]'hlt).ks (l[k]'hlt).err ((hk.vw hh) k hlt).2.1 (hk k hlt).2.2) ?_
    (refine St.assign ?_; refine WO.nil ?_; refine WK.seq ?_; refine WK.region ?_; refine St.move ?_; refine St.bin ?_; refine WO.nil ?_)
    refine St.splitC (fun hc2 => ?_) (fun hc2 => ?_)
    · (refine WK.seq ?_; refine WK.region ?_; refine St.move ?_; refine St.assign ?_; refine WO.nil ?_)
      refine St.ret (by first | exact .tmp .nil | exact .cell .nil | exact .cell (.tmp .nil) | exact .tmp (.tmp .nil) | exact .cell (.cell .nil) | exact .tmp (.cell .nil) | exact .nil | exact .tmp (.cell (.tmp .nil)) | exact .cell (.tmp (.tmp .nil)) | exact .cell (.cell (.tmp .nil)) | exact .tmp (.tmp (.tmp .nil)) | exact .cell (.cell (.cell .nil))) ?_
      have hne : chk (l[k]'hlt).ks (l[k]'hlt).err ≠ 0 := by simpa using hc2
      have e1 : chkL (l.map Cv.c) = chk (l[k]'hlt).ks (l[k]'hlt).err := by rw [he, hd]; exact if_neg hne
      unfold sheafErr
      rw [hS, e1, if_pos hne]
      rfl
    · have h0 : chk (l[k]'hlt).ks (l[k]'hlt).err = 0 := by simpa using hc2
      (refine WK.skip ?_; refine WK.blk ?_; refine WK.region ?_; refine St.move ?_; refine St.binI ?_; refine St.assign ?_; refine WO.nil ?_)
      refine WK.le ?_ (by (repeat (first | exact List.Sublist.refl _ | exact List.nil_sublist _ | apply List.Sublist.cons_cons | apply List.Sublist.cons))) (ih (k + 1) ⟨hlt, ?_⟩ (by omega))
      · exact ⟨rfl, rfl, rfl, trivial⟩
      · rw [he, hd]
        exact if_pos h0
  have : k = l.length := by simp at hc; omega
  subst this
  have hz : chkL (l.map Cv.c) = 0 := by rw [he, List.drop_eq_nil_of_le (by simp)]; rfl
  have hv := vd_of_chkL hz
  have hE : sheafErr (l.map Cv.c) x = if covL (l.map Cv.c) x x = true then (if l.length = 0 then 5 else 0) else 3 := by
    have hco : chkOn (l.map Cv.c) x x = if covL (l.map Cv.c) x x = true then 0 else 3 := by unfold chkOn; rw [if_neg (by omega)]
    unfold sheafErr
    rw [hS, hz, hco]
    by_cases hcv : covL (l.map Cv.c) x x = true
    · simp [hcv]
    · simp [hcv]
  clear ih he hkl hc
  rw [hE]
  (refine WK.exit ?_; refine WK.seq ?_; refine WK.seq ?_; refine WK.region ?_; refine St.assign ?_; refine WO.nil ?_; refine WK.block ?_)
  refine WK.inv (ι := Nat) (fun k => [(0, .slice b off l.length c), (1, .int .i64 x), (7, .int .i64 k)]) (fun _ => []) (fun k => k ≤ l.length ∧ covL (l.map Cv.c) x x = covL ((l.map Cv.c).drop k) x x) (fun k => l.length - k) 0 ⟨by omega, rfl⟩ ⟨rfl, rfl, rfl, trivial⟩ (by (repeat (first | exact List.Sublist.refl _ | exact List.nil_sublist _ | apply List.Sublist.cons_cons | apply List.Sublist.cons))) ?_
  intro k ⟨hkl, he⟩ ih
  (refine WK.seq ?_; refine WK.seq ?_; refine WK.region ?_; refine St.move ?_; refine St.move ?_; refine St.len ?_; refine St.bin ?_; refine WO.nil ?_)
  refine St.splitC (fun hc => ?_) (fun hc => ?_)
  · have hlt : k < l.length := by simp at hc; omega
    have hd := covL_drop (l := l.map Cv.c) (lo := x) (hi := x) (k := k) (by simpa using hlt)
    simp only [List.getElem_map] at hd
    have v : Vd (l[k]'hlt).ks (l[k]'hlt).err := by
      have := hv k (by simpa using hlt)
      rw [List.getElem_map] at this
      exact this
    obtain ⟨b2, off2, c2, e2, hk2⟩ := (hk k hlt).2.1.ne v.ne
    (refine WK.skip ?_; refine WK.seq ?_; refine WK.block ?_; refine WK.seq ?_; refine WK.region ?_; refine St.move ?_; refine St.move ?_; refine St.move ?_)
    refine St.at ?_
    skip
    refine St.loadX (fun h hh => ((hk.vw hh).at_ (z := (k : Int)) (n := k) (by omega) hlt).agg (by simp) rfl rfl rfl) ?_
    skip
    refine St.call (v := .agg [.int .i64 (dLo (l[k]'hlt).ks), .int .i64 (dHi (l[k]'hlt).ks)]) (fun _ => rfl) (fun h hh => by
      have := rdomain_con h hh.gd b2 off2 c2 (l[k]'hlt).ks (l[k]'hlt).err (hk2.vw hh) v.ne (hk k hlt).2.2
      rw [← e2] at this
      exact this) ?_
    skip
    refine St.call (v := .bool (inDom (l[k]'hlt).ks x x)) (fun _ => rfl) (fun h hh => rin_con h hh.gd x (dLo (l[k]'hlt).ks) (dHi (l[k]'hlt).ks)) ?_
    (refine St.un ?_; refine WO.nil ?_)
    refine St.splitC (fun hc2 => ?_) (fun hc2 => ?_)
    · (refine WK.seq ?_; refine WK.region ?_; refine St.assign ?_; refine WO.nil ?_)
      refine St.ret (by first | exact .tmp .nil | exact .cell .nil | exact .cell (.tmp .nil) | exact .tmp (.tmp .nil) | exact .cell (.cell .nil) | exact .tmp (.cell .nil) | exact .nil | exact .tmp (.cell (.tmp .nil)) | exact .cell (.tmp (.tmp .nil)) | exact .cell (.cell (.tmp .nil)) | exact .tmp (.tmp (.tmp .nil)) | exact .cell (.cell (.cell .nil))) ?_
      have hne : inDom (l[k]'hlt).ks x x = false := by simpa using hc2
      have e3 : covL (l.map Cv.c) x x = false := by
        rw [he, hd]
        show (inDom (l[k]'hlt).ks x x && _) = false
        rw [hne, Bool.false_and]
      rw [if_neg (by simp [e3])]
      rfl
    · have h0 : inDom (l[k]'hlt).ks x x = true := by simpa using hc2
      (refine WK.skip ?_; refine WK.blk ?_; refine WK.region ?_; refine St.move ?_; refine St.binI ?_; refine St.assign ?_; refine WO.nil ?_)
      refine WK.le ?_ (by (repeat (first | exact List.Sublist.refl _ | exact List.nil_sublist _ | apply List.Sublist.cons_cons | apply List.Sublist.cons))) (ih (k + 1) ⟨hlt, ?_⟩ (by omega))
      · exact ⟨rfl, rfl, rfl, trivial⟩
      · rw [he, hd]
        show (inDom (l[k]'hlt).ks x x && _) = _
        rw [h0, Bool.true_and]
  · have : k = l.length := by simp at hc; omega
    subst this
    rw [List.drop_eq_nil_of_le (by simp)] at he
    have hcv : covL (l.map Cv.c) x x = true := he
    rw [if_pos hcv]
    (refine WK.exit ?_; refine WK.seq ?_; refine WK.seq ?_; refine WK.region ?_; refine St.move ?_; refine St.len ?_; refine St.bin ?_; refine WO.nil ?_)
    refine St.splitC (fun hc2 => ?_) (fun hc2 => ?_)
    · (refine WK.seq ?_; refine WK.region ?_; refine St.assign ?_; refine WO.nil ?_)
      refine St.ret (by first | exact .tmp .nil | exact .cell .nil | exact .cell (.tmp .nil) | exact .tmp (.tmp .nil) | exact .cell (.cell .nil) | exact .tmp (.cell .nil) | exact .nil | exact .tmp (.cell (.tmp .nil)) | exact .cell (.tmp (.tmp .nil)) | exact .cell (.cell (.tmp .nil)) | exact .tmp (.tmp (.tmp .nil)) | exact .cell (.cell (.cell .nil))) ?_
      have : l.length = 0 := by simp at hc2; simp [hc2]
      rw [if_pos this]
      rfl
    · (refine WK.skip ?_; refine WK.seq ?_; refine WK.region ?_; refine St.assign ?_; refine WO.nil ?_)
      refine St.ret (by first | exact .tmp .nil | exact .cell .nil | exact .cell (.tmp .nil) | exact .tmp (.tmp .nil) | exact .cell (.cell .nil) | exact .tmp (.cell .nil) | exact .nil | exact .tmp (.cell (.tmp .nil)) | exact .cell (.tmp (.tmp .nil)) | exact .cell (.cell (.tmp .nil)) | exact .tmp (.tmp (.tmp .nil)) | exact .cell (.cell (.cell .nil))) ?_
      have : ¬ l.length = 0 := by simpa using hc2
      rw [if_neg this]
      rfl

def bIk (es : List EnT) (k : Nat) : Nat := bestIx (fun a b => moreF a.1 b.1) ((0, 0), (0, 0)) es k
def bJk (es : List EnT) (k : Nat) : Nat := bestIx (fun a b => lessF a.2 b.2) ((0, 0), (0, 0)) es k
theorem sheafErr_zero {l : List Cv} {x : Int} (h : sheafErr (l.map Cv.c) x = 0) : chkSheaf (l.map Cv.c) = 0 ∧ chkOn (l.map Cv.c) x x = 0 ∧ 0 < l.length := by
  unfold sheafErr at h
  split at h
  · rename_i h1; exact absurd h h1
  · rename_i h1
    split at h
    · rename_i h2; exact absurd h h2
    · rename_i h2
      split at h
      · cases h
      · rename_i h3
        simp at h1 h2 h3
        refine ⟨h1, h2, ?_⟩
        cases l with
        | nil => exact absurd rfl h3
        | cons a l => simp
set_option maxRecDepth 100000 in
set_option maxHeartbeats 16000000 in
theorem bothRef_con (h : Heap) (g : Gd h) (lv : AV) (l : List Cv) (x : Int) (hl : l.length ≤ 1000000) (hk : CvV h lv l) : Con Try.prog Bs 47 [lv, .int .i64 x] h [] (avR (bothR l x)) [] := by
  have hS : ∀ (h2 : Heap) {V : Ob}, Vw h [] V h2 → Con Try.prog Bs 96 [lv, .int .i64 x] h2 [] (.int .i64 (sheafErr (l.map Cv.c) x)) [] := fun h2 V hh => rsheaf_con h2 hh.gd lv l x hl (hk.vw hh)
  by_cases e0 : sheafErr (l.map Cv.c) x = 0
  rotate_left
  · rw [show bothR l x = ⟨0, 0, 0, 0, sheafErr (l.map Cv.c) x⟩ by unfold bothR; rw [if_neg e0]]
    refine Con.start rfl Try.func47 rfl rfl Try.ntmps47 rfl rfl g ?_
    (refine WK.seq ?_; refine WK.region ?_; refine St.alloc fun _ _ => ?_; refine St.assign ?_; refine WO.nil ?_; refine WK.seq ?_; refine WK.region ?_; refine St.move ?_; refine St.move ?_)
    refine St.call (fun _ => rfl) (fun h2 hh => hS h2 hh) ?_
    (refine St.assign ?_; refine WO.nil ?_; refine WK.seq ?_; refine WK.seq ?_; refine WK.region ?_; refine St.move ?_; refine St.bin ?_; refine WO.nil ?_)
    refine St.splitC (fun hc => ?_) (fun hc => ?_)
    · (refine WK.seq ?_; refine WK.region ?_; refine St.build ?_; refine St.move ?_; refine St.store0 ?_; refine St.assign ?_; refine WO.nil ?_)
      refine St.ret (by first | exact .tmp .nil | exact .cell .nil | exact .cell (.tmp .nil) | exact .tmp (.tmp .nil) | exact .cell (.cell .nil) | exact .tmp (.cell .nil) | exact .nil | exact .tmp (.cell (.tmp .nil)) | exact .cell (.tmp (.tmp .nil)) | exact .cell (.cell (.tmp .nil)) | exact .tmp (.tmp (.tmp .nil)) | exact .cell (.cell (.cell .nil))) ?_
      rfl
    · simp at hc; exact absurd hc e0
  obtain ⟨e1, e2, hpos⟩ := sheafErr_zero e0
  obtain ⟨hle, hv⟩ := vd_of_sheaf e1
  have hd := sheaf_dom e2
  obtain ⟨b, off, c, rfl, hk'⟩ := hk.ne hpos
  rw [e0] at hS
  have eB : bothR l x = if moreF (enAt (l.map (enOf x)) (bIk (l.map (enOf x)) l.length)).1 (enAt (l.map (enOf x)) (bJk (l.map (enOf x)) l.length)).2 = true then ⟨0, 0, 0, 0, 9⟩
     else ⟨(enAt (l.map (enOf x)) (bIk (l.map (enOf x)) l.length)).1.1, (enAt (l.map (enOf x)) (bIk (l.map (enOf x)) l.length)).1.2, (enAt (l.map (enOf x)) (bJk (l.map (enOf x)) l.length)).2.1, (enAt (l.map (enOf x)) (bJk (l.map (enOf x)) l.length)).2.2, 0⟩ := by
    unfold bothR bI bJ bIk bJk
    rw [if_pos e0, List.length_map]
  rw [eB]
  clear eB
  have hen : ∀ i, i < l.length → EnOk (enAt (l.map (enOf x)) i) := fun i hi => by
    have : enAt (l.map (enOf x)) i = enOf x l[i] := by simp [enAt, hi]
    rw [this]
    exact (hv i hi).enOk (hd i hi)
  have hge : ∀ i (hi : i < l.length), enAt (l.map (enOf x)) i = enOf x l[i] := fun i hi => by simp [enAt, hi]
  have hlen : (l.map (enOf x)).length = l.length := by simp
  have hAt : ∀ n (hn : n < l.length) (h2 : Heap) {V : Ob}, Vw h [] V h2 → Con Try.prog Bs 69 [.agg [(l[n]'hn).kv, .int .i64 (l[n]'hn).err], .int .i64 x] h2 [] (.agg [.int .i64 (valN (l[n]'hn).ks x), .int .i64 (valD (l[n]'hn).ks x)]) [] := fun n hn h2 V hh => by
    obtain ⟨b2, off2, c2, f2, hk2⟩ := (hk' n hn).2.1.ne (hv n hn).ne
    have := rat_con h2 hh.gd b2 off2 c2 (l[n]'hn).ks (l[n]'hn).err x (hk2.vw hh) (hv n hn) (hd n hn)
    rw [← f2] at this
    exact this
  have hLo : ∀ n (hn : n < l.length) (h2 : Heap), Gd h2 → Con Try.prog Bs 72 [.agg [.int .i64 (valN (l[n]'hn).ks x), .int .i64 (valD (l[n]'hn).ks x)], .int .i64 (0 - (l[n]'hn).err)] h2 [] (.agg [.int .i64 (enAt (l.map (enOf x)) n).1.1, .int .i64 (enAt (l.map (enOf x)) n).1.2]) [] := fun n hn h2 g2 => by
    obtain ⟨d1, d2⟩ := (hv n hn).dom (hd n hn)
    have hf := (hv n hn).fr (x := x) (by omega) (by omega)
    have := (hv n hn).e0
    have := (hv n hn).e1
    rw [hge n hn]
    exact rplus_con h2 g2 _ _ _ hf.small hf.d1 (val_gcd (hv n hn) x) (by omega) (by omega)
  have hHi : ∀ n (hn : n < l.length) (h2 : Heap), Gd h2 → Con Try.prog Bs 72 [.agg [.int .i64 (valN (l[n]'hn).ks x), .int .i64 (valD (l[n]'hn).ks x)], .int .i64 (l[n]'hn).err] h2 [] (.agg [.int .i64 (enAt (l.map (enOf x)) n).2.1, .int .i64 (enAt (l.map (enOf x)) n).2.2]) [] := fun n hn h2 g2 => by
    obtain ⟨d1, d2⟩ := (hv n hn).dom (hd n hn)
    have hf := (hv n hn).fr (x := x) (by omega) (by omega)
    have := (hv n hn).e0
    have := (hv n hn).e1
    rw [hge n hn]
    exact rplus_con h2 g2 _ _ _ hf.small hf.d1 (val_gcd (hv n hn) x) (by omega) (by omega)
  have hE : ∀ n (hn : n < l.length), 0 ≤ (l[n]'hn).err ∧ (l[n]'hn).err ≤ 4000 := fun n hn => ⟨(hv n hn).e0, (hv n hn).e1⟩
  generalize (l.map (enOf x)) = es at hen hlen hLo hHi ⊢
  clear hge
  have he0 := hE 0 hpos
  refine Con.start rfl Try.func47 rfl rfl Try.ntmps47 rfl rfl g ?_
  (refine WK.seq ?_; refine WK.region ?_; refine St.alloc fun _ _ => ?_; refine St.assign ?_; refine WO.nil ?_; refine WK.seq ?_; refine WK.region ?_; refine St.move ?_; refine St.move ?_)
  refine St.call (fun _ => rfl) (fun h2 hh => hS h2 hh) ?_
  (refine St.assign ?_; refine WO.nil ?_; refine WK.seq ?_; refine WK.seq ?_; refine WK.region ?_; refine St.move ?_; refine St.bin ?_; refine WO.nil ?_; refine WK.condF ?_; refine WK.skip ?_; refine WK.seq ?_; refine WK.regionD ?_; refine St.move ?_)
  refine St.at ?_
  skip
  refine St.loadX (fun h hh => ((hk'.vw hh).at_ (z := 0) (n := 0) rfl hpos).agg (by simp) rfl rfl rfl) ?_
  (refine St.move ?_)
  refine St.call (v := .agg [.int .i64 (valN (l[0]'hpos).ks x), .int .i64 (valD (l[0]'hpos).ks x)]) (fun _ => rfl) (fun h2 hh => hAt 0 hpos h2 hh) ?_
  (refine St.move ?_)
  refine St.at ?_
  (refine St.fieldAddr ?_)
  refine St.loadX (fun h hh => (((hk'.vw hh).at_ (z := 0) (n := 0) rfl hpos).2.1).one rfl) ?_
  (refine St.unI ?_)
  refine St.call (v := .agg [.int .i64 (enAt es 0).1.1, .int .i64 (enAt es 0).1.2]) (fun _ => rfl) (fun h2 hh => hLo 0 hpos h2 hh.gd) ?_
  (refine St.move ?_)
  refine St.at ?_
  skip
  refine St.loadX (fun h hh => ((hk'.vw hh).at_ (z := 0) (n := 0) rfl hpos).agg (by simp) rfl rfl rfl) ?_
  (refine St.move ?_)
  refine St.call (v := .agg [.int .i64 (valN (l[0]'hpos).ks x), .int .i64 (valD (l[0]'hpos).ks x)]) (fun _ => rfl) (fun h2 hh => hAt 0 hpos h2 hh) ?_
  (refine St.move ?_)
  refine St.at ?_
  (refine St.fieldAddr ?_)
  refine St.loadX (fun h hh => (((hk'.vw hh).at_ (z := 0) (n := 0) rfl hpos).2.1).one rfl) ?_
  skip
  refine St.call (v := .agg [.int .i64 (enAt es 0).2.1, .int .i64 (enAt es 0).2.2]) (fun _ => rfl) (fun h2 hh => hHi 0 hpos h2 hh.gd) ?_
  (refine St.build ?_; refine StD.alloc fun _ _ => ?_; refine StD.storeT ?_; refine WO.nil1 ?_; refine WK.seq ?_; refine WK.seq ?_; refine WK.region ?_; refine St.assign ?_; refine WO.nil ?_; refine WK.block ?_)
  rename_i r hr q hq
  have i1 : bIk es 1 = 0 := by
    show (if _ then 0 else 0) = 0
    split <;> rfl
  have j1 : bJk es 1 = 0 := by
    show (if _ then 0 else 0) = 0
    split <;> rfl
  refine WK.inv (ι := Nat) (fun k => [(0, .slice b off l.length c), (1, .int .i64 x), (4, .ptr r 0), (7, .ptr q 0), (8, .int .i64 k)]) (fun k => [(q, .cells [.int .i64 (enAt es (bIk es k)).1.1, .int .i64 (enAt es (bIk es k)).1.2, .int .i64 (enAt es (bJk es k)).2.1, .int .i64 (enAt es (bJk es k)).2.2] 41), (r, .cells [.int .i64 0, .int .i64 0, .int .i64 0, .int .i64 0] 41)])
    (fun k => 1 ≤ k ∧ k ≤ l.length) (fun k => l.length - k) 1 ⟨by omega, by omega⟩ ⟨rfl, rfl, rfl, rfl, rfl, trivial⟩ (by
      simp only [i1, j1]
      exact List.Sublist.refl _) ?_
  intro k ⟨hk1, hkl⟩ ih
  have b1 : bIk es k < l.length := by
    have := bestIx_lt (fun a b : EnT => moreF a.1 b.1) ((0, 0), (0, 0)) es (k := k) (by omega) (by omega)
    rw [hlen] at this
    exact this
  have b2 : bJk es k < l.length := by
    have := bestIx_lt (fun a b : EnT => lessF a.2 b.2) ((0, 0), (0, 0)) es (k := k) (by omega) (by omega)
    rw [hlen] at this
    exact this
  (refine WK.seq ?_; refine WK.seq ?_; refine WK.region ?_; refine St.move ?_; refine St.move ?_; refine St.len ?_; refine St.bin ?_; refine WO.nil ?_)
  refine St.splitC (fun hc => ?_) (fun hc => ?_)
  · have hlt : k < l.length := by simp at hc; omega
    have hek := hE k hlt
    have si : bIk es (k + 1) = if moreF (enAt es k).1 (enAt es (bIk es k)).1 = true then k else bIk es k := rfl
    have sj : bJk es (k + 1) = if lessF (enAt es k).2 (enAt es (bJk es k)).2 = true then k else bJk es k := rfl
    have ihk := ih (k + 1) ⟨by omega, hlt⟩ (by omega)
    clear ih
    (refine WK.skip ?_; refine WK.seq ?_; refine WK.block ?_; refine WK.seq ?_; refine WK.regionD ?_; refine St.move ?_; refine St.move ?_)
    refine St.at ?_
    skip
    refine St.loadX (fun h hh => ((hk'.vw hh).at_ (z := (k : Int)) (n := k) (by omega) hlt).agg (by simp) rfl rfl rfl) ?_
    (refine St.move ?_)
    refine St.call (v := .agg [.int .i64 (valN (l[k]'hlt).ks x), .int .i64 (valD (l[k]'hlt).ks x)]) (fun _ => rfl) (fun h2 hh => hAt k hlt h2 hh) ?_
    (refine St.move ?_; refine St.move ?_)
    refine St.at ?_
    (refine St.fieldAddr ?_)
    refine St.loadX (fun h hh => (((hk'.vw hh).at_ (z := (k : Int)) (n := k) (by omega) hlt).2.1).one rfl) ?_
    (refine St.unI ?_)
    refine St.call (v := .agg [.int .i64 (enAt es k).1.1, .int .i64 (enAt es k).1.2]) (fun _ => rfl) (fun h2 hh => hLo k hlt h2 hh.gd) ?_
    (refine StD.alloc fun _ _ => ?_; refine StD.storeT ?_; refine WO.nil1 ?_; refine WK.seq ?_; refine WK.regionD ?_; refine St.move ?_; refine St.move ?_)
    refine St.at ?_
    skip
    refine St.loadX (fun h hh => ((hk'.vw hh).at_ (z := (k : Int)) (n := k) (by omega) hlt).agg (by simp) rfl rfl rfl) ?_
    (refine St.move ?_)
    refine St.call (v := .agg [.int .i64 (valN (l[k]'hlt).ks x), .int .i64 (valD (l[k]'hlt).ks x)]) (fun _ => rfl) (fun h2 hh => hAt k hlt h2 hh) ?_
    (refine St.move ?_; refine St.move ?_)
    refine St.at ?_
    (refine St.fieldAddr ?_)
    refine St.loadX (fun h hh => (((hk'.vw hh).at_ (z := (k : Int)) (n := k) (by omega) hlt).2.1).one rfl) ?_
    skip
    refine St.call (v := .agg [.int .i64 (enAt es k).2.1, .int .i64 (enAt es k).2.2]) (fun _ => rfl) (fun h2 hh => hHi k hlt h2 hh.gd) ?_
    (refine StD.alloc fun _ _ => ?_; refine StD.storeT ?_; refine WO.nil1 ?_; refine WK.seq ?_; refine WK.seq ?_; refine WK.region ?_; refine St.load ?_; refine St.fieldAddr ?_; refine St.load ?_)
    refine St.call (fun _ => rfl) (fun h hh => rorder_con h hh.gd _ _ _ _ (hen k hlt).l (hen _ b1).l) ?_
    (refine St.bin ?_; refine WO.nil ?_)
    refine St.splitC (fun hc2 => ?_) (fun hc2 => ?_)
    · have e1 : bIk es (k + 1) = k := by rw [si, if_pos]; simpa [moreF] using hc2
      (refine WK.region ?_; refine St.load ?_; refine St.fieldAddr ?_; refine St.store2 ?_; refine WO.nil ?_; refine WK.seq ?_; refine WK.region ?_; refine St.load ?_; refine St.fieldAddr ?_; refine St.load ?_)
      refine St.call (fun _ => rfl) (fun h hh => rorder_con h hh.gd _ _ _ _ (hen k hlt).h (hen _ b2).h) ?_
      (refine St.bin ?_; refine WO.nil ?_)
      refine St.splitC (fun hc3 => ?_) (fun hc3 => ?_)
      · have e2 : bJk es (k + 1) = k := by rw [sj, if_pos]; simpa [lessF] using hc3
        simp only [e1, e2] at ihk
        (refine WK.region ?_; refine St.load ?_; refine St.fieldAddr ?_; refine St.store2 ?_; refine WO.nil ?_; refine WK.blk ?_; refine WK.region ?_; refine St.move ?_; refine St.binI ?_; refine St.assign ?_; refine WO.nil ?_)
        refine WK.le ?_ (by (repeat (first | exact List.Sublist.refl _ | exact List.nil_sublist _ | apply List.Sublist.cons_cons | apply List.Sublist.cons))) ihk
        exact ⟨rfl, rfl, rfl, rfl, rfl, trivial⟩
      · have e2 : bJk es (k + 1) = bJk es k := by rw [sj, if_neg]; simpa [lessF] using hc3
        simp only [e1, e2] at ihk
        (refine WK.skip ?_; refine WK.blk ?_; refine WK.region ?_; refine St.move ?_; refine St.binI ?_; refine St.assign ?_; refine WO.nil ?_)
        refine WK.le ?_ (by (repeat (first | exact List.Sublist.refl _ | exact List.nil_sublist _ | apply List.Sublist.cons_cons | apply List.Sublist.cons))) ihk
        exact ⟨rfl, rfl, rfl, rfl, rfl, trivial⟩
    · have e1 : bIk es (k + 1) = bIk es k := by rw [si, if_neg]; simpa [moreF] using hc2
      (refine WK.skip ?_; refine WK.seq ?_; refine WK.region ?_; refine St.load ?_; refine St.fieldAddr ?_; refine St.load ?_)
      refine St.call (fun _ => rfl) (fun h hh => rorder_con h hh.gd _ _ _ _ (hen k hlt).h (hen _ b2).h) ?_
      (refine St.bin ?_; refine WO.nil ?_)
      refine St.splitC (fun hc3 => ?_) (fun hc3 => ?_)
      · have e2 : bJk es (k + 1) = k := by rw [sj, if_pos]; simpa [lessF] using hc3
        simp only [e1, e2] at ihk
        (refine WK.region ?_; refine St.load ?_; refine St.fieldAddr ?_; refine St.store2 ?_; refine WO.nil ?_; refine WK.blk ?_; refine WK.region ?_; refine St.move ?_; refine St.binI ?_; refine St.assign ?_; refine WO.nil ?_)
        refine WK.le ?_ (by (repeat (first | exact List.Sublist.refl _ | exact List.nil_sublist _ | apply List.Sublist.cons_cons | apply List.Sublist.cons))) ihk
        exact ⟨rfl, rfl, rfl, rfl, rfl, trivial⟩
      · have e2 : bJk es (k + 1) = bJk es k := by rw [sj, if_neg]; simpa [lessF] using hc3
        simp only [e1, e2] at ihk
        (refine WK.skip ?_; refine WK.blk ?_; refine WK.region ?_; refine St.move ?_; refine St.binI ?_; refine St.assign ?_; refine WO.nil ?_)
        refine WK.le ?_ (by (repeat (first | exact List.Sublist.refl _ | exact List.nil_sublist _ | apply List.Sublist.cons_cons | apply List.Sublist.cons))) ihk
        exact ⟨rfl, rfl, rfl, rfl, rfl, trivial⟩
  · have hke : k = l.length := by simp at hc; omega
    clear ih
    subst hke
    (refine WK.exit ?_; refine WK.seq ?_; refine WK.seq ?_; refine WK.region ?_; refine St.fieldAddr ?_; refine St.load ?_; refine St.fieldAddr ?_; refine St.load ?_)
    refine St.call (fun _ => rfl) (fun h hh => rorder_con h hh.gd _ _ _ _ (hen _ b1).l (hen _ b2).h) ?_
    (refine St.bin ?_; refine WO.nil ?_)
    refine St.splitC (fun hc2 => ?_) (fun hc2 => ?_)
    · (refine WK.seq ?_; refine WK.region ?_; refine St.build ?_; refine St.store1 ?_; refine St.assign ?_; refine WO.nil ?_)
      refine St.ret (by first | exact .tmp .nil | exact .cell .nil | exact .cell (.tmp .nil) | exact .tmp (.tmp .nil) | exact .cell (.cell .nil) | exact .tmp (.cell .nil) | exact .nil | exact .tmp (.cell (.tmp .nil)) | exact .cell (.tmp (.tmp .nil)) | exact .cell (.cell (.tmp .nil)) | exact .tmp (.tmp (.tmp .nil)) | exact .cell (.cell (.cell .nil))) ?_
      rw [if_pos (by simpa [moreF] using hc2)]
      rfl
    · (refine WK.skip ?_; refine WK.seq ?_; refine WK.region ?_; refine St.load ?_; refine St.store1 ?_; refine St.assign ?_; refine WO.nil ?_)
      refine St.ret (by first | exact .tmp .nil | exact .cell .nil | exact .cell (.tmp .nil) | exact .tmp (.tmp .nil) | exact .cell (.cell .nil) | exact .tmp (.cell .nil) | exact .nil | exact .tmp (.cell (.tmp .nil)) | exact .cell (.tmp (.tmp .nil)) | exact .cell (.cell (.tmp .nil)) | exact .tmp (.tmp (.tmp .nil)) | exact .cell (.cell (.cell .nil))) ?_
      rw [if_neg (by simpa [moreF] using hc2)]
      rfl
set_option maxRecDepth 100000 in
set_option maxHeartbeats 16000000 in
theorem leastRef_con (h : Heap) (g : Gd h) (lv : AV) (l : List Cv) (x : Int) (hl : l.length ≤ 1000000) (hk : CvV h lv l) : Con Try.prog Bs 49 [lv, .int .i64 x] h [] (.agg [.int .i64 (leastR l x).1, .int .i64 (leastR l x).2.1.1, .int .i64 (leastR l x).2.1.2, .int .i64 (leastR l x).2.2]) [] := by
  have hS : ∀ (h2 : Heap) {V : Ob}, Vw h [] V h2 → Con Try.prog Bs 96 [lv, .int .i64 x] h2 [] (.int .i64 (sheafErr (l.map Cv.c) x)) [] := fun h2 V hh => rsheaf_con h2 hh.gd lv l x hl (hk.vw hh)
  by_cases e0 : sheafErr (l.map Cv.c) x = 0
  rotate_left
  · rw [show leastR l x = (0, (0, 0), sheafErr (l.map Cv.c) x) by unfold leastR; rw [if_neg e0]]
    refine Con.start rfl Try.func49 rfl rfl Try.ntmps49 rfl rfl g ?_
    (refine WK.seq ?_; refine WK.region ?_; refine St.alloc fun _ _ => ?_; refine WO.nil ?_; refine WK.seq ?_; refine WK.region ?_; refine St.move ?_; refine St.move ?_)
    refine St.call (fun _ => rfl) (fun h2 hh => hS h2 hh) ?_
    (refine St.assign ?_; refine WO.nil ?_; refine WK.seq ?_; refine WK.seq ?_; refine WK.region ?_; refine St.move ?_; refine St.bin ?_; refine WO.nil ?_)
    refine St.splitC (fun hc => ?_) (fun hc => ?_)
    · (refine WK.seq ?_; refine WK.region ?_; refine St.move ?_; refine St.build ?_; refine St.store0 ?_; refine WO.nil ?_)
      refine St.ret (by first | exact .tmp .nil | exact .cell .nil | exact .cell (.tmp .nil) | exact .tmp (.tmp .nil) | exact .cell (.cell .nil) | exact .tmp (.cell .nil) | exact .nil | exact .tmp (.cell (.tmp .nil)) | exact .cell (.tmp (.tmp .nil)) | exact .cell (.cell (.tmp .nil)) | exact .tmp (.tmp (.tmp .nil)) | exact .cell (.cell (.cell .nil))) ?_
      rfl
    · simp at hc; exact absurd hc e0
  obtain ⟨e1, e2, hpos⟩ := sheafErr_zero e0
  obtain ⟨hle, hv⟩ := vd_of_sheaf e1
  have hd := sheaf_dom e2
  obtain ⟨b, off, c, rfl, hk'⟩ := hk.ne hpos
  rw [e0] at hS
  have eL : leastR l x = (((bestIx lessF (0, 0) (l.map fun c => valF c.ks x) l.length : Nat) : Int), (kx (l.map fun c => valF c.ks x) (bestIx lessF (0, 0) (l.map fun c => valF c.ks x) l.length), ky (l.map fun c => valF c.ks x) (bestIx lessF (0, 0) (l.map fun c => valF c.ks x) l.length)), 0) := by
    unfold leastR lsI
    rw [if_pos e0]
    rfl
  rw [eL]
  clear eL
  have hlen : (l.map fun c => valF c.ks x).length = l.length := by simp
  have hge : ∀ i (hi : i < l.length), kx (l.map fun c => valF c.ks x) i = valN (l[i]'hi).ks x ∧ ky (l.map fun c => valF c.ks x) i = valD (l[i]'hi).ks x := fun i hi => by simp [kx, ky, valF, hi]
  have hen : ∀ i, i < l.length → Small (kx (l.map fun c => valF c.ks x) i) (ky (l.map fun c => valF c.ks x) i) := fun i hi => by
    obtain ⟨d1, d2⟩ := (hv i hi).dom (hd i hi)
    have := ((hv i hi).fr (x := x) (by omega) (by omega)).small
    rw [(hge i hi).1, (hge i hi).2]
    exact this
  have hAt : ∀ n (hn : n < l.length) (h2 : Heap) {V : Ob}, Vw h [] V h2 → Con Try.prog Bs 69 [.agg [(l[n]'hn).kv, .int .i64 (l[n]'hn).err], .int .i64 x] h2 [] (.agg [.int .i64 (kx (l.map fun c => valF c.ks x) n), .int .i64 (ky (l.map fun c => valF c.ks x) n)]) [] := fun n hn h2 V hh => by
    obtain ⟨b2, off2, c2, f2, hk2⟩ := (hk' n hn).2.1.ne (hv n hn).ne
    have := rat_con h2 hh.gd b2 off2 c2 (l[n]'hn).ks (l[n]'hn).err x (hk2.vw hh) (hv n hn) (hd n hn)
    rw [← f2] at this
    rw [(hge n hn).1, (hge n hn).2]
    exact this
  clear hge
  generalize (l.map fun c => valF c.ks x) = fs at hen hlen hAt ⊢
  refine Con.start rfl Try.func49 rfl rfl Try.ntmps49 rfl rfl g ?_
  (refine WK.seq ?_; refine WK.region ?_; refine St.alloc fun _ _ => ?_; refine WO.nil ?_; refine WK.seq ?_; refine WK.region ?_; refine St.move ?_; refine St.move ?_)
  refine St.call (fun _ => rfl) (fun h2 hh => hS h2 hh) ?_
  (refine St.assign ?_; refine WO.nil ?_; refine WK.seq ?_; refine WK.seq ?_; refine WK.region ?_; refine St.move ?_; refine St.bin ?_; refine WO.nil ?_; refine WK.condF ?_; refine WK.skip ?_; refine WK.seq ?_; refine WK.region ?_; refine St.move ?_)
  refine St.at ?_
  skip
  refine St.loadX (fun h hh => ((hk'.vw hh).at_ (z := 0) (n := 0) rfl hpos).agg (by simp) rfl rfl rfl) ?_
  (refine St.move ?_)
  refine St.call (v := .agg [.int .i64 (kx fs 0), .int .i64 (ky fs 0)]) (fun _ => rfl) (fun h2 hh => hAt 0 hpos h2 hh) ?_
  (refine St.build ?_; refine St.alloc fun _ _ => ?_; refine St.store0 ?_; refine WO.nil ?_; refine WK.seq ?_; refine WK.seq ?_; refine WK.region ?_; refine St.assign ?_; refine WO.nil ?_; refine WK.block ?_)
  rename_i r hr q hq
  have i1 : bestIx lessF (0, 0) fs 1 = 0 := by
    show (if _ then 0 else 0) = 0
    split <;> rfl
  refine WK.inv (ι := Nat) (fun k => [(0, .slice b off l.length c), (1, .int .i64 x), (4, .ptr r 0), (6, .ptr q 0), (7, .int .i64 k)]) (fun k => [(q, .cells [.int .i64 (bestIx lessF (0, 0) fs k), .int .i64 (kx fs (bestIx lessF (0, 0) fs k)), .int .i64 (ky fs (bestIx lessF (0, 0) fs k)), .int .i64 0] 56), (r, .cells [.int .i64 0, .int .i64 0, .int .i64 0, .int .i64 0] 56)])
    (fun k => 1 ≤ k ∧ k ≤ l.length) (fun k => l.length - k) 1 ⟨by omega, by omega⟩ ⟨rfl, rfl, rfl, rfl, rfl, trivial⟩ (by
      simp only [i1]
      exact List.Sublist.refl _) ?_
  intro k ⟨hk1, hkl⟩ ih
  have b1 : bestIx lessF (0, 0) fs k < l.length := by
    have := bestIx_lt lessF (0, 0) fs (k := k) (by omega) (by omega)
    rw [hlen] at this
    exact this
  (refine WK.seq ?_; refine WK.seq ?_; refine WK.region ?_; refine St.move ?_; refine St.move ?_; refine St.len ?_; refine St.bin ?_; refine WO.nil ?_)
  refine St.splitC (fun hc => ?_) (fun hc => ?_)
  · have hlt : k < l.length := by simp at hc; omega
    have si : bestIx lessF (0, 0) fs (k + 1) = if lessF (kx fs k, ky fs k) (kx fs (bestIx lessF (0, 0) fs k), ky fs (bestIx lessF (0, 0) fs k)) = true then k else bestIx lessF (0, 0) fs k := rfl
    have ihk := ih (k + 1) ⟨by omega, hlt⟩ (by omega)
    clear ih
    (refine WK.skip ?_; refine WK.seq ?_; refine WK.block ?_; refine WK.seq ?_; refine WK.region ?_; refine St.move ?_; refine St.move ?_)
    refine St.at ?_
    skip
    refine St.loadX (fun h hh => ((hk'.vw hh).at_ (z := (k : Int)) (n := k) (by omega) hlt).agg (by simp) rfl rfl rfl) ?_
    (refine St.move ?_)
    refine St.call (v := .agg [.int .i64 (kx fs k), .int .i64 (ky fs k)]) (fun _ => rfl) (fun h2 hh => hAt k hlt h2 hh) ?_
    (refine St.alloc fun _ _ => ?_; refine St.store0 ?_; refine WO.nil ?_; refine WK.seq ?_; refine WK.region ?_; refine St.load ?_; refine St.fieldAddr ?_; refine St.load ?_)
    refine St.call (fun _ => rfl) (fun h hh => rorder_con h hh.gd _ _ _ _ (hen k hlt) (hen _ b1)) ?_
    (refine St.bin ?_; refine WO.nil ?_)
    refine St.splitC (fun hc2 => ?_) (fun hc2 => ?_)
    · have e1 : bestIx lessF (0, 0) fs (k + 1) = k := by rw [si, if_pos]; simpa [lessF] using hc2
      simp only [e1] at ihk
      (refine WK.region ?_; refine St.move ?_; refine St.load ?_; refine St.build ?_; refine St.store1 ?_; refine WO.nil ?_; refine WK.blk ?_; refine WK.region ?_; refine St.move ?_; refine St.binI ?_; refine St.assign ?_; refine WO.nil ?_)
      refine WK.le ?_ (by (repeat (first | exact List.Sublist.refl _ | exact List.nil_sublist _ | apply List.Sublist.cons_cons | apply List.Sublist.cons))) ihk
      exact ⟨rfl, rfl, rfl, rfl, rfl, trivial⟩
    · have e1 : bestIx lessF (0, 0) fs (k + 1) = bestIx lessF (0, 0) fs k := by rw [si, if_neg]; simpa [lessF] using hc2
      simp only [e1] at ihk
      (refine WK.skip ?_; refine WK.blk ?_; refine WK.region ?_; refine St.move ?_; refine St.binI ?_; refine St.assign ?_; refine WO.nil ?_)
      refine WK.le ?_ (by (repeat (first | exact List.Sublist.refl _ | exact List.nil_sublist _ | apply List.Sublist.cons_cons | apply List.Sublist.cons))) ihk
      exact ⟨rfl, rfl, rfl, rfl, rfl, trivial⟩
  · have hke : k = l.length := by simp at hc; omega
    clear ih
    subst hke
    (refine WK.exit ?_; refine WK.seq ?_; refine WK.region ?_; refine St.load ?_; refine St.store1 ?_; refine WO.nil ?_)
    refine St.ret (by first | exact .tmp .nil | exact .cell .nil | exact .cell (.tmp .nil) | exact .tmp (.tmp .nil) | exact .cell (.cell .nil) | exact .tmp (.cell .nil) | exact .nil | exact .tmp (.cell (.tmp .nil)) | exact .cell (.tmp (.tmp .nil)) | exact .cell (.cell (.tmp .nil)) | exact .tmp (.tmp (.tmp .nil)) | exact .cell (.cell (.cell .nil))) ?_
    rfl
end Go.Proofs.Ytcaemeedmnpdjaa
