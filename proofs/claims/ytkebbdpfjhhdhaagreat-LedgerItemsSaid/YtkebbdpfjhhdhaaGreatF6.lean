/- Layer 8: the reference's sorted. -/
import Derived.Test.YtkebbdpfjhhdhaaGreatFs
import Derived.Test.YtkebbdpfjhhdhaaGreatDr
import Derived.Test.YtkebbdpfjhhdhaaGreatFv
/- Layer 8, plain: books as known on two days; lists that are checked. -/
namespace Go.Proofs.YtkebbdpfjhhdhaaGreat
open Go.Proofs.YtkebbdpfjhhdhaaGreat.Ev

/-- a list without an error -/
structure ChkP (l : List Im) : Prop where
  len : l.length ≤ 60
  fr : ∀ x ∈ l, frmI x = true
  id : ∀ x ∈ l, ∀ y ∈ l, x.id = y.id → x = y
theorem errI_p : ∀ {l pre : List Im}, (∀ x ∈ l, frmI x = true) → (∀ x ∈ pre ++ l, ∀ y ∈ pre ++ l, x.id = y.id → x = y) → errI pre l = 0
  | [], _, _, _ => rfl
  | x :: r, pre, h1, h2 => by
    unfold errI
    rw [if_neg (by rw [h1 x (List.mem_cons_self ..)]; simp), if_neg ?_]
    · exact errI_p (fun y hy => h1 y (List.mem_cons_of_mem _ hy)) (by simpa using h2)
    · intro h3
      obtain ⟨y, hy, h4⟩ := List.any_eq_true.1 h3
      simp only [twI, Bool.and_eq_true, decide_eq_true_eq, Bool.not_eq_true', decide_eq_false_iff_not] at h4
      exact h4.2 (h2 y (List.mem_append_left _ hy) x (List.mem_append_right _ (List.mem_cons_self ..)) h4.1)
theorem chk_iff {l : List Im} : chkI l = 0 ↔ ChkP l := by
  constructor
  · intro h
    obtain ⟨h1, h2, h3⟩ := chk_ok h
    refine ⟨h1, h3, ?_⟩
    unfold chkI at h
    rw [if_neg (by omega)] at h
    obtain ⟨_, h4⟩ := errI_ok h
    have key : ∀ i j (hi : i < l.length) (hj : j < l.length), i < j → l[i].id = l[j].id → l[i] = l[j] := fun i j hi hj hij e => by
      have := h4 j hj
      rw [List.nil_append, List.any_eq_false] at this
      have h3 := this l[i] (List.mem_iff_getElem.2 ⟨i, by rw [List.length_take]; omega, by simp⟩)
      simpa [twI, e] using h3
    intro x hx y hy e
    obtain ⟨i, hi, rfl⟩ := List.mem_iff_getElem.1 hx
    obtain ⟨j, hj, rfl⟩ := List.mem_iff_getElem.1 hy
    rcases Nat.lt_trichotomy i j with h | h | h
    · exact key i j hi hj h e
    · subst h; rfl
    · exact (key j i hj hi h e.symm).symm
  · intro k
    have := k.len
    unfold chkI
    rw [if_neg (by omega)]
    exact errI_p k.fr (by simpa using k.id)
theorem ChkP.one {l : List Im} (k : ChkP l) : OneJ l := one_of_chk (chk_iff.2 k)
theorem ChkP.filter {l : List Im} (k : ChkP l) (p : Im → Bool) : ChkP (l.filter p) := ⟨Nat.le_trans (List.length_filter_le _ _) k.len, fun x hx => k.fr x (List.mem_filter.1 hx).1, fun x hx y hy => k.id x (List.mem_filter.1 hx).1 y (List.mem_filter.1 hy).1⟩
end Go.Proofs.YtkebbdpfjhhdhaaGreat

/- Layer 8: the reference's sorted. -/
namespace Go.Proofs.YtkebbdpfjhhdhaaGreat
open Go.Proofs.YtkebbdpfjhhdhaaGreat.Ev

theorem putJ_at (x : Im) : ∀ {l : List Im} {z : Nat}, z ≤ l.length → (∀ k, k < z → LtJ (nthE l k) x) → (z < l.length → ¬ LtJ (nthE l z) x) → putJ x l = if z < l.length ∧ nthE l z = x then l else l.take z ++ [x] ++ l.drop z
  | [], z, h1, _, _ => by
    have : z = 0 := by simpa using h1
    subst this
    rw [if_neg (by simp)]
    rfl
  | y :: l, 0, _, _, h3 => by
    have h3 := h3 (by simp)
    have e : nthE (y :: l) 0 = y := rfl
    rw [e] at h3 ⊢
    unfold putJ
    rw [if_neg (by unfold LtJ at h3; exact h3)]
    by_cases h : y = x
    · rw [if_pos h, if_pos ⟨by simp, h⟩]
    · rw [if_neg h, if_neg (fun q => h q.2)]
      rfl
  | y :: l, z + 1, h1, h2, h3 => by
    have h4 := h2 0 (by omega)
    have e : nthE (y :: l) 0 = y := rfl
    rw [e] at h4
    have ih := putJ_at x (l := l) (z := z) (by simpa using h1) (fun k hk => by have := h2 (k + 1) (by omega); rwa [nthE_cons] at this) (fun hz => by have := h3 (by simpa using hz); rwa [nthE_cons] at this)
    unfold putJ
    rw [if_pos (by unfold LtJ at h4; exact h4), ih, nthE_cons]
    by_cases h : z < l.length ∧ nthE l z = x
    · rw [if_pos h, if_pos ⟨by simpa using h.1, h.2⟩]
    · rw [if_neg h, if_neg (fun q => h ⟨by simpa using q.1, q.2⟩)]
      rfl
theorem putJ_len (x : Im) : ∀ l : List Im, (putJ x l).length ≤ l.length + 1
  | [] => by simp [putJ]
  | y :: l => by
    have := putJ_len x l
    unfold putJ
    repeat' split
    all_goals simp
    omega
theorem insJ_snoc : ∀ (l out : List Im) (x : Im), insJ out (l ++ [x]) = putJ x (insJ out l)
  | [], _, _ => rfl
  | y :: l, out, x => insJ_snoc l (putJ y out) x
theorem insJ_len : ∀ (l out : List Im), (insJ out l).length ≤ out.length + l.length
  | [], _ => by simp [insJ]
  | y :: l, out => by
    have := insJ_len l (putJ y out)
    have := putJ_len y out
    simp only [insJ, List.length_cons]
    omega
set_option maxRecDepth 100000 in
set_option maxHeartbeats 16000000 in
theorem rsorted_con (h : Heap) (g : Gd h) (v : AV) (l : List Im) (hv : ImV h v l) (hl : l.length ≤ 1000) : ∃ u L, Con Tryz.prog Bs 69 [v] h [] u L ∧ IsR 114 7 (insJ [] l).length (enF imC (insJ [] l)) u L := by
  refine Con.subG (Con.startR rfl Tryz.func69 rfl rfl Tryz.ntmps69 rfl rfl (SS.init g) ?_)
  (refine WK.seq ?_; refine WK.region ?_; refine St.assign ?_; refine WO.nil ?_; refine WK.seq ?_; refine WK.region ?_; refine St.assign ?_; refine WO.nil ?_; refine WK.seq ?_; refine WK.seq ?_; refine WK.region ?_; refine St.assign ?_; refine WO.nil ?_; refine WK.block ?_)
  refine WK.inv (ι := Nat × AV × Ob) (fun z => [(0, v), (3, z.2.1), (4, .int .i64 z.1)]) (fun z => z.2.2) (fun z => z.1 ≤ l.length ∧ IsR 114 7 (insJ [] (l.take z.1)).length (enF imC (insJ [] (l.take z.1))) z.2.1 z.2.2) (fun z => l.length - z.1) (0, .slice0, []) ⟨Nat.zero_le _, .nil rfl rfl⟩ ⟨rfl, rfl, rfl, trivial⟩ (by (repeat (first | exact List.Sublist.refl _ | exact List.nil_sublist _ | apply List.Sublist.cons_cons | apply List.Sublist.cons))) ?_
  rintro ⟨i, w, Lw⟩ ⟨hil, hw⟩ ih
  simp only at hil hw ih ⊢
  (refine WK.seq ?_; refine WK.seq ?_; refine WK.region ?_; refine St.move ?_; refine St.move ?_)
  refine St.lenG rfl hv.llen ?_
  (refine St.bin ?_; refine WO.nil ?_)
  refine St.splitC (fun hc => ?_) (fun hc => ?_)
  rotate_left
  · have : i = l.length := by simp at hc; omega
    subst this
    rw [List.take_length] at hw
    (refine WK.exit ?_; refine WK.seq ?_; refine WK.region ?_; refine St.move ?_; refine St.assign ?_; refine WO.nil ?_)
    refine St.ret (by first | exact .tmp .nil | exact .cell .nil | exact .cell (.tmp .nil) | exact .tmp (.tmp .nil) | exact .cell (.cell .nil) | exact .tmp (.cell .nil) | exact .nil | exact .tmp (.cell (.tmp .nil)) | exact .cell (.tmp (.tmp .nil)) | exact .cell (.cell (.tmp .nil)) | exact .tmp (.tmp (.tmp .nil)) | exact .tmp (.tmp (.tmp (.tmp .nil))) | exact .cell (.cell (.cell .nil))) ?_
    exact ⟨Lw, List.Sublist.refl _, hw⟩
  have hlt : i < l.length := by simp at hc; omega
  have htk := take_succE hlt
  have hput : insJ [] (l.take (i + 1)) = putJ (nthE l i) (insJ [] (l.take i)) := by rw [htk, insJ_snoc]
  have hon : (insJ [] (l.take i)).length ≤ 1000 := by
    have := insJ_len (l.take i) []
    rw [List.length_take] at this
    simp at this
    omega
  have ih' := fun (w' : AV) (L' : Ob) (q : IsR 114 7 (putJ (nthE l i) (insJ [] (l.take i))).length (enF imC (putJ (nthE l i) (insJ [] (l.take i)))) w' L') => ih (i + 1, w', L') ⟨hlt, by rw [hput]; exact q⟩ (by simp only; omega)
  clear ih
  simp only at ih'
  generalize insJ [] (l.take i) = out at *
  have hv' := hv
  obtain ⟨b, off, cc, rfl, hk⟩ := hv'.ne (by omega)
  have hbn : b < h.next := (hk i hlt).1.lt
  clear hput htk
  (refine WK.skip ?_; refine WK.seq ?_; refine WK.block ?_; refine WK.seq ?_; refine WK.region ?_; refine St.assign ?_; refine WO.nil ?_; refine WK.seq ?_; refine WK.block ?_)
  refine WK.cut2 (ι := { z : Nat // z ≤ out.length ∧ (∀ k, k < z → LtJ (nthE out k) (nthE l i)) ∧ (z < out.length → ¬ LtJ (nthE out z) (nthE l i)) }) (fun z => [(0, .slice b off l.length cc), (3, w), (4, .int .i64 i), (5, .int .i64 z.1)]) (fun _ => Lw) (fun z => ?_) (fun K' hcut => ?_)
  rotate_left
  · refine WK.inv (ι := Nat) (fun z => [(0, .slice b off l.length cc), (3, w), (4, .int .i64 i), (5, .int .i64 z)]) (fun _ => Lw) (fun z => z ≤ out.length ∧ ∀ k, k < z → LtJ (nthE out k) (nthE l i)) (fun z => out.length - z) 0 ⟨Nat.zero_le _, fun k hk => absurd hk (by omega)⟩ ⟨rfl, rfl, rfl, rfl, trivial⟩ (List.Sublist.refl _) ?_
    rintro z ⟨hz, hlts⟩ ih2
    (refine WK.seq ?_; refine WK.seq ?_; refine WK.regionD ?_; refine St.move ?_; refine St.move ?_)
    refine St.lenG rfl (hw.isL.lenG Tryz.underlying22) ?_
    (refine St.bin ?_; refine St.move ?_)
    refine St.split (fun q => ?_) (fun q => ?_)
    rotate_left
    · have h1 : ¬ z < out.length := by simpa using q
      (refine St.skip ?_; refine St.skip ?_; refine St.skip ?_; refine St.skip ?_; refine St.skip ?_; refine St.skip ?_; refine St.skip ?_; refine St.skip ?_; refine St.skip ?_; refine St.pickF ?_; refine WO.nil ?_; refine WK.condF ?_; refine WK.exit ?_)
      refine WK.le ?_ (List.Sublist.refl _) (hcut ⟨z, hz, hlts, fun q => absurd q h1⟩)
      exact ⟨rfl, rfl, rfl, rfl, trivial⟩
    have h1 : z < out.length := by simpa using q
    rcases hw.rowN with ⟨_, _, h0, _⟩ | ⟨jo, rfl, rfl, hlo⟩
    · omega
    (refine St.move ?_; refine St.move ?_)
    refine St.at ?_
    skip
    refine St.loadX (v := .agg (imC (nthE out z))) (fun h2 hh => ((eh_row (l := out) (i := jo) (e := 114) hh (List.Mem.head _)).at_ (z := (z : Int)) (n := z) (by omega) h1).agg (by simp [imC]) rfl rfl rfl) ?_
    (refine St.move ?_; refine St.move ?_)
    refine St.at ?_
    skip
    refine St.loadX (v := .agg (imC (nthE l i))) (fun h2 hh => ((hk.vw ⟨hh.gd, hh.nx, hh.old, hh.own⟩).at_ (z := (i : Int)) (n := i) (by omega) hlt).agg (by simp [imC]) rfl rfl rfl) ?_
    skip
    refine St.call (fun _ => rfl) (fun h2 hh => ahead_con h2 hh.gd (nthE out z) (nthE l i)) ?_
    by_cases h2 : LtJ (nthE out z) (nthE l i)
    · rw [decide_eq_true h2]
      (refine St.pickT ?_; refine WO.nil ?_; refine WK.condT ?_; refine WK.skip ?_; refine WK.block ?_; refine WK.region ?_; refine St.move ?_; refine St.binI ?_; refine St.assign ?_; refine WO.nil ?_; refine WK.blk ?_)
      refine WK.le ?_ (List.Sublist.refl _) (ih2 (z + 1) ⟨h1, fun k hk => ?_⟩ (by omega))
      · exact ⟨rfl, rfl, rfl, rfl, trivial⟩
      · by_cases e : k = z
        · subst e; exact h2
        · exact hlts k (by omega)
    · rw [decide_eq_false h2]
      (refine St.pickT ?_; refine WO.nil ?_; refine WK.condF ?_; refine WK.exit ?_)
      refine WK.le ?_ (List.Sublist.refl _) (hcut ⟨z, hz, hlts, fun _ => h2⟩)
      exact ⟨rfl, rfl, rfl, rfl, trivial⟩
  obtain ⟨z, hz, hlts, hst⟩ := z
  have hp := putJ_at (nthE l i) hz hlts hst
  simp only
  rcases hw.rowN with ⟨rfl, rfl, h0, _⟩ | ⟨jo, rfl, rfl, hlo⟩
  · have ho : out = [] := List.length_eq_zero_iff.1 h0
    subst ho
    have hz0 : z = 0 := by simpa using hz
    subst hz0
    have hp : putJ (nthE l i) [] = [nthE l i] := rfl
    (refine WK.seq ?_; refine WK.seq ?_; refine WK.regionD ?_; refine St.move ?_; refine St.move ?_; refine St.len0 ?_; refine St.bin ?_; refine St.move ?_; refine St.skip ?_; refine St.skip ?_; refine St.skip ?_; refine St.skip ?_; refine St.skip ?_; refine St.skip ?_; refine St.skip ?_; refine St.skip ?_; refine St.skip ?_; refine St.pickF ?_; refine WO.nil ?_; refine WK.condF ?_; refine WK.skip ?_)
    refine WK.joinG (X := Nat) (I := fun _ => True) (s2 := fun j => [(0, .slice b off l.length cc), (4, .int .i64 i), (3, .slice j 0 1 (.m 0))]) (L2 := fun j => [(j, .row (imC (nthE l i)) 114 7)]) (fun hjoin0 => ?_) (fun j _ => ?_)
    rotate_left
    · (refine WK.blk ?_; refine WK.region ?_; refine St.move ?_; refine St.binI ?_; refine St.assign ?_; refine WO.nil ?_)
      refine WK.le ?_ (List.Sublist.refl _) (ih' (.slice j 0 1 (.m 0)) [(j, .row (imC (nthE l i)) 114 7)] (by rw [hp]; exact IsR.row j rfl))
      exact ⟨rfl, rfl, rfl, trivial⟩
    have hjoin := fun j => hjoin0 j trivial
    clear hjoin0
    refine WK.regionF (n := 1) [] b hbn rfl (List.nil_sublist _) ?_
    refine WE.mkS 1 (fun jA hjA => ?_)
    refine WE.move ?_
    refine WE.move ?_
    refine WE.sliceP (u := .slice0) (v := .slice0) (fun h2 => rfl) rfl rfl ?_
    refine WE.appT 1 rfl (.inl ⟨rfl, rfl, rfl, _, rfl⟩) ⟨rfl, rfl, rfl, rfl, rfl, rfl, rfl, rfl⟩ comes_nil (by omega) rfl (fun e1 o1 => ?_) (fun e => absurd e (by omega))
    refine WE.move ?_
    refine WE.move ?_
    refine WE.at ?_
    refine WE.loadX (v := .agg (imC (nthE l i))) 0 (fun h2 hh => ((hk.vw hh).at_ (z := (i : Int)) (n := i) (by omega) hlt).agg (by simp [imC]) rfl rfl rfl) ?_
    refine WE.mkS 4 (fun jB hjB => ?_)
    refine WE.permT (List.Perm.swap _ _ _) ?_
    refine WE.appT 1 rfl o1 ⟨rfl, rfl, rfl, rfl, rfl, rfl, rfl, rfl⟩ (comes_mk (j := jB) (m := 1) (l := imC (nthE l i)) (ty := 114) (List.Mem.tail _ (List.Mem.head _)) (by decide) (by decide) rfl rfl) (by omega) rfl (fun e => absurd e (by omega)) (fun _ jC hjC o2 => ?_)
    refine WE.move ?_
    refine WE.move ?_
    refine WE.sliceP (u := .slice0) (v := .slice0) (fun h2 => rfl) rfl rfl ?_
    refine WE.appT 3 rfl o2 ⟨rfl, rfl, rfl, rfl, rfl, rfl, rfl, rfl⟩ comes_nil (by omega) rfl (fun e3 o3 => ?_) (fun e => absurd e (by omega))
    refine WE.assign ?_
    refine WE.subT (T2 := [_]) ((List.nil_sublist _).cons_cons _) ?_
    refine WE.nil ?_
    refine WK.le ?_ ?_ (hjoin jC)
    · exact ⟨rfl, rfl, rfl, trivial⟩
    · (repeat (first | exact List.Sublist.refl _ | exact List.nil_sublist _ | apply List.Sublist.cons_cons | apply List.Sublist.cons))
  have hrow : ∀ {V : Ob}, (∀ x ∈ [(jo, AObj.row (enF imC out) 114 7)], x ∈ V) → RowAt h [] V jo (enF imC out) 114 7 := fun hm => RowAt.own (hm _ (List.Mem.head _))
  have hrow := hrow (V := [(jo, AObj.row (enF imC out) 114 7)]) (fun x hx => hx)
  have ins : ¬ (z < out.length ∧ nthE out z = nthE l i) → ∀ j, IsR 114 7 (putJ (nthE l i) out).length (enF imC (putJ (nthE l i) out)) (.slice j 0 (out.length + 1) (.m 0)) [(j, .row (enF imC (out.take z ++ [nthE l i] ++ out.drop z)) 114 7)] := fun q j => by
    rw [hp, if_neg q]
    have := IsR.row (e := 114) (sz := 7) (len := (out.take z ++ [nthE l i] ++ out.drop z).length) (l := enF imC (out.take z ++ [nthE l i] ++ out.drop z)) j (enF_len imC_len _)
    rwa [show (out.take z ++ [nthE l i] ++ out.drop z).length = out.length + 1 by simp; omega] at this ⊢
  have hy : enF imC (out.take z ++ [nthE l i] ++ out.drop z) = (([] ++ enF imC (out.take z)) ++ imC (nthE l i)) ++ enF imC (out.drop z) := by rw [enF_app, enF_app, enF_one, List.nil_append]
  have hy0 : out.length - z = 0 → enF imC (out.take z ++ [nthE l i] ++ out.drop z) = ([] ++ enF imC (out.take z)) ++ imC (nthE l i) := fun q => by rw [hy, List.drop_eq_nil_of_le (by omega)]; simp [enF]
  (refine WK.seq ?_; refine WK.seq ?_; refine WK.regionD ?_; refine St.move ?_; refine St.move ?_; refine St.len ?_; refine St.bin ?_; refine St.move ?_)
  refine St.split (fun q => ?_) (fun q => ?_)
  · have h1 : z < out.length := by simpa using q
    (refine St.move ?_; refine St.move ?_)
    refine St.at ?_
    skip
    refine St.loadX (v := .agg (imC (nthE out z))) (fun h2 hh => ((eh_row (l := out) (i := jo) (e := 114) hh (List.Mem.head _)).at_ (z := (z : Int)) (n := z) (by omega) h1).agg (by simp [imC]) rfl rfl rfl) ?_
    (refine St.move ?_; refine St.move ?_)
    refine St.at ?_
    skip
    refine St.loadX (v := .agg (imC (nthE l i))) (fun h2 hh => ((hk.vw ⟨hh.gd, hh.nx, hh.old, hh.own⟩).at_ (z := (i : Int)) (n := i) (by omega) hlt).agg (by simp [imC]) rfl rfl rfl) ?_
    skip
    refine St.binX (im_eql _ _) rfl rfl ?_
    (refine St.pickT ?_; refine WO.nil ?_)
    refine St.splitC (fun q2 => ?_) (fun q2 => ?_)
    · have h2 : nthE out z = nthE l i := by simpa using q2
      (refine WK.exit ?_; refine WK.region ?_; refine St.move ?_; refine St.binI ?_; refine St.assign ?_; refine WO.nil ?_)
      refine WK.le ?_ (List.Sublist.refl _) (ih' (.slice jo 0 out.length (.m 0)) [(jo, .row (enF imC out) 114 7)] (by rw [hp, if_pos ⟨h1, h2⟩]; exact hw))
      exact ⟨rfl, rfl, rfl, trivial⟩
    have hq : ¬ (z < out.length ∧ nthE out z = nthE l i) := fun r => by simp [r.2] at q2
    (refine WK.skip ?_)
    refine WK.joinG (X := Nat) (I := fun _ => True) (s2 := fun j => [(0, .slice b off l.length cc), (4, .int .i64 i), (3, .slice j 0 (out.length + 1) (.m 0))]) (L2 := fun j => [(j, .row (enF imC (out.take z ++ [nthE l i] ++ out.drop z)) 114 7)]) (fun hjoin0 => ?_) (fun j _ => ?_)
    rotate_left
    · (refine WK.blk ?_; refine WK.region ?_; refine St.move ?_; refine St.binI ?_; refine St.assign ?_; refine WO.nil ?_)
      refine WK.le ?_ (List.Sublist.refl _) (ih' (.slice j 0 (out.length + 1) (.m 0)) [(j, .row (enF imC (out.take z ++ [nthE l i] ++ out.drop z)) 114 7)] (ins hq j))
      exact ⟨rfl, rfl, rfl, trivial⟩
    have hjoin := fun j => hjoin0 j trivial
    clear hjoin0
    refine WK.regionF (n := 2) [(jo, .row (enF imC out) 114 7)] b hbn rfl (List.Sublist.refl _) ?_
    refine WE.mkS 1 (fun jA hjA => ?_)
    refine WE.move ?_
    refine WE.move ?_
    refine WE.sliceM [] 0 (v := .slice jo 0 z (.m 0)) (fun h2 hh => ?_) rfl rfl (fun _ q => by cases q) ?_
    · show plainV (evSlice Tryz.prog h2 22 (.slice jo 0 out.length (.m 0)) none (some (.int .i64 (z : Int))) none) h2 = _
      rw [row_to (l := out) imC_len (by decide) (hrow h2 hh) rfl hz Tryz.underlying22 rfl]
      rfl
    refine WE.appT 2 rfl (.inl ⟨rfl, rfl, rfl, _, rfl⟩) ⟨rfl, rfl, rfl, rfl, rfl, rfl, rfl, rfl⟩ (comes_to (l := out) imC_len (fun _ => rfl) (RowAt.less hrow (fun x hx => List.mem_append_right _ hx)) rfl hz (by omega)) (by omega) rfl (fun e1 o1 => ?_) (fun e1 jE hjE o1 => ?_)
    · skip
      refine WE.move ?_
      refine WE.move ?_
      refine WE.at ?_
      refine WE.loadX (v := .agg (imC (nthE l i))) 1 (fun h2 hh => ((hk.vw hh).at_ (z := (i : Int)) (n := i) (by omega) hlt).agg (by simp [imC]) rfl rfl rfl) ?_
      refine WE.mkS 4 (fun jB hjB => ?_)
      refine WE.permT (List.Perm.swap _ _ _) ?_
      refine WE.appT 2 rfl o1 ⟨rfl, rfl, rfl, rfl, rfl, rfl, rfl, rfl⟩ (comes_mk (j := jB) (m := 1) (l := imC (nthE l i)) (ty := 114) (List.Mem.tail _ (List.Mem.head _)) (by decide) (by decide) rfl rfl) (by omega) rfl (fun e => absurd e (by omega)) (fun _ jC hjC o2 => ?_)
      refine WE.move ?_
      refine WE.move ?_
      refine WE.sliceM [] 0 (v := fromR jo out.length z 7) (fun h2 hh => ?_) rfl rfl (fun _ q => by cases q) ?_
      · show plainV (evSlice Tryz.prog h2 22 (.slice jo 0 out.length (.m 0)) (some (.int .i64 (z : Int))) none none) h2 = _
        rw [row_from (l := out) imC_len (by decide) (hrow h2 hh) rfl hz Tryz.underlying22 rfl]
        rfl
      refine WE.appT 4 rfl o2 ⟨rfl, rfl, rfl, rfl, rfl, rfl, rfl, rfl⟩ (comes_from (l := out) imC_len (fun _ => rfl) (RowAt.less hrow (fun x hx => List.mem_append_right _ hx)) rfl hz (by omega)) (by omega) rfl (fun e3 o3 => ?_) (fun e3 jD hjD o3 => ?_)
      · skip
        refine WE.assign ?_
        refine WE.subT (T2 := [_]) ((List.nil_sublist _).cons_cons _) ?_
        refine WE.nil ?_
        refine WK.le ?_ ?_ (hjoin jC)
        · exact ⟨rfl, rfl, congrArg (fun z => some (AV.slice jC 0 z (.m 0))) (by omega), trivial⟩
        · rw [hy0 (by omega)]
          (repeat (first | exact List.Sublist.refl _ | exact List.nil_sublist _ | apply List.Sublist.cons_cons | apply List.Sublist.cons))
      · skip
        refine WE.assign ?_
        refine WE.subT (T2 := [_]) ((List.nil_sublist _).cons_cons _) ?_
        refine WE.nil ?_
        refine WK.le ?_ ?_ (hjoin jD)
        · exact ⟨rfl, rfl, congrArg (fun z => some (AV.slice jD 0 z (.m 0))) (by omega), trivial⟩
        · rw [hy]
          (repeat (first | exact List.Sublist.refl _ | exact List.nil_sublist _ | apply List.Sublist.cons_cons | apply List.Sublist.cons))
    · skip
      refine WE.move ?_
      refine WE.move ?_
      refine WE.at ?_
      refine WE.loadX (v := .agg (imC (nthE l i))) 1 (fun h2 hh => ((hk.vw hh).at_ (z := (i : Int)) (n := i) (by omega) hlt).agg (by simp [imC]) rfl rfl rfl) ?_
      refine WE.mkS 4 (fun jB hjB => ?_)
      refine WE.permT (List.Perm.swap _ _ _) ?_
      refine WE.appT 3 rfl o1 ⟨rfl, rfl, rfl, rfl, rfl, rfl, rfl, rfl⟩ (comes_mk (j := jB) (m := 1) (l := imC (nthE l i)) (ty := 114) (List.Mem.tail _ (List.Mem.head _)) (by decide) (by decide) rfl rfl) (by omega) rfl (fun e => absurd e (by omega)) (fun _ jC hjC o2 => ?_)
      refine WE.move ?_
      refine WE.move ?_
      refine WE.sliceM [] 0 (v := fromR jo out.length z 7) (fun h2 hh => ?_) rfl rfl (fun _ q => by cases q) ?_
      · show plainV (evSlice Tryz.prog h2 22 (.slice jo 0 out.length (.m 0)) (some (.int .i64 (z : Int))) none none) h2 = _
        rw [row_from (l := out) imC_len (by decide) (hrow h2 hh) rfl hz Tryz.underlying22 rfl]
        rfl
      refine WE.appT 5 rfl o2 ⟨rfl, rfl, rfl, rfl, rfl, rfl, rfl, rfl⟩ (comes_from (l := out) imC_len (fun _ => rfl) (RowAt.less hrow (fun x hx => List.mem_append_right _ hx)) rfl hz (by omega)) (by omega) rfl (fun e3 o3 => ?_) (fun e3 jD hjD o3 => ?_)
      · skip
        refine WE.assign ?_
        refine WE.subT (T2 := [_]) ((List.nil_sublist _).cons_cons _) ?_
        refine WE.nil ?_
        refine WK.le ?_ ?_ (hjoin jC)
        · exact ⟨rfl, rfl, congrArg (fun z => some (AV.slice jC 0 z (.m 0))) (by omega), trivial⟩
        · rw [hy0 (by omega)]
          (repeat (first | exact List.Sublist.refl _ | exact List.nil_sublist _ | apply List.Sublist.cons_cons | apply List.Sublist.cons))
      · skip
        refine WE.assign ?_
        refine WE.subT (T2 := [_]) ((List.nil_sublist _).cons_cons _) ?_
        refine WE.nil ?_
        refine WK.le ?_ ?_ (hjoin jD)
        · exact ⟨rfl, rfl, congrArg (fun z => some (AV.slice jD 0 z (.m 0))) (by omega), trivial⟩
        · rw [hy]
          (repeat (first | exact List.Sublist.refl _ | exact List.nil_sublist _ | apply List.Sublist.cons_cons | apply List.Sublist.cons))
  · have h1 : ¬ z < out.length := by simpa using q
    have hq : ¬ (z < out.length ∧ nthE out z = nthE l i) := fun r => h1 r.1
    (refine St.skip ?_; refine St.skip ?_; refine St.skip ?_; refine St.skip ?_; refine St.skip ?_; refine St.skip ?_; refine St.skip ?_; refine St.skip ?_; refine St.skip ?_; refine St.pickF ?_; refine WO.nil ?_; refine WK.condF ?_; refine WK.skip ?_)
    refine WK.joinG (X := Nat) (I := fun _ => True) (s2 := fun j => [(0, .slice b off l.length cc), (4, .int .i64 i), (3, .slice j 0 (out.length + 1) (.m 0))]) (L2 := fun j => [(j, .row (enF imC (out.take z ++ [nthE l i] ++ out.drop z)) 114 7)]) (fun hjoin0 => ?_) (fun j _ => ?_)
    rotate_left
    · (refine WK.blk ?_; refine WK.region ?_; refine St.move ?_; refine St.binI ?_; refine St.assign ?_; refine WO.nil ?_)
      refine WK.le ?_ (List.Sublist.refl _) (ih' (.slice j 0 (out.length + 1) (.m 0)) [(j, .row (enF imC (out.take z ++ [nthE l i] ++ out.drop z)) 114 7)] (ins hq j))
      exact ⟨rfl, rfl, rfl, trivial⟩
    have hjoin := fun j => hjoin0 j trivial
    clear hjoin0
    refine WK.regionF (n := 2) [(jo, .row (enF imC out) 114 7)] b hbn rfl (List.Sublist.refl _) ?_
    refine WE.mkS 1 (fun jA hjA => ?_)
    refine WE.move ?_
    refine WE.move ?_
    refine WE.sliceM [] 0 (v := .slice jo 0 z (.m 0)) (fun h2 hh => ?_) rfl rfl (fun _ q => by cases q) ?_
    · show plainV (evSlice Tryz.prog h2 22 (.slice jo 0 out.length (.m 0)) none (some (.int .i64 (z : Int))) none) h2 = _
      rw [row_to (l := out) imC_len (by decide) (hrow h2 hh) rfl hz Tryz.underlying22 rfl]
      rfl
    refine WE.appT 2 rfl (.inl ⟨rfl, rfl, rfl, _, rfl⟩) ⟨rfl, rfl, rfl, rfl, rfl, rfl, rfl, rfl⟩ (comes_to (l := out) imC_len (fun _ => rfl) (RowAt.less hrow (fun x hx => List.mem_append_right _ hx)) rfl hz (by omega)) (by omega) rfl (fun e1 o1 => ?_) (fun e1 jE hjE o1 => ?_)
    · skip
      refine WE.move ?_
      refine WE.move ?_
      refine WE.at ?_
      refine WE.loadX (v := .agg (imC (nthE l i))) 1 (fun h2 hh => ((hk.vw hh).at_ (z := (i : Int)) (n := i) (by omega) hlt).agg (by simp [imC]) rfl rfl rfl) ?_
      refine WE.mkS 4 (fun jB hjB => ?_)
      refine WE.permT (List.Perm.swap _ _ _) ?_
      refine WE.appT 2 rfl o1 ⟨rfl, rfl, rfl, rfl, rfl, rfl, rfl, rfl⟩ (comes_mk (j := jB) (m := 1) (l := imC (nthE l i)) (ty := 114) (List.Mem.tail _ (List.Mem.head _)) (by decide) (by decide) rfl rfl) (by omega) rfl (fun e => absurd e (by omega)) (fun _ jC hjC o2 => ?_)
      refine WE.move ?_
      refine WE.move ?_
      refine WE.sliceM [] 0 (v := fromR jo out.length z 7) (fun h2 hh => ?_) rfl rfl (fun _ q => by cases q) ?_
      · show plainV (evSlice Tryz.prog h2 22 (.slice jo 0 out.length (.m 0)) (some (.int .i64 (z : Int))) none none) h2 = _
        rw [row_from (l := out) imC_len (by decide) (hrow h2 hh) rfl hz Tryz.underlying22 rfl]
        rfl
      refine WE.appT 4 rfl o2 ⟨rfl, rfl, rfl, rfl, rfl, rfl, rfl, rfl⟩ (comes_from (l := out) imC_len (fun _ => rfl) (RowAt.less hrow (fun x hx => List.mem_append_right _ hx)) rfl hz (by omega)) (by omega) rfl (fun e3 o3 => ?_) (fun e3 jD hjD o3 => ?_)
      · skip
        refine WE.assign ?_
        refine WE.subT (T2 := [_]) ((List.nil_sublist _).cons_cons _) ?_
        refine WE.nil ?_
        refine WK.le ?_ ?_ (hjoin jC)
        · exact ⟨rfl, rfl, congrArg (fun z => some (AV.slice jC 0 z (.m 0))) (by omega), trivial⟩
        · rw [hy0 (by omega)]
          (repeat (first | exact List.Sublist.refl _ | exact List.nil_sublist _ | apply List.Sublist.cons_cons | apply List.Sublist.cons))
      · skip
        refine WE.assign ?_
        refine WE.subT (T2 := [_]) ((List.nil_sublist _).cons_cons _) ?_
        refine WE.nil ?_
        refine WK.le ?_ ?_ (hjoin jD)
        · exact ⟨rfl, rfl, congrArg (fun z => some (AV.slice jD 0 z (.m 0))) (by omega), trivial⟩
        · rw [hy]
          (repeat (first | exact List.Sublist.refl _ | exact List.nil_sublist _ | apply List.Sublist.cons_cons | apply List.Sublist.cons))
    · skip
      refine WE.move ?_
      refine WE.move ?_
      refine WE.at ?_
      refine WE.loadX (v := .agg (imC (nthE l i))) 1 (fun h2 hh => ((hk.vw hh).at_ (z := (i : Int)) (n := i) (by omega) hlt).agg (by simp [imC]) rfl rfl rfl) ?_
      refine WE.mkS 4 (fun jB hjB => ?_)
      refine WE.permT (List.Perm.swap _ _ _) ?_
      refine WE.appT 3 rfl o1 ⟨rfl, rfl, rfl, rfl, rfl, rfl, rfl, rfl⟩ (comes_mk (j := jB) (m := 1) (l := imC (nthE l i)) (ty := 114) (List.Mem.tail _ (List.Mem.head _)) (by decide) (by decide) rfl rfl) (by omega) rfl (fun e => absurd e (by omega)) (fun _ jC hjC o2 => ?_)
      refine WE.move ?_
      refine WE.move ?_
      refine WE.sliceM [] 0 (v := fromR jo out.length z 7) (fun h2 hh => ?_) rfl rfl (fun _ q => by cases q) ?_
      · show plainV (evSlice Tryz.prog h2 22 (.slice jo 0 out.length (.m 0)) (some (.int .i64 (z : Int))) none none) h2 = _
        rw [row_from (l := out) imC_len (by decide) (hrow h2 hh) rfl hz Tryz.underlying22 rfl]
        rfl
      refine WE.appT 5 rfl o2 ⟨rfl, rfl, rfl, rfl, rfl, rfl, rfl, rfl⟩ (comes_from (l := out) imC_len (fun _ => rfl) (RowAt.less hrow (fun x hx => List.mem_append_right _ hx)) rfl hz (by omega)) (by omega) rfl (fun e3 o3 => ?_) (fun e3 jD hjD o3 => ?_)
      · skip
        refine WE.assign ?_
        refine WE.subT (T2 := [_]) ((List.nil_sublist _).cons_cons _) ?_
        refine WE.nil ?_
        refine WK.le ?_ ?_ (hjoin jC)
        · exact ⟨rfl, rfl, congrArg (fun z => some (AV.slice jC 0 z (.m 0))) (by omega), trivial⟩
        · rw [hy0 (by omega)]
          (repeat (first | exact List.Sublist.refl _ | exact List.nil_sublist _ | apply List.Sublist.cons_cons | apply List.Sublist.cons))
      · skip
        refine WE.assign ?_
        refine WE.subT (T2 := [_]) ((List.nil_sublist _).cons_cons _) ?_
        refine WE.nil ?_
        refine WK.le ?_ ?_ (hjoin jD)
        · exact ⟨rfl, rfl, congrArg (fun z => some (AV.slice jD 0 z (.m 0))) (by omega), trivial⟩
        · rw [hy]
          (repeat (first | exact List.Sublist.refl _ | exact List.nil_sublist _ | apply List.Sublist.cons_cons | apply List.Sublist.cons))
end Go.Proofs.YtkebbdpfjhhdhaaGreat
