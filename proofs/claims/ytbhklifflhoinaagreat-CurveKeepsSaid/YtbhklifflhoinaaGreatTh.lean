/- The knots that matter, over the calculator's memory: the reference's thin, the program's bends. -/
import Derived.Test.YtbhklifflhoinaaGreatEq
import Derived.Test.YtbhklifflhoinaaGreatIv
namespace Go.Proofs.YtbhklifflhoinaaGreat
open Go.Proofs.YtbhklifflhoinaaGreat.Ev

def bendAt (ks : List (Int × Int)) (i : Nat) : Bool := !((ky ks i - ky ks (i - 1)) * (kx ks (i + 1) - kx ks i) == (ky ks (i + 1) - ky ks i) * (kx ks i - kx ks (i - 1)))
def keepK (ks : List (Int × Int)) (i : Nat) : Bool := decide (i = 0) || (decide (i + 1 = ks.length) || bendAt ks i)
/-- those of the first m knots that matter -/
def thinTo (ks : List (Int × Int)) (m : Nat) : List (Int × Int) := ((List.range m).filter (keepK ks)).map fun i => (kx ks i, ky ks i)
theorem thinTo_succ (ks : List (Int × Int)) (m : Nat) : thinTo ks (m + 1) = thinTo ks m ++ if keepK ks m = true then [(kx ks m, ky ks m)] else [] := by
  unfold thinTo
  rw [List.range_succ, List.filter_append, List.map_append]
  congr 1
  by_cases h : keepK ks m = true
  · simp [h]
  · simp [h]
theorem thinTo_len (ks : List (Int × Int)) (m : Nat) : (thinTo ks m).length ≤ m := by
  unfold thinTo
  rw [List.length_map]
  have := List.length_filter_le (keepK ks) (List.range m)
  rw [List.length_range] at this
  exact this
theorem thinTo_one (ks : List (Int × Int)) : thinTo ks 1 = [(kx ks 0, ky ks 0)] := by
  rw [thinTo_succ]
  simp [thinTo, keepK]
def thinK (ks : List (Int × Int)) : List (Int × Int) := thinTo ks ks.length
/-- v is a list of knots, Lv what is held of it -/
def IsKn (l : List (Int × Int)) (v : AV) (Lv : Ob) : Prop := IsL 81 2 l.length (flatA l) v Lv
set_option maxRecDepth 100000 in
set_option maxHeartbeats 4000000 in
theorem rline_con (h : Heap) (g : Gd h) (a b c d e f' : Int) (h1 : 0 ≤ a ∧ a ≤ 2000) (h2 : -65536 ≤ b ∧ b ≤ 65536) (h3 : 0 ≤ c ∧ c ≤ 2000) (h4 : -65536 ≤ d ∧ d ≤ 65536) (h5 : 0 ≤ e ∧ e ≤ 2000) (h6 : -65536 ≤ f' ∧ f' ≤ 65536) :
    Con Tryz.prog Bs 93 [.agg [.int .i64 a, .int .i64 b], .agg [.int .i64 c, .int .i64 d], .agg [.int .i64 e, .int .i64 f']] h [] (.bool ((d - b) * (e - c) == (f' - d) * (c - a))) [] := by
  obtain ⟨m1, m2⟩ := mul_bd (a := d - b) (b := e - c) (A := 131072) (B := 2000) (by omega) (by omega) (by omega) (by omega)
  obtain ⟨m3, m4⟩ := mul_bd (a := f' - d) (b := c - a) (A := 131072) (B := 2000) (by omega) (by omega) (by omega) (by omega)
  refine Con.start rfl Tryz.func93 rfl rfl Tryz.ntmps93 rfl rfl g ?_
  (refine WK.seq ?_; refine WK.region ?_; refine St.box fun _ _ => ?_; refine St.box fun _ _ => ?_; refine St.box fun _ _ => ?_; refine St.assign ?_; refine WO.nil ?_; refine WK.seq ?_; refine WK.region ?_; refine St.fieldAddr ?_; refine St.load ?_; refine St.fieldAddr ?_; refine St.load ?_; refine St.binI ?_; refine St.fieldAddr ?_; refine St.load ?_; refine St.fieldAddr ?_; refine St.load ?_; refine St.binI ?_; refine St.binI ?_; refine St.fieldAddr ?_; refine St.load ?_; refine St.fieldAddr ?_; refine St.load ?_; refine St.binI ?_; refine St.fieldAddr ?_; refine St.load ?_; refine St.fieldAddr ?_; refine St.load ?_; refine St.binI ?_; refine St.binI ?_; refine St.bin ?_; refine St.assign ?_; refine WO.nil ?_)
  refine St.ret (by first | exact .tmp .nil | exact .cell .nil | exact .cell (.tmp .nil) | exact .tmp (.tmp .nil) | exact .cell (.cell .nil) | exact .tmp (.cell .nil) | exact .nil | exact .tmp (.cell (.tmp .nil)) | exact .cell (.tmp (.tmp .nil)) | exact .cell (.cell (.tmp .nil)) | exact .tmp (.tmp (.tmp .nil)) | exact .cell (.cell (.cell .nil))) ?_
  rfl
set_option maxRecDepth 100000 in
set_option maxHeartbeats 8000000 in
theorem rthin_con (h : Heap) (g : Gd h) (b off : Nat) (c : ACap) (ks : List (Int × Int)) (err : Int) (v : Vd ks err) (hk : KnH h b off ks) :
    ∃ w L, Con Tryz.prog Bs 47 [.slice b off ks.length c] h [] w L ∧ IsKn (thinK ks) w L := by
  have hlen : ks.length ≤ 40 := v.le
  refine Con.startR rfl Tryz.func47 rfl rfl Tryz.ntmps47 rfl rfl (SS.init g) ?_
  (refine WK.seq ?_; refine WK.region ?_; refine St.assign ?_; refine WO.nil ?_; refine WK.seq ?_; refine WK.region ?_; refine St.assign ?_; refine WO.nil ?_; refine WK.seq ?_; refine WK.seq ?_; refine WK.region ?_; refine St.assign ?_; refine WO.nil ?_; refine WK.block ?_)
  refine WK.inv (ι := Nat × AV × Ob) (fun z => [(0, .slice b off ks.length c), (3, z.2.1), (4, .int .i64 z.1)]) (fun z => z.2.2) (fun z => z.1 ≤ ks.length ∧ IsKn (thinTo ks z.1) z.2.1 z.2.2) (fun z => ks.length - z.1) (0, .slice0, []) ⟨by omega, .nil rfl rfl⟩ ⟨rfl, rfl, rfl, trivial⟩ (by (repeat (first | exact List.Sublist.refl _ | exact List.nil_sublist _ | apply List.Sublist.cons_cons | apply List.Sublist.cons))) ?_
  rintro ⟨k, w, Lv⟩ ⟨hkl, hw⟩ ih
  simp only at hkl hw ih ⊢
  (refine WK.seq ?_; refine WK.seq ?_; refine WK.region ?_; refine St.move ?_; refine St.move ?_; refine St.len ?_; refine St.bin ?_; refine WO.nil ?_)
  refine St.splitC (fun hc => ?_) (fun hc => ?_)
  · have hlt : k < ks.length := by simp at hc; omega
    have htl := thinTo_len ks k
    have hs := thinTo_succ ks k
    refine WK.skip ?_
    refine WK.seq ?_
    refine WK.cut (ι := {z : AV × Ob // IsKn (thinTo ks (k + 1)) z.1 z.2}) (fun z => [(0, .slice b off ks.length c), (3, z.1.1), (4, .int .i64 k)]) (fun z => z.1.2) (fun z => ?_) (fun K' leave => ?_)
    · obtain ⟨⟨w3, Lv3⟩, hw3⟩ := z
      simp only at hw3 ⊢
      (refine WK.region ?_; refine St.move ?_; refine St.binI ?_; refine St.assign ?_; refine WO.nil ?_)
      refine WK.le ?_ (by (repeat (first | exact List.Sublist.refl _ | exact List.nil_sublist _ | apply List.Sublist.cons_cons | apply List.Sublist.cons))) (ih (k + 1, w3, Lv3) ⟨hlt, hw3⟩ (by simp only; omega))
      exact ⟨rfl, rfl, rfl, trivial⟩
    (refine WK.block ?_; refine WK.seq ?_; refine WK.regionD ?_; refine St.move ?_; refine St.bin ?_; refine St.move ?_)
    refine St.split (fun hc => ?_) (fun hc => ?_)
    · have h0 : k = 0 := by simp at hc; exact hc
      have hkp : keepK ks k = true := by unfold keepK; rw [decide_eq_true h0]; rfl
      rw [if_pos hkp] at hs
      (refine St.skip ?_; refine St.skip ?_; refine St.skip ?_; refine St.skip ?_; refine St.skip ?_; refine St.pickT ?_; refine St.move ?_; refine St.skip ?_; refine St.skip ?_; refine St.skip ?_; refine St.skip ?_; refine St.skip ?_; refine St.skip ?_; refine St.skip ?_; refine St.skip ?_; refine St.skip ?_; refine St.skip ?_; refine St.skip ?_; refine St.skip ?_; refine St.skip ?_; refine St.skip ?_; refine St.skip ?_; refine St.skip ?_; refine St.pickT ?_; refine WO.nil ?_; refine WK.condT ?_; refine WK.region ?_; refine St.move ?_; refine St.move ?_; refine St.move ?_)
      refine St.at ?_
      refine St.loadX (fun h hh => ((hk.vw hh).knot hlt).agg (by simp) rfl rfl rfl) ?_
      (refine St.mkS fun _ _ => ?_)
      rename_i i2 hi2
      refine St.appL (new := [.int .i64 (kx ks k), .int .i64 (ky ks k)]) (Lk := [(i2, .cells [.int .i64 (kx ks k), .int .i64 (ky ks k)] 81)]) hw List.perm_append_comm (fun w3 Lv3 hw3 => ?_) ⟨rfl, rfl, rfl, rfl, rfl, rfl, rfl, rfl, rfl, rfl, rfl, rfl⟩ (List.Mem.head _) rfl (by omega) (by omega)
      refine WO.permF (L' := [(i2, .cells [.int .i64 (kx ks k), .int .i64 (ky ks k)] 81)] ++ Lv3) List.perm_append_comm ?_
      have hw4 : IsKn (thinTo ks (k + 1)) w3 Lv3 := by
        rw [hs]
        unfold IsKn
        rw [flatA_snoc, List.length_append]
        exact hw3
      (refine St.assign ?_; refine WO.nil ?_; refine WK.blk ?_)
      refine WK.le ?_ (by (repeat (first | exact List.Sublist.refl _ | exact List.nil_sublist _ | apply List.Sublist.cons_cons | apply List.Sublist.cons))) (leave ⟨(w3, Lv3), hw4⟩)
      exact ⟨rfl, rfl, rfl, trivial⟩
    have h0 : k ≠ 0 := by simp at hc; omega
    (refine St.move ?_; refine St.move ?_; refine St.len ?_; refine St.binI ?_; refine St.bin ?_; refine St.pickF ?_; refine St.move ?_)
    refine St.split (fun hc2 => ?_) (fun hc2 => ?_)
    · have h1 : k + 1 = ks.length := by simp at hc2; omega
      have hkp : keepK ks k = true := by unfold keepK; rw [decide_eq_true h1]; simp
      rw [if_pos hkp] at hs
      (refine St.skip ?_; refine St.skip ?_; refine St.skip ?_; refine St.skip ?_; refine St.skip ?_; refine St.skip ?_; refine St.skip ?_; refine St.skip ?_; refine St.skip ?_; refine St.skip ?_; refine St.skip ?_; refine St.skip ?_; refine St.skip ?_; refine St.skip ?_; refine St.skip ?_; refine St.skip ?_; refine St.pickT ?_; refine WO.nil ?_; refine WK.condT ?_; refine WK.region ?_; refine St.move ?_; refine St.move ?_; refine St.move ?_)
      refine St.at ?_
      refine St.loadX (fun h hh => ((hk.vw hh).knot hlt).agg (by simp) rfl rfl rfl) ?_
      (refine St.mkS fun _ _ => ?_)
      rename_i i2 hi2
      refine St.appL (new := [.int .i64 (kx ks k), .int .i64 (ky ks k)]) (Lk := [(i2, .cells [.int .i64 (kx ks k), .int .i64 (ky ks k)] 81)]) hw List.perm_append_comm (fun w3 Lv3 hw3 => ?_) ⟨rfl, rfl, rfl, rfl, rfl, rfl, rfl, rfl, rfl, rfl, rfl, rfl⟩ (List.Mem.head _) rfl (by omega) (by omega)
      refine WO.permF (L' := [(i2, .cells [.int .i64 (kx ks k), .int .i64 (ky ks k)] 81)] ++ Lv3) List.perm_append_comm ?_
      have hw4 : IsKn (thinTo ks (k + 1)) w3 Lv3 := by
        rw [hs]
        unfold IsKn
        rw [flatA_snoc, List.length_append]
        exact hw3
      (refine St.assign ?_; refine WO.nil ?_; refine WK.blk ?_)
      refine WK.le ?_ (by (repeat (first | exact List.Sublist.refl _ | exact List.nil_sublist _ | apply List.Sublist.cons_cons | apply List.Sublist.cons))) (leave ⟨(w3, Lv3), hw4⟩)
      exact ⟨rfl, rfl, rfl, trivial⟩
    have h1 : k + 1 < ks.length := by simp at hc2; omega
    have hkp : keepK ks k = bendAt ks k := by unfold keepK; rw [decide_eq_false h0, decide_eq_false (by omega)]; rfl
    have hb := fun i (h : i < ks.length) => And.intro (And.intro (v.kx0 h) (v.kx1 h)) (And.intro (v.ky0 h) (v.ky1 h))
    obtain ⟨a1, a2⟩ := hb (k - 1) (by omega)
    obtain ⟨a3, a4⟩ := hb k hlt
    obtain ⟨a5, a6⟩ := hb (k + 1) h1
    (refine St.move ?_; refine St.move ?_; refine St.binI ?_)
    refine St.at ?_
    refine St.loadX (fun h hh => ((hk.vw hh).at_ (z := (k : Int) - 1) (n := k - 1) (by omega) (by omega)).agg (by simp) rfl rfl rfl) ?_
    (refine St.move ?_; refine St.move ?_)
    refine St.at ?_
    refine St.loadX (fun h hh => ((hk.vw hh).knot hlt).agg (by simp) rfl rfl rfl) ?_
    (refine St.move ?_; refine St.move ?_; refine St.binI ?_)
    refine St.at ?_
    refine St.loadX (fun h hh => ((hk.vw hh).at_ (z := (k : Int) + 1) (n := k + 1) (by omega) (by omega)).agg (by simp) rfl rfl rfl) ?_
    skip
    refine St.call (fun _ => rfl) (fun h hh => rline_con h hh.gd _ _ _ _ _ _ a1 a2 a3 a4 a5 a6) ?_
    (refine St.un ?_; refine St.pickF ?_; refine WO.nil ?_)
    refine St.splitC (fun hc3 => ?_) (fun hc3 => ?_)
    · have hkp : keepK ks k = true := by rw [hkp]; exact hc3
      rw [if_pos hkp] at hs
      (refine WK.region ?_; refine St.move ?_; refine St.move ?_; refine St.move ?_)
      refine St.at ?_
      refine St.loadX (fun h hh => ((hk.vw hh).knot hlt).agg (by simp) rfl rfl rfl) ?_
      (refine St.mkS fun _ _ => ?_)
      rename_i i2 hi2
      refine St.appL (new := [.int .i64 (kx ks k), .int .i64 (ky ks k)]) (Lk := [(i2, .cells [.int .i64 (kx ks k), .int .i64 (ky ks k)] 81)]) hw List.perm_append_comm (fun w3 Lv3 hw3 => ?_) ⟨rfl, rfl, rfl, rfl, rfl, rfl, rfl, rfl, rfl, rfl, rfl, rfl⟩ (List.Mem.head _) rfl (by omega) (by omega)
      refine WO.permF (L' := [(i2, .cells [.int .i64 (kx ks k), .int .i64 (ky ks k)] 81)] ++ Lv3) List.perm_append_comm ?_
      have hw4 : IsKn (thinTo ks (k + 1)) w3 Lv3 := by
        rw [hs]
        unfold IsKn
        rw [flatA_snoc, List.length_append]
        exact hw3
      (refine St.assign ?_; refine WO.nil ?_; refine WK.blk ?_)
      refine WK.le ?_ (by (repeat (first | exact List.Sublist.refl _ | exact List.nil_sublist _ | apply List.Sublist.cons_cons | apply List.Sublist.cons))) (leave ⟨(w3, Lv3), hw4⟩)
      exact ⟨rfl, rfl, rfl, trivial⟩
    · have hkp : ¬ keepK ks k = true := by rw [hkp]; unfold bendAt; rw [hc3]; simp
      rw [if_neg hkp, List.append_nil] at hs
      (refine WK.skip ?_; refine WK.blk ?_)
      refine WK.le ?_ (by (repeat (first | exact List.Sublist.refl _ | exact List.nil_sublist _ | apply List.Sublist.cons_cons | apply List.Sublist.cons))) (leave ⟨(w, Lv), by rw [hs]; exact hw⟩)
      exact ⟨rfl, rfl, rfl, trivial⟩
  · have hk' : k = ks.length := by simp at hc; omega
    subst hk'
    (refine WK.exit ?_; refine WK.seq ?_; refine WK.region ?_; refine St.move ?_; refine St.assign ?_; refine WO.nil ?_)
    refine St.ret (by first | exact .tmp .nil | exact .cell .nil | exact .cell (.tmp .nil) | exact .tmp (.tmp .nil) | exact .cell (.cell .nil) | exact .tmp (.cell .nil) | exact .nil | exact .tmp (.cell (.tmp .nil)) | exact .cell (.tmp (.tmp .nil)) | exact .cell (.cell (.tmp .nil)) | exact .tmp (.tmp (.tmp .nil)) | exact .cell (.cell (.cell .nil))) ?_
    exact hw
end Go.Proofs.YtbhklifflhoinaaGreat
