/- over, Over, CheckOver over the calculator's memory. -/
import Derived.Test.YtbhklifflhoinaaGreatPk
namespace Go.Proofs.YtbhklifflhoinaaGreat
open Go.Proofs.YtbhklifflhoinaaGreat.Ev

theorem one_all {α : Type} {p : α → Prop} {c : α} (h : p c) : ∀ i (hi : i < [c].length), p [c][i] := fun i hi => by
  obtain rfl : i = 0 := by simp at hi; exact hi
  exact h
theorem two_all {α : Type} {p : α → Prop} {c d : α} (h : p c) (h2 : p d) : ∀ i (hi : i < [c, d].length), p [c, d][i] := fun i hi => by
  match i, hi with
  | 0, _ => exact h
  | 1, _ => exact h2
theorem one_vd {kv : AV} {ks : List (Int × Int)} {err : Int} (v : Vd ks err) : ∀ i (hi : i < [(⟨kv, ks, err⟩ : Cv)].length), Vd [(⟨kv, ks, err⟩ : Cv)][i].ks [(⟨kv, ks, err⟩ : Cv)][i].err := one_all (p := fun c : Cv => Vd c.ks c.err) v
theorem two_vd {kv kv2 : AV} {ks ks2 : List (Int × Int)} {err err2 : Int} (v : Vd ks err) (v2 : Vd ks2 err2) : ∀ i (hi : i < [(⟨kv, ks, err⟩ : Cv), ⟨kv2, ks2, err2⟩].length), Vd [(⟨kv, ks, err⟩ : Cv), ⟨kv2, ks2, err2⟩][i].ks [(⟨kv, ks, err⟩ : Cv), ⟨kv2, ks2, err2⟩][i].err := two_all (p := fun c : Cv => Vd c.ks c.err) v v2
theorem KnH.v {h : Heap} {b off : Nat} {c : ACap} {ks : List (Int × Int)} (hk : KnH h b off ks) (hp : 0 < ks.length) : KnV h (.slice b off ks.length c) ks := by
  have h1 := hk.x hp
  refine .inr ⟨b, off, c, rfl, hk, h1.lt, ?_⟩
  have h2 := h1.at_
  unfold Heap.at1 at h2
  unfold rowAt
  cases hg : h.get b with
  | none => rw [hg] at h2; cases h2
  | some o => cases o <;> (rw [hg] at h2) <;> first | rfl | (cases h2; done)
theorem cornX_le2 {lo hi : Int} {l : List Cur} (h : ∀ i (h : i < l.length), l[i].ks.length ≤ 40) : (cornX lo hi l).length ≤ 2 + 40 * l.length := by
  have h1 := uniq_len (sortX (rawX lo hi l))
  rw [sortX_len] at h1
  have h3 := rawX_len (lo := lo) (hi := hi) h
  unfold cornX
  omega

set_option maxRecDepth 100000 in
set_option maxHeartbeats 4000000 in
theorem over1_con (h : Heap) (g : Gd h) (b off : Nat) (c : ACap) (ks : List (Int × Int)) (err x : Int) (j : Nat) (hj : Rds h j 0 [.slice b off ks.length c, .int .i64 err]) (v : Vd ks err) (hk : KnH h b off ks) (h0 : -4000 ≤ x) (h1 : x ≤ 4000) : Con Tryz.prog Bs 106 [.int .i64 x, .ptr j 0] h [] (.agg [.int .i64 (valF ks x).1, .int .i64 (valF ks x).2]) [] := by
  refine Con.start rfl Tryz.func106 rfl rfl Tryz.ntmps106 rfl rfl g ?_
  (refine WK.seq ?_; refine WK.region ?_; refine St.alloc fun _ _ => ?_; refine WO.nil ?_; refine WK.seq ?_; refine WK.region ?_)
  refine St.loadX (fun h hh => (hh.rds (by simp) hj).agg (by simp) rfl rfl rfl) ?_
  (refine St.move ?_)
  refine St.call (fun _ => rfl) (fun h hh => value_con h hh.gd b off c ks err x v (hk.vw hh) h0 h1) ?_
  (refine St.store0 ?_; refine WO.nil ?_)
  refine St.ret (by first | exact .tmp .nil | exact .cell .nil | exact .cell (.tmp .nil) | exact .tmp (.tmp .nil) | exact .cell (.cell .nil) | exact .tmp (.cell .nil) | exact .nil | exact .tmp (.cell (.tmp .nil)) | exact .cell (.tmp (.tmp .nil)) | exact .cell (.cell (.tmp .nil)) | exact .tmp (.tmp (.tmp .nil)) | exact .cell (.cell (.cell .nil))) ?_
  rfl
set_option maxRecDepth 100000 in
set_option maxHeartbeats 4000000 in
theorem over_con (h : Heap) (g : Gd h) (b off : Nat) (c : ACap) (ks : List (Int × Int)) (err lo hi : Int) (v : Vd ks err) (hk : KnH h b off ks) (hlh : lo ≤ hi) (hd : inDom ks lo hi = true) : Con Tryz.prog Bs 73 [.agg [.slice b off ks.length c, .int .i64 err], .agg [.int .i64 lo, .int .i64 hi]] h [] (pkA (overK ks lo hi)) [] := by
  have hlen : ks.length ≤ 40 := v.le
  obtain ⟨d1, d2⟩ := v.dom hd
  have hX : cornX lo hi ([(⟨.slice b off ks.length c, ks, err⟩ : Cv)].map Cv.c) = cornX lo hi [⟨none, 0, ks, 0⟩] := cornX_ks rfl
  have hmem : ∀ x ∈ cornX lo hi [⟨none, 0, ks, 0⟩], -4000 ≤ x ∧ x ≤ 4000 := fun x hx => by
    have := cornX_mem hlh hx
    omega
  have hcl := cornX_le2 (lo := lo) (hi := hi) (l := [⟨none, 0, ks, 0⟩]) (one_all (p := fun c : Cur => c.ks.length ≤ 40) hlen)
  simp at hcl
  refine Con.start rfl Tryz.func73 rfl rfl Tryz.ntmps73 rfl rfl g ?_
  (refine WK.seq ?_; refine WK.region ?_; refine St.box fun _ _ => ?_; refine St.box fun _ _ => ?_; refine St.alloc fun _ _ => ?_; refine WO.nil ?_; refine WK.seq ?_; refine WK.region ?_; refine St.load ?_; refine St.load ?_; refine St.mkS fun _ _ => ?_)
  rename_i p hp q hq r hr i1 hi1
  refine St.callR (R := fun v L => ∃ i m o, v = .slice i 0 (cornX lo hi [⟨none, 0, ks, 0⟩]).length m ∧ L = [(i, o)] ∧ o.has ((cornX lo hi [⟨none, 0, ks, 0⟩]).map (AV.int .i64))) (fun _ => rfl) (fun h hh => ?_) ?_
  · have := corners_con h hh.gd i1 0 (.k 1) [⟨.slice b off ks.length c, ks, err⟩] lo hi (by simp) (hh.cv1 (List.Mem.head _) rfl ((hk.vw hh).v v.pos) (by omega)) (one_vd v)
    rw [hX] at this
    exact this
  rintro w L' ⟨i, m, o, rfl, rfl, ho⟩
  (refine St.fn ?_)
  refine St.call (fun _ => rfl) (fun h hh => peak_con h hh.gd i 0 m (cornX lo hi [⟨none, 0, ks, 0⟩]) 106 [] [.ptr p 0] (valF ks) (cornX_pos _ _ _) (by omega) (hh.ins (by simp) ho) (fun x hx => (v.fr (hmem x hx).1 (hmem x hx).2).small) (fun x hx h' V hv => over1_con h' hv.gd b off c ks err x p (hv.rds (by simp) (hh.rdsO (l := [.slice b off ks.length c, .int .i64 err]) (t := 24) (by simp [AV.cells]) rfl)) v ((hk.vw hh).vw hv) (hmem x hx).1 (hmem x hx).2)) ?_
  (refine St.store2 ?_; refine WO.nil ?_)
  refine St.ret (by first | exact .tmp .nil | exact .cell .nil | exact .cell (.tmp .nil) | exact .tmp (.tmp .nil) | exact .cell (.cell .nil) | exact .tmp (.cell .nil) | exact .nil | exact .tmp (.cell (.tmp .nil)) | exact .cell (.tmp (.tmp .nil)) | exact .cell (.cell (.tmp .nil)) | exact .tmp (.tmp (.tmp .nil)) | exact .cell (.cell (.cell .nil))) ?_
  rfl

def avP (r : PE) : AV := .tup [pkA r.p, .int .i64 r.e]
theorem errOn_of {ks err lo hi} (h : chk ks err = 0) : errOn ks err lo hi = chkOn [(⟨none, 0, ks, err⟩ : Cur)] lo hi := by
  unfold errOn
  rw [if_pos h, chkOn_one]
set_option maxRecDepth 100000 in
set_option maxHeartbeats 4000000 in
theorem overP_con (h : Heap) (g : Gd h) (kv : AV) (ks : List (Int × Int)) (err lo hi : Int) (hk : KnV h kv ks) (hl : ks.length ≤ 1000000000000) : Con Tryz.prog Bs 32 [.agg [kv, .int .i64 err], .agg [.int .i64 lo, .int .i64 hi]] h [] (avP (overR ks err lo hi)) [] := by
  by_cases hch : chk ks err = 0
  · have v := vd_of_chk hch
    obtain ⟨b, off, c, rfl, hk'⟩ := hk.ne v.ne
    have he := errOn_of (lo := lo) (hi := hi) hch
    refine Con.start rfl Tryz.func32 rfl rfl Tryz.ntmps32 rfl rfl g ?_
    (refine WK.seq ?_; refine WK.region ?_; refine St.box fun _ _ => ?_; refine St.box fun _ _ => ?_; refine St.alloc fun _ _ => ?_; refine St.assign ?_; refine WO.nil ?_; refine WK.seq ?_; refine WK.seq ?_; refine WK.region ?_; refine St.load ?_)
    refine St.call (fun _ => rfl) (fun h hh => check_con h hh.gd _ ks err (hk.vw hh) hl) ?_
    rw [hch]
    (refine St.assign ?_; refine WO.nil ?_; refine WK.seq ?_; refine WK.region ?_; refine St.move ?_; refine St.bin ?_; refine WO.nil ?_; refine WK.condF ?_; refine WK.skip ?_; refine WK.seq ?_; refine WK.seq ?_; refine WK.region ?_; refine St.load ?_; refine St.load ?_; refine St.mkS fun _ _ => ?_)
    rename_i i1 hi1
    refine St.call (v := .int .i64 (errOn ks err lo hi)) (fun _ => rfl) (fun h hh => by
      have := checkOn_con h hh.gd i1 0 (.k 1) [⟨.slice b off ks.length c, ks, err⟩] lo hi (by simp) (hh.cv1 (List.Mem.head _) rfl ((hk'.vw hh).v v.pos) (by omega)) (one_vd v)
      rw [he]
      exact this) ?_
    (refine St.assign ?_; refine WO.nil ?_; refine WK.seq ?_; refine WK.region ?_; refine St.move ?_; refine St.bin ?_; refine WO.nil ?_)
    refine St.splitC (fun hc => ?_) (fun hc => ?_)
    · have hc : errOn ks err lo hi ≠ 0 := by simpa using hc
      (refine WK.seq ?_; refine WK.region ?_; refine St.build ?_; refine St.move ?_; refine St.store1 ?_; refine St.assign ?_; refine WO.nil ?_)
      refine St.ret (by first | exact .tmp .nil | exact .cell .nil | exact .cell (.tmp .nil) | exact .tmp (.tmp .nil) | exact .cell (.cell .nil) | exact .tmp (.cell .nil) | exact .nil | exact .tmp (.cell (.tmp .nil)) | exact .cell (.tmp (.tmp .nil)) | exact .cell (.cell (.tmp .nil)) | exact .tmp (.tmp (.tmp .nil)) | exact .cell (.cell (.cell .nil))) ?_
      unfold overR
      rw [if_neg hc]
      rfl
    · have hc : errOn ks err lo hi = 0 := by simpa using hc
      have hc2 := hc
      unfold errOn at hc2
      rw [if_pos hch] at hc2
      have hlh : lo ≤ hi := by split at hc2 <;> omega
      have hd : inDom ks lo hi = true := by
        rw [if_neg (by omega)] at hc2
        split at hc2
        · assumption
        · cases hc2
      (refine WK.skip ?_; refine WK.seq ?_; refine WK.region ?_; refine St.load ?_; refine St.load ?_)
      refine St.call (fun _ => rfl) (fun h hh => over_con h hh.gd b off c ks err lo hi v (hk'.vw hh) hlh hd) ?_
      (refine St.store1 ?_; refine St.assign ?_; refine WO.nil ?_)
      refine St.ret (by first | exact .tmp .nil | exact .cell .nil | exact .cell (.tmp .nil) | exact .tmp (.tmp .nil) | exact .cell (.cell .nil) | exact .tmp (.cell .nil) | exact .nil | exact .tmp (.cell (.tmp .nil)) | exact .cell (.tmp (.tmp .nil)) | exact .cell (.cell (.tmp .nil)) | exact .tmp (.tmp (.tmp .nil)) | exact .cell (.cell (.cell .nil))) ?_
      unfold overR
      rw [if_pos hc]
      rfl
  · refine Con.start rfl Tryz.func32 rfl rfl Tryz.ntmps32 rfl rfl g ?_
    (refine WK.seq ?_; refine WK.region ?_; refine St.box fun _ _ => ?_; refine St.box fun _ _ => ?_; refine St.alloc fun _ _ => ?_; refine St.assign ?_; refine WO.nil ?_; refine WK.seq ?_; refine WK.seq ?_; refine WK.region ?_; refine St.load ?_)
    refine St.call (fun _ => rfl) (fun h hh => check_con h hh.gd _ ks err (hk.vw hh) hl) ?_
    (refine St.assign ?_; refine WO.nil ?_; refine WK.seq ?_; refine WK.region ?_; refine St.move ?_; refine St.bin ?_; refine WO.nil ?_)
    refine St.splitC (fun hc => ?_) (fun hc => ?_)
    · (refine WK.seq ?_; refine WK.region ?_; refine St.build ?_; refine St.move ?_; refine St.store0 ?_; refine St.assign ?_; refine WO.nil ?_)
      refine St.ret (by first | exact .tmp .nil | exact .cell .nil | exact .cell (.tmp .nil) | exact .tmp (.tmp .nil) | exact .cell (.cell .nil) | exact .tmp (.cell .nil) | exact .nil | exact .tmp (.cell (.tmp .nil)) | exact .cell (.tmp (.tmp .nil)) | exact .cell (.cell (.tmp .nil)) | exact .tmp (.tmp (.tmp .nil)) | exact .cell (.cell (.cell .nil))) ?_
      have he : errOn ks err lo hi = chk ks err := by unfold errOn; rw [if_neg hch]
      unfold overR
      rw [he, if_neg hch]
      rfl
    · simp at hc; exact absurd hc hch
end Go.Proofs.YtbhklifflhoinaaGreat
