/- Find over the calculator's memory; the program's rising, heights, inverse. -/
import Derived.Test.YtbhklifflhoinaaGreatPc
namespace Go.Proofs.YtbhklifflhoinaaGreat
open Go.Proofs.YtbhklifflhoinaaGreat.Ev

def pc0 : AV := .agg [.int .i64 0, .int .i64 0, .int .i64 0, .int .i64 0]
theorem Ev.Vw.trans' {h0 h1 h2 : Heap} {V1 V2 : Ob} {W : List Nat} (k1 : Vw h0 [] V1 h1) (k2 : Vw h1 W V2 h2) (hW : ∀ x ∈ W, h0.next ≤ x) : Vw h0 [] V2 h2 := ⟨k2.gd, Nat.le_trans k1.nx k2.nx, fun i hi _ => (k2.old i (Nat.lt_of_lt_of_le hi k1.nx) (fun hm => absurd (hW i hm) (by omega))).trans (k1.old i hi (by simp)), k2.own⟩
theorem Ev.ConR.fin {P : Program} {B : Base} {l : Nat} {args : List AV} {h : Heap} {W : List Nat} {v : AV} {L : Ob} (H : ∃ v' L', ConR P B l args h W v' L' ∧ (v' = v ∧ L' = L)) : ConR P B l args h W v L := by
  obtain ⟨_, _, h, rfl, rfl⟩ := H
  exact h
def pcL (ks : List (Int × Int)) (m : Nat) : List AV := if m + 1 < ks.length then [.int .i64 (kx ks m), .int .i64 (ky ks m), .int .i64 (kx ks (m + 1)), .int .i64 (ky ks (m + 1))] else [.int .i64 0, .int .i64 0, .int .i64 0, .int .i64 0]
set_option maxRecDepth 100000 in
set_option maxHeartbeats 4000000 in
/-- find: the first piece that is wanted -/
theorem find_con (h : Heap) (g : Gd h) (b off : Nat) (c : ACap) (ks : List (Int × Int)) (err : Int) (fw : Nat) (fs cs : List AV) (m : Nat) (hl : ks.length ≤ 1000000000000) (hpos : 0 < ks.length) (hk : KnH h b off ks)
    (hw : ∀ k, k + 1 < ks.length → k ≤ m → ∀ h' V, Vw h [] V h' → Con Tryz.prog Bs fw (fs ++ [pcV ks k] ++ cs) h' [] (.bool (decide (k = m))) []) :
    Con Tryz.prog Bs 107 [.agg [.slice b off ks.length c, .int .i64 err], .fn (.func fw) fs cs] h [] (.tup [if m + 1 < ks.length then pcV ks m else pc0, .bool (decide (m + 1 < ks.length))]) [] := by
  have hb := (hk.x hpos).lt
  refine Con.start rfl Tryz.func107 rfl rfl Tryz.ntmps107 rfl rfl g ?_
  (refine WK.seq ?_; refine WK.region ?_; refine St.box fun _ _ => ?_; refine St.box fun _ _ => ?_; refine St.alloc fun _ _ => ?_; refine St.alloc fun _ _ => ?_; refine WO.nil ?_; refine WK.seq ?_; refine WK.seq ?_; refine WK.region ?_; refine St.load ?_)
  refine St.call1 (fun _ => rfl) (fun h hh => pieces_con h hh.gd _ _) (fun j hj => ?_)
  (refine WO.nil ?_; refine WK.block ?_)
  rename_i p hp q hq u hu w hw'
  have hwW : ∀ k V h', Vw h [] V h' → k + 1 < ks.length → k ≤ m → Con Tryz.prog Bs fw (fs ++ [pcV ks k] ++ cs) h' [] (.bool (decide (k = m))) [] := fun k V h' hv h1 h2 => hw k h1 h2 h' V hv
  refine WK.range (Lw := [(w, .cells [.bool false] 4), (u, .cells [.int .i64 0, .int .i64 0, .int .i64 0, .int .i64 0] 138), (q, .cells [.fn (.func fw) fs cs] 154), (p, .cells [.slice b off ks.length c, .int .i64 err] 24)]) (Lk := [(j, .cells [.slice b off ks.length c, .int .i64 err] 24)])
    (R := fun pd L' => pd = (if m + 1 < ks.length then some .ret else none) ∧ L' = [(w, .cells [.bool (decide (m + 1 < ks.length))] 4), (u, .cells (pcL ks m) 138), (q, .cells [.fn (.func fw) fs cs] 154), (p, .cells [.slice b off ks.length c, .int .i64 err] 24)])
    rfl ?_ ?_ ?_ ?_
  · exact List.perm_append_comm
  · intro dq r tm h' hT hs
    have hjW : j ∉ r :: [w, u, q, p] := by
      have := hs.nodup
      simp at this
      simp
      grind
    have hrn : h.next ≤ r := by
      have := (hs.own _ List.mem_cons_self).2.2.2
      simpa using this
    have hold : ∀ x ∈ r :: [w, u, q, p], h.next ≤ x := by
      intro x hx
      simp only [List.mem_cons, List.not_mem_nil, or_false] at hx
      rcases hx with rfl | rfl | rfl | rfl | rfl <;> assumption
    refine ⟨_, _, _, _, ?_, yields_con2 h' r j b off c ks err _ _ _ _ _ _ (fun k => [(w, .cells [.bool (decide (m < k))] 4), (u, .cells (if m < k then [.int .i64 (kx ks m), .int .i64 (ky ks m), .int .i64 (kx ks (m + 1)), .int .i64 (ky ks (m + 1))] else [.int .i64 0, .int .i64 0, .int .i64 0, .int .i64 0]) 138), (q, .cells [.fn (.func fw) fs cs] 154), (p, .cells [.slice b off ks.length c, .int .i64 err] 24)]) m hl ?_ ?_ hjW ?_ ?_ (fun _ => rfl) ?_ ?_, ?_⟩
    · split <;> simp
    · exact (hs.own (j, .cells [.slice b off ks.length c, .int .i64 err] 24) (by simp)).1
    · exact (hs.own (j, .cells [.slice b off ks.length c, .int .i64 err] 24) (by simp)).2.2.1
    · exact fun i hi => hs.vw.rds (by simp) (hk i hi)
    · intro hbW
      have := hold b hbW
      omega
    · simp only [Nat.not_lt_zero, if_false, decide_false]
      exact (hs.sub (L' := (r, _) :: [(w, .cells [.bool false] 4), (u, .cells [.int .i64 0, .int .i64 0, .int .i64 0, .int .i64 0] 138), (q, .cells [.fn (.func fw) fs cs] 154), (p, .cells [.slice b off ks.length c, .int .i64 err] 24)]) (by (repeat (first | exact List.Sublist.refl _ | exact List.nil_sublist _ | apply List.Sublist.cons_cons | apply List.Sublist.cons)))).lend
    · intro k hk1 hkm h'' hh
      have e : ¬ m < k := by omega
      simp only [if_neg e, decide_eq_false e] at hh
      refine ConR.fin ?_
      refine ConR.enter (s := setS [10, 11] [.int .i64 k, pcV ks k] _) hh.lend (hh.own _ List.mem_cons_self).1 rfl rfl rfl hT rfl ?_
      (refine WK.region ?_; refine St.alloc fun _ _ => ?_; refine St.store0 ?_; refine WO.nil ?_)
      refine WK.busy (A := [(_, _)]) rfl ?_
      (refine WK.block ?_; refine WK.seq ?_; refine WK.region ?_; refine St.load ?_; refine St.load ?_)
      refine St.call (fun _ => rfl) (fun h1 hh1 => hw k hk1 hkm h1 _ ((hs.vw.trans' hh.vw hold).trans' hh1 hold)) ?_
      (refine WO.nil ?_)
      refine St.splitC (fun hc => ?_) (fun hc => ?_)
      · have hkm' : k = m := by simpa using hc
        subst hkm'
        (refine WK.seq ?_; refine WK.region ?_; refine St.load ?_; refine St.store3 ?_; refine St.store2 ?_; refine WO.nil ?_)
        refine WK.le (s' := []) trivial (List.sublist_cons_self _ _) ?_
        refine WK.retR (A := []) rfl ⟨by simp, ?_⟩
        simp
      · have hne : k ≠ m := by simpa using hc
        (refine WK.skip ?_; refine WK.blk ?_)
        refine WK.le (s' := []) trivial (List.sublist_cons_self _ _) ?_
        refine WK.endR (A := []) rfl ⟨by simp [hne], ?_⟩
        have e1 : ¬ m < k + 1 := by omega
        simp [hne, e1]
    · by_cases hm : m + 1 < ks.length
      · simp [pcL, hm]
      · have hm' : ¬ m < ks.length - 1 := by omega
        simp [pcL, hm, hm']
  · rintro dq L' ⟨h1, h2⟩
    have hm : ¬ m + 1 < ks.length := by intro hm; rw [if_pos hm] at h1; cases h1
    obtain rfl : L' = [(w, .cells [.bool false] 4), (u, .cells [.int .i64 0, .int .i64 0, .int .i64 0, .int .i64 0] 138), (q, .cells [.fn (.func fw) fs cs] 154), (p, .cells [.slice b off ks.length c, .int .i64 err] 24)] := by rw [h2]; simp [pcL, hm]
    (refine WK.blk ?_; refine WK.seq ?_; refine WK.region ?_; refine St.build ?_; refine St.store1 ?_; refine St.store0 ?_; refine WO.nil ?_)
    refine St.ret1 (A := [(w, .cells [.bool false] 4), (u, .cells [.int .i64 0, .int .i64 0, .int .i64 0, .int .i64 0] 138), (q, .cells [.fn (.func fw) fs cs] 154), (p, .cells [.slice b off ks.length c, .int .i64 err] 24)]) rfl (.cell (.cell .nil)) ?_
    rw [if_neg hm, decide_eq_false hm]
    rfl
  · rintro dq cd L' ⟨h1, h2⟩
    have hm : m + 1 < ks.length := by by_cases hm : m + 1 < ks.length; exact hm; rw [if_neg hm] at h1; cases h1
    rw [if_pos hm] at h1
    cases h1
    obtain rfl : L' = [(w, .cells [.bool true] 4), (u, .cells [.int .i64 (kx ks m), .int .i64 (ky ks m), .int .i64 (kx ks (m + 1)), .int .i64 (ky ks (m + 1))] 138), (q, .cells [.fn (.func fw) fs cs] 154), (p, .cells [.slice b off ks.length c, .int .i64 err] 24)] := by rw [h2]; simp [pcL, hm]
    refine St.ret1 (A := [(w, .cells [.bool true] 4), (u, .cells [.int .i64 (kx ks m), .int .i64 (ky ks m), .int .i64 (kx ks (m + 1)), .int .i64 (ky ks (m + 1))] 138), (q, .cells [.fn (.func fw) fs cs] 154), (p, .cells [.slice b off ks.length c, .int .i64 err] 24)]) rfl (.cell (.cell .nil)) ?_
    rw [if_pos hm, decide_eq_true hm]
    rfl
end Go.Proofs.YtbhklifflhoinaaGreat
