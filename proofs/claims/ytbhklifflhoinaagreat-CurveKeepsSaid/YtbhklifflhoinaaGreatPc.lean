/- The pieces of a curve: the program's pieces, its iterator, and find, over the calculator's memory. -/
import Derived.Test.YtbhklifflhoinaaGreatCr
namespace Go.Proofs.YtbhklifflhoinaaGreat
open Go.Proofs.YtbhklifflhoinaaGreat.Ev

set_option maxRecDepth 100000 in
set_option maxHeartbeats 4000000 in
theorem pieces_con (h : Heap) (g : Gd h) (c e : AV) : ∃ j, Con Tryz.prog Bs 90 [.agg [c, e]] h [] (.fn (.func 123) [] [.ptr j 0]) [(j, .cells [c, e] 24)] := by
  refine Con.one (V := fun j => .fn (.func 123) [] [.ptr j 0]) (O := fun j => .cells [c, e] 24) ?_
  refine Con.startR rfl Tryz.func90 rfl rfl Tryz.ntmps90 rfl rfl (SS.init g) ?_
  (refine WK.seq ?_; refine WK.region ?_; refine St.box fun _ _ => ?_; refine St.assign ?_; refine WO.nil ?_; refine WK.seq ?_; refine WK.region ?_; refine St.fn ?_; refine St.assign ?_; refine WO.nil ?_)
  refine St.ret (by first | exact .tmp .nil | exact .cell .nil | exact .cell (.tmp .nil) | exact .tmp (.tmp .nil) | exact .cell (.cell .nil) | exact .tmp (.cell .nil) | exact .nil | exact .tmp (.cell (.tmp .nil)) | exact .cell (.tmp (.tmp .nil)) | exact .cell (.cell (.tmp .nil)) | exact .tmp (.tmp (.tmp .nil)) | exact .cell (.cell (.cell .nil))) ?_
  exact ⟨_, rfl, List.Mem.head _⟩

theorem KnH.vwW {h0 h : Heap} {W : List Nat} {V : Ob} {b off ks} (k : KnH h0 b off ks) (hb : b ∉ W) (hh : Vw h0 W V h) : KnH h b off ks := fun i hi => hh.rds hb (k i hi)
/-- piece k of a curve, as the program has it -/
def pcV (ks : List (Int × Int)) (k : Nat) : AV := .agg [.int .i64 (kx ks k), .int .i64 (ky ks k), .int .i64 (kx ks (k + 1)), .int .i64 (ky ks (k + 1))]

set_option maxRecDepth 100000 in
set_option maxHeartbeats 4000000 in
/-- the iterator hands on the pieces in order, until a round (the one with number m, if there is such a piece) says that it is enough -/
theorem yields_con (h : Heap) (r jc b off : Nat) (c : ACap) (ks : List (Int × Int)) (err : Int) (q : ALoop) (q' : ALoop) (Lb : Nat → Ob) (m : Nat) (hl : ks.length ≤ 1000000000000)
    (hjc : h.get jc = some (.cells [.slice b off ks.length c, .int .i64 err] 24)) (hj : jc < h.next) (hjW : jc ∉ r :: (Lb 0).map (·.1)) (hk : KnH h b off ks) (hb : b ∉ r :: (Lb 0).map (·.1)) (hkeys : ∀ k, (Lb k).map (·.1) = (Lb 0).map (·.1))
    (h0 : SS h (r :: (Lb 0).map (·.1)) ((r, .loop q) :: Lb 0) h)
    (hround : ∀ k, k + 1 < ks.length → k ≤ m → ∀ h', SS h (r :: (Lb 0).map (·.1)) ((r, .loop q) :: Lb k) h' → ConR Tryz.prog Bs r [.int .i64 k, pcV ks k] h' (r :: (Lb 0).map (·.1)) (.bool (decide (k ≠ m))) ((r, .loop (if k = m then q' else q)) :: Lb (k + 1))) :
    Con Tryz.prog Bs 123 ([] ++ [.fn (.yield r) [] []] ++ [.ptr jc 0]) h (r :: (Lb 0).map (·.1)) (.tup []) ((r, .loop (if m + 1 < ks.length then q' else q)) :: Lb (if m + 1 < ks.length then m + 1 else ks.length - 1)) := by
  have key : ∃ v L, Con Tryz.prog Bs 123 ([] ++ [.fn (.yield r) [] []] ++ [.ptr jc 0]) h (r :: (Lb 0).map (·.1)) v L ∧ (v = .tup [] ∧ L = (r, .loop (if m + 1 < ks.length then q' else q)) :: Lb (if m + 1 < ks.length then m + 1 else ks.length - 1)) := by
    have hWW : ∀ i ∈ r :: (Lb 0).map (·.1), i < h.next := fun i hi => by
      obtain ⟨p, hp, rfl⟩ := List.mem_map.1 (show i ∈ ((r, AObj.loop q) :: Lb 0).map (·.1) from hi)
      exact (h0.own p hp).2.2.1
    have hR : Rd h jc 0 (.slice b off ks.length c) := ⟨hj, by simp [Heap.at1, hjc, nthN]⟩
    refine Con.startR rfl Tryz.func123 rfl rfl Tryz.ntmps123 rfl rfl h0 ?_
    (refine WK.seq ?_; refine WK.region ?_; refine St.assign ?_; refine WO.nil ?_; refine WK.block ?_)
    refine WK.inv (ι := Nat) (fun k => [(0, .fn (.yield r) [] []), (1, .ptr jc 0), (3, .int .i64 (k + 1 : Nat))]) (fun k => (r, .loop q) :: Lb k) (fun k => k ≤ m ∧ (k + 1 ≤ ks.length ∨ k = 0)) (fun k => ks.length - k) 0 ⟨by omega, by omega⟩ ⟨rfl, rfl, rfl, trivial⟩ (by (repeat (first | exact List.Sublist.refl _ | exact List.nil_sublist _ | apply List.Sublist.cons_cons | apply List.Sublist.cons))) ?_
    intro k ⟨hkm, hkl⟩ ih
    (refine WK.seq ?_; refine WK.seq ?_; refine WK.region ?_; refine St.move ?_; refine St.fieldAddr ?_)
    refine St.loadX (fun h hh => (hh.rd hjW hR).one rfl) ?_
    (refine St.len ?_; refine St.bin ?_; refine WO.nil ?_)
    refine St.splitC (fun hc => ?_) (fun hc => ?_)
    · have hk1 : k + 1 < ks.length := by simp at hc; omega
      (refine WK.skip ?_; refine WK.seq ?_; refine WK.block ?_; refine WK.seq ?_; refine WK.regionD ?_; refine St.move ?_; refine St.move ?_; refine St.binI ?_; refine St.fieldAddr ?_)
      refine St.loadX (fun h hh => (hh.rd hjW hR).one rfl) ?_
      (refine St.move ?_; refine St.binI ?_)
      refine St.at ?_
      skip
      refine St.loadX (fun h hh => ((hk.vwW hb hh).at_ (z := ((k + 1 : Nat) : Int) - 1) (n := k) (by omega) (by omega)).agg (by simp) rfl rfl rfl) ?_
      (refine St.fieldAddr ?_)
      refine St.loadX (fun h hh => (hh.rd hjW hR).one rfl) ?_
      (refine St.move ?_)
      refine St.at ?_
      skip
      refine St.loadX (fun h hh => ((hk.vwW hb hh).at_ (z := ((k + 1 : Nat) : Int)) (n := k + 1) (by omega) (by omega)).agg (by simp) rfl rfl rfl) ?_
      (refine St.build ?_)
      refine St.round (Lw := (r, .loop q) :: Lb k) (Lk := []) (R := fun v L' => v = .bool (decide (k ≠ m)) ∧ L' = (r, .loop (if k = m then q' else q)) :: Lb (k + 1)) (fun _ => rfl) (by simp) (fun h' hh => ⟨_, _, ?_, ?_, rfl, rfl⟩) ?_
      · rw [show ((k + 1 : Nat) : Int) - 1 = (k : Int) by omega, List.map_cons, hkeys k]
        exact hround k hk1 hkm h' hh
      · intro p hp
        have := List.mem_map_of_mem (f := (·.1)) hp
        rw [List.map_cons, hkeys] at this ⊢
        exact this
      rintro v L' ⟨rfl, rfl⟩
      (refine St.un ?_; refine WO.nil ?_)
      refine St.splitC (fun hc => ?_) (fun hc => ?_)
      · have hkm' : k = m := by simpa using hc
        subst hkm'
        skip
        refine St.ret (by first | exact .tmp .nil | exact .cell .nil | exact .cell (.tmp .nil) | exact .tmp (.tmp .nil) | exact .cell (.cell .nil) | exact .tmp (.cell .nil) | exact .nil | exact .tmp (.cell (.tmp .nil)) | exact .cell (.tmp (.tmp .nil)) | exact .cell (.cell (.tmp .nil)) | exact .tmp (.tmp (.tmp .nil)) | exact .cell (.cell (.cell .nil))) ?_
        simp [oneOf, hk1]
      · have hne : k ≠ m := by simpa using hc
        rw [if_neg hne, List.append_nil]
        (refine WK.skip ?_; refine WK.blk ?_; refine WK.region ?_; refine St.move ?_; refine St.binI ?_; refine St.assign ?_; refine WO.nil ?_)
        refine WK.le ?_ (by (repeat (first | exact List.Sublist.refl _ | exact List.nil_sublist _ | apply List.Sublist.cons_cons | apply List.Sublist.cons))) (ih (k + 1) ⟨by omega, by omega⟩ (by omega))
        exact ⟨rfl, rfl, rfl, trivial⟩
    · have hk1 : ¬ k + 1 < ks.length := by simp at hc; omega
      (refine WK.exit ?_)
      refine St.fin .nil ?_
      have : ¬ m + 1 < ks.length := by omega
      have e : ks.length - 1 = k := by omega
      simp [oneOf, this, e]
  obtain ⟨v, L, h1, rfl, rfl⟩ := key
  exact h1
/-- the same, where the round that says 'enough' returns -/
theorem yields_con2 (h : Heap) (r jc b off : Nat) (c : ACap) (ks : List (Int × Int)) (err : Int) (tm : T AV) (n : Nat) (ps : Array Tmp) (asg bd : Code) (dq : Nat) (Lb : Nat → Ob) (m : Nat) (hl : ks.length ≤ 1000000000000)
    (hjc : h.get jc = some (.cells [.slice b off ks.length c, .int .i64 err] 24)) (hj : jc < h.next) (hjW : jc ∉ r :: (Lb 0).map (·.1)) (hk : KnH h b off ks) (hb : b ∉ r :: (Lb 0).map (·.1)) (hkeys : ∀ k, (Lb k).map (·.1) = (Lb 0).map (·.1))
    (h0 : SS h (r :: (Lb 0).map (·.1)) ((r, .loop ⟨.ready, none, tm, n, ps, asg, bd, dq⟩) :: Lb 0) h)
    (hround : ∀ k, k + 1 < ks.length → k ≤ m → ∀ h', SS h (r :: (Lb 0).map (·.1)) ((r, .loop ⟨.ready, none, tm, n, ps, asg, bd, dq⟩) :: Lb k) h' → ConR Tryz.prog Bs r [.int .i64 k, pcV ks k] h' (r :: (Lb 0).map (·.1)) (.bool (decide (k ≠ m))) ((r, .loop (if k = m then ⟨.done, some .ret, tm, n, ps, asg, bd, dq⟩ else ⟨.ready, none, tm, n, ps, asg, bd, dq⟩)) :: Lb (k + 1))) :
    Con Tryz.prog Bs 123 ([] ++ [.fn (.yield r) [] []] ++ [.ptr jc 0]) h (r :: (Lb 0).map (·.1)) (.tup []) ((r, .loop ⟨if m + 1 < ks.length then .done else .ready, if m + 1 < ks.length then some .ret else none, tm, n, ps, asg, bd, dq⟩) :: Lb (if m + 1 < ks.length then m + 1 else ks.length - 1)) := by
  have := yields_con h r jc b off c ks err _ _ Lb m hl hjc hj hjW hk hb hkeys h0 hround
  by_cases hm : m + 1 < ks.length
  · simpa only [if_pos hm] using this
  · simpa only [if_neg hm] using this

set_option maxRecDepth 100000 in
set_option maxHeartbeats 4000000 in
/-- the iterator hands on all pieces in order; the rounds may make memory -/
theorem yields_rel (h : Heap) (r jc b off : Nat) (c : ACap) (ks : List (Int × Int)) (err : Int) (q : ALoop) (L0 : Ob) (I : Nat → Ob → Prop) (hl : ks.length ≤ 1000000000000)
    (hjc : h.get jc = some (.cells [.slice b off ks.length c, .int .i64 err] 24)) (hj : jc < h.next) (hjW : jc ∉ r :: L0.map (·.1)) (hk : KnH h b off ks) (hb : b ∉ r :: L0.map (·.1))
    (h0 : SS h (r :: L0.map (·.1)) ((r, .loop q) :: L0) h) (hI : I 0 L0)
    (hround : ∀ k Lk, I k Lk → k + 1 < ks.length → ∀ h', SS h (r :: L0.map (·.1)) ((r, .loop q) :: Lk) h' → ∃ Lk', I (k + 1) Lk' ∧ ConR Tryz.prog Bs r [.int .i64 k, pcV ks k] h' (((r, AObj.loop q) :: Lk).map (·.1)) (.bool true) ((r, .loop q) :: Lk')) :
    ∃ Ln, I (ks.length - 1) Ln ∧ Con Tryz.prog Bs 123 ([] ++ [.fn (.yield r) [] []] ++ [.ptr jc 0]) h (r :: L0.map (·.1)) (.tup []) ((r, .loop q) :: Ln) := by
  have key : ∃ v L, Con Tryz.prog Bs 123 ([] ++ [.fn (.yield r) [] []] ++ [.ptr jc 0]) h (r :: L0.map (·.1)) v L ∧ (v = .tup [] ∧ ∃ Ln, I (ks.length - 1) Ln ∧ L = (r, .loop q) :: Ln) := by
    have hWW : ∀ i ∈ r :: L0.map (·.1), i < h.next := fun i hi => by
      obtain ⟨p, hp, rfl⟩ := List.mem_map.1 (show i ∈ ((r, AObj.loop q) :: L0).map (·.1) from hi)
      exact (h0.own p hp).2.2.1
    have hR : Rd h jc 0 (.slice b off ks.length c) := ⟨hj, by simp [Heap.at1, hjc, nthN]⟩
    refine Con.startR rfl Tryz.func123 rfl rfl Tryz.ntmps123 rfl rfl h0 ?_
    (refine WK.seq ?_; refine WK.region ?_; refine St.assign ?_; refine WO.nil ?_; refine WK.block ?_)
    refine WK.inv (ι := Nat × Ob) (fun z => [(0, .fn (.yield r) [] []), (1, .ptr jc 0), (3, .int .i64 (z.1 + 1 : Nat))]) (fun z => (r, .loop q) :: z.2) (fun z => I z.1 z.2 ∧ (z.1 + 1 ≤ ks.length ∨ z.1 = 0)) (fun z => ks.length - z.1) (0, L0) ⟨hI, .inr rfl⟩ ⟨rfl, rfl, rfl, trivial⟩ (by (repeat (first | exact List.Sublist.refl _ | exact List.nil_sublist _ | apply List.Sublist.cons_cons | apply List.Sublist.cons))) ?_
    rintro ⟨k, Lk⟩ ⟨hIk, hkl⟩ ih
    simp only at hIk hkl ih ⊢
    (refine WK.seq ?_; refine WK.seq ?_; refine WK.region ?_; refine St.move ?_; refine St.fieldAddr ?_)
    refine St.loadX (fun h hh => (hh.rd hjW hR).one rfl) ?_
    (refine St.len ?_; refine St.bin ?_; refine WO.nil ?_)
    refine St.splitC (fun hc => ?_) (fun hc => ?_)
    · have hk1 : k + 1 < ks.length := by simp at hc; omega
      (refine WK.skip ?_; refine WK.seq ?_; refine WK.block ?_; refine WK.seq ?_; refine WK.regionD ?_; refine St.move ?_; refine St.move ?_; refine St.binI ?_; refine St.fieldAddr ?_)
      refine St.loadX (fun h hh => (hh.rd hjW hR).one rfl) ?_
      (refine St.move ?_; refine St.binI ?_)
      refine St.at ?_
      skip
      refine St.loadX (fun h hh => ((hk.vwW hb hh).at_ (z := ((k + 1 : Nat) : Int) - 1) (n := k) (by omega) (by omega)).agg (by simp) rfl rfl rfl) ?_
      (refine St.fieldAddr ?_)
      refine St.loadX (fun h hh => (hh.rd hjW hR).one rfl) ?_
      (refine St.move ?_)
      refine St.at ?_
      skip
      refine St.loadX (fun h hh => ((hk.vwW hb hh).at_ (z := ((k + 1 : Nat) : Int)) (n := k + 1) (by omega) (by omega)).agg (by simp) rfl rfl rfl) ?_
      (refine St.build ?_)
      refine StD.round (Lw := (r, .loop q) :: Lk) (Lk := []) (R := fun v L' => v = .bool true ∧ ∃ Lk', I (k + 1) Lk' ∧ L' = (r, .loop q) :: Lk') (fun _ => rfl) (by simp) (fun h' hh => ?_) ?_
      · obtain ⟨Lk', q1, q2⟩ := hround k Lk hIk hk1 h' hh
        rw [show ((k + 1 : Nat) : Int) - 1 = (k : Int) by omega]
        exact ⟨_, _, q2, rfl, Lk', q1, rfl⟩
      rintro v L' ⟨rfl, Lk', hI', rfl⟩ L1 L2 hp
      (refine St.un ?_)
      refine WO.nilG ?_
      refine WK.perm (L' := (r, .loop q) :: Lk') (by simpa [Function.comp_def] using hp.symm) ?_
      (refine WK.condF ?_; refine WK.skip ?_; refine WK.blk ?_; refine WK.region ?_; refine St.move ?_; refine St.binI ?_; refine St.assign ?_; refine WO.nil ?_)
      refine WK.le ?_ (by (repeat (first | exact List.Sublist.refl _ | exact List.nil_sublist _ | apply List.Sublist.cons_cons | apply List.Sublist.cons))) (ih (k + 1, Lk') ⟨hI', by simp only; omega⟩ (by simp only; omega))
      exact ⟨rfl, rfl, rfl, trivial⟩
    · have hk1 : ¬ k + 1 < ks.length := by simp at hc; omega
      (refine WK.exit ?_)
      refine St.fin .nil ?_
      have e : ks.length - 1 = k := by omega
      exact ⟨rfl, Lk, by rw [e]; exact hIk, rfl⟩
  obtain ⟨v, L, h1, rfl, Ln, h2, rfl⟩ := key
  exact ⟨Ln, h2, h1⟩
end Go.Proofs.YtbhklifflhoinaaGreat
