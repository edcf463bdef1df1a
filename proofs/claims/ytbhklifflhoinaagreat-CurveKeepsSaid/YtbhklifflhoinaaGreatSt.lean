/- The stretches of two curves over the calculator's memory. -/
import Derived.Test.YtbhklifflhoinaaGreatCg
import Derived.Test.YtbhklifflhoinaaGreatOv
import Derived.Test.YtbhklifflhoinaaGreatSo
namespace Go.Proofs.YtbhklifflhoinaaGreat
open Go.Proofs.YtbhklifflhoinaaGreat.Ev

/-- stretch k of two curves, as the program has it -/
def stCells (ka kb : List (Int × Int)) (k : Nat) : List AV := [.int .i64 (stFrom ka kb k), .int .i64 (stTo ka kb k), .int .i64 (lnOf ka (stFrom ka kb k) (stTo ka kb k)).x0, .int .i64 (lnOf ka (stFrom ka kb k) (stTo ka kb k)).y0, .int .i64 (lnOf ka (stFrom ka kb k) (stTo ka kb k)).ri, .int .i64 (lnOf ka (stFrom ka kb k) (stTo ka kb k)).ru, .int .i64 (lnOf kb (stFrom ka kb k) (stTo ka kb k)).x0, .int .i64 (lnOf kb (stFrom ka kb k) (stTo ka kb k)).y0, .int .i64 (lnOf kb (stFrom ka kb k) (stTo ka kb k)).ri, .int .i64 (lnOf kb (stFrom ka kb k) (stTo ka kb k)).ru]
set_option maxRecDepth 100000 in
set_option maxHeartbeats 4000000 in
theorem stretches_con (h : Heap) (g : Gd h) (c e c2 e2 : AV) : ∃ v L, Con Tryz.prog Bs 61 [.agg [c, e], .agg [c2, e2]] h [] v L ∧ ∃ ja jb, v = .fn (.func 102) [] [.ptr ja 0, .ptr jb 0] ∧ L = [(jb, .cells [c2, e2] 24), (ja, .cells [c, e] 24)] := by
  refine Con.startR rfl Tryz.func61 rfl rfl Tryz.ntmps61 rfl rfl (SS.init g) ?_
  (refine WK.seq ?_; refine WK.region ?_; refine St.box fun _ _ => ?_; refine St.box fun _ _ => ?_; refine St.assign ?_; refine WO.nil ?_; refine WK.seq ?_; refine WK.region ?_; refine St.fn ?_; refine St.assign ?_; refine WO.nil ?_)
  refine St.ret (by first | exact .tmp .nil | exact .cell .nil | exact .cell (.tmp .nil) | exact .tmp (.tmp .nil) | exact .cell (.cell .nil) | exact .tmp (.cell .nil) | exact .nil | exact .tmp (.cell (.tmp .nil)) | exact .cell (.tmp (.tmp .nil)) | exact .cell (.cell (.tmp .nil)) | exact .tmp (.tmp (.tmp .nil)) | exact .cell (.cell (.cell .nil))) ?_
  exact ⟨_, _, rfl, rfl⟩

set_option maxRecDepth 100000 in
set_option maxHeartbeats 8000000 in
/-- the iterator hands on the stretches in order, until a round says that it is enough -/
theorem stretchY (h : Heap) (r ja jb b off b2 off2 : Nat) (c c2 : ACap) (ka kb : List (Int × Int)) (ea eb : Int) (q q' : ALoop) (L0 : Ob) (I : Nat → Ob → Prop) (J : Ob → Prop) (va : Vd ka ea) (vb : Vd kb eb)
    (hja : Rds h ja 0 [.slice b off ka.length c, .int .i64 ea]) (hjb : Rds h jb 0 [.slice b2 off2 kb.length c2, .int .i64 eb]) (hjaW : ja ∉ r :: L0.map (·.1)) (hjbW : jb ∉ r :: L0.map (·.1))
    (hk1 : KnH h b off ka) (hb1 : b ∉ r :: L0.map (·.1)) (hk2 : KnH h b2 off2 kb) (hb2 : b2 ∉ r :: L0.map (·.1))
    (h0 : SS h (r :: L0.map (·.1)) ((r, .loop q) :: L0) h) (hI : I 0 L0)
    (hround : ∀ k Lk, I k Lk → k < stN2 ka kb → ∀ h', SS h (r :: L0.map (·.1)) ((r, .loop q) :: Lk) h' → (∃ Lk', I (k + 1) Lk' ∧ ConR Tryz.prog Bs r [.agg (stCells ka kb k)] h' (((r, AObj.loop q) :: Lk).map (·.1)) (.bool true) ((r, .loop q) :: Lk')) ∨ (∃ Lk', J Lk' ∧ ConR Tryz.prog Bs r [.agg (stCells ka kb k)] h' (((r, AObj.loop q) :: Lk).map (·.1)) (.bool false) ((r, .loop q') :: Lk'))) :
    (∃ Ln, I (stN2 ka kb) Ln ∧ Con Tryz.prog Bs 102 ([] ++ [.fn (.yield r) [] []] ++ [.ptr ja 0, .ptr jb 0]) h (r :: L0.map (·.1)) (.tup []) ((r, .loop q) :: Ln)) ∨ (∃ Ln, J Ln ∧ Con Tryz.prog Bs 102 ([] ++ [.fn (.yield r) [] []] ++ [.ptr ja 0, .ptr jb 0]) h (r :: L0.map (·.1)) (.tup []) ((r, .loop q') :: Ln)) := by
  have key : ∃ v L, Con Tryz.prog Bs 102 ([] ++ [.fn (.yield r) [] []] ++ [.ptr ja 0, .ptr jb 0]) h (r :: L0.map (·.1)) v L ∧ (v = .tup [] ∧ ((∃ Ln, I (stN2 ka kb) Ln ∧ L = (r, .loop q) :: Ln) ∨ (∃ Ln, J Ln ∧ L = (r, .loop q') :: Ln))) := by
    have hWW : ∀ i ∈ r :: L0.map (·.1), i < h.next := fun i hi => by
      obtain ⟨p, hp, rfl⟩ := List.mem_map.1 (show i ∈ ((r, AObj.loop q) :: L0).map (·.1) from hi)
      exact (h0.own p hp).2.2.1
    have hl1 : ka.length ≤ 40 := va.le
    have hl2 : kb.length ≤ 40 := vb.le
    have hLa : ∀ (h2 : Heap) {V : Ob}, Vw h (r :: L0.map (·.1)) V h2 → evLoad Tryz.prog h2 24 ja 0 = some (.agg [.slice b off ka.length c, .int .i64 ea]) := fun h2 V hh => (hh.rds hjaW hja).agg (by simp) rfl rfl rfl
    have hLb : ∀ (h2 : Heap) {V : Ob}, Vw h (r :: L0.map (·.1)) V h2 → evLoad Tryz.prog h2 24 jb 0 = some (.agg [.slice b2 off2 kb.length c2, .int .i64 eb]) := fun h2 V hh => (hh.rds hjbW hjb).agg (by simp) rfl rfl rfl
    have hDa : ∀ (h2 : Heap) {V : Ob}, Vw h (r :: L0.map (·.1)) V h2 → Con Tryz.prog Bs 70 [.agg [.slice b off ka.length c, .int .i64 ea]] h2 [] (.agg [.int .i64 (dLo ka), .int .i64 (dHi ka)]) [] := fun h2 V hh => domain_con h2 hh.gd b off c ka ea (hk1.vwW hb1 hh) va.ne (by omega)
    have hDb : ∀ (h2 : Heap) {V : Ob}, Vw h (r :: L0.map (·.1)) V h2 → Con Tryz.prog Bs 70 [.agg [.slice b2 off2 kb.length c2, .int .i64 eb]] h2 [] (.agg [.int .i64 (dLo kb), .int .i64 (dHi kb)]) [] := fun h2 V hh => domain_con h2 hh.gd b2 off2 c2 kb eb (hk2.vwW hb2 hh) vb.ne (by omega)
    refine Con.startR rfl Tryz.func102 rfl rfl Tryz.ntmps102 rfl rfl h0 ?_
    (refine WK.seq ?_; refine WK.regionD ?_)
    refine St.loadX (fun h hh => hLa h hh) ?_
    skip
    refine St.call (fun _ => rfl) (fun h hh => hDa h hh) ?_
    (refine St.field ?_)
    refine St.loadX (fun h hh => hLb h hh) ?_
    skip
    refine St.call (fun _ => rfl) (fun h hh => hDb h hh) ?_
    (refine St.field ?_; refine St.maxI ?_)
    refine St.loadX (fun h hh => hLa h hh) ?_
    skip
    refine St.call (fun _ => rfl) (fun h hh => hDa h hh) ?_
    (refine St.field ?_)
    refine St.loadX (fun h hh => hLb h hh) ?_
    skip
    refine St.call (fun _ => rfl) (fun h hh => hDb h hh) ?_
    (refine St.field ?_; refine St.minI ?_; refine St.build ?_; refine StD.alloc fun _ _ => ?_; refine StD.storeT ?_; refine WO.nil1 ?_; refine WK.seq ?_; refine WK.seq ?_; refine WK.region ?_; refine St.load ?_)
    rename_i p hp
    refine St.call (fun _ => rfl) (fun h hh => isSpan_con h hh.gd (shLo ka kb) (shHi ka kb)) ?_
    (refine St.un ?_; refine WO.nil ?_)
    refine St.splitC (fun hc => ?_) (fun hc => ?_)
    · have hlt : shHi ka kb < shLo ka kb := by simp at hc; exact hc
      skip
      refine WK.le (s' := []) (L' := (r, .loop q) :: L0) trivial (by (repeat (first | exact List.Sublist.refl _ | exact List.nil_sublist _ | apply List.Sublist.cons_cons | apply List.Sublist.cons))) ?_
      refine St.ret (by first | exact .tmp .nil | exact .cell .nil | exact .cell (.tmp .nil) | exact .tmp (.tmp .nil) | exact .cell (.cell .nil) | exact .tmp (.cell .nil) | exact .nil | exact .tmp (.cell (.tmp .nil)) | exact .cell (.tmp (.tmp .nil)) | exact .cell (.cell (.tmp .nil)) | exact .tmp (.tmp (.tmp .nil)) | exact .cell (.cell (.cell .nil))) ?_
      refine ⟨rfl, .inl ⟨L0, ?_, rfl⟩⟩
      unfold stN2
      rw [if_pos hlt]
      exact hI
    have hlt : ¬ shHi ka kb < shLo ka kb := by simp at hc; omega
    have hN : stN2 ka kb = (cor2 ka kb).length := by unfold stN2; rw [if_neg hlt]
    have hcl : (cor2 ka kb).length ≤ 2 + 40 * 2 := cornX_le2 (l := [⟨none, 0, ka, 0⟩, ⟨none, 0, kb, 0⟩]) (two_all (p := fun c : Cur => c.ks.length ≤ 40) hl1 hl2)
    have hX : cornX (shLo ka kb) (shHi ka kb) ([(⟨.slice b off ka.length c, ka, ea⟩ : Cv), ⟨.slice b2 off2 kb.length c2, kb, eb⟩].map Cv.c) = cor2 ka kb := cornX_ks rfl
    (refine WK.skip ?_; refine WK.seq ?_; refine WK.region ?_; refine St.fieldAddr ?_; refine St.load ?_; refine St.assign ?_; refine WO.nil ?_; refine WK.seq ?_; refine WK.region ?_; refine St.load ?_)
    refine St.loadX (fun h hh => hLa h hh) ?_
    skip
    refine St.loadX (fun h hh => hLb h hh) ?_
    (refine St.mkS fun _ _ => ?_)
    rename_i i2 hi2
    refine St.callR (R := fun v L => ∃ i m o, v = .slice i 0 (cor2 ka kb).length m ∧ L = [(i, o)] ∧ o.has ((cor2 ka kb).map (AV.int .i64))) (fun _ => rfl) (fun h hh => ?_) ?_
    · have := corners_con h hh.gd i2 0 (.k 2) [⟨.slice b off ka.length c, ka, ea⟩, ⟨.slice b2 off2 kb.length c2, kb, eb⟩] (shLo ka kb) (shHi ka kb) (by simp) (hh.cv2 (List.Mem.head _) rfl ((hk1.vwW hb1 hh).v va.pos) ((hk2.vwW hb2 hh).v vb.pos) (by omega) (by omega)) (two_vd va vb)
      rw [hX] at this
      exact this
    rintro w L' ⟨i, m, o, rfl, rfl, ho⟩
    (refine St.len ?_; refine St.move ?_; refine WO.nil ?_; refine WK.block ?_)
    refine WK.inv (ι := Nat × Ob) (fun z => [(0, .fn (.yield r) [] []), (1, .ptr ja 0), (2, .ptr jb 0), (5, .int .i64 (stFrom ka kb z.1)), (33, .slice i 0 (cor2 ka kb).length m), (34, .int .i64 (cor2 ka kb).length), (35, .int .i64 z.1)]) (fun z => (i, o) :: (r, .loop q) :: z.2) (fun z => I z.1 z.2 ∧ z.1 ≤ (cor2 ka kb).length) (fun z => (cor2 ka kb).length - z.1) (0, L0) ⟨hI, by omega⟩ ⟨rfl, rfl, rfl, rfl, rfl, rfl, rfl, trivial⟩ (by (repeat (first | exact List.Sublist.refl _ | exact List.nil_sublist _ | apply List.Sublist.cons_cons | apply List.Sublist.cons))) ?_
    rintro ⟨k, Lk⟩ ⟨hIk, hkl⟩ ih
    simp only at hIk hkl ih ⊢
    (refine WK.seq ?_; refine WK.region ?_; refine St.bin ?_; refine WO.nil ?_; refine WK.seq ?_)
    refine St.splitC (fun hc => ?_) (fun hc => ?_)
    · have hk : k < (cor2 ka kb).length := by simp at hc; omega
      have st := st_is (ka := ka) (kb := kb) (k := k) (by omega)
      (refine WK.skip ?_; refine WK.seq ?_; refine WK.block ?_; refine WK.seq ?_; refine WK.region ?_)
      refine St.at ?_
      refine St.loadX (v := .int .i64 (stTo ka kb k)) (fun h hh => ((hh.ins (j := i) (o := o) (by simp) ho).at_ (z := (k : Int)) (n := k) (by omega) hk).one rfl) ?_
      (refine St.assign ?_; refine WO.nil ?_; refine WK.seq ?_; refine WK.region ?_; refine St.move ?_; refine St.move ?_; refine St.build ?_; refine St.alloc fun _ _ => ?_; refine St.store0 ?_; refine WO.nil ?_; refine WK.seq ?_; refine WK.seq ?_; refine WK.regionD ?_; refine St.move ?_; refine St.load ?_)
      rename_i p8 hp8
      refine St.loadX (fun h hh => hLa h hh) ?_
      (refine St.load ?_)
      refine St.call (fun _ => rfl) (fun h hh => lineOver_con h hh.gd b off c ka ea (stFrom ka kb k) (stTo ka kb k) va (hk1.vwW hb1 hh)) ?_
      skip
      refine St.loadX (fun h hh => hLb h hh) ?_
      (refine St.load ?_)
      refine St.call (fun _ => rfl) (fun h hh => lineOver_con h hh.gd b2 off2 c2 kb eb (stFrom ka kb k) (stTo ka kb k) vb (hk2.vwW hb2 hh)) ?_
      (refine St.build ?_)
      refine StD.round (Lw := (r, .loop q) :: Lk) (Lk := [(p8, .cells [.int .i64 (stFrom ka kb k), .int .i64 (stTo ka kb k)] 27), (i, o)]) (R := fun v L' => (v = .bool true ∧ ∃ Lk', I (k + 1) Lk' ∧ L' = (r, .loop q) :: Lk') ∨ (v = .bool false ∧ ∃ Lk', J Lk' ∧ L' = (r, .loop q') :: Lk')) (fun _ => rfl) List.perm_append_comm (fun h' hh => ?_) ?_
      · rcases hround k Lk hIk (by omega) h' (hh.sub (L' := (r, .loop q) :: Lk) (by (repeat (first | exact List.Sublist.refl _ | exact List.nil_sublist _ | apply List.Sublist.cons_cons | apply List.Sublist.cons)))) with ⟨Lk', q1, q2⟩ | ⟨Lk', q1, q2⟩
        · exact ⟨_, _, q2, .inl ⟨rfl, Lk', q1, rfl⟩⟩
        · exact ⟨_, _, q2, .inr ⟨rfl, Lk', q1, rfl⟩⟩
      rintro v L' (⟨rfl, Lk', hI', rfl⟩ | ⟨rfl, Lk', hJ, rfl⟩) L1 L2 hp
      · (refine St.un ?_)
        refine WO.nilG ?_
        refine WK.perm (L' := [(p8, .cells [.int .i64 (stFrom ka kb k), .int .i64 (stTo ka kb k)] 27), (i, o)] ++ (r, .loop q) :: Lk') ?_ ?_
        · refine List.perm_append_comm.trans ?_
          have := hp.symm.append_right [(p8, AObj.cells [.int .i64 (stFrom ka kb k), .int .i64 (stTo ka kb k)] 27), (i, o)]
          rw [List.append_assoc] at this
          simpa [Function.comp_def] using this
        obtain ⟨s1, s2, s3, _⟩ := st
        have z1 : -2000000 ≤ stTo ka kb k ∧ stTo ka kb k ≤ 2000000 := by
          have := (va.dom (lo := stFrom ka kb k) (hi := stTo ka kb k) (by assumption))
          omega
        (refine WK.condF ?_; refine WK.skip ?_; refine WK.region ?_; refine St.move ?_; refine St.binI ?_; refine St.assign ?_; refine WO.nil ?_; refine WK.blk ?_; refine WK.region ?_; refine St.binI ?_; refine St.move ?_; refine WO.nil ?_)
        refine WK.le ?_ (by (repeat (first | exact List.Sublist.refl _ | exact List.nil_sublist _ | apply List.Sublist.cons_cons | apply List.Sublist.cons))) (ih (k + 1, Lk') ⟨hI', by simp only; omega⟩ (by simp only; omega))
        exact ⟨rfl, rfl, rfl, congrArg (fun z => some (AV.int .i64 z)) (stFrom_succ ka kb k).symm, rfl, rfl, rfl, trivial⟩
      · (refine St.un ?_)
        refine WO.nilG ?_
        refine WK.perm (L' := [(p8, .cells [.int .i64 (stFrom ka kb k), .int .i64 (stTo ka kb k)] 27), (i, o)] ++ (r, .loop q') :: Lk') ?_ ?_
        · refine List.perm_append_comm.trans ?_
          have := hp.symm.append_right [(p8, AObj.cells [.int .i64 (stFrom ka kb k), .int .i64 (stTo ka kb k)] 27), (i, o)]
          rw [List.append_assoc] at this
          simpa [Function.comp_def] using this
        (refine WK.condT ?_)
        refine WK.le (s' := []) (L' := (r, .loop q') :: Lk') trivial (by (repeat (first | exact List.Sublist.refl _ | exact List.nil_sublist _ | apply List.Sublist.cons_cons | apply List.Sublist.cons))) ?_
        refine St.ret (by first | exact .tmp .nil | exact .cell .nil | exact .cell (.tmp .nil) | exact .tmp (.tmp .nil) | exact .cell (.cell .nil) | exact .tmp (.cell .nil) | exact .nil | exact .tmp (.cell (.tmp .nil)) | exact .cell (.tmp (.tmp .nil)) | exact .cell (.cell (.tmp .nil)) | exact .tmp (.tmp (.tmp .nil)) | exact .cell (.cell (.cell .nil))) ?_
        exact ⟨rfl, .inr ⟨Lk', hJ, rfl⟩⟩
    · have hk : k = stN2 ka kb := by simp at hc; omega
      subst hk
      (refine WK.exit ?_)
      refine WK.le (s' := []) (L' := (r, .loop q) :: Lk) trivial (by (repeat (first | exact List.Sublist.refl _ | exact List.nil_sublist _ | apply List.Sublist.cons_cons | apply List.Sublist.cons))) ?_
      refine St.fin .nil ?_
      exact ⟨rfl, .inl ⟨Lk, hIk, rfl⟩⟩
  obtain ⟨v, L, h1, rfl, ⟨Ln, h2, rfl⟩ | ⟨Ln, h2, rfl⟩⟩ := key
  · exact .inl ⟨Ln, h2, h1⟩
  · exact .inr ⟨Ln, h2, h1⟩
end Go.Proofs.YtbhklifflhoinaaGreat
