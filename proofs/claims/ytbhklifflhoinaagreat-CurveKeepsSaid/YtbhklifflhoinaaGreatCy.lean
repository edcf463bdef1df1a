/- Cross over the calculator's memory: the program's. -/
import Derived.Test.YtbhklifflhoinaaGreatCx
import Derived.Test.YtbhklifflhoinaaGreatFo
namespace Go.Proofs.YtbhklifflhoinaaGreat
open Go.Proofs.YtbhklifflhoinaaGreat.Ev

/-- what Cross returns -/
def crossL (ka kb : List (Int × Int)) : List (Int × Int) := crTo (sgX ka kb) (shLo ka kb) (shHi ka kb + 1 - shLo ka kb).toNat
theorem st_n {ka kb : List (Int × Int)} : (stFrom ka kb (stN2 ka kb) - shLo ka kb).toNat = (shHi ka kb + 1 - shLo ka kb).toNat := by
  rw [st_end]
  split <;> omega
/-- v is a list of spans, Lv what is held of it -/
def IsSp (l : List (Int × Int)) (v : AV) (Lv : Ob) : Prop := IsL 27 2 l.length (flatA l) v Lv
def CrOut (ka : List (Int × Int)) (ea : Int) (kb : List (Int × Int)) (eb : Int) (v : AV) (L : Ob) : Prop := ∃ w, IsSp (if chk2 ka ea kb eb = 0 then crossL ka kb else []) w L ∧ v = .tup [w, .int .i64 (chk2 ka ea kb eb)]
set_option maxRecDepth 100000 in
set_option maxHeartbeats 16000000 in
theorem crossP_con (h : Heap) (g : Gd h) (kva kvb : AV) (ka kb : List (Int × Int)) (ea eb : Int) (hka : KnV h kva ka) (hkb : KnV h kvb kb) (hla : ka.length ≤ 1000000) (hlb : kb.length ≤ 1000000) :
    ∃ v L, Con Tryz.prog Bs 17 [.agg [kva, .int .i64 ea], .agg [kvb, .int .i64 eb]] h [] v L ∧ CrOut ka ea kb eb v L := by
  have hC : ∀ (h2 : Heap) {V : Ob} (j : Nat) (l : List AV) (ty : TypeId), Vw h [] V h2 → (j, .cells l ty) ∈ V → l = [kva, .int .i64 ea, kvb, .int .i64 eb] → Con Tryz.prog Bs 53 [.slice j 0 2 (.k 2)] h2 [] (.int .i64 (chk2 ka ea kb eb)) [] := fun h2 V j l ty hh hm e => by
    have := checkL_con h2 hh.gd j 0 (.k 2) [⟨kva, ka, ea⟩, ⟨kvb, kb, eb⟩] (by simp) (hh.cv2 hm e (hka.vw hh) (hkb.vw hh) (by omega) (by omega))
    rw [← chk2_eq]
    exact this
  by_cases e0 : chk2 ka ea kb eb = 0
  rotate_left
  · refine Con.startR rfl Tryz.func17 rfl rfl Tryz.ntmps17 rfl rfl (SS.init g) ?_
    (refine WK.seq ?_; refine WK.region ?_; refine St.box fun _ _ => ?_; refine St.box fun _ _ => ?_; refine St.assign ?_; refine St.assign ?_; refine WO.nil ?_; refine WK.seq ?_; refine WK.seq ?_; refine WK.region ?_; refine St.load ?_; refine St.load ?_; refine St.mkS fun _ _ => ?_)
    refine St.call (fun _ => rfl) (fun h2 hh => hC h2 _ _ _ hh (List.Mem.head _) rfl) ?_
    (refine St.assign ?_; refine WO.nil ?_; refine WK.seq ?_; refine WK.region ?_; refine St.move ?_; refine St.bin ?_; refine WO.nil ?_)
    refine St.splitC (fun hc => ?_) (fun hc => ?_)
    · (refine WK.seq ?_; refine WK.region ?_; refine St.move ?_; refine St.assign ?_; refine St.assign ?_; refine WO.nil ?_)
      refine WK.le (s' := [(4, .slice0), (5, .int .i64 (chk2 ka ea kb eb))]) (L' := []) ⟨rfl, rfl, trivial⟩ (by (repeat (first | exact List.Sublist.refl _ | exact List.nil_sublist _ | apply List.Sublist.cons_cons | apply List.Sublist.cons))) ?_
      refine St.ret (by first | exact .tmp .nil | exact .cell .nil | exact .cell (.tmp .nil) | exact .tmp (.tmp .nil) | exact .cell (.cell .nil) | exact .tmp (.cell .nil) | exact .nil | exact .tmp (.cell (.tmp .nil)) | exact .cell (.tmp (.tmp .nil)) | exact .cell (.cell (.tmp .nil)) | exact .tmp (.tmp (.tmp .nil)) | exact .cell (.cell (.cell .nil))) ?_
      unfold CrOut
      rw [if_neg e0]
      exact ⟨_, .nil rfl rfl, rfl⟩
    · simp at hc; exact absurd hc e0
  obtain ⟨h1, h2⟩ := chk2_zero e0
  have va := vd_of_chk h1
  have vb := vd_of_chk h2
  obtain ⟨b, off, c, rfl, hk1⟩ := hka.ne va.ne
  obtain ⟨b2, off2, c2, rfl, hk2⟩ := hkb.ne vb.ne
  have hb1 := (hk1.x va.pos).lt
  have hb2 := (hk2.x vb.pos).lt
  rw [e0] at hC
  refine Con.startR rfl Tryz.func17 rfl rfl Tryz.ntmps17 rfl rfl (SS.init g) ?_
  (refine WK.seq ?_; refine WK.region ?_; refine St.box fun _ _ => ?_; refine St.box fun _ _ => ?_; refine St.assign ?_; refine St.assign ?_; refine WO.nil ?_; refine WK.seq ?_; refine WK.seq ?_; refine WK.region ?_; refine St.load ?_; refine St.load ?_; refine St.mkS fun _ _ => ?_)
  refine St.call (fun _ => rfl) (fun h2 hh => hC h2 _ _ _ hh (List.Mem.head _) rfl) ?_
  (refine St.assign ?_; refine WO.nil ?_; refine WK.seq ?_; refine WK.region ?_; refine St.move ?_; refine St.bin ?_; refine WO.nil ?_; refine WK.condF ?_; refine WK.skip ?_; refine WK.seq ?_; refine WK.region ?_; refine St.alloc fun _ _ => ?_; refine WO.nil ?_; refine WK.seq ?_; refine WK.region ?_; refine St.alloc fun _ _ => ?_; refine St.store0 ?_; refine WO.nil ?_; refine WK.seq ?_; refine WK.seq ?_; refine WK.region ?_; refine St.load ?_; refine St.load ?_)
  rename_i p2 hp2 p3 hp3 i1 hi1 u7 hu7 u8 hu8
  refine St.callR (fun _ => rfl) (fun h2 hh => stretches_con h2 hh.gd _ _ _ _) ?_
  rintro w L' ⟨ja, jb, rfl, rfl⟩
  (refine WO.nil ?_; refine WK.block ?_)
  refine WK.le (s' := [(7, .ptr u7 0), (8, .ptr u8 0), (21, .fn (.func 102) [] [.ptr ja 0, .ptr jb 0])]) (L' := [(jb, .cells [.slice b2 off2 kb.length c2, .int .i64 eb] 24), (ja, .cells [.slice b off ka.length c, .int .i64 ea] 24), (u8, .cells [.int .i64 0] 3), (u7, .cells [.slice0] 48)]) ⟨rfl, rfl, rfl, trivial⟩ (by (repeat (first | exact List.Sublist.refl _ | exact List.nil_sublist _ | apply List.Sublist.cons_cons | apply List.Sublist.cons))) ?_
  refine WK.rangeQ (Lw := [(u8, .cells [.int .i64 0] 3), (u7, .cells [.slice0] 48)]) (Lk := [(jb, .cells [.slice b2 off2 kb.length c2, .int .i64 eb] 24), (ja, .cells [.slice b off ka.length c, .int .i64 ea] 24)])
    (R := fun L' => ∃ w Lv, IsSp (crossL ka kb) w Lv ∧ ∃ z, L' = (u8, .cells [z] 3) :: (u7, .cells [w] 48) :: Lv)
    rfl List.perm_append_comm ?_ ?_
  · intro dq r lq h' hq' hs
    have hne : ja ∉ r :: [u8, u7] ∧ jb ∉ r :: [u8, u7] ∧ h.next ≤ r := by
      have h1 := hs.nodup
      simp at h1
      have h2 := (hs.own _ List.mem_cons_self).2.2.2
      simp at h2
      simp
      grind
    have hold : ∀ x ∈ r :: [u8, u7], h.next ≤ x := by
      intro x hx
      simp only [List.mem_cons, List.not_mem_nil, or_false] at hx
      rcases hx with rfl | rfl | rfl
      · exact hne.2.2
      · assumption
      · assumption
    have hY := stretchY h' r ja jb b off b2 off2 c c2 ka kb ea eb lq lq [(u8, .cells [.int .i64 0] 3), (u7, .cells [.slice0] 48)] (fun k Lk => CrMem ka kb u8 u7 (stFrom ka kb k - shLo ka kb).toNat Lk) (fun _ => False) va vb
      (hs.vw.rdsO (l := [.slice b off ka.length c, .int .i64 ea]) (t := 24) (by simp) rfl) (hs.vw.rdsO (l := [.slice b2 off2 kb.length c2, .int .i64 eb]) (t := 24) (by simp) rfl) hne.1 hne.2.1
      (fun i hi => hs.vw.rds (by simp) (hk1 i hi)) (fun hm => by have := hold b hm; omega) (fun i hi => hs.vw.rds (by simp) (hk2 i hi)) (fun hm => by have := hold b2 hm; omega)
      (hs.sub (L' := (r, _) :: [(u8, .cells [.int .i64 0] 3), (u7, .cells [.slice0] 48)]) (by (repeat (first | exact List.Sublist.refl _ | exact List.nil_sublist _ | apply List.Sublist.cons_cons | apply List.Sublist.cons)))).lend
      ⟨.slice0, [], by simp [stFrom, crTo, flatA]; exact .nil rfl rfl, by simp [stFrom, bef]⟩ ?_
    · rcases hY with ⟨Ln, ⟨w, Lv, q1, rfl⟩, q2⟩ | ⟨_, hF, _⟩
      · rw [st_n] at q1
        exact ⟨_, _, q2, w, Lv, q1, _, rfl⟩
      · cases hF
    · rintro k Lk ⟨w, Lv, hw, rfl⟩ hk h'' hh
      left
      have st := st_is hk
      obtain ⟨s1, s2, s3, _⟩ := st
      have hd0 : ∀ x, stFrom ka kb k ≤ x → x ≤ stTo ka kb k → 0 ≤ x ∧ x ≤ 2000 := fun x a b => (stDom va vb hk a b).2.2.2
      have hb0 := hd0 _ (Int.le_refl _) s2
      have hb9 := hd0 _ s2 (Int.le_refl _)
      have hlo : 0 ≤ shLo ka kb := by
        have := va.kx0 va.pos
        have := vb.kx0 vb.pos
        unfold shLo
        rw [dLo_kx, dLo_kx]
        omega
      obtain ⟨n0, hn0⟩ : ∃ n0 : Nat, (stFrom ka kb k - shLo ka kb).toNat = n0 := ⟨_, rfl⟩
      have hn0' : shLo ka kb + n0 = stFrom ka kb k := by omega
      rw [hn0] at hw hh ⊢
      have e := ConR.enterQ (P := Tryz.prog) (B := Bs) (args := [.agg (stCells ka kb k)]) (R := fun v' L' => v' = .bool true ∧ ∃ Lk', CrMem ka kb u8 u7 (stFrom ka kb (k + 1) - shLo ka kb).toNat Lk' ∧ L' = (r, .loop lq) :: Lk') hq' hh.lend (hh.own _ List.mem_cons_self).1 rfl rfl rfl (by
        (refine WK.region ?_; refine St.alloc fun _ _ => ?_; refine St.store0 ?_; refine WO.nil ?_)
        rename_i p9 hp9
        refine WK.busyQ hq'.st (A := [(_, _)]) rfl ?_
        (refine WK.block ?_; refine WK.seq ?_; refine WK.region ?_; refine St.fieldAddr ?_; refine St.fieldAddr ?_; refine St.load ?_; refine St.assign ?_; refine WO.nil ?_; refine WK.block ?_)
        refine WK.inv (ι := Nat × AV × Ob) (fun z => [(7, .ptr u7 0), (8, .ptr u8 0), (9, .ptr p9 0), (10, .int .i64 (shLo ka kb + z.1))]) (fun z => (p9, .cells (stCells ka kb k) 109) :: (r, .loop lq.busy) :: (u8, .cells [.int .i64 (bef (sgX ka kb) (shLo ka kb) z.1)] 3) :: (u7, .cells [z.2.1] 48) :: z.2.2)
          (fun z => n0 ≤ z.1 ∧ shLo ka kb + z.1 ≤ stTo ka kb k + 1 ∧ IsSp (crTo (sgX ka kb) (shLo ka kb) z.1) z.2.1 z.2.2) (fun z => (stTo ka kb k + 1 - (shLo ka kb + z.1)).toNat) (n0, w, Lv) ⟨Nat.le_refl _, by simp only; omega, hw⟩ ⟨rfl, rfl, rfl, congrArg (fun z => some (AV.int .i64 z)) hn0'.symm, trivial⟩ (by (repeat (first | exact List.Sublist.refl _ | exact List.nil_sublist _ | apply List.Sublist.cons_cons | apply List.Sublist.cons))) ?_
        rintro ⟨n, w, Lv⟩ ⟨hn1, hn2, hw1⟩ ih
        simp only at hn1 hn2 hw1 ih ⊢
        (refine WK.seq ?_; refine WK.seq ?_; refine WK.region ?_; refine St.move ?_; refine St.fieldAddr ?_; refine St.fieldAddr ?_; refine St.load ?_; refine St.bin ?_; refine WO.nil ?_)
        refine St.splitC (fun hc => ?_) (fun hc => ?_)
        · have hx : shLo ka kb + n ≤ stTo ka kb k := by simpa using hc
          obtain ⟨ol1, ol2, odd, x0, x1⟩ := stDom va vb hk (x := shLo ka kb + n) (by omega) hx
          have hcl := crTo_len (sg := sgX ka kb) (lo := shLo ka kb) n
          refine WK.skip ?_
          refine WK.seq ?_
          refine WK.cut (ι := {z : AV × Ob // IsSp (crTo (sgX ka kb) (shLo ka kb) (n + 1)) z.1 z.2}) (fun z => [(7, .ptr u7 0), (8, .ptr u8 0), (9, .ptr p9 0), (10, .int .i64 (shLo ka kb + n))]) (fun z => (p9, .cells (stCells ka kb k) 109) :: (r, .loop lq.busy) :: (u8, .cells [.int .i64 (bef (sgX ka kb) (shLo ka kb) (n + 1))] 3) :: (u7, .cells [z.1.1] 48) :: z.1.2) (fun z => ?_) (fun K' leave => ?_)
          · obtain ⟨⟨w3, Lv3⟩, hw3⟩ := z
            simp only at hw3 ⊢
            (refine WK.region ?_; refine St.move ?_; refine St.binI ?_; refine St.assign ?_; refine WO.nil ?_)
            refine WK.le ?_ (by (repeat (first | exact List.Sublist.refl _ | exact List.nil_sublist _ | apply List.Sublist.cons_cons | apply List.Sublist.cons))) (ih (n + 1, w3, Lv3) ⟨by simp only; omega, by simp only; omega, hw3⟩ (by simp only; omega))
            exact ⟨rfl, rfl, rfl, congrArg (fun z => some (AV.int .i64 z)) (by simp only; omega), trivial⟩
          · obtain ⟨sx, hsx⟩ : ∃ sx, sgX ka kb (shLo ka kb + n) = sx := ⟨_, rfl⟩
            obtain ⟨bf, hbf⟩ : ∃ bf, bef (sgX ka kb) (shLo ka kb) n = bf := ⟨_, rfl⟩
            have hsv := sgX_vals ka kb (shLo ka kb + n)
            have hbv := bef_vals ka kb (shLo ka kb) n
            rw [hsx] at hsv
            rw [hbf] at hbv ⊢
            simp only [bef_succ, hsx] at leave
            (refine WK.block ?_; refine WK.seq ?_; refine WK.region ?_; refine St.load ?_; refine St.move ?_)
            refine St.call (fun _ => rfl) (fun h hh => gapK_con va vb hk (x := shLo ka kb + n) (by omega) hx h hh.gd) ?_
            skip
            refine St.call (v := .int .i64 sx) (fun _ => rfl) (fun h hh => by
              have := cmp_con h hh.gd (gapL (lnOf ka (stFrom ka kb k) (stTo ka kb k)) (lnOf kb (stFrom ka kb k) (stTo ka kb k)) (shLo ka kb + n)) 0
              rw [gap_sign ol1 ol2 odd, hsx] at this
              exact this) ?_
            rcases hsv with rfl | rfl | rfl <;> rcases hbv with rfl | rfl | rfl
            · have hD := crD hsx hbf (by omega) (by omega)
              (refine St.assign ?_; refine WO.nil ?_; refine WK.seq ?_; refine WK.block ?_; refine WK.seq ?_; refine WK.region ?_; refine St.move ?_; refine St.bin ?_; refine St.move ?_; refine St.skip ?_; refine St.skip ?_; refine St.pickF ?_; refine St.move ?_; refine St.skip ?_; refine St.skip ?_; refine St.skip ?_; refine St.pickF ?_; refine St.assign ?_; refine WO.nil ?_; refine WK.condF ?_; refine WK.seq ?_; refine WK.region ?_; refine St.move ?_; refine St.bin ?_; refine St.assign ?_; refine WO.nil ?_; refine WK.condF ?_; refine WK.seq ?_; refine WK.region ?_; refine St.move ?_; refine St.load ?_; refine St.unI ?_; refine St.bin ?_; refine St.assign ?_; refine WO.nil ?_; refine WK.condF ?_; refine WK.skip ?_; refine WK.blk ?_; refine WK.region ?_; refine St.move ?_; refine St.store2 ?_; refine WO.nil ?_; refine WK.blk ?_)
              refine WK.le ?_ (by (repeat (first | exact List.Sublist.refl _ | exact List.nil_sublist _ | apply List.Sublist.cons_cons | apply List.Sublist.cons))) (leave ⟨(w, Lv), by rw [hD]; exact hw1⟩)
              exact ⟨rfl, rfl, rfl, rfl, trivial⟩
            · have hD := crD hsx hbf (by omega) (by omega)
              (refine St.assign ?_; refine WO.nil ?_; refine WK.seq ?_; refine WK.block ?_; refine WK.seq ?_; refine WK.region ?_; refine St.move ?_; refine St.bin ?_; refine St.move ?_; refine St.skip ?_; refine St.skip ?_; refine St.pickF ?_; refine St.move ?_; refine St.skip ?_; refine St.skip ?_; refine St.skip ?_; refine St.pickF ?_; refine St.assign ?_; refine WO.nil ?_; refine WK.condF ?_; refine WK.seq ?_; refine WK.region ?_; refine St.move ?_; refine St.bin ?_; refine St.assign ?_; refine WO.nil ?_; refine WK.condF ?_; refine WK.seq ?_; refine WK.region ?_; refine St.move ?_; refine St.load ?_; refine St.unI ?_; refine St.bin ?_; refine St.assign ?_; refine WO.nil ?_; refine WK.condF ?_; refine WK.skip ?_; refine WK.blk ?_; refine WK.region ?_; refine St.move ?_; refine St.store2 ?_; refine WO.nil ?_; refine WK.blk ?_)
              refine WK.le ?_ (by (repeat (first | exact List.Sublist.refl _ | exact List.nil_sublist _ | apply List.Sublist.cons_cons | apply List.Sublist.cons))) (leave ⟨(w, Lv), by rw [hD]; exact hw1⟩)
              exact ⟨rfl, rfl, rfl, rfl, trivial⟩
            · have hB := crC hsx hbf (by omega) (by omega)
              (refine St.assign ?_; refine WO.nil ?_; refine WK.seq ?_; refine WK.block ?_; refine WK.seq ?_; refine WK.region ?_; refine St.move ?_; refine St.bin ?_; refine St.move ?_; refine St.skip ?_; refine St.skip ?_; refine St.pickF ?_; refine St.move ?_; refine St.skip ?_; refine St.skip ?_; refine St.skip ?_; refine St.pickF ?_; refine St.assign ?_; refine WO.nil ?_; refine WK.condF ?_; refine WK.seq ?_; refine WK.region ?_; refine St.move ?_; refine St.bin ?_; refine St.assign ?_; refine WO.nil ?_; refine WK.condF ?_; refine WK.seq ?_; refine WK.region ?_; refine St.move ?_; refine St.load ?_; refine St.unI ?_; refine St.bin ?_; refine St.assign ?_; refine WO.nil ?_; refine WK.condT ?_; refine WK.region ?_; refine St.load ?_; refine St.move ?_; refine St.binI ?_; refine St.move ?_; refine St.build ?_; refine St.mkS fun _ _ => ?_)
              rename_i i2 hi2
              refine St.appL (new := [.int .i64 (shLo ka kb + n - 1), .int .i64 (shLo ka kb + n)]) (Lk := [(i2, .cells [.int .i64 (shLo ka kb + n - 1), .int .i64 (shLo ka kb + n)] 27), (p9, .cells (stCells ka kb k) 109), (r, .loop lq.busy), (u8, .cells [.int .i64 (1)] 3), (u7, .cells [w] 48)]) hw1 List.perm_append_comm (fun w3 Lv3 hw3 => ?_) ⟨rfl, rfl, rfl, rfl, rfl, rfl, rfl, rfl, rfl, rfl, rfl, rfl⟩ (List.Mem.head _) rfl (by omega) (by omega)
              refine WO.permF (L' := [(i2, .cells [.int .i64 (shLo ka kb + n - 1), .int .i64 (shLo ka kb + n)] 27), (p9, .cells (stCells ka kb k) 109), (r, .loop lq.busy), (u8, .cells [.int .i64 (1)] 3), (u7, .cells [w] 48)] ++ Lv3) List.perm_append_comm ?_
              have hw4 : IsSp (crTo (sgX ka kb) (shLo ka kb) (n + 1)) w3 Lv3 := by
                rw [hB]
                unfold IsSp
                rw [flatA_snoc, List.length_append]
                exact hw3
              obtain ⟨i3, c3, o3, rfl, rfl, _, _⟩ := hw3.ne (by omega)
              (refine St.store4 ?_; refine WO.nil ?_; refine WK.blk ?_; refine WK.region ?_; refine St.move ?_; refine St.store3 ?_; refine WO.nil ?_; refine WK.blk ?_)
              refine WK.le ?_ (by (repeat (first | exact List.Sublist.refl _ | exact List.nil_sublist _ | apply List.Sublist.cons_cons | apply List.Sublist.cons))) (leave ⟨(_, _), hw4⟩)
              exact ⟨rfl, rfl, rfl, rfl, trivial⟩
            · have hB := crB hsx hbf (by omega)
              (refine St.assign ?_; refine WO.nil ?_; refine WK.seq ?_; refine WK.block ?_; refine WK.seq ?_; refine WK.region ?_; refine St.move ?_; refine St.bin ?_; refine St.move ?_; refine St.load ?_; refine St.bin ?_; refine St.pickT ?_; refine St.move ?_; refine St.skip ?_; refine St.skip ?_; refine St.skip ?_; refine St.pickF ?_; refine St.assign ?_; refine WO.nil ?_; refine WK.condF ?_; refine WK.seq ?_; refine WK.region ?_; refine St.move ?_; refine St.bin ?_; refine St.assign ?_; refine WO.nil ?_; refine WK.condT ?_; refine WK.region ?_; refine St.load ?_; refine St.move ?_; refine St.move ?_; refine St.build ?_; refine St.mkS fun _ _ => ?_)
              rename_i i2 hi2
              refine St.appL (new := [.int .i64 (shLo ka kb + n), .int .i64 (shLo ka kb + n)]) (Lk := [(i2, .cells [.int .i64 (shLo ka kb + n), .int .i64 (shLo ka kb + n)] 27), (p9, .cells (stCells ka kb k) 109), (r, .loop lq.busy), (u8, .cells [.int .i64 (-1)] 3), (u7, .cells [w] 48)]) hw1 List.perm_append_comm (fun w3 Lv3 hw3 => ?_) ⟨rfl, rfl, rfl, rfl, rfl, rfl, rfl, rfl, rfl, rfl, rfl, rfl⟩ (List.Mem.head _) rfl (by omega) (by omega)
              refine WO.permF (L' := [(i2, .cells [.int .i64 (shLo ka kb + n), .int .i64 (shLo ka kb + n)] 27), (p9, .cells (stCells ka kb k) 109), (r, .loop lq.busy), (u8, .cells [.int .i64 (-1)] 3), (u7, .cells [w] 48)] ++ Lv3) List.perm_append_comm ?_
              have hw4 : IsSp (crTo (sgX ka kb) (shLo ka kb) (n + 1)) w3 Lv3 := by
                rw [hB]
                unfold IsSp
                rw [flatA_snoc, List.length_append]
                exact hw3
              obtain ⟨i3, c3, o3, rfl, rfl, _, _⟩ := hw3.ne (by omega)
              (refine St.store4 ?_; refine WO.nil ?_; refine WK.blk ?_; refine WK.region ?_; refine St.move ?_; refine St.store3 ?_; refine WO.nil ?_; refine WK.blk ?_)
              refine WK.le ?_ (by (repeat (first | exact List.Sublist.refl _ | exact List.nil_sublist _ | apply List.Sublist.cons_cons | apply List.Sublist.cons))) (leave ⟨(_, _), hw4⟩)
              exact ⟨rfl, rfl, rfl, rfl, trivial⟩
            · by_cases hn : n = 0
              · subst hn
                have hw1' := hw1
                rcases hw1'.open_ with ⟨rfl, rfl, _⟩ | ⟨i, c3, o, rfl, rfl, ho, hl⟩
                · have hB := crB hsx hbf (by omega)
                  (refine St.assign ?_; refine WO.nil ?_; refine WK.seq ?_; refine WK.block ?_; refine WK.seq ?_; refine WK.region ?_; refine St.move ?_; refine St.bin ?_; refine St.move ?_; refine St.load ?_; refine St.bin ?_; refine St.pickT ?_; refine St.move ?_; refine St.load ?_; refine St.len0 ?_; refine St.bin ?_; refine St.pickT ?_; refine St.assign ?_; refine WO.nil ?_; refine WK.condF ?_; refine WK.seq ?_; refine WK.region ?_; refine St.move ?_; refine St.bin ?_; refine St.assign ?_; refine WO.nil ?_; refine WK.condT ?_; refine WK.region ?_; refine St.load ?_; refine St.move ?_; refine St.move ?_; refine St.build ?_; refine St.mkS fun _ _ => ?_)
                  rename_i i2 hi2
                  refine St.appL (new := [.int .i64 (shLo ka kb + ((0 : Nat) : Int)), .int .i64 (shLo ka kb + ((0 : Nat) : Int))]) (Lk := [(i2, .cells [.int .i64 (shLo ka kb + ((0 : Nat) : Int)), .int .i64 (shLo ka kb + ((0 : Nat) : Int))] 27), (p9, .cells (stCells ka kb k) 109), (r, .loop lq.busy), (u8, .cells [.int .i64 (0)] 3), (u7, .cells [.slice0] 48)]) hw1 List.perm_append_comm (fun w3 Lv3 hw3 => ?_) ⟨rfl, rfl, rfl, rfl, rfl, rfl, rfl, rfl, rfl, rfl, rfl, rfl⟩ (List.Mem.head _) rfl (by omega) (by omega)
                  refine WO.permF (L' := [(i2, .cells [.int .i64 (shLo ka kb + ((0 : Nat) : Int)), .int .i64 (shLo ka kb + ((0 : Nat) : Int))] 27), (p9, .cells (stCells ka kb k) 109), (r, .loop lq.busy), (u8, .cells [.int .i64 (0)] 3), (u7, .cells [.slice0] 48)] ++ Lv3) List.perm_append_comm ?_
                  have hw4 : IsSp (crTo (sgX ka kb) (shLo ka kb) (0 + 1)) w3 Lv3 := by
                    rw [hB]
                    unfold IsSp
                    rw [flatA_snoc, List.length_append]
                    exact hw3
                  obtain ⟨i3, c3, o3, rfl, rfl, _, _⟩ := hw3.ne (by omega)
                  (refine St.store4 ?_; refine WO.nil ?_; refine WK.blk ?_; refine WK.region ?_; refine St.move ?_; refine St.store3 ?_; refine WO.nil ?_; refine WK.blk ?_)
                  refine WK.le ?_ (by (repeat (first | exact List.Sublist.refl _ | exact List.nil_sublist _ | apply List.Sublist.cons_cons | apply List.Sublist.cons))) (leave ⟨(_, _), hw4⟩)
                  exact ⟨rfl, rfl, rfl, rfl, trivial⟩
                · have hB := crB hsx hbf (by omega)
                  (refine St.assign ?_; refine WO.nil ?_; refine WK.seq ?_; refine WK.block ?_; refine WK.seq ?_; refine WK.region ?_; refine St.move ?_; refine St.bin ?_; refine St.move ?_; refine St.load ?_; refine St.bin ?_; refine St.pickT ?_; refine St.move ?_; refine St.load ?_; refine St.len ?_; refine St.bin ?_; refine St.pickT ?_; refine St.assign ?_; refine WO.nil ?_; refine WK.condF ?_; refine WK.seq ?_; refine WK.region ?_; refine St.move ?_; refine St.bin ?_; refine St.assign ?_; refine WO.nil ?_; refine WK.condT ?_; refine WK.region ?_; refine St.load ?_; refine St.move ?_; refine St.move ?_; refine St.build ?_; refine St.mkS fun _ _ => ?_)
                  rename_i i2 hi2
                  refine St.appL (new := [.int .i64 (shLo ka kb + ((0 : Nat) : Int)), .int .i64 (shLo ka kb + ((0 : Nat) : Int))]) (Lk := [(i2, .cells [.int .i64 (shLo ka kb + ((0 : Nat) : Int)), .int .i64 (shLo ka kb + ((0 : Nat) : Int))] 27), (p9, .cells (stCells ka kb k) 109), (r, .loop lq.busy), (u8, .cells [.int .i64 (0)] 3), (u7, .cells [.slice i 0 (crTo (sgX ka kb) (shLo ka kb) 0).length c3] 48)]) hw1 List.perm_append_comm (fun w3 Lv3 hw3 => ?_) ⟨rfl, rfl, rfl, rfl, rfl, rfl, rfl, rfl, rfl, rfl, rfl, rfl⟩ (List.Mem.head _) rfl (by omega) (by omega)
                  refine WO.permF (L' := [(i2, .cells [.int .i64 (shLo ka kb + ((0 : Nat) : Int)), .int .i64 (shLo ka kb + ((0 : Nat) : Int))] 27), (p9, .cells (stCells ka kb k) 109), (r, .loop lq.busy), (u8, .cells [.int .i64 (0)] 3), (u7, .cells [.slice i 0 (crTo (sgX ka kb) (shLo ka kb) 0).length c3] 48)] ++ Lv3) List.perm_append_comm ?_
                  have hw4 : IsSp (crTo (sgX ka kb) (shLo ka kb) (0 + 1)) w3 Lv3 := by
                    rw [hB]
                    unfold IsSp
                    rw [flatA_snoc, List.length_append]
                    exact hw3
                  obtain ⟨i3, c3, o3, rfl, rfl, _, _⟩ := hw3.ne (by omega)
                  (refine St.store4 ?_; refine WO.nil ?_; refine WK.blk ?_; refine WK.region ?_; refine St.move ?_; refine St.store3 ?_; refine WO.nil ?_; refine WK.blk ?_)
                  refine WK.le ?_ (by (repeat (first | exact List.Sublist.refl _ | exact List.nil_sublist _ | apply List.Sublist.cons_cons | apply List.Sublist.cons))) (leave ⟨(_, _), hw4⟩)
                  exact ⟨rfl, rfl, rfl, rfl, trivial⟩
              · have hpos : 0 < (crTo (sgX ka kb) (shLo ka kb) n).length := crTo_pos hn (by unfold bef at hbf; rw [if_neg hn] at hbf; exact hbf)
                have hA := crA hsx hbf hn
                obtain ⟨i, c3, o, o', rfl, rfl, hst, hw5⟩ := IsL.setAt (off := 0 + (((crTo (sgX ka kb) (shLo ka kb) n).length : Int) - 1).toNat * 2 + 1) hw1 (by rw [flatA_len]; omega) (x := .int .i64 (shLo ka kb + n)) rfl rfl
                have hw4 : IsSp (crTo (sgX ka kb) (shLo ka kb) (n + 1)) (.slice i 0 (crTo (sgX ka kb) (shLo ka kb) n).length c3) [(i, o')] := by
                  rw [hA]
                  unfold IsSp
                  rw [← flat_setHi _ hpos]
                  rw [show 0 + (((crTo (sgX ka kb) (shLo ka kb) n).length : Int) - 1).toNat * 2 + 1 = ((crTo (sgX ka kb) (shLo ka kb) n).length - 1) * 2 + 1 by omega] at hw5
                  simpa [setHi] using hw5
                (refine St.assign ?_; refine WO.nil ?_; refine WK.seq ?_; refine WK.block ?_; refine WK.seq ?_; refine WK.region ?_; refine St.move ?_; refine St.bin ?_; refine St.move ?_; refine St.load ?_; refine St.bin ?_; refine St.pickT ?_; refine St.move ?_; refine St.load ?_; refine St.len ?_; refine St.bin ?_; refine St.pickT ?_; refine St.assign ?_; refine WO.nil ?_)
                refine St.splitC (fun hc2 => ?_) (fun hc2 => ?_)
                rotate_left
                · have := of_decide_eq_false hc2; omega
                (refine WK.region ?_; refine St.load ?_; refine St.load ?_; refine St.len ?_; refine St.binI ?_; refine St.move ?_)
                refine St.at ?_
                (refine St.fieldAddr ?_)
                refine St.store4 ?_ rfl rfl rfl rfl (hst _ rfl)
                (refine WO.nil ?_; refine WK.blk ?_; refine WK.region ?_; refine St.move ?_; refine St.store2 ?_; refine WO.nil ?_; refine WK.blk ?_)
                refine WK.le ?_ (by (repeat (first | exact List.Sublist.refl _ | exact List.nil_sublist _ | apply List.Sublist.cons_cons | apply List.Sublist.cons))) (leave ⟨(_, _), hw4⟩)
                exact ⟨rfl, rfl, rfl, rfl, trivial⟩
            · have hB := crB hsx hbf (by omega)
              (refine St.assign ?_; refine WO.nil ?_; refine WK.seq ?_; refine WK.block ?_; refine WK.seq ?_; refine WK.region ?_; refine St.move ?_; refine St.bin ?_; refine St.move ?_; refine St.load ?_; refine St.bin ?_; refine St.pickT ?_; refine St.move ?_; refine St.skip ?_; refine St.skip ?_; refine St.skip ?_; refine St.pickF ?_; refine St.assign ?_; refine WO.nil ?_; refine WK.condF ?_; refine WK.seq ?_; refine WK.region ?_; refine St.move ?_; refine St.bin ?_; refine St.assign ?_; refine WO.nil ?_; refine WK.condT ?_; refine WK.region ?_; refine St.load ?_; refine St.move ?_; refine St.move ?_; refine St.build ?_; refine St.mkS fun _ _ => ?_)
              rename_i i2 hi2
              refine St.appL (new := [.int .i64 (shLo ka kb + n), .int .i64 (shLo ka kb + n)]) (Lk := [(i2, .cells [.int .i64 (shLo ka kb + n), .int .i64 (shLo ka kb + n)] 27), (p9, .cells (stCells ka kb k) 109), (r, .loop lq.busy), (u8, .cells [.int .i64 (1)] 3), (u7, .cells [w] 48)]) hw1 List.perm_append_comm (fun w3 Lv3 hw3 => ?_) ⟨rfl, rfl, rfl, rfl, rfl, rfl, rfl, rfl, rfl, rfl, rfl, rfl⟩ (List.Mem.head _) rfl (by omega) (by omega)
              refine WO.permF (L' := [(i2, .cells [.int .i64 (shLo ka kb + n), .int .i64 (shLo ka kb + n)] 27), (p9, .cells (stCells ka kb k) 109), (r, .loop lq.busy), (u8, .cells [.int .i64 (1)] 3), (u7, .cells [w] 48)] ++ Lv3) List.perm_append_comm ?_
              have hw4 : IsSp (crTo (sgX ka kb) (shLo ka kb) (n + 1)) w3 Lv3 := by
                rw [hB]
                unfold IsSp
                rw [flatA_snoc, List.length_append]
                exact hw3
              obtain ⟨i3, c3, o3, rfl, rfl, _, _⟩ := hw3.ne (by omega)
              (refine St.store4 ?_; refine WO.nil ?_; refine WK.blk ?_; refine WK.region ?_; refine St.move ?_; refine St.store3 ?_; refine WO.nil ?_; refine WK.blk ?_)
              refine WK.le ?_ (by (repeat (first | exact List.Sublist.refl _ | exact List.nil_sublist _ | apply List.Sublist.cons_cons | apply List.Sublist.cons))) (leave ⟨(_, _), hw4⟩)
              exact ⟨rfl, rfl, rfl, rfl, trivial⟩
            · have hB := crC hsx hbf (by omega) (by omega)
              (refine St.assign ?_; refine WO.nil ?_; refine WK.seq ?_; refine WK.block ?_; refine WK.seq ?_; refine WK.region ?_; refine St.move ?_; refine St.bin ?_; refine St.move ?_; refine St.skip ?_; refine St.skip ?_; refine St.pickF ?_; refine St.move ?_; refine St.skip ?_; refine St.skip ?_; refine St.skip ?_; refine St.pickF ?_; refine St.assign ?_; refine WO.nil ?_; refine WK.condF ?_; refine WK.seq ?_; refine WK.region ?_; refine St.move ?_; refine St.bin ?_; refine St.assign ?_; refine WO.nil ?_; refine WK.condF ?_; refine WK.seq ?_; refine WK.region ?_; refine St.move ?_; refine St.load ?_; refine St.unI ?_; refine St.bin ?_; refine St.assign ?_; refine WO.nil ?_; refine WK.condT ?_; refine WK.region ?_; refine St.load ?_; refine St.move ?_; refine St.binI ?_; refine St.move ?_; refine St.build ?_; refine St.mkS fun _ _ => ?_)
              rename_i i2 hi2
              refine St.appL (new := [.int .i64 (shLo ka kb + n - 1), .int .i64 (shLo ka kb + n)]) (Lk := [(i2, .cells [.int .i64 (shLo ka kb + n - 1), .int .i64 (shLo ka kb + n)] 27), (p9, .cells (stCells ka kb k) 109), (r, .loop lq.busy), (u8, .cells [.int .i64 (-1)] 3), (u7, .cells [w] 48)]) hw1 List.perm_append_comm (fun w3 Lv3 hw3 => ?_) ⟨rfl, rfl, rfl, rfl, rfl, rfl, rfl, rfl, rfl, rfl, rfl, rfl⟩ (List.Mem.head _) rfl (by omega) (by omega)
              refine WO.permF (L' := [(i2, .cells [.int .i64 (shLo ka kb + n - 1), .int .i64 (shLo ka kb + n)] 27), (p9, .cells (stCells ka kb k) 109), (r, .loop lq.busy), (u8, .cells [.int .i64 (-1)] 3), (u7, .cells [w] 48)] ++ Lv3) List.perm_append_comm ?_
              have hw4 : IsSp (crTo (sgX ka kb) (shLo ka kb) (n + 1)) w3 Lv3 := by
                rw [hB]
                unfold IsSp
                rw [flatA_snoc, List.length_append]
                exact hw3
              obtain ⟨i3, c3, o3, rfl, rfl, _, _⟩ := hw3.ne (by omega)
              (refine St.store4 ?_; refine WO.nil ?_; refine WK.blk ?_; refine WK.region ?_; refine St.move ?_; refine St.store3 ?_; refine WO.nil ?_; refine WK.blk ?_)
              refine WK.le ?_ (by (repeat (first | exact List.Sublist.refl _ | exact List.nil_sublist _ | apply List.Sublist.cons_cons | apply List.Sublist.cons))) (leave ⟨(_, _), hw4⟩)
              exact ⟨rfl, rfl, rfl, rfl, trivial⟩
            · have hD := crD hsx hbf (by omega) (by omega)
              (refine St.assign ?_; refine WO.nil ?_; refine WK.seq ?_; refine WK.block ?_; refine WK.seq ?_; refine WK.region ?_; refine St.move ?_; refine St.bin ?_; refine St.move ?_; refine St.skip ?_; refine St.skip ?_; refine St.pickF ?_; refine St.move ?_; refine St.skip ?_; refine St.skip ?_; refine St.skip ?_; refine St.pickF ?_; refine St.assign ?_; refine WO.nil ?_; refine WK.condF ?_; refine WK.seq ?_; refine WK.region ?_; refine St.move ?_; refine St.bin ?_; refine St.assign ?_; refine WO.nil ?_; refine WK.condF ?_; refine WK.seq ?_; refine WK.region ?_; refine St.move ?_; refine St.load ?_; refine St.unI ?_; refine St.bin ?_; refine St.assign ?_; refine WO.nil ?_; refine WK.condF ?_; refine WK.skip ?_; refine WK.blk ?_; refine WK.region ?_; refine St.move ?_; refine St.store2 ?_; refine WO.nil ?_; refine WK.blk ?_)
              refine WK.le ?_ (by (repeat (first | exact List.Sublist.refl _ | exact List.nil_sublist _ | apply List.Sublist.cons_cons | apply List.Sublist.cons))) (leave ⟨(w, Lv), by rw [hD]; exact hw1⟩)
              exact ⟨rfl, rfl, rfl, rfl, trivial⟩
            · have hD := crD hsx hbf (by omega) (by omega)
              (refine St.assign ?_; refine WO.nil ?_; refine WK.seq ?_; refine WK.block ?_; refine WK.seq ?_; refine WK.region ?_; refine St.move ?_; refine St.bin ?_; refine St.move ?_; refine St.skip ?_; refine St.skip ?_; refine St.pickF ?_; refine St.move ?_; refine St.skip ?_; refine St.skip ?_; refine St.skip ?_; refine St.pickF ?_; refine St.assign ?_; refine WO.nil ?_; refine WK.condF ?_; refine WK.seq ?_; refine WK.region ?_; refine St.move ?_; refine St.bin ?_; refine St.assign ?_; refine WO.nil ?_; refine WK.condF ?_; refine WK.seq ?_; refine WK.region ?_; refine St.move ?_; refine St.load ?_; refine St.unI ?_; refine St.bin ?_; refine St.assign ?_; refine WO.nil ?_; refine WK.condF ?_; refine WK.skip ?_; refine WK.blk ?_; refine WK.region ?_; refine St.move ?_; refine St.store2 ?_; refine WO.nil ?_; refine WK.blk ?_)
              refine WK.le ?_ (by (repeat (first | exact List.Sublist.refl _ | exact List.nil_sublist _ | apply List.Sublist.cons_cons | apply List.Sublist.cons))) (leave ⟨(w, Lv), by rw [hD]; exact hw1⟩)
              exact ⟨rfl, rfl, rfl, rfl, trivial⟩
        · have hx : ¬ shLo ka kb + n ≤ stTo ka kb k := by simpa using hc
          (refine WK.exit ?_; refine WK.blk ?_)
          refine WK.le (s' := []) (L' := (r, .loop lq.busy) :: (u8, .cells [.int .i64 (bef (sgX ka kb) (shLo ka kb) n)] 3) :: (u7, .cells [w] 48) :: Lv) trivial (by (repeat (first | exact List.Sublist.refl _ | exact List.nil_sublist _ | apply List.Sublist.cons_cons | apply List.Sublist.cons))) ?_
          refine WK.endQ (A := []) (C := (u8, .cells [.int .i64 (bef (sgX ka kb) (shLo ka kb) n)] 3) :: (u7, .cells [w] 48) :: Lv) (List.Perm.refl _) ⟨rfl, _, ⟨w, Lv, ?_, ?_⟩, by rw [hq'.left]; rfl⟩
          · rw [show (stFrom ka kb (k + 1) - shLo ka kb).toNat = n by rw [stFrom_succ]; omega]
            exact hw1
          · rw [show (stFrom ka kb (k + 1) - shLo ka kb).toNat = n by rw [stFrom_succ]; omega])
      obtain ⟨v', L', q1, rfl, Lk', q2, rfl⟩ := e
      exact ⟨Lk', q2, q1⟩
  · rintro dq L' ⟨w, Lv, hw, z, rfl⟩
    (refine WK.blk ?_; refine WK.seq ?_; refine WK.region ?_; refine St.load ?_; refine St.assign ?_; refine St.assign ?_; refine WO.nil ?_)
    refine WK.le (s' := [(4, w), (5, .int .i64 0)]) (L' := Lv ++ [(dq, .deferred true)]) ⟨rfl, rfl, trivial⟩ ?_ ?_
    · exact List.Sublist.cons _ (List.Sublist.cons _ (List.Sublist.append_left (List.Sublist.cons_cons _ (List.nil_sublist _)) _))
    refine St.ret1 (A := Lv) (C := []) rfl (.tmp (.tmp .nil)) ?_
    unfold CrOut
    rw [if_pos e0, e0, List.append_nil]
    exact ⟨_, hw, rfl⟩
end Go.Proofs.YtbhklifflhoinaaGreat
