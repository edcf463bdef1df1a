/- Layer 9: comparing rulings, sorting them: what the base of rulings rests on. -/
import Derived.Test.YtilpinmbngikgaaGreatRq
import Derived.Test.YtilpinmbngikgaaGreatShelf
import Derived.Test.YtilpinmbngikgaaGreatShelfK
import Derived.WalkKit
import Derived.LoopN
import Derived.Deep.RegionHeld3
namespace Go.Proofs.YtilpinmbngikgaaGreat
open Go.Proofs.YtilpinmbngikgaaGreat.Ev Go.Sort Go.RowKit Go.Lib

def firstI (a b c : Int) : Int := if a = 0 then (if b = 0 then c else b) else a
set_option maxRecDepth 100000 in
set_option maxHeartbeats 4000000 in
theorem or3_calls (a b c : Int) (p : Nat) (W : World) (h0 : W.cell? ⟨p, 0, none⟩ = some (.int .i64 a)) (h1 : W.cell? ⟨p, 1, none⟩ = some (.int .i64 b)) (h2 : W.cell? ⟨p, 2, none⟩ = some (.int .i64 c)) :
    Calls Tryz.prog 57 #[.slice (some ⟨p, 0, none⟩) 3 3] W fun e w' => e = .returned (.int .i64 (firstI a b c)) ∧ w' = W := by
  cases hA : (a != 0)
  · have ea : a = 0 := by simpa using hA
    cases hB : (b != 0)
    · have eb : b = 0 := by simpa using hB
      cases hC : (c != 0)
      · have ec : c = 0 := by simpa using hC
        go_enter Tryz.func57, Tryz.ntmps57
        go_wp2
        refine wp_loop_rounds 4 ?_
        rw [rounds_succ]
        go_wp2
        rw [rounds_succ]
        go_wp2
        rw [rounds_succ]
        go_wp2
        rw [rounds_succ]
        go_wp2
        go_ret
        exact ⟨by simp [firstI, ea, eb, ec], rfl⟩
      · go_enter Tryz.func57, Tryz.ntmps57
        go_wp2
        refine wp_loop_rounds 4 ?_
        rw [rounds_succ]
        go_wp2
        rw [rounds_succ]
        go_wp2
        rw [rounds_succ]
        go_wp2
        go_ret
        exact ⟨by simp [firstI, ea, eb], rfl⟩
    · have eb : ¬ b = 0 := by simpa using hB
      go_enter Tryz.func57, Tryz.ntmps57
      go_wp2
      refine wp_loop_rounds 4 ?_
      rw [rounds_succ]
      go_wp2
      rw [rounds_succ]
      go_wp2
      go_ret
      exact ⟨by simp [firstI, ea, eb], rfl⟩
  · have ea : ¬ a = 0 := by simpa using hA
    go_enter Tryz.func57, Tryz.ntmps57
    go_wp2
    refine wp_loop_rounds 4 ?_
    rw [rounds_succ]
    go_wp2
    go_ret
    exact ⟨by simp [firstI, ea], rfl⟩
theorem new3_cell (W : World) (A B : Obj) (cs : Array Value) (t : TypeId) (i : Nat) (v : Value) (h : cs[i]? = some v) : (((W.alloc A).alloc B).alloc (.cells cs t)).drew.cell? ⟨W.heap.size + 1 + 1, i, none⟩ = some v := by
  have hs : ((W.alloc A).alloc B).heap.size = W.heap.size + 1 + 1 := by simp
  have hh : (((W.alloc A).alloc B).alloc (.cells cs t)).drew.heap[W.heap.size + 1 + 1]? = some (.cells cs t) := by
    rw [← hs]
    exact heap_alloc_new _ _
  unfold World.cell?
  rw [hh]
  exact h
set_option maxRecDepth 100000 in
set_option maxHeartbeats 16000000 in
theorem rulings1_calls (x y : Rl3) (W : World) : Calls Tryz.prog 56 #[.agg #[.int .i64 x.1, .int .i64 x.2.1, .int .i64 x.2.2], .agg #[.int .i64 y.1, .int .i64 y.2.1, .int .i64 y.2.2]] W fun e w' => e = .returned (.int .i64 (firstI (Lib.compareInt x.1 y.1) (Lib.compareInt x.2.1 y.2.1) (Lib.compareInt x.2.2 y.2.2))) ∧ ∃ q os', w' = grow (W.drewN q) os' := by
  have hcon := fun a b W' => Tryz.cmp_Compare_int a b W'
  generalize Lib.compareInt = k at hcon ⊢
  obtain ⟨a, b, c⟩ := x
  obtain ⟨d, e, f⟩ := y
  simp only
  go_enter Tryz.func56, Tryz.ntmps56
  go_wp2
  go_region_held3 (fun w' => w'.cell? ⟨W.heap.size, 0, none⟩ = some (.int .i64 a) ∧ w'.cell? ⟨W.heap.size, 1, none⟩ = some (.int .i64 b) ∧ w'.cell? ⟨W.heap.size, 2, none⟩ = some (.int .i64 c) ∧ w'.cell? ⟨W.heap.size + 1, 0, none⟩ = some (.int .i64 d) ∧ w'.cell? ⟨W.heap.size + 1, 1, none⟩ = some (.int .i64 e) ∧ w'.cell? ⟨W.heap.size + 1, 2, none⟩ = some (.int .i64 f)) (go_keep)
    (first | (go_at_call 58; refine (hcon _ _ _).mono ?_; rintro e w' ⟨rfl, rfl⟩) | (go_at_call 57; refine (or3_calls (k a d) (k b e) (k c f) _ _ (new3_cell _ _ _ _ _ _ _ rfl) (new3_cell _ _ _ _ _ _ _ rfl) (new3_cell _ _ _ _ _ _ _ rfl)).mono ?_; rintro e w' ⟨rfl, rfl⟩))
  all_goals go_wp2
  go_ret
  exact ⟨rfl, 1, _, by rw [alloc_eq_grow, alloc_eq_grow, alloc_eq_grow, grow_grow, grow_grow]; rfl⟩
/-! the order of the comparison is the order of rulings -/
def cmpT (x y : Rl3) : Int := firstI (Lib.compareInt x.1 y.1) (Lib.compareInt x.2.1 y.2.1) (Lib.compareInt x.2.2 y.2.2)
theorem cmpT_lt (x y : Rl3) : cmpT x y < 0 ↔ leT y x = false := by
  have hb : leT y x = false ↔ ¬ leT y x = true := by cases leT y x <;> simp
  rw [hb, leT_iff]
  unfold cmpT firstI Lib.compareInt
  repeat' split
  all_goals omega
theorem ltT_swo : SWO (ltOf cmpT) := by
  have e : ∀ x y : Rl3, ltOf cmpT x y = !leT y x := fun x y => by
    unfold ltOf
    cases h : leT y x
    · simpa using (cmpT_lt x y).2 h
    · have : ¬ cmpT x y < 0 := fun hc => by rw [(cmpT_lt x y).1 hc] at h; cases h
      simpa using this
  refine ⟨fun x => ?_, fun x y z h1 h2 => ?_, fun x y z h1 h2 => ?_⟩
  · rw [e]
    have : leT x x = true := by rw [leT_iff]; omega
    simp [this]
  · rw [e] at *
    simp only [Bool.not_eq_true'] at *
    have hb : ∀ a b : Rl3, leT a b = false ↔ ¬ leT a b = true := fun a b => by cases leT a b <;> simp
    rw [hb, leT_iff] at *
    omega
  · rw [e] at *
    simp only [Bool.not_eq_false'] at *
    exact leT_trans _ _ _ h2 h1
theorem flT_get : ∀ (l : List Rl3) (i : Nat) (h : i < l.length), (flT l)[i * 3]? = some l[i].1 ∧ (flT l)[i * 3 + 1]? = some l[i].2.1 ∧ (flT l)[i * 3 + 2]? = some l[i].2.2
  | [], i, h => by simp at h
  | p :: l, 0, _ => by rw [flT_cons]; simp
  | p :: l, i + 1, h => by
    have h1 := flT_get l i (by simpa using h)
    rw [flT_cons]
    have e0 : (i + 1) * 3 = i * 3 + 1 + 1 + 1 := by omega
    have e1 : (i + 1) * 3 + 1 = (i * 3 + 1) + 1 + 1 + 1 := by omega
    have e2 : (i + 1) * 3 + 2 = (i * 3 + 2) + 1 + 1 + 1 := by omega
    rw [e2, e1, e0]
    simpa using h1
def encT (x : Rl3) : List Value := [.int .i64 x.1, .int .i64 x.2.1, .int .i64 x.2.2]
theorem flatK_flT (ps : List Rl3) : flatK encT 3 ps.toArray = (flT ps).toArray.map (Value.int .i64) := by
  refine ext_get! (by simp [flT_len]) fun t ht => ?_
  have ht' : t < ps.toArray.size * 3 := by simpa using ht
  have hi : t / 3 < ps.length := by simp at ht'; omega
  obtain ⟨g0, g1, g2⟩ := flT_get ps (t / 3) hi
  rw [get_flatK _ _ _ t ht']
  have hp : ps.toArray[t / 3]! = ps[t / 3] := by simp [hi]
  rw [hp]
  have hl : t < (flT ps).length := by rw [flT_len]; simpa using ht'
  have hr : ((flT ps).toArray.map (Value.int .i64))[t]! = .int .i64 ((flT ps)[t]'hl) := by simp [hl]
  rw [hr]
  have key : ∀ (r : Nat) (v : Int), t % 3 = r → (flT ps)[t / 3 * 3 + r]? = some v → (flT ps)[t]'hl = v := fun r v h e => by
    have e2 : t / 3 * 3 + r = t := by omega
    rw [e2, List.getElem?_eq_getElem hl] at e
    exact Option.some.inj e
  rcases (show t % 3 = 0 ∨ t % 3 = 1 ∨ t % 3 = 2 by omega) with h | h | h
  · rw [h, key 0 _ h g0]; rfl
  · rw [h, key 1 _ h g1]; rfl
  · rw [h, key 2 _ h g2]; rfl
theorem putRow_ints (w : World) (b o : Nat) (zs : List Int) : putRow id w b o (zs.toArray.map (Value.int .i64)) = putRow (Value.int .i64) w b o zs.toArray := by
  unfold putRow
  congr 1
  funext c
  unfold putCells
  congr 1
  funext k x
  by_cases hk : o ≤ k ∧ k < o + zs.toArray.size
  · rw [if_pos (by simpa using hk), if_pos hk]
    have : k - o < zs.length := by have := hk.2; simp at this; omega
    simp [this]
  · rw [if_neg (by simpa using hk), if_neg hk]
theorem holds_intsT {w : World} {b o : Nat} {ps : List Rl3} (h : Holds (Value.int .i64) w b o (flT ps).toArray) : HoldsK encT 3 w b o ps.toArray := by
  unfold HoldsK
  rw [flatK_flT]
  intro j hj
  have hj' : j < (flT ps).toArray.size := by simpa using hj
  have := h j hj'
  have hl : j < (flT ps).length := by simpa using hj'
  simpa [hl] using this
/-- what the program's sorting returns is the list in order -/
theorem pdqT (ps : List Rl3) : (pdq (ltOf cmpT) ps.toArray 0 ps.length (Lib.bitLen ps.length) true true).toList = srtT ps := by
  have h := pdq_sorts (ltOf cmpT) ltT_swo ps.toArray 0 ps.toArray.size (Lib.bitLen ps.toArray.size) true true (Nat.zero_le _) (Nat.le_refl _) (Or.inl rfl)
  simp only [List.size_toArray] at h
  generalize pdq (ltOf cmpT) ps.toArray 0 ps.length (Lib.bitLen ps.length) true true = q at h ⊢
  obtain ⟨⟨h1, _, h3⟩, h4⟩ := h
  have hl : q.toList.length = ps.length := by simpa using h1
  have hp : q.toList.Perm ps := by
    have h5 : (List.take ps.length q.toList).Perm ps := by simpa using h3
    rwa [List.take_of_length_le (by omega)] at h5
  refine uniqT (hp.trans (srtT_perm ps).symm) ?_ (srtT_pw ps)
  rw [List.pairwise_iff_getElem]
  intro i j hi hj hij
  have h5 := h4 i j (Nat.zero_le _) hij (by omega)
  have e1 : q[j]! = q.toList[j] := by simp at hj; simp [hj]
  have e2 : q[i]! = q.toList[i] := by simp at hi; simp [hi]
  rw [e1, e2] at h5
  unfold ltOf at h5
  have h6 := of_decide_eq_false h5
  cases hle : leT q.toList[i] q.toList[j]
  · exact absurd ((cmpT_lt _ _).2 hle) h6
  · rfl
set_option maxRecDepth 100000 in
theorem sortRl_sound : SoundC Tryz.prog (inpzB 55 56 3 okT srtZ) := by
  refine inpzB_sound (Ev.enters_of Tryz.func55 rfl rfl) srtZ_len fun b o cap n zs Z X t w hw hZ hz hn hok => ?_
  have hfl := flT_un hok
  have hps : (unT zs).length = n := by have := flT_len (unT zs); rw [hfl] at this; omega
  have hH : HoldsK encT 3 w b o (unT zs).toArray := holds_intsT (by rw [hfl]; exact Ev.holds_ints hw hZ)
  have eg : ∀ args w, (callFunc 56 args).run Tryz.prog w = .ok (.enter 56 args) w := enters_of Tryz.func56 (by kernel_rfl) rfl
  have hcon := AnyQ.slices_SortFunc_eq Tryz.sortRl 3 Tryz.isAgg52 Tryz.sizeOf52 encT (fun _ => rfl) (fun x v hv => by simp [encT] at hv; rcases hv with rfl | rfl | rfl <;> rfl) cmpT ltT_swo 56 #[] b o cap (unT zs).toArray w eg (fun _ _ _ _ x y => rulings1_calls x y _) hH (Array.getElem?_eq_some_iff.1 hw).1 (by simp; omega)
  change Calls Tryz.prog 55 _ _ _ at hcon
  simp only [List.size_toArray, hps] at hcon
  refine hcon.mono ?_
  rintro e w' ⟨rfl, m, os, rfl⟩
  refine ⟨rfl, m, os, ?_⟩
  unfold sortWorldK putRowK
  have e1 : pdq (ltOf cmpT) (unT zs).toArray 0 n (Lib.bitLen n) true true = (srtT (unT zs)).toArray := by
    rw [← pdqT, hps]
  rw [e1, flatK_flT, putRow_ints]
  unfold srtZ
  rw [if_pos hok]
end Go.Proofs.YtilpinmbngikgaaGreat
