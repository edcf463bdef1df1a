/- Layer 8: slices.SortFunc of items is sound, as a base. -/
import Derived.Test.YtkebbdpfjhhdhaaGreatDg
import Derived.Test.YtkebbdpfjhhdhaaGreatShelf
import Derived.Test.YtkebbdpfjhhdhaaGreatShelfK
import Derived.WalkKit
import Derived.LoopN
import Derived.Deep.RegionHeld3
import Derived.Test.YtkebbdpfjhhdhaaGreatDo
/- Layer 8: comparing items, sorting them: what the base of sorting rests on. -/
namespace Go.Proofs.YtkebbdpfjhhdhaaGreat
open Go.Proofs.YtkebbdpfjhhdhaaGreat.Ev Go.Sort Go.RowKit Go.Lib

def firstJ (a b : Int) : Int := if a = 0 then b else a
set_option maxRecDepth 100000 in
set_option maxHeartbeats 4000000 in
theorem or2_calls (a b : Int) (p : Nat) (W : World) (h0 : W.cell? ⟨p, 0, none⟩ = some (.int .i64 a)) (h1 : W.cell? ⟨p, 1, none⟩ = some (.int .i64 b)) :
    Calls Tryz.prog 119 #[.slice (some ⟨p, 0, none⟩) 2 2] W fun e w' => e = .returned (.int .i64 (firstJ a b)) ∧ w' = W := by
  cases hA : (a != 0)
  · have ea : a = 0 := by simpa using hA
    cases hB : (b != 0)
    · have eb : b = 0 := by simpa using hB
      go_enter Tryz.func119, Tryz.ntmps119
      go_wp2
      refine wp_loop_rounds 4 ?_
      rw [rounds_succ]
      go_wp2
      rw [rounds_succ]
      go_wp2
      rw [rounds_succ]
      go_wp2
      go_ret
      exact ⟨by simp [firstJ, ea, eb], rfl⟩
    · go_enter Tryz.func119, Tryz.ntmps119
      go_wp2
      refine wp_loop_rounds 4 ?_
      rw [rounds_succ]
      go_wp2
      rw [rounds_succ]
      go_wp2
      go_ret
      exact ⟨by simp [firstJ, ea], rfl⟩
  · have ea : ¬ a = 0 := by simpa using hA
    go_enter Tryz.func119, Tryz.ntmps119
    go_wp2
    refine wp_loop_rounds 4 ?_
    rw [rounds_succ]
    go_wp2
    go_ret
    exact ⟨by simp [firstJ, ea], rfl⟩
theorem new2_cell (W : World) (A B : Obj) (cs : Array Value) (t : TypeId) (i : Nat) (v : Value) (h : cs[i]? = some v) : (((W.alloc A).alloc B).alloc (.cells cs t)).drew.cell? ⟨W.heap.size + 1 + 1, i, none⟩ = some v := by
  have hs : ((W.alloc A).alloc B).heap.size = W.heap.size + 1 + 1 := by simp
  have hh : (((W.alloc A).alloc B).alloc (.cells cs t)).drew.heap[W.heap.size + 1 + 1]? = some (.cells cs t) := by
    rw [← hs]
    exact heap_alloc_new _ _
  unfold World.cell?
  rw [hh]
  exact h
set_option maxRecDepth 100000 in
set_option maxHeartbeats 16000000 in
theorem sorted1_calls (x y : Im) (W : World) : Calls Tryz.prog 118 #[.agg #[.int .i64 x.id, .int .i64 x.kn, .int .i64 x.kd, .int .i64 x.dy, .int .i64 x.bl, .int .i64 x.ac, .int .i64 x.am], .agg #[.int .i64 y.id, .int .i64 y.kn, .int .i64 y.kd, .int .i64 y.dy, .int .i64 y.bl, .int .i64 y.ac, .int .i64 y.am]] W fun e w' => e = .returned (.int .i64 (firstJ (Lib.compareInt x.kn y.kn) (Lib.compareInt x.id y.id))) ∧ ∃ q os', w' = grow (W.drewN q) os' := by
  have hcon := fun a b W' => Tryz.cmp_Compare_int a b W'
  generalize Lib.compareInt = k at hcon ⊢
  obtain ⟨a0, a1, a2, a3, a4, a5, a6⟩ := x
  obtain ⟨b0, b1, b2, b3, b4, b5, b6⟩ := y
  simp only
  go_enter Tryz.func118, Tryz.ntmps118
  go_wp2
  go_region_held3 (fun w' => w'.cell? ⟨W.heap.size, 0, none⟩ = some (.int .i64 a0) ∧ w'.cell? ⟨W.heap.size, 1, none⟩ = some (.int .i64 a1) ∧ w'.cell? ⟨W.heap.size + 1, 0, none⟩ = some (.int .i64 b0) ∧ w'.cell? ⟨W.heap.size + 1, 1, none⟩ = some (.int .i64 b1)) (go_keep)
    (first | (go_at_call 97; refine (hcon _ _ _).mono ?_; rintro e w' ⟨rfl, rfl⟩) | (go_at_call 119; refine (or2_calls (k a1 b1) (k a0 b0) _ _ (new2_cell _ _ _ _ _ _ _ rfl) (new2_cell _ _ _ _ _ _ _ rfl)).mono ?_; rintro e w' ⟨rfl, rfl⟩))
  all_goals go_wp2
  go_ret
  exact ⟨rfl, 1, _, by rw [alloc_eq_grow, alloc_eq_grow, alloc_eq_grow, grow_grow, grow_grow]; rfl⟩
end Go.Proofs.YtkebbdpfjhhdhaaGreat

/- Layer 8: slices.SortFunc of items is sound, as a base. -/
namespace Go.Proofs.YtkebbdpfjhhdhaaGreat
open Go.Proofs.YtkebbdpfjhhdhaaGreat.Ev Go.Sort Go.RowKit Go.Lib

def cmpJ (x y : Im) : Int := firstJ (Lib.compareInt x.kn y.kn) (Lib.compareInt x.id y.id)
theorem cmpJ_lt (x y : Im) : cmpJ x y < 0 ↔ leJ y x = false := by
  have hb : leJ y x = false ↔ ¬ leJ y x = true := by cases leJ y x <;> simp
  rw [hb, leJ_iff]
  unfold cmpJ firstJ Lib.compareInt
  repeat' split
  all_goals omega
theorem ltJ_swo : SWO (ltOf cmpJ) := by
  have e : ∀ x y : Im, ltOf cmpJ x y = !leJ y x := fun x y => by
    unfold ltOf
    cases h : leJ y x
    · simpa using (cmpJ_lt x y).2 h
    · have : ¬ cmpJ x y < 0 := fun hc => by rw [(cmpJ_lt x y).1 hc] at h; cases h
      simpa using this
  refine ⟨fun x => ?_, fun x y z h1 h2 => ?_, fun x y z h1 h2 => ?_⟩
  · rw [e]
    have : leJ x x = true := by rw [leJ_iff]; omega
    simp [this]
  · rw [e] at *
    simp only [Bool.not_eq_true'] at *
    have hb : ∀ a b : Im, leJ a b = false ↔ ¬ leJ a b = true := fun a b => by cases leJ a b <;> simp
    rw [hb, leJ_iff] at *
    omega
  · rw [e] at *
    simp only [Bool.not_eq_false'] at *
    exact leJ_trans _ _ _ h2 h1
def encJ (x : Im) : List Value := (fdJ x).map (Value.int .i64)
theorem flatK_flJ (ps : List Im) : flatK encJ 7 ps.toArray = (flJ ps).toArray.map (Value.int .i64) := by
  refine ext_get! (by simp [flJ_len]) fun t ht => ?_
  have ht' : t < ps.toArray.size * 7 := by simpa using ht
  have hi : t / 7 < ps.length := by simp at ht'; omega
  rw [get_flatK _ _ _ t ht']
  have hp : ps.toArray[t / 7]! = ps[t / 7] := by simp [hi]
  rw [hp]
  have hl : t < (flJ ps).length := by rw [flJ_len]; simpa using ht'
  have hr : ((flJ ps).toArray.map (Value.int .i64))[t]! = .int .i64 ((flJ ps)[t]'hl) := by simp [hl]
  rw [hr]
  have hg := flat_get (z := 7) (by decide) fdJ (fun _ => rfl) ps t
  have hm : t % 7 < 7 := Nat.mod_lt _ (by decide)
  have hm' : t % 7 < (fdJ ps[t / 7]).length := hm
  rw [show (ps.flatMap fdJ)[t]? = some ((flJ ps)[t]'hl) from List.getElem?_eq_getElem hl, List.getElem?_eq_getElem hi] at hg
  simp only [Option.bind_some] at hg
  rw [List.getElem?_eq_getElem hm'] at hg
  have he := Option.some.inj hg
  rw [he]
  simp [encJ, hm']
theorem putRow_ints (w : World) (b o : Nat) (zs : List Int) : putRow id w b o (zs.toArray.map (Value.int .i64)) = putRow (Value.int .i64) w b o zs.toArray := by
  unfold putRow
  congr 1
  funext c
  unfold putCells
  congr 1
  funext k x
  by_cases hk : o ≤ k ∧ k < o + zs.toArray.size
  · rw [if_pos (by simpa using hk), if_pos hk]
    have : k - o < zs.length := by have := hk.2; simp at this; omega
    simp [this]
  · rw [if_neg (by simpa using hk), if_neg hk]
theorem holds_intsJ {w : World} {b o : Nat} {ps : List Im} (h : Holds (Value.int .i64) w b o (flJ ps).toArray) : HoldsK encJ 7 w b o ps.toArray := by
  unfold HoldsK
  rw [flatK_flJ]
  intro j hj
  have hj' : j < (flJ ps).toArray.size := by simpa using hj
  have := h j hj'
  have hl : j < (flJ ps).length := by simpa using hj'
  simpa [hl] using this
/-- what the program's sorting returns is the list in order -/
theorem pdqJ (ps : List Im) (h1 : OneJ ps) : (pdq (ltOf cmpJ) ps.toArray 0 ps.length (Lib.bitLen ps.length) true true).toList = srtJ ps := by
  have h := pdq_sorts (ltOf cmpJ) ltJ_swo ps.toArray 0 ps.toArray.size (Lib.bitLen ps.toArray.size) true true (Nat.zero_le _) (Nat.le_refl _) (Or.inl rfl)
  simp only [List.size_toArray] at h
  generalize pdq (ltOf cmpJ) ps.toArray 0 ps.length (Lib.bitLen ps.length) true true = q at h ⊢
  obtain ⟨⟨hq1, _, h3⟩, h4⟩ := h
  have hl : q.toList.length = ps.length := by simpa using hq1
  have hp : q.toList.Perm ps := by
    have h5 : (List.take ps.length q.toList).Perm ps := by simpa using h3
    rwa [List.take_of_length_le (by omega)] at h5
  refine uniqJ (fun x hx y hy => h1 x (hp.subset hx) y (hp.subset hy)) (hp.trans (srtJ_perm ps).symm) ?_ (srtJ_pw ps)
  rw [List.pairwise_iff_getElem]
  intro i j hi hj hij
  have h5 := h4 i j (Nat.zero_le _) hij (by omega)
  have e1 : q[j]! = q.toList[j] := by simp at hj; simp [hj]
  have e2 : q[i]! = q.toList[i] := by simp at hi; simp [hi]
  rw [e1, e2] at h5
  unfold ltOf at h5
  have h6 := of_decide_eq_false h5
  cases hle : leJ q.toList[i] q.toList[j]
  · exact absurd ((cmpJ_lt _ _).2 hle) h6
  · rfl
set_option maxRecDepth 100000 in
theorem sortJ_sound : SoundC Tryz.prog (inpzB 117 118 7 okJ srtF) := by
  refine inpzB_sound (Ev.enters_of Tryz.func117 rfl rfl) srtF_len fun b o cap n zs Z X t w hw hZ hz hn hok => ?_
  obtain ⟨hfl, hone⟩ := okJ_un hok
  have hps : (unJ zs).length = n := by have := flJ_len (unJ zs); rw [hfl] at this; omega
  have hH : HoldsK encJ 7 w b o (unJ zs).toArray := holds_intsJ (by rw [hfl]; exact Ev.holds_ints hw hZ)
  have eg : ∀ args w, (callFunc 118 args).run Tryz.prog w = .ok (.enter 118 args) w := enters_of Tryz.func118 (by kernel_rfl) rfl
  have hcon := AnyQ.slices_SortFunc_eq Tryz.sortIt 7 Tryz.isAgg114 Tryz.sizeOf114 encJ (fun _ => rfl) (fun x v hv => by simp [encJ, fdJ] at hv; rcases hv with rfl | rfl | rfl | rfl | rfl | rfl | rfl <;> rfl) cmpJ ltJ_swo 118 #[] b o cap (unJ zs).toArray w eg (fun _ _ _ _ x y => sorted1_calls x y _) hH (Array.getElem?_eq_some_iff.1 hw).1 (by simp; omega)
  change Calls Tryz.prog 117 _ _ _ at hcon
  simp only [List.size_toArray, hps] at hcon
  refine hcon.mono ?_
  rintro e w' ⟨rfl, m, os, rfl⟩
  refine ⟨rfl, m, os, ?_⟩
  unfold sortWorldK putRowK
  have e1 : pdq (ltOf cmpJ) (unJ zs).toArray 0 n (Lib.bitLen n) true true = (srtJ (unJ zs)).toArray := by
    rw [← pdqJ _ hone, hps]
  rw [e1, flatK_flJ, putRow_ints]
  unfold srtF
  rw [if_pos hok]
end Go.Proofs.YtkebbdpfjhhdhaaGreat
