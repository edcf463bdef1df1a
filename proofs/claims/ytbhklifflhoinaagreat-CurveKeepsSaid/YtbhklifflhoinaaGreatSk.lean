/- slices.SortFunc of knots by their X: what it does to a row. -/
import Derived.Test.YtbhklifflhoinaaGreatCr
import Derived.Test.YtbhklifflhoinaaGreatShelfK
import Derived.Test.YtbhklifflhoinaaGreatShelf
namespace Go.Proofs.YtbhklifflhoinaaGreat
open Go.Proofs.YtbhklifflhoinaaGreat.Ev Go.Sort Go.RowKit Go.Lib

theorem flI_len : ∀ ps : List (Int × Int), (flI ps).length = ps.length * 2
  | [] => rfl
  | p :: ps => by have := flI_len ps; simp [flI] at this ⊢; omega
theorem flI_un : ∀ {zs : List Int}, zs.length % 2 = 0 → flI (unI zs) = zs
  | [], _ => rfl
  | [_], h => by simp at h
  | a :: b :: l, h => by
    have := flI_un (zs := l) (by simp at h; omega)
    show a :: b :: flI (unI l) = _
    rw [this]
theorem unI_fl : ∀ ps : List (Int × Int), unI (flI ps) = ps
  | [] => rfl
  | p :: ps => by
    show (p.1, p.2) :: unI (flI ps) = _
    rw [unI_fl ps]
theorem unI_len {zs : List Int} (h : zs.length % 2 = 0) : (unI zs).length * 2 = zs.length := by rw [← flI_len, flI_un h]
theorem flI_get : ∀ (l : List (Int × Int)) (i : Nat) (h : i < l.length), (flI l)[i * 2]? = some l[i].1 ∧ (flI l)[i * 2 + 1]? = some l[i].2
  | [], i, h => by simp at h
  | f :: l, 0, _ => by simp [flI]
  | f :: l, i + 1, h => by
    have h1 := flI_get l i (by simpa using h)
    have e : flI (f :: l) = f.1 :: f.2 :: flI l := by simp [flI]
    rw [e, show (i + 1) * 2 = i * 2 + 1 + 1 by omega]
    simpa using h1
def encP (x : Int × Int) : List Value := [.int .i64 x.1, .int .i64 x.2]
theorem flatK_flI (ps : List (Int × Int)) : flatK encP 2 ps.toArray = (flI ps).toArray.map (Value.int .i64) := by
  refine ext_get! (by simp [flI_len]) fun t ht => ?_
  have ht' : t < ps.toArray.size * 2 := by simpa using ht
  have hi : t / 2 < ps.length := by simp at ht'; omega
  obtain ⟨g1, g2⟩ := flI_get ps (t / 2) hi
  rw [get_flatK _ _ _ t ht']
  have hp : ps.toArray[t / 2]! = ps[t / 2] := by simp [hi]
  rw [hp]
  have hl : t < (flI ps).length := by rw [flI_len]; simpa using ht'
  have hr : ((flI ps).toArray.map (Value.int .i64))[t]! = .int .i64 ((flI ps)[t]'hl) := by simp [hl]
  rw [hr]
  rcases Nat.mod_two_eq_zero_or_one t with h | h
  · rw [h]
    have e : t / 2 * 2 = t := by omega
    rw [e, List.getElem?_eq_getElem hl] at g1
    rw [Option.some.inj g1]
    rfl
  · rw [h]
    have e : t / 2 * 2 + 1 = t := by omega
    rw [e, List.getElem?_eq_getElem hl] at g2
    rw [Option.some.inj g2]
    rfl
theorem putRow_ints (w : World) (b : Nat) (zs : List Int) : putRow id w b 0 (zs.toArray.map (Value.int .i64)) = putRow (Value.int .i64) w b 0 zs.toArray := by
  unfold putRow
  congr 1
  funext c
  unfold putCells
  congr 1
  funext k x
  by_cases hk : 0 ≤ k ∧ k < 0 + zs.toArray.size
  · rw [if_pos (by simpa using hk), if_pos hk]
    have : k < zs.length := by simpa using hk.2
    simp [this]
  · rw [if_neg (by simpa using hk), if_neg hk]
theorem holds_intsK {w : World} {b : Nat} {ps : List (Int × Int)} (h : Holds (Value.int .i64) w b 0 (flI ps).toArray) : HoldsK encP 2 w b 0 ps.toArray := by
  unfold HoldsK
  rw [flatK_flI]
  intro j hj
  have hj' : j < (flI ps).toArray.size := by simpa using hj
  have := h j hj'
  have hl : j < (flI ps).length := by simpa using hj'
  simpa [hl] using this
set_option maxHeartbeats 1000000 in
theorem refine1_calls (x y : Int × Int) (W : World) : Calls Tryz.prog 40 #[.agg #[.int .i64 x.1, .int .i64 x.2], .agg #[.int .i64 y.1, .int .i64 y.2]] W fun e w' => e = .returned (.int .i64 (Lib.compareInt x.1 y.1)) ∧ ∃ q os', w' = grow (W.drewN q) os' := by
  have hcon := fun W' => Tryz.cmp_Compare_int x.1 y.1 W'
  generalize Lib.compareInt x.1 y.1 = r at hcon ⊢
  go_enter Tryz.func40, Tryz.ntmps40
  go_wp2_with (go_at_call 41; refine (hcon _).mono ?_; rintro e w' ⟨rfl, rfl⟩)
  go_ret
  exact ⟨rfl, 0, _, by rw [alloc_eq_grow, alloc_eq_grow, grow_grow]; rfl⟩
theorem ltX_swo : SWO (ltOf fun x y : Int × Int => Lib.compareInt x.1 y.1) := by
  have e : ∀ x y : Int × Int, ltOf (fun x y : Int × Int => Lib.compareInt x.1 y.1) x y = decide (x.1 < y.1) := fun x y => by
    unfold ltOf Lib.compareInt
    by_cases h1 : x.1 < y.1
    · simp [h1]
    · by_cases h2 : y.1 < x.1 <;> simp [h1, h2]
  exact ⟨fun x => by rw [e]; simp, fun x y z h1 h2 => by rw [e] at *; simp at *; omega, fun x y z h1 h2 => by rw [e] at *; simp at *; omega⟩
theorem sortP_perm (ps : List (Int × Int)) : PermIn 0 ps.length ps.toArray (sortP ps).toArray ∧ SortedIn (ltOf fun x y : Int × Int => Lib.compareInt x.1 y.1) 0 ps.length (sortP ps).toArray := by
  have h := pdq_sorts (ltOf fun x y : Int × Int => Lib.compareInt x.1 y.1) ltX_swo ps.toArray 0 ps.toArray.size (Lib.bitLen ps.toArray.size) true true (Nat.zero_le _) (Nat.le_refl _) (Or.inl rfl)
  simp only [sortP, Array.toArray_toList]
  exact h
theorem sortP_list (ps : List (Int × Int)) : (sortP ps).Perm ps ∧ (sortP ps).Pairwise fun x y => x.1 ≤ y.1 := by
  obtain ⟨⟨h1, _, h3⟩, h4⟩ := sortP_perm ps
  have hl : (sortP ps).length = ps.length := by simpa using h1
  refine ⟨by
    simp only [List.extract_toArray, List.extract_eq_take_drop, Nat.sub_zero, List.drop_zero] at h3
    rwa [List.take_of_length_le (by omega), List.take_of_length_le (by omega)] at h3, ?_⟩
  rw [List.pairwise_iff_getElem]
  intro i j hi hj hij
  have := h4 i j (Nat.zero_le _) hij (by omega)
  have e1 : (sortP ps).toArray[j]! = (sortP ps)[j] := by simp [hj]
  have e2 : (sortP ps).toArray[i]! = (sortP ps)[i] := by simp [hi]
  rw [e1, e2] at this
  unfold ltOf Lib.compareInt at this
  simp at this
  split at this
  · simp at this
  · omega
theorem sortP_len (ps : List (Int × Int)) : (sortP ps).length = ps.length := (sortP_list ps).1.length_eq
theorem sortI_len (zs : List Int) : (sortI zs).length = zs.length := by
  unfold sortI
  split
  · rename_i h
    rw [flI_len, sortP_len]
    exact unI_len h
  · rfl
theorem sortI_fl (ps : List (Int × Int)) : sortI (flI ps) = flI (sortP ps) := by
  unfold sortI
  rw [if_pos (by rw [flI_len]; omega), unI_fl]
set_option maxRecDepth 100000 in
theorem sortKB_sound : SoundC Tryz.prog (inpfB 39 40 sortI) := by
  refine inpfB_sound (Ev.enters_of Tryz.func39 rfl rfl) sortI_len fun b cap n zs X t w hw hz hn => ?_
  have hev : zs.length % 2 = 0 := by omega
  have hfl := flI_un hev
  have hps : (unI zs).length = n := by have := unI_len hev; omega
  have hH : HoldsK encP 2 w b 0 (unI zs).toArray := holds_intsK (by rw [hfl]; exact holds_ints hw)
  have eg : ∀ args w, (callFunc 40 args).run Tryz.prog w = .ok (.enter 40 args) w := enters_of Tryz.func40 (by kernel_rfl) rfl
  have hcon := AnyQ.slices_SortFunc_eq Tryz.sortKn 2 Tryz.isAgg81 Tryz.sizeOf81 encP (fun _ => rfl) (fun x v hv => by simp [encP] at hv; rcases hv with rfl | rfl <;> rfl) (fun x y => Lib.compareInt x.1 y.1) ltX_swo 40 #[] b 0 cap (unI zs).toArray w eg (fun _ _ _ _ x y => refine1_calls x y _) hH (Array.getElem?_eq_some_iff.1 hw).1 (by simp; omega)
  change Calls Tryz.prog 39 _ _ _ at hcon
  simp only [List.size_toArray, hps] at hcon
  refine hcon.mono ?_
  rintro e w' ⟨rfl, m, os, rfl⟩
  refine ⟨rfl, m, os, ?_⟩
  unfold sortWorldK putRowK
  have e1 : pdq (ltOf fun x y : Int × Int => Lib.compareInt x.1 y.1) (unI zs).toArray 0 n (Lib.bitLen n) true true = (sortP (unI zs)).toArray := by
    simp only [sortP, Array.toArray_toList, hps]
    rfl
  rw [e1, flatK_flI, putRow_ints]
  unfold sortI
  rw [if_pos hev]
end Go.Proofs.YtbhklifflhoinaaGreat
