/- What the bases of layer 2 rest on: slices.Sort, slices.Grow, slices.SortFunc of sightings. -/
import Derived.Test.YtgjkfmcjalcefaaGreatTb
import Derived.Test.YtgjkfmcjalcefaaGreatSan
import Derived.Test.YtgjkfmcjalcefaaGreatShelf
import Derived.Test.YtgjkfmcjalcefaaGreatShelfG
import Derived.Test.YtgjkfmcjalcefaaGreatShelfK
import Derived.Laws.AppendOwn
namespace Go.Proofs.YtgjkfmcjalcefaaGreat
open Go.Proofs.YtgjkfmcjalcefaaGreat.Ev Go.Sort Go.RowKit Go.Lib

theorem sortB_sound : SoundC Tryz.prog (inplB 48 sortX fun _ _ _ => .tup []) :=
  inplB_sound (V := fun _ _ _ => .tuple #[]) (Ev.enters_of Tryz.func48 rfl rfl) sortX_len (fun _ _ _ => by simp [VR, VRs]) fun b cap zs w hH hb hz _ =>
    Tryz.slices_Sort_int b 0 cap zs w hH hb (by omega)
theorem nilSort_sound : SoundC Tryz.prog (nilB 48 none) :=
  nilB_sound (Ev.enters_of Tryz.func48 rfl rfl) fun w => by
    refine (calls_sound mixed (n := 2000) (f := 48) (args := [.slice0]) (v := .tup []) (by kernel_rfl) (Args := [.slice none 0 0]) ?_ w).mono ?_
    · simp [VRs, VR]
    · rintro e w' ⟨V, E', rfl, hV, hb⟩
      simp only [VR, VRs] at hV
      obtain ⟨L, rfl, rfl⟩ := hV
      exact ⟨rfl, hb⟩
theorem nilFunc_sound : SoundC Tryz.prog (nilB 41 (some 42)) :=
  nilB_sound (Ev.enters_of Tryz.func41 rfl rfl) fun w => by
    refine (calls_sound mixed (n := 2000) (f := 41) (args := [.slice0, .fn (.func 42) [] []]) (v := .tup []) (by kernel_rfl) (Args := [.slice none 0 0, .func (.func 42) #[] #[]]) ?_ w).mono ?_
    · simp only [VRs, VR]
      exact ⟨_, _, rfl, rfl, _, _, rfl, ⟨_, [], [], rfl, rfl, rfl, rfl⟩, rfl⟩
    · rintro e w' ⟨V, E', rfl, hV, hb⟩
      simp only [VR, VRs] at hV
      obtain ⟨L, rfl, rfl⟩ := hV
      exact ⟨rfl, hb⟩
theorem growSg_sound : SoundC Tryz.prog (growB 115 6 87) := by
  refine growB_sound (Ev.enters_of Tryz.func115 rfl rfl) (by decide) fun n w h0 h1 => ?_
  have hs : (Tryz.prog.info? 87).map (·.size) = some 6 := by kernel_rfl
  have hb : (Tryz.prog.info? 87).map (·.bytes) = some 48 := by kernel_rfl
  have hz : ((Tryz.prog.info? 87).bind (·.zero)).map (·.cells.size) = some 6 := by kernel_rfl
  obtain ⟨i0, hi0⟩ : ∃ i, Tryz.prog.info? 87 = some i := by
    cases h : Tryz.prog.info? 87 with
    | none => rw [h] at hs; cases hs
    | some i => exact ⟨i, rfl⟩
  rw [hi0] at hs hb hz
  simp only [Option.map_some, Option.some.injEq, Option.bind_some, Option.map_eq_some_iff] at hs hb hz
  obtain ⟨z, hz0, hz1⟩ := hz
  have := Any8.slices_Grow_grow Tryz.growSg i0 z hi0 hz0 (by omega) none 0 0 n [] w (Nat.le_refl _) (by omega) (by rw [hb]; omega) (by omega) (by simp) (fun _ => rfl) (fun a e => by cases e)
  refine this.mono ?_
  rintro e w' ⟨rfl, rfl⟩
  have hg := grownCap_ge w (0 + n) 0 87
  have hzc : ∀ k, (Builtin.zeroCells z.cells k).size = k * 6 := fun k => by
    unfold Builtin.zeroCells
    simp [hz1]
  refine ⟨(([] : List Value).toArray ++ Builtin.zeroCells z.cells (0 + n - 0) ++ Builtin.zeroCells z.cells (grownCap w (0 + n) 0 87 - (0 + n))).toList, grownCap w (0 + n) 0 87, rfl, by rw [Array.toArray_toList]; rfl, ?_⟩
  generalize grownCap w (0 + n) 0 87 = gc at *
  simp only [Array.length_toList, Array.size_append, hzc]
  simp
  omega
theorem growCy_sound : SoundC Tryz.prog (growB 139 4 55) := by
  refine growB_sound (Ev.enters_of Tryz.func139 rfl rfl) (by decide) fun n w h0 h1 => ?_
  have hs : (Tryz.prog.info? 55).map (·.size) = some 4 := by kernel_rfl
  have hb : (Tryz.prog.info? 55).map (·.bytes) = some 48 := by kernel_rfl
  have hz : ((Tryz.prog.info? 55).bind (·.zero)).map (·.cells.size) = some 4 := by kernel_rfl
  obtain ⟨i0, hi0⟩ : ∃ i, Tryz.prog.info? 55 = some i := by
    cases h : Tryz.prog.info? 55 with
    | none => rw [h] at hs; cases hs
    | some i => exact ⟨i, rfl⟩
  rw [hi0] at hs hb hz
  simp only [Option.map_some, Option.some.injEq, Option.bind_some, Option.map_eq_some_iff] at hs hb hz
  obtain ⟨z, hz0, hz1⟩ := hz
  have := Any8.slices_Grow_grow Tryz.growCy i0 z hi0 hz0 (by omega) none 0 0 n [] w (Nat.le_refl _) (by omega) (by rw [hb]; omega) (by omega) (by simp) (fun _ => rfl) (fun a e => by cases e)
  refine this.mono ?_
  rintro e w' ⟨rfl, rfl⟩
  have hg := grownCap_ge w (0 + n) 0 55
  have hzc : ∀ k, (Builtin.zeroCells z.cells k).size = k * 4 := fun k => by
    unfold Builtin.zeroCells
    simp [hz1]
  refine ⟨(([] : List Value).toArray ++ Builtin.zeroCells z.cells (0 + n - 0) ++ Builtin.zeroCells z.cells (grownCap w (0 + n) 0 55 - (0 + n))).toList, grownCap w (0 + n) 0 55, rfl, by rw [Array.toArray_toList]; rfl, ?_⟩
  generalize grownCap w (0 + n) 0 55 = gc at *
  simp only [Array.length_toList, Array.size_append, hzc]
  simp
  omega
theorem flR_get : ∀ (l : List Rb) (i : Nat) (h : i < l.length), (flR l)[i * 6]? = some l[i].1.id ∧ (flR l)[i * 6 + 1]? = some l[i].1.b ∧ (flR l)[i * 6 + 2]? = some l[i].1.c ∧ (flR l)[i * 6 + 3]? = some l[i].1.d ∧ (flR l)[i * 6 + 4]? = some l[i].1.e ∧ (flR l)[i * 6 + 5]? = some l[i].1.f
  | [], i, h => by simp at h
  | p :: l, 0, _ => by rw [flR_cons]; simp
  | p :: l, i + 1, h => by
    have h1 := flR_get l i (by simpa using h)
    rw [flR_cons]
    have e0 : (i + 1) * 6 = i * 6 + 1 + 1 + 1 + 1 + 1 + 1 := by omega
    have e1 : (i + 1) * 6 + 1 = (i * 6 + 1) + 1 + 1 + 1 + 1 + 1 + 1 := by omega
    have e2 : (i + 1) * 6 + 2 = (i * 6 + 2) + 1 + 1 + 1 + 1 + 1 + 1 := by omega
    have e3 : (i + 1) * 6 + 3 = (i * 6 + 3) + 1 + 1 + 1 + 1 + 1 + 1 := by omega
    have e4 : (i + 1) * 6 + 4 = (i * 6 + 4) + 1 + 1 + 1 + 1 + 1 + 1 := by omega
    have e5 : (i + 1) * 6 + 5 = (i * 6 + 5) + 1 + 1 + 1 + 1 + 1 + 1 := by omega
    rw [e5, e4, e3, e2, e1, e0]
    simpa using h1
def encR (x : Rb) : List Value := [.int .i64 x.1.id, .int .i64 x.1.b, .int .i64 x.1.c, .int .i64 x.1.d, .int .i64 x.1.e, .int .i64 x.1.f]
theorem flatK_flR (ps : List Rb) : flatK encR 6 ps.toArray = (flR ps).toArray.map (Value.int .i64) := by
  refine ext_get! (by simp [flR_len]) fun t ht => ?_
  have ht' : t < ps.toArray.size * 6 := by simpa using ht
  have hi : t / 6 < ps.length := by simp at ht'; omega
  obtain ⟨g0, g1, g2, g3, g4, g5⟩ := flR_get ps (t / 6) hi
  rw [get_flatK _ _ _ t ht']
  have hp : ps.toArray[t / 6]! = ps[t / 6] := by simp [hi]
  rw [hp]
  have hl : t < (flR ps).length := by rw [flR_len]; simpa using ht'
  have hr : ((flR ps).toArray.map (Value.int .i64))[t]! = .int .i64 ((flR ps)[t]'hl) := by simp [hl]
  rw [hr]
  have key : ∀ (r : Nat) (v : Int), t % 6 = r → (flR ps)[t / 6 * 6 + r]? = some v → (flR ps)[t]'hl = v := fun r v h e => by
    have e2 : t / 6 * 6 + r = t := by omega
    rw [e2, List.getElem?_eq_getElem hl] at e
    exact Option.some.inj e
  rcases (show t % 6 = 0 ∨ t % 6 = 1 ∨ t % 6 = 2 ∨ t % 6 = 3 ∨ t % 6 = 4 ∨ t % 6 = 5 by omega) with h | h | h | h | h | h
  · rw [h, key 0 _ h g0]; rfl
  · rw [h, key 1 _ h g1]; rfl
  · rw [h, key 2 _ h g2]; rfl
  · rw [h, key 3 _ h g3]; rfl
  · rw [h, key 4 _ h g4]; rfl
  · rw [h, key 5 _ h g5]; rfl
theorem putRow_ints (w : World) (b : Nat) (zs : List Int) : putRow id w b 0 (zs.toArray.map (Value.int .i64)) = putRow (Value.int .i64) w b 0 zs.toArray := by
  unfold putRow
  congr 1
  funext c
  unfold putCells
  congr 1
  funext k x
  by_cases hk : 0 ≤ k ∧ k < 0 + zs.toArray.size
  · rw [if_pos (by simpa using hk), if_pos hk]
    have : k < zs.length := by simpa using hk.2
    simp [this]
  · rw [if_neg (by simpa using hk), if_neg hk]
theorem holds_intsR {w : World} {b : Nat} {ps : List Rb} (h : Holds (Value.int .i64) w b 0 (flR ps).toArray) : HoldsK encR 6 w b 0 ps.toArray := by
  unfold HoldsK
  rw [flatK_flR]
  intro j hj
  have hj' : j < (flR ps).toArray.size := by simpa using hj
  have := h j hj'
  have hl : j < (flR ps).length := by simpa using hj'
  simpa [hl] using this
set_option maxHeartbeats 1000000 in
theorem clashes1_calls (x y : Rb) (W : World) : Calls Tryz.prog 42 #[.agg #[.int .i64 x.1.id, .int .i64 x.1.b, .int .i64 x.1.c, .int .i64 x.1.d, .int .i64 x.1.e, .int .i64 x.1.f], .agg #[.int .i64 y.1.id, .int .i64 y.1.b, .int .i64 y.1.c, .int .i64 y.1.d, .int .i64 y.1.e, .int .i64 y.1.f]] W fun e w' => e = .returned (.int .i64 (cmpR x y)) ∧ ∃ q os', w' = grow (W.drewN q) os' := by
  have h1 := x.2
  have h2 := y.2
  simp only [rwOk, Bool.and_eq_true, decide_eq_true_eq] at h1 h2
  have hw : wrap64 (x.1.id - y.1.id) = x.1.id - y.1.id := by unfold wrap64; omega
  unfold cmpR
  generalize x.1.id = a at *
  generalize y.1.id = b at *
  go_enter Tryz.func42, Tryz.ntmps42
  go_wp2
  go_ret
  exact ⟨rfl, 0, _, by rw [alloc_eq_grow, alloc_eq_grow, grow_grow]; rfl⟩
theorem ltR_swo : SWO (ltOf cmpR) := by
  have e : ∀ x y : Rb, ltOf cmpR x y = decide (x.1.id < y.1.id) := fun x y => by
    unfold ltOf cmpR
    by_cases h : x.1.id < y.1.id
    · rw [decide_eq_true h, decide_eq_true (by omega)]
    · rw [decide_eq_false h, decide_eq_false (by omega)]
  exact ⟨fun x => by rw [e]; simp, fun x y z h1 h2 => by rw [e] at *; simp at *; omega, fun x y z h1 h2 => by rw [e] at *; simp at *; omega⟩
theorem sortR_perm (ps : List Rb) : PermIn 0 ps.length ps.toArray (sortR ps).toArray ∧ SortedIn (ltOf cmpR) 0 ps.length (sortR ps).toArray := by
  have h := pdq_sorts (ltOf cmpR) ltR_swo ps.toArray 0 ps.toArray.size (Lib.bitLen ps.toArray.size) true true (Nat.zero_le _) (Nat.le_refl _) (Or.inl rfl)
  simp only [sortR, Array.toArray_toList]
  exact h
theorem sortR_list (ps : List Rb) : (sortR ps).Perm ps := by
  obtain ⟨⟨h1, _, h3⟩, _⟩ := sortR_perm ps
  have hl : (sortR ps).length = ps.length := by simpa using h1
  simp only [List.extract_toArray, List.extract_eq_take_drop, Nat.sub_zero, List.drop_zero] at h3
  rwa [List.take_of_length_le (by omega), List.take_of_length_le (by omega)] at h3
theorem sortZ_len (zs : List Int) : (sortZ zs).length = zs.length := by
  unfold sortZ
  split
  · rename_i h
    rw [flR_len, (sortR_list _).length_eq, ← flR_len, flR_un h]
  · rfl
theorem sortZ_fl (ps : List Rb) : sortZ (flR ps) = flR (sortR ps) := by
  unfold sortZ
  rw [if_pos (okR_fl ps), unR_fl]
set_option maxRecDepth 100000 in
theorem sortSg_sound : SoundC Tryz.prog (inpzB 41 42 6 okR sortZ) := by
  refine inpzB_sound (Ev.enters_of Tryz.func41 rfl rfl) sortZ_len fun b cap n zs X t w hw hz hn hok => ?_
  have hfl := flR_un hok
  have hps : (unR zs).length = n := by have := flR_len (unR zs); rw [hfl] at this; omega
  have hH : HoldsK encR 6 w b 0 (unR zs).toArray := holds_intsR (by rw [hfl]; exact holds_ints hw)
  have eg : ∀ args w, (callFunc 42 args).run Tryz.prog w = .ok (.enter 42 args) w := enters_of Tryz.func42 (by kernel_rfl) rfl
  have hcon := AnyQ.slices_SortFunc_eq Tryz.sortSg 6 Tryz.isAgg87 Tryz.sizeOf87 encR (fun _ => rfl) (fun x v hv => by simp [encR] at hv; rcases hv with rfl | rfl | rfl | rfl | rfl | rfl <;> rfl) cmpR ltR_swo 42 #[] b 0 cap (unR zs).toArray w eg (fun _ _ _ _ x y => clashes1_calls x y _) hH (Array.getElem?_eq_some_iff.1 hw).1 (by simp; omega)
  change Calls Tryz.prog 41 _ _ _ at hcon
  simp only [List.size_toArray, hps] at hcon
  refine hcon.mono ?_
  rintro e w' ⟨rfl, m, os, rfl⟩
  refine ⟨rfl, m, os, ?_⟩
  unfold sortWorldK putRowK
  have e1 : pdq (ltOf cmpR) (unR zs).toArray 0 n (Lib.bitLen n) true true = (sortR (unR zs)).toArray := by
    simp only [sortR, Array.toArray_toList, hps]
    rfl
  rw [e1, flatK_flR, putRow_ints]
  unfold sortZ
  rw [if_pos hok]
theorem Bs_sound : SoundC Tryz.prog Bs := SoundC.or (sayB_sound (Ev.enters_of Tryz.func6 rfl rfl) sanity_any) (SoundC.or sortB_sound (SoundC.or growSg_sound (SoundC.or sortSg_sound (SoundC.or nilSort_sound (SoundC.or nilFunc_sound growCy_sound)))))
end Go.Proofs.YtgjkfmcjalcefaaGreat
