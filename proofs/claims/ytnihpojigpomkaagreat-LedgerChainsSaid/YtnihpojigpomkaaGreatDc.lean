/- slices.Sorted(maps.Keys(m)) of a map of ints: the answer is sound. -/
import Derived.Test.YtnihpojigpomkaaGreatDb
import Derived.Test.YtnihpojigpomkaaGreatSd
import Derived.Test.YtnihpojigpomkaaGreatShelfI
import Derived.Shelf.SortM.Plain
import Derived.Shelf.SortM.SortNone
namespace Go.Proofs.YtnihpojigpomkaaGreat
open Go.Proofs.YtnihpojigpomkaaGreat.Ev Go.RowKit Go.Maps Go.Sort Go.Shelf

theorem sortsI (m : Nat) : AnyZI.SortsIn Tryz.prog Tryz.sortedA_ren Fence.wide m :=
  ⟨fun blk off cap ss W hH hblk hsz => callsIn_wide.2 (AnyM.slices_Sort_int Tryz.sortA blk off cap ss W hH hblk hsz),
   fun p cap W => callsIn_wide.2 (AnyM.slices_Sort_int_none Tryz.sortA p cap W)⟩
theorem VRs_intsV {E : Env} : ∀ ks : List Int, VRs E (ks.map (AV.int .i64)) (ks.map (Value.int .i64))
  | [] => VRs.nil
  | k :: l => VRs.cons (by simp only [VR]) (VRs_intsV l)
set_option maxHeartbeats 2000000 in
theorem keyB_sound : SoundC Tryz.prog KeyB := by
  intro q args h v h' ev top E W Args k ht hv
  obtain ⟨p, t, m, es, ks, rfl, hp, hm, hu, hl, hnd, rfl, hres⟩ := keyA_eq ev
  simp only [VRs, VR] at hv
  obtain ⟨_, _, rfl, ⟨fn, As, Cs, rfl, rfl, ⟨_, _, rfl, ⟨b, c, hE, rfl⟩, rfl⟩, rfl⟩, rfl⟩ := hv
  obtain ⟨b1, c1, O1, e1, e2, e3⟩ := k.obj p _ hp
  obtain ⟨L, b2, c2, hL, rfl, e4, e5⟩ := e3
  rw [hE] at e1 e4
  cases e1
  cases e4
  simp only [VRs, VR] at hL
  obtain ⟨_, _, rfl, ⟨bm, cm, hEm, rfl⟩, rfl⟩ := hL
  obtain ⟨b3, c3, O3, f1, f2, f3⟩ := k.obj m _ hm
  obtain ⟨Es, f4, rfl⟩ := f3
  rw [hEm] at f1
  cases f1
  obtain ⟨g1, g2, g3⟩ := unKs_es hu f4
  obtain ⟨fit, hlen, hperm⟩ := fit_ints (t := 3) (by kernel_rfl) g1 g2 g3 hl hnd
  have hown : W.ownsMap Tryz.prog 3 rdAny bm ks.length (.map ((Es.map (Go.WideElems.rg Tryz.prog 3 rdAny)).foldr DataW.insert [])) := ⟨Es.toArray, ks.length, f2, fit, by simp [hlen], rfl⟩
  have hsize : Maps.size (DataW.map ((Es.map (Go.WideElems.rg Tryz.prog 3 rdAny)).foldr DataW.insert []) : DataW Nat) = ks.length := by
    show List.length _ = _
    rw [(Go.WideShapes.sorted_perm _).length_eq, List.length_map, hlen]
  have hbs : b < W.heap.size := (Array.getElem?_eq_some_iff.1 e2).1
  have hcell : W.cell? ⟨b, 0, none⟩ = some (.map (some bm)) := by
    simp only [World.cell?, e2]
    rfl
  have hseq : SeqGives Fence.wide 2 Tryz.prog 72 #[.pointer (some ⟨b, 0, none⟩)] encZ (fun ss => ss.Perm (intKeys (.map ((Es.map (Go.WideElems.rg Tryz.prog 3 rdAny)).foldr DataW.insert []) : DataW Nat))) (Maps.size (.map ((Es.map (Go.WideElems.rg Tryz.prog 3 rdAny)).foldr DataW.insert []) : DataW Nat)) W :=
    AnyZI.keys_gives (ρ := Tryz.keysA_ren) { Tryz.keysA with } Fence.wide _ trivial rfl (by omega) b bm ks.length _ W hbs hcell hown
  have cS := AnyZI.sorted_in Tryz.sortedA Fence.wide 5 trivial trivial trivial trivial rfl (by omega) (sortsI _) (fun args w => (enter_run (Ev.enters_of Tryz.func35 rfl rfl) args w).1) 72 #[.pointer (some ⟨b, 0, none⟩)] trivial (fun args w => (enter_run (Ev.enters_of Tryz.func72 rfl rfl) args w).1) _ _ (by rw [hsize]; simp only [maxLen]; omega) (by rw [hsize]; omega) W hseq
  change CallsIn _ _ Tryz.prog 24 _ _ _ at cS
  refine ⟨fun args w => (enter_run (Ev.enters_of Tryz.func24 rfl rfl) args w).1, fun q => ?_⟩
  have hargs : [Value.func (.func 72) [].toArray [Value.pointer (some ⟨b, 0 + c.2, none⟩)].toArray].toArray = #[Value.func (.func 72) #[] #[Value.pointer (some ⟨b, 0, none⟩)]] := by rw [e5]
  rw [hargs]
  refine (callsIn_wide.2 (callsIn_wide.1 cS)).mono ?_
  rintro e w' ⟨v1, ss, rfl, hS, hrow, hnil, hbel⟩
  have hp2 : ss.Perm ks := hS.trans hperm
  rw [srtI_eq hp2, hp2.length_eq] at hrow
  obtain ⟨kr, xr⟩ := k.below hbel
  rcases hres with ⟨rfl, rfl, rfl⟩ | ⟨h0, rfl, rfl⟩
  · have : ss = [] := List.length_eq_zero_iff.1 hp2.length_eq
    exact ⟨_, E, rfl, xr, kr, by simp only [VR]; exact hnil.2 this⟩
  · rcases hrow with ⟨_, ⟨_, hz⟩ | ⟨gb, cap, cur, rfl, hbase, hgb, r1, r2, r3, r4⟩⟩
    · omega
    · have hcur : cur = ([] ++ ((srtI ks).map (Value.int .i64) ++ cur.toList.drop ks.length)).toArray := by
        apply Array.ext'
        show cur.toList = _
        rw [Nat.mul_one] at r4
        simp only [List.nil_append]
        rw [show (srtI ks).map (Value.int .i64) = cur.toList.take ks.length from r4.symm, List.take_append_drop]
      obtain ⟨p1, p2, p3⟩ := k.adopt ht (.row ((srtI ks).map (AV.int .i64)) 3 1) _ gb (cap, 0) ⟨[], _, cur.toList.drop ks.length, gb, (cap, 0), VRs_intsV _, by rw [← hcur]; rfl, if_pos rfl, by
        show ((srtI ks).map (Value.int .i64) ++ cur.toList.drop ks.length).length = cap * 1
        have e1 : cur.toList.length = cap * 1 := (Array.length_toList ..).trans r3
        have e2 : ks.length ≤ cap := r1
        simp only [List.length_append, List.length_map, srtI_len, List.length_drop, e1]
        omega, Nat.zero_lt_one, rfl⟩ hbase hgb hbel
      refine ⟨_, _, rfl, p2, p1, ?_⟩
      simp only [VR]
      exact ⟨gb, (cap, 0), p3, rfl⟩
end Go.Proofs.YtnihpojigpomkaaGreat
