/- Appends to lists that are nil or a row; what is put into a map's literal; calls that write in a region that draws its order. For all types of elements. -/
import Derived.Deep.Slices
import Derived.Deep.Fields
import Derived.Deep.Strs
import Derived.Lib.SmallJoins
import Derived.Test.YtkebbdpfjhhdhaaGreatRow
import Derived.Test.YtkebbdpfjhhdhaaGreatSan
import Derived.Test.YtkebbdpfjhhdhaaGreatDo
import Derived.Test.YtkebbdpfjhhdhaaGreatDl
import Derived.Shelf.SlSortCmp.NoneTotal
import Derived.Test.YtkebbdpfjhhdhaaGreatShelfG
import Derived.Laws.AppendOwn
import Derived.Test.YtkebbdpfjhhdhaaGreatEvX
/- Layer 8: arguments that are structs of integers: what they read as; how a contract over the calculator's memory is said of the model. -/
namespace Go.Proofs.YtkebbdpfjhhdhaaGreat
open Go.ChangeShapes Go.WideShapes Go.ChangeAt Go.RowKit Go.Deep Go.Sort Go.Lib Go.Proofs.YtkebbdpfjhhdhaaGreat.Ev

theorem nilJ_sound : SoundC Tryz.prog NilJ :=
  empB_sound (Ev.enters_of Tryz.func117 rfl rfl) fun p cap w => AnyF.slices_SortFunc_none Tryz.sortIt p cap _ w
theorem sortB_sound : SoundC Tryz.prog (inplB 104 sortX fun _ _ _ => .tup []) :=
  inplB_sound (V := fun _ _ _ _ => .tuple #[]) (Ev.enters_of Tryz.func104 rfl rfl) sortX_len (fun _ _ _ => by simp [VR, VRs]) fun b off cap zs w hH hb hz _ =>
    AnyM.slices_Sort_int Tryz.sortA b off cap zs w hH hb (by omega)
theorem nilSort_sound : SoundC Tryz.prog (zerB 104) :=
  zerB_sound (Ev.enters_of Tryz.func104 rfl rfl) fun p cap w => AnyM.slices_Sort_int_none Tryz.sortA p cap w
theorem growI_sound : SoundC Tryz.prog (growB 122 7 114) := by
  refine growB_sound (Ev.enters_of Tryz.func122 rfl rfl) (by decide) fun n w h0 h1 => ?_
  have hs : (Tryz.prog.info? 114).map (·.size) = some 7 := by kernel_rfl
  have hb : (Tryz.prog.info? 114).map (·.bytes) = some 56 := by kernel_rfl
  have hz : ((Tryz.prog.info? 114).bind (·.zero)).map (·.cells.size) = some 7 := by kernel_rfl
  obtain ⟨i0, hi0⟩ : ∃ i, Tryz.prog.info? 114 = some i := by
    cases h : Tryz.prog.info? 114 with
    | none => rw [h] at hs; cases hs
    | some i => exact ⟨i, rfl⟩
  rw [hi0] at hs hb hz
  simp only [Option.map_some, Option.some.injEq, Option.bind_some, Option.map_eq_some_iff] at hs hb hz
  obtain ⟨z, hz0, hz1⟩ := hz
  have := Any8.slices_Grow_grow Tryz.growIt i0 z hi0 hz0 (by omega) none 0 0 n [] w (Nat.le_refl _) (by omega) (by rw [hb]; omega) (by omega) (by simp) (fun _ => rfl) (fun a e => by cases e)
  refine this.mono ?_
  rintro e w' ⟨rfl, rfl⟩
  have hg := grownCap_ge w (0 + n) 0 114
  have hzc : ∀ k, (Builtin.zeroCells z.cells k).size = k * 7 := fun k => by
    unfold Builtin.zeroCells
    simp [hz1]
  refine ⟨(([] : List Value).toArray ++ Builtin.zeroCells z.cells (0 + n - 0) ++ Builtin.zeroCells z.cells (grownCap w (0 + n) 0 114 - (0 + n))).toList, grownCap w (0 + n) 0 114, rfl, by rw [Array.toArray_toList]; rfl, ?_⟩
  generalize grownCap w (0 + n) 0 114 = gc at *
  simp only [Array.length_toList, Array.size_append, hzc]
  simp
  omega
theorem Bs_sound : SoundC Tryz.prog Bs := SoundC.or (sayB_sound (Ev.enters_of Tryz.func18 rfl rfl) sanity_any) (SoundC.or keyB_sound (SoundC.or sortB_sound (SoundC.or nilSort_sound (SoundC.or growI_sound (SoundC.or sortJ_sound nilJ_sound)))))
theorem vr_int {E : Env} {k : IntKind} {n : Int} : VR E (.int k n) (.int k n) := by simp [VR]
section
variable {W : World}
/-- an argument's slice lies in memory, or is nil -/
def SlOk (W : World) (A : Option Addr) (n c : Nat) : Prop := (A = none ∧ n = 0 ∧ c = 0) ∨ ∃ b off, A = some ⟨b, off, none⟩ ∧ ∃ C t fr, W.heap[b]? = some (.cells C t fr)
theorem has_lt {P : Program} {W : World} {r : Reach} {base : Nat} {a : Addr} {e : TypeId} {n : Nat} (h : W.has P r base a e n) : ∃ b off, a = ⟨b, off, none⟩ ∧ ∃ C t fr, W.heap[b]? = some (.cells C t fr) := by
  obtain ⟨_, hs, row, cells, hsh, _⟩ := h
  obtain ⟨b, off, sp⟩ := a
  cases hs
  refine ⟨b, off, rfl, ?_⟩
  unfold World.shape? at hsh
  split at hsh
  · rename_i C t fr hb; exact ⟨C, t, fr, hb⟩
  · cases hsh
theorem slOk_of {P : Program} {r : Reach} {b0 : Nat} {t e : TypeId} {A : Option Addr} {n c : Nat} (ht : P.underlying t = some (.slice e)) (h : Cell.okWide P W r b0 t (.slice A n c)) : SlOk W A n c := by
  unfold Cell.okWide at h
  rw [ht] at h
  simp only at h
  unfold Cell.ok at h
  rw [ht] at h
  cases A with
  | none =>
    simp only at h
    split at h <;> first | (cases h; done) | skip
    all_goals first | exact .inl ⟨rfl, rfl, rfl⟩ | (rename_i h1 _; cases h1; exact .inl ⟨rfl, rfl, rfl⟩) | (rename_i h1; cases h1; exact .inl ⟨rfl, rfl, rfl⟩) | (simp_all; done)
  | some a =>
    simp only at h
    obtain ⟨b, off, rfl, hb⟩ := has_lt h.2.2
    exact .inr ⟨b, off, rfl, hb⟩
end
set_option maxRecDepth 100000 in
theorem cell_okw {W : World} {r : Reach} {b0 : Nat} {t e : TypeId} {v : Value} (ht : Tryz.prog.underlying t = some (.slice e)) (h : Value.okWide Tryz.prog W r b0 t v) : Cell.okWide Tryz.prog W r b0 t v := by
  unfold Value.okWide at h
  rw [ht] at h
  exact h
set_option maxRecDepth 100000 in
theorem slice_of_cells {W : World} {r : Reach} {b0 : Nat} {t e : TypeId} {v : Value} {A : Option Addr} {n c : Nat} (ht : Tryz.prog.underlying t = some (.slice e)) (h : Cell.okWide Tryz.prog W r b0 t v) (e0 : v.cells.toList = [.slice A n c]) : v = .slice A n c := by
  unfold Cell.okWide at h
  rw [ht] at h
  simp only at h
  unfold Cell.ok at h
  rw [ht] at h
  cases v <;> first | (simp [Value.cells] at e0; done) | skip
  all_goals first | (simpa [Value.cells] using e0) | (simp at h; done)
theorem add3 (b off k : Nat) : (⟨b, off, none⟩ : Addr).add k = ⟨b, off + k, none⟩ := by unfold Addr.add; split <;> simp_all
section
variable {H : Type} {enc : TypeId × Value → H} {W : World} {base b0 : Nat} {spare : Nat → Bool} {held : Bool} {r : Reach}

theorem cell_spot {a : Addr} {v : Value} (h : W.cell? a = some v) : a.spot = none ∧ a.block < W.heap.size := by
  unfold World.cell? at h
  split at h
  · rename_i hb
    split at h
    · cases h
    · rename_i hs
      exact ⟨by simpa using hs, (Array.getElem?_eq_some_iff.1 hb).1⟩
  · cases h
theorem ex_list {α : Type} {p : Nat → α → Prop} : ∀ {n : Nat}, (∀ i, i < n → ∃ x, p i x) → ∃ l : List α, l.length = n ∧ ∀ i (h : i < l.length), p i l[i]
  | 0, _ => ⟨[], rfl, fun i h => absurd h (by simp)⟩
  | n + 1, h => by
    obtain ⟨l, hl, hp⟩ := ex_list (n := n) fun i hi => h i (by omega)
    obtain ⟨x, hx⟩ := h n (by omega)
    refine ⟨l ++ [x], by simp [hl], fun i hi => ?_⟩
    by_cases e : i < l.length
    · rw [List.getElem_append_left e]; exact hp i e
    · have : i = n := by simp [hl] at hi; omega
      subst this
      rw [List.getElem_append_right (by omega)]
      simpa [hl] using hx
/-- elements of an argument lie in memory -/
def At (W : World) {α : Type} [Inhabited α] (enc : α → List AV) (sz : Nat) (A : Option Addr) (l : List α) : Prop := l ≠ [] → ∃ b off, A = some ⟨b, off, none⟩ ∧ b < W.heap.size ∧ EH enc sz (absH W) b off l
/-- fields that are ints, one cell each, one behind the other -/
def intS (P : Program) : List Field → Nat → Bool
  | [], _ => true
  | f :: fs, i => Nat.beq f.offset i && ((match P.underlying f.type, sizeT P f.type with
    | some (.int .i64), some 1 => true
    | _, _ => false) && intS P fs (i + 1))
theorem intS_at {P : Program} : ∀ {fs : List Field} {i : Nat}, intS P fs i = true → ∀ (k : Nat) (f : Field), fs[k]? = some f → f.offset = i + k ∧ P.underlying f.type = some (.int .i64) ∧ P.cellsOf f.type = 1
  | [], i, _, k, f, h => by simp at h
  | f0 :: fs, i, h, k, f, hk => by
    unfold intS at h
    simp only [Bool.and_eq_true] at h
    obtain ⟨h2, h3, h4⟩ := h
    cases k with
    | zero =>
      simp only [List.getElem?_cons_zero, Option.some.injEq] at hk
      subst hk
      have := Nat.eq_of_beq_eq_true h2
      split at h3
      · rename_i a b; exact ⟨by omega, a, cellsOf_one b⟩
      · cases h3
    | succ k =>
      obtain ⟨g2, g3⟩ := intS_at h4 k f (by simpa using hk)
      exact ⟨by omega, g3⟩
end
end Go.Proofs.YtkebbdpfjhhdhaaGreat

/- Appends to lists that are nil or a row; what is put into a map's literal; calls that write in a region that draws its order. For all types of elements. -/
namespace Go.Proofs.YtkebbdpfjhhdhaaGreat.Ev
section
variable {P : Program} {B : Base} {Q : Post} {h0 : Heap} {W : List Nat} {N : Nat} {D : List Nat} {K : List Fr} {s : Sl} {L : Ob} {T : Tg} {md : Bool} {ops : Array Oper} {d : Nat} {op : Op} {ty : TypeId} {pos : String} {af : Array Edge} {gd : Option (Nat × Bool)} {l : List Oper}
variable {x y : Operand} {t tx e : TypeId} {u : AV} {sz n : Nat} {new : List AV} {i2 off2 : Nat} {c2 : ACap} {ob2 : AObj}
/-- append to a list that is nil or a row, of what is held -/
theorem St.appI {Lv Lk : Ob} {v : AV} {len : Nat} {old : List AV} (hv : IsR e sz len old v Lv) (hp : (Lv ++ Lk).Perm L) (k : ∀ j, h0.next ≤ j → WO P B Q h0 W N D K false ops l ((d, .slice j 0 (len + n) (.m 0)) :: s) ((j, .row (old ++ new) e sz) :: Lk) []) (q : AppQ P s x y t tx v u e sz n new i2 off2 c2) (hm : (i2, ob2) ∈ L) (hr : ob2.readN off2 (n * sz) = some new) (h1 : 0 < n) (h2 : len + n ≤ 1000000)
    (hw : wantS ops s N ⟨some d, .call ⟨.builtin .append, #[x, y], #[t, tx]⟩, ty, pos, af, gd⟩ = some true := by exact rfl) (hd : Nat.blt d N = true := by exact rfl) : WO P B Q h0 W N D K false ops (⟨some d, .call ⟨.builtin .append, #[x, y], #[t, tx]⟩, ty, pos, af, gd⟩ :: l) s L [] := by
  refine WO.permF hp ?_
  have hm' := hp.symm.subset hm
  cases hv with
  | nil g1 g2 =>
    subst g1 g2
    refine St.appNil (fun j hj => ?_) q hm' hr (by simp; omega) hw hd
    have := k j hj
    rw [Nat.zero_add, List.nil_append] at this
    exact this
  | row i g1 => exact St.appR (A := []) (C := Lk) (len := len) rfl k q hm' hr g1 h1 h2 hw hd
/-- what is put into a map's literal -/
theorem St.insM {A C : Ob} {t : TypeId} {m x y : Operand} {r c c' : Nat} {es es' : List (AV × AV × Nat)} (hL : L = A ++ (r, .map es c) :: C) (he : ∀ h g, h.get r = some (.map es c) → h.set r (.map es' c') = some g → evOp P h (evS s) ⟨none, .insert t m x y, ty, pos, af, gd⟩ = some (.skip, g)) (k : WO P B Q h0 W N D K false ops l s (A ++ (r, .map es' c') :: C) [])
    (hw : wantS ops s N ⟨none, .insert t m x y, ty, pos, af, gd⟩ = some true := by exact rfl) : WO P B Q h0 W N D K false ops (⟨none, .insert t m x y, ty, pos, af, gd⟩ :: l) s L [] := by
  subst hL
  constructor
  · rintro - a h ha hh
    obtain ⟨h1, h3⟩ := hh.store (o' := .map es' c')
    have hg := (hh.own (r, .map es c) (by simp)).1
    exact KRun.op (v := aundef) (g := { h with t := h.t.set r (.map es' c') }) (wantS_eq ha hw) (ROp.skip ha (he h _ hg h1) (Nat.le_refl _)) rfl (k.seq rfl a _ ha h3)
  · intro e; cases e
theorem DS.wrote {recs : List Rec} {h g : Heap} {Lw Lk L' : Ob} {W' : List Nat} {r : Rec} (hh : DS h0 W recs L [] h) (h2 : SS h W' L' g) (hL : (Lw ++ Lk).Perm L) (hW : Lw.map (·.1) = W') (hr0 : r.n0 = h.next) (hr1 : r.n1 = g.next) (hw : ∀ i ∈ W, i < h0.next) : DS h0 W (r :: recs) Lk (L'.map fun p => (recs.length, p)) g := by
  have hk : SS h0 W L h := hh.ss
  have hT : ((L'.map fun p => ((recs.length, p) : Nat × Nat × AObj)).map (·.2)) = L' := by
    rw [List.map_map]
    exact (List.map_congr_left fun _ _ => rfl).trans (List.map_id _)
  have hn := h2.nx
  refine ⟨?_, fun q hq => ?_, fun p hp q hq => ?_, fun j hj q hq => ?_, fun x hx m hm => ?_⟩
  · rw [hT]
    exact hk.trans h2 hL hW
  · rcases List.mem_cons.1 hq with rfl | hq
    · exact ⟨by rw [hr0]; exact hk.nx, by rw [hr1]; exact Nat.le_refl _⟩
    · exact ⟨(hh.rng q hq).1, by have := (hh.rng q hq).2; omega⟩
  · have hpL := hL.subset (List.mem_append.2 (.inr hp))
    rcases List.mem_cons.1 hq with rfl | hq
    · have := (hk.own p hpL).2.2.1
      omega
    · exact hh.visL p hpL q hq
  · rcases List.mem_cons.1 hq with rfl | hq
    · have := hw j hj; have := hk.nx; omega
    · exact hh.visW j hj q hq
  · obtain ⟨p, hp, rfl⟩ := List.mem_map.1 hx
    have hm' : m.testBit recs.length = true := hm
    simp only [List.length_cons, hideOf, Nat.add_sub_cancel]
    rw [hm']
    simp only [Bool.true_or, if_true]
    cases e : (hideOf m recs recs.length).any (inR p.1) with
    | false => rfl
    | true =>
      obtain ⟨q, g1, g2, g3⟩ := hide_sub e
      rcases (h2.own p hp).2.2.2 with h5 | h5
      · have := (hh.rng q g1).2
        omega
      · rw [← hW] at h5
        obtain ⟨p', hp', e'⟩ := List.mem_map.1 h5
        have hpL := hL.subset (List.mem_append.2 (.inl hp'))
        exact absurd ⟨by rw [e']; exact g2, by rw [e']; exact g3⟩ (hh.visL p' hpL q g1)
/-- a load from a block whose label is known, by what is known of it -/
theorem WE.loadX {cls : List Nat} {m : Nat} {rl : Rl} {x : Operand} {i off : Nat} {v : AV} (lb : Nat) (hv : ∀ h, Vw h0 W L h → evLoad P h t i off = some v) (k : WE P B Q h0 W N D K ops l ((d, v) :: s) L T cls m ((3, some (lb + 1)) :: rl)) (hw : wantS ops s N ⟨some d, .load t x, ty, pos, af, gd⟩ = some true := by exact rfl) (hd : Nat.blt d N = true := by exact rfl) (hx : evS s x = some (.ptr i off) := by exact rfl)
    (hc' : cls[lb]? = some i := by exact rfl) (hk : (kindsR ops).getD rl.length 0 = 3 := by decide +kernel) (hf : freeL m ((masksR ops).getD rl.length 0) (3, some (lb + 1)) rl rl.length = true := by decide +kernel) : WE P B Q h0 W N D K ops (⟨some d, .load t x, ty, pos, af, gd⟩ :: l) s L T cls m rl :=
  WE.opV (Tv := []) (some (lb + 1)) hw hd (fun _ h => by cases h) (fun a ha => by
    show (match a.eval x with | some (.ptr i _) => some (i + 1) | _ => none) = (cls[lb]?).map (· + 1)
    rw [ha.ev _ _ hx, hc']
    rfl) hk hf (by decide) (fun _ h ha hh => ⟨h, ROp.value ha (evOp_load rfl hx (hv h hh)) (Nat.le_refl _), hh.gd.ss⟩) k
theorem WE.at {cls : List Nat} {m : Nat} {rl : Rl} {x ix : Operand} {b off n' c j i sz' t' e'} (k : WE P B Q h0 W N D K ops l ((d, AV.ptr b (off + i.toNat * sz')) :: s) L T cls m ((0, none) :: rl)) (hw : wantS ops s N ⟨some d, .indexAddr t' x ix, ty, pos, af, gd⟩ = some true := by exact rfl) (hd : Nat.blt d N = true := by exact rfl) (hx : evS s x = some (.slice b off n' c) := by exact rfl) (hi : evS s ix = some (.int j i) := by exact rfl) (ht : P.underlying t' = some (.slice e') := by exact rfl) (hs : sizeT P e' = some sz' := by exact rfl) (h1 : 0 ≤ i := by omega) (h2 : i < n' := by omega) (hk : (kindsR ops).getD rl.length 0 = 0 := by decide +kernel) : WE P B Q h0 W N D K ops (⟨some d, .indexAddr t' x ix, ty, pos, af, gd⟩ :: l) s L T cls m rl :=
  WE.pure (fun _ => rfl) (fun h => by unfold evOp; simp [oIndexAddr, hx, hi, evIndexAddr, ht, hs, h1, h2, plainV]) k hw hd hk
end
theorem Con.map {P : Program} {B : Base} {f : Nat} {args : List AV} {h : Heap} {W : List Nat} {R R' : AV → Ob → Prop} (k : ∃ v L, Con P B f args h W v L ∧ R v L) (hr : ∀ v L, R v L → R' v L) : ∃ v L, Con P B f args h W v L ∧ R' v L := by
  obtain ⟨v, L, h1, h2⟩ := k
  exact ⟨v, L, h1, hr v L h2⟩
theorem IsR.rowN {e : TypeId} {sz len : Nat} {l : List AV} {v : AV} {Lv : Ob} (k : IsR e sz len l v Lv) : (v = .slice0 ∧ Lv = [] ∧ len = 0 ∧ l = []) ∨ ∃ i, v = .slice i 0 len (.m 0) ∧ Lv = [(i, .row l e sz)] ∧ l.length = len * sz := by
  cases k with
  | nil h1 h2 => exact .inl ⟨rfl, rfl, h1, h2⟩
  | row i h1 => exact .inr ⟨i, rfl, rfl, h1⟩
theorem perm_cnt {α : Type} {l1 l2 : List α} (h : ∀ (_ : DecidableEq α) (a : α), l1.count a = l2.count a) : l1.Perm l2 := by
  classical exact List.perm_iff_count.2 fun a => h _ a
theorem IsR.okG {e : TypeId} {sz len : Nat} {l : List AV} {v : AV} {Lv : Ob} (k : IsR e sz len l v Lv) : okCell v = true := k.isL.okG
end Go.Proofs.YtkebbdpfjhhdhaaGreat.Ev
