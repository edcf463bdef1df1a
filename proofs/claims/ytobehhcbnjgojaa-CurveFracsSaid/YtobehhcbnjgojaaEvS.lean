/- Operations that touch no memory, all of them. -/
import Derived.Test.YtobehhcbnjgojaaEvQ
namespace Go.Proofs.Ytobehhcbnjgojaa.Ev
variable {P : Program}

theorem evBuild_run {E : Env} {t parts Parts} (hp : PRs E parts Parts) : PureR P E (evBuild P t parts) (Instr.build t Parts.toArray) := by
  intro u hu w
  unfold evBuild at hu
  split at hu
  · rename_i z fs hz ht
    obtain ⟨Z, hZ, vZ, i, hi, hiz⟩ := run_zeroT hz w
    split at hu
    · rename_i places hpl
      simp only [Option.map_eq_some_iff] at hu
      obtain ⟨r, hr, rfl⟩ := hu
      obtain ⟨R, h1, h2⟩ := fill_run hr hp (vZ E).cells
      simp only [Array.toArray_toList, nthN_eq] at h1
      refine ⟨.agg R.toArray, ?_, by simp only [VR]; exact ⟨R, rfl, h2⟩⟩
      apply run_build
      unfold Program.built
      simp only [hi, ht, hiz, hpl]
      simpa using h1
    · cases hu
  · rename_i z n e hz ht
    obtain ⟨Z, hZ, vZ, i, hi, hiz⟩ := run_zeroT hz w
    simp only [Option.bind_eq_some_iff, Option.map_eq_some_iff] at hu
    obtain ⟨s, hs, r, hr, rfl⟩ := hu
    obtain ⟨R, h1, h2⟩ := fill_run hr hp (vZ E).cells
    simp only [Array.toArray_toList] at h1
    refine ⟨.agg R.toArray, ?_, by simp only [VR]; exact ⟨R, rfl, h2⟩⟩
    simp [Instr.build, run_underlying ht, hZ, run_size hs, h1]
  · cases hu

theorem evConv_run {E : Env} {s d x X} (hx : VR E x X) : PureR P E (evConv P s d x) (convert s d X) := by
  intro u hu w
  unfold evConv at hu
  split at hu
  · rename_i ds k j n hs hd
    cases hu; simp only [VR] at hx; subst hx
    refine ⟨_, ?_, rfl⟩
    simp [convert, run_underlying hs, run_underlying hd, Conv.intToInt]
  · rename_i ds q hs hd
    cases hu; simp only [VR] at hx; subst hx
    refine ⟨_, ?_, rfl⟩
    simp [convert, run_underlying hs, run_underlying hd]
  · cases hu

theorem evField_run {E : Env} {t x f X} (hx : VR E x X) : PureR P E (evField P t x f) (Instr.field t X f) := by
  intro u hu w
  unfold evField at hu
  split at hu
  · rename_i fs cs ht
    simp only [Option.bind_eq_some_iff] at hu
    obtain ⟨fd, hfd, hp⟩ := hu
    simp only [VR] at hx
    obtain ⟨L, rfl, hl⟩ := hx
    obtain ⟨V, h1, h2⟩ := run_partA hp hl w
    exact ⟨V, by simp [Instr.field, run_underlying ht, hfd, asAgg, h1], h2⟩
  · cases hu

theorem add_none (b off n : Nat) : (⟨b, off, none⟩ : Addr).add n = ⟨b, off + n, none⟩ := by
  unfold Addr.add
  split
  · rename_i h; subst h; rfl
  · rfl

theorem evFieldAddr_run {E : Env} {t x f X} (hx : VR E x X) : PureR P E (evFieldAddr P t x f) (Instr.fieldAt t X f) := by
  intro u hu w
  unfold evFieldAddr at hu
  split at hu
  · rename_i fs i off ht
    split at hu
    · rename_i fd hfd
      simp only [Option.bind_eq_some_iff] at hu
      obtain ⟨s, hs, hu⟩ := hu
      split at hu
      · cases hu
      · rename_i h0
        cases hu
        simp only [VR] at hx
        obtain ⟨b, c, hE, rfl⟩ := hx
        refine ⟨.pointer (some ⟨b, off + fd.offset, none⟩), ?_, by simp only [VR]; exact ⟨b, c, hE, rfl⟩⟩
        simp [Instr.fieldAt, run_underlying ht, hfd, Instr.sureAddr, fieldPlace, run_size hs, h0, add_none]
    · cases hu
  · cases hu

theorem evIndexAddr_run {E : Env} {t x i X I} (hx : VR E x X) (hi : VR E i I) : PureR P E (evIndexAddr P t x i) (Instr.indexAt t X I) := by
  intro u hu w
  unfold evIndexAddr at hu
  split at hu
  · rename_i k n
    simp only [VR] at hi; subst hi
    split at hu
    · rename_i len e b off ht
      simp only [Option.bind_eq_some_iff] at hu
      obtain ⟨s, hs, hu⟩ := hu
      split at hu
      · rename_i hr
        cases hu
        simp only [VR] at hx
        obtain ⟨bb, c, hE, rfl⟩ := hx
        refine ⟨.pointer (some ⟨bb, off + n.toNat * s, none⟩), ?_, by simp only [VR]; exact ⟨bb, c, hE, rfl⟩⟩
        simp [Instr.indexAt, asIntOf, run_underlying ht, Instr.sureAddr, hr, run_size hs, add_none]
      · cases hu
    · rename_i e b off len cap ht
      simp only [Option.bind_eq_some_iff] at hu
      obtain ⟨s, hs, hu⟩ := hu
      split at hu
      · rename_i hr
        cases hu
        simp only [VR] at hx
        obtain ⟨bb, c, hE, rfl⟩ := hx
        refine ⟨.pointer (some ⟨bb, off + n.toNat * s, none⟩), ?_, by simp only [VR]; exact ⟨bb, c, hE, rfl⟩⟩
        simp [Instr.indexAt, asIntOf, run_underlying ht, hr, run_size hs, add_none]
      · cases hu
    · cases hu
  · cases hu

theorem evIndex_run {E : Env} {t x i X I} (hx : VR E x X) (hi : VR E i I) : PureR P E (evIndex P t x i) (Instr.index t X I) := by
  intro u hu w
  unfold evIndex at hu
  split at hu
  · rename_i k n
    simp only [VR] at hi; subst hi
    split at hu
    · rename_i len e cs ht
      simp only [Option.bind_eq_some_iff] at hu
      obtain ⟨s, hs, hu⟩ := hu
      split at hu
      · rename_i hr
        simp only [VR] at hx
        obtain ⟨L, rfl, hl⟩ := hx
        obtain ⟨V, h1, h2⟩ := run_partA hu hl w
        exact ⟨V, by simp [Instr.index, asIntOf, run_underlying ht, hr, run_size hs, h1], h2⟩
      · cases hu
    · rename_i s ht
      split at hu
      · rename_i hr
        simp only [Option.map_eq_some_iff] at hu
        obtain ⟨c, hc, rfl⟩ := hu
        rw [nthN_eq] at hc
        simp only [VR] at hx
        subst hx
        refine ⟨_, ?_, rfl⟩
        have hb : (⟨s.toArray⟩ : ByteArray)[n.toNat]? = some c := by
          have h1 : n.toNat < s.length := (List.getElem?_eq_some_iff.1 hc).1
          have h2 : n.toNat < (⟨s.toArray⟩ : ByteArray).size := by show _ < (s.toArray).size; simpa using h1
          have h3 : (⟨s.toArray⟩ : ByteArray)[n.toNat]'h2 = c := (List.getElem?_eq_some_iff.1 hc).2
          exact (getElem?_pos (⟨s.toArray⟩ : ByteArray) n.toNat h2).trans (congrArg some h3)
        simp [Instr.index, asIntOf, run_underlying ht, hr, hb]
      · cases hu
    · cases hu
  · cases hu

theorem foldI_run {E : Env} {f : Int → Int → Int} {g : Value → Value → Sem Value} (hg : ∀ (k j : IntKind) (x y : Int) (w : World), (g (.int k x) (.int j y)).run P w = .ok (.int k (f x y)) w) : ∀ {l : List AV} {x u : AV} {L : List Value} {X : Value}, foldI f x l = some u → VR E x X → VRs E l L → ∀ w, ∃ V, (L.foldlM g X).run P w = .ok V w ∧ VR E u V
  | [], x, u, L, X, h, hx, hl, w => by
    simp [foldI] at h; subst h; simp only [VRs] at hl; subst hl; exact ⟨X, by simp, hx⟩
  | y :: l, x, u, L, X, h, hx, hl, w => by
    simp only [VRs] at hl
    obtain ⟨Y, L, rfl, hy, hl⟩ := hl
    unfold foldI at h
    split at h
    · rename_i heq; cases heq
    · rename_i k a j b l' heq
      cases heq
      simp only [VR] at hx hy
      subst hx hy
      obtain ⟨V, h1, h2⟩ := foldI_run hg h (X := .int k (f a b)) (by simp only [VR]) hl w
      exact ⟨V, by simp [List.foldlM_cons, hg, h1], h2⟩
    · cases h
end Go.Proofs.Ytobehhcbnjgojaa.Ev
