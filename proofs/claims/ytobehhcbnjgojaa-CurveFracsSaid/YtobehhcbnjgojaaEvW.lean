/- One operation: slices and maps. -/
import Derived.Test.YtobehhcbnjgojaaEvV
namespace Go.Proofs.Ytobehhcbnjgojaa.Ev
variable {P : Program}

theorem bound_run {E : Env} {v : AV} {most n : Nat} (h : boundIn v most = some n) {V : Value} (hv : VR E v V) (code : BoundsCode) (w : World) : (Instr.sliceBound V most code).run P w = .ok n w ∧ n ≤ most := by
  unfold boundIn at h
  split at h
  · rename_i k i
    simp only [VR] at hv
    subst hv
    split at h
    · rename_i hi
      cases h
      exact ⟨by simp [Instr.sliceBound, asIntOf, hi], by omega⟩
    · cases h
  · cases h

theorem range_rep (Z : Array Value) : ∀ n, (Array.range (n * Z.size)).map (fun i => Z[i % Z.size]!) = (List.replicate n Z.toList).flatten.toArray := by
  intro n
  apply Array.ext'
  simp only [Array.toList_map, Array.toList_range]
  induction n with
  | zero => simp
  | succ n ih =>
    rw [show (n + 1) * Z.size = Z.size + n * Z.size from by rw [Nat.add_mul]; omega, List.range_add, List.map_append, List.replicate_succ, List.flatten_cons]
    simp only [List.map_map]
    have e1 : (List.range Z.size).map (fun i => Z[i % Z.size]!) = Z.toList := by
      apply List.ext_getElem
      · simp
      · intro i h1 h2
        simp at h1
        simp [Nat.mod_eq_of_lt h1, h1]
    have e2 : (fun i => Z[i % Z.size]!) ∘ (fun x => Z.size + x) = fun i => Z[i % Z.size]! := by
      funext i
      simp
    rw [e1, e2, ih]

theorem knownN_le {top : Nat} {E : Env} {h : Heap} {W : World} (k : HR top E h W) {i s b c : Nat} (hE : E i = some (b, c)) : knownN h i s ≤ c := by
  unfold knownN
  split
  · rename_i l t s' hg
    split
    · rename_i hs
      subst hs
      obtain ⟨b', c', O, e1, e2, L, X, b2, c2, e3, rfl, e4, e5, e6⟩ := k.obj i _ hg
      rw [hE] at e1 e4
      cases e1
      cases e4
      have hl := e3.len
      rw [List.length_append] at e5
      exact Nat.div_le_of_le_mul (by rw [Nat.mul_comm]; omega)
    · exact Nat.zero_le _
  · exact Nat.zero_le _

/-- optional bounds -/
def optR (E : Env) : Option AV → Option Value → Prop
  | none, V => V = none
  | some v, V => ∃ U, V = some U ∧ VR E v U
theorem optO_run {E : Env} {a : AAct} {A : Act} {x : Option Operand} {v : Option AV} (h : optO a x = some v) (hR : ∀ y ∈ x, ∀ u, a.eval y = some u → VR E u (A.eval y)) : optR E v (x.map A.eval) := by
  cases x with
  | none => simp [optO] at h; subst h; rfl
  | some y =>
    simp only [optO, Option.map_eq_some_iff] at h
    obtain ⟨u, hu, rfl⟩ := h
    exact ⟨_, rfl, hR y rfl u hu⟩

theorem bounds_run {E : Env} {mx hi lo : Option AV} {Mx Hi Lo : Option Value} (hm : optR E mx Mx) (hh : optR E hi Hi) (hl : optR E lo Lo) {isS : Bool} {len cap m b a : Nat} (w : World)
    (em : optB mx cap cap = some m) (eh : optB hi m len = some b) (el : optB lo b 0 = some a) (hx : mx.isSome → hi.isSome) :
    (Instr.sliceBounds isS len cap Lo Hi Mx).run P w = .ok (a, b, m) w := by
  cases mx with
  | none =>
    simp only [optR] at hm
    subst hm
    simp only [optB] at em
    cases em
    cases hi with
    | none =>
      simp only [optR] at hh
      subst hh
      simp only [optB] at eh
      cases eh
      cases lo with
      | none => simp only [optR] at hl; subst hl; simp only [optB] at el; cases el; simp [Instr.sliceBounds]
      | some v => obtain ⟨V, rfl, hv⟩ := hl; simp only [optB] at el; simp [Instr.sliceBounds, (bound_run (P := P) el hv _ w).1]
    | some u =>
      obtain ⟨U, rfl, hu⟩ := hh
      simp only [optB] at eh
      cases lo with
      | none => simp only [optR] at hl; subst hl; simp only [optB] at el; cases el; simp [Instr.sliceBounds, (bound_run (P := P) eh hu _ w).1]
      | some v => obtain ⟨V, rfl, hv⟩ := hl; simp only [optB] at el; simp [Instr.sliceBounds, (bound_run (P := P) eh hu _ w).1, (bound_run (P := P) el hv _ w).1]
  | some x =>
    obtain ⟨X, rfl, hx'⟩ := hm
    simp only [optB] at em
    cases hi with
    | none => exact absurd (hx rfl) (by simp)
    | some u =>
      obtain ⟨U, rfl, hu⟩ := hh
      simp only [optB] at eh
      cases lo with
      | none => simp only [optR] at hl; subst hl; simp only [optB] at el; cases el; simp [Instr.sliceBounds, (bound_run (P := P) em hx' _ w).1, (bound_run (P := P) eh hu _ w).1]
      | some v => obtain ⟨V, rfl, hv⟩ := hl; simp only [optB] at el; simp [Instr.sliceBounds, (bound_run (P := P) em hx' _ w).1, (bound_run (P := P) eh hu _ w).1, (bound_run (P := P) el hv _ w).1]

theorem bound_more {v : AV} {m m' n : Nat} (h : boundIn v m = some n) (hm : m ≤ m') : boundIn v m' = some n := by
  unfold boundIn at h ⊢
  split at h
  · split at h
    · rename_i hi; cases h; rw [if_pos (by omega)]
    · cases h
  · cases h
theorem optB_le {v : Option AV} {m d n : Nat} (h : optB v m d = some n) (hs : v.isSome) : n ≤ m := by
  cases v with
  | none => cases hs
  | some v =>
    simp only [optB, boundIn] at h
    split at h
    · split at h
      · cases h; omega
      · cases h
    · cases h

theorem addr_if (p : Prop) [Decidable p] (b off n : Nat) : (if p then (⟨b, off, none⟩ : Addr) else (⟨b, off, none⟩ : Addr).add n) = ⟨b, if p then off else off + n, none⟩ := by
  split <;> simp [add_none]
theorem optB_zero {v : Option AV} {n : Nat} (h : optB v 0 0 = some n) : n = 0 := by
  cases v with
  | none => simp only [optB] at h; cases h; rfl
  | some v => have := optB_le h rfl; omega
theorem evSlice_run {top : Nat} {E : Env} {h : Heap} {W : World} (k : HR top E h W) {t : TypeId} {x v : AV} {lo hi mx : Option AV} {X : Value} {Lo Hi Mx : Option Value} (e : evSlice P h t x lo hi mx = some v) (hx : VR E x X) (hl : optR E lo Lo) (hh : optR E hi Hi) (hm : optR E mx Mx) :
    ∃ V, (Instr.sliceAt t X Lo Hi Mx).run P W = .ok V W ∧ VR E v V := by
  unfold evSlice at e
  split at e
  · cases e
  · rename_i hg
    have hg' : mx.isSome → hi.isSome := fun h1 => by
      cases hi with
      | some _ => rfl
      | none => simp [h1] at hg
    split at e
    · rename_i s ht
      simp only [VR] at hx
      subst hx
      split at e
      · rename_i b hb
        simp only [Option.map_eq_some_iff] at e
        obtain ⟨a, ha, rfl⟩ := e
        simp only [optR] at hm
        subst hm
        have hs : (⟨s.toArray⟩ : ByteArray).size = s.length := by show (s.toArray).size = _; simp
        have hr := bounds_run (P := P) (mx := none) (Mx := none) (isS := false) (len := s.length) (cap := s.length) rfl hh hl W rfl hb ha (by simp)
        refine ⟨.string ⟨(List.take (b - a) (List.drop a s)).toArray⟩, ?_, by simp only [VR]⟩
        simp only [Instr.sliceAt, Sem.run_bind, run_underlying ht, Result.andThen_ok, Instr.slice, hs]
        simp only [Option.isSome_none, Bool.false_eq_true, if_false, Sem.run_bind, hr, Result.andThen_ok, Sem.run_pure]
        congr 2
        apply ByteArray.ext
        apply Array.ext'
        simp [List.extract]
      · cases e
    · rename_i el ht
      simp only [VR] at hx
      subst hx
      split at e
      · rename_i s m hs hm1
        split at e
        · rename_i b hb
          split at e
          · rename_i a ha
            cases e
            have h1 := optB_zero hm1
            subst h1
            have h2 := optB_zero hb
            subst h2
            have h3 := optB_zero ha
            subst h3
            have hr := bounds_run (P := P) (isS := true) hm hh hl W hm1 hb ha hg'
            refine ⟨.slice none 0 0, ?_, by simp only [VR]⟩
            simp only [Instr.sliceAt, Sem.run_bind, run_underlying ht, Result.andThen_ok, Instr.slice, hr, run_size hs, Sem.run_pure]
            simp
          · cases e
        · cases e
      · cases e
    · rename_i el i off len cap ht
      simp only [Option.bind_eq_some_iff] at e
      obtain ⟨s, hs, e⟩ := e
      unfold evSliceK at e
      split at e
      · rename_i m hm1
        split at e
        · rename_i b hb
          split at e
          · rename_i a ha
            cases e
            simp only [VR] at hx
            obtain ⟨bb, c, hE, rfl⟩ := hx
            have hr := bounds_run (P := P) (isS := true) hm hh hl W hm1 hb ha hg'
            refine ⟨.slice (some ⟨bb, if m = a then off else off + a * s, none⟩) (b - a) (m - a), ?_, by simp only [VR]; exact ⟨bb, c, hE, rfl⟩⟩
            simp only [Instr.sliceAt, Sem.run_bind, run_underlying ht, Result.andThen_ok, Instr.slice, hr, run_size hs, Option.map_some, Sem.run_pure, add_none]
            split <;> rfl
          · cases e
        · cases e
      · cases e
    · rename_i el i off len d ht
      simp only [VR] at hx
      obtain ⟨bb, c, hE, rfl⟩ := hx
      split at e
      · rename_i s hs
        have hkn := knownN_le (s := s) k hE
        unfold evSliceM at e
        simp only [optR] at hm
        subst hm
        split at e
        · rename_i b hb
          split at e
          · rename_i a ha
            split at e
            · rename_i hc
              cases e
              have hb' : optB hi (c - d) len = some b := by
                cases hi with
                | none => exact hb
                | some u => exact bound_more hb (by omega)
              have hr := bounds_run (P := P) (mx := none) (Mx := none) (isS := true) (len := len) (cap := c - d) rfl hh hl W rfl hb' ha (by simp)
              refine ⟨.slice (some ⟨bb, off + a * s, none⟩) (b - a) (c - d - a), ?_, by simp only [VR]; exact ⟨bb, c, hE, by rw [Nat.sub_sub]⟩⟩
              simp only [Instr.sliceAt, Sem.run_bind, run_underlying ht, Result.andThen_ok, Instr.slice, hr, run_size hs, Option.map_some, Sem.run_pure, add_none]
              split
              · rename_i h0
                rcases hc with rfl | hc
                · simp
                · omega
              · rfl
            · cases e
          · cases e
        · cases e
      · rename_i s v hs
        have hkn := knownN_le (s := s) k hE
        unfold evSliceX at e
        split at e
        · rename_i m hm1
          split at e
          · rename_i hv
            split at e
            · rename_i b hb
              split at e
              · rename_i a ha
                cases e
                have hm' : optB (some v) (c - d) (c - d) = some m := bound_more hm1 (by omega)
                have hr := bounds_run (P := P) (isS := true) (len := len) hm hh hl W hm' (show optB (some hv) m len = some b from hb) ha (by simp)
                refine ⟨.slice (some ⟨bb, if m = a then off else off + a * s, none⟩) (b - a) (m - a), ?_, by simp only [VR]; exact ⟨bb, c, hE, rfl⟩⟩
                simp only [Instr.sliceAt, Sem.run_bind, run_underlying ht, Result.andThen_ok, Instr.slice, hr, run_size hs, Option.map_some, Sem.run_pure, add_none]
                split <;> rfl
              · cases e
            · cases e
          · cases e
        · cases e
      · cases e
    · rename_i n el i off ht
      simp only [Option.bind_eq_some_iff] at e
      obtain ⟨s, hs, e⟩ := e
      unfold evSliceK at e
      split at e
      · rename_i m hm1
        split at e
        · rename_i b hb
          split at e
          · rename_i a ha
            cases e
            simp only [VR] at hx
            obtain ⟨bb, c, hE, rfl⟩ := hx
            have hr := bounds_run (P := P) (isS := false) hm hh hl W hm1 hb ha hg'
            refine ⟨.slice (some ⟨bb, if m = a then off else off + a * s, none⟩) (b - a) (m - a), ?_, by simp only [VR]; exact ⟨bb, c, hE, rfl⟩⟩
            simp only [Instr.sliceAt, Sem.run_bind, run_underlying ht, Result.andThen_ok, Instr.sureAddr, hr, run_size hs, Sem.run_pure, add_none]
            split <;> rfl
          · cases e
        · cases e
      · cases e
    · cases e

/-! maps -/
def notCells : Obj → Bool
  | .cells .. => false
  | _ => true
theorem run_getObj' {W : World} {r : Nat} {O : Obj} (h : W.heap[r]? = some O) (hn : notCells O = true) : (getObj r).run P W = .ok O W := by
  unfold getObj
  simp only [Sem.run, h]
  cases O <;> first | rfl | (cases hn)
theorem run_setObj' {W : World} {r : Nat} {O : Obj} (O' : Obj) (h : W.heap[r]? = some O) (hn : notCells O = true) : (setObj r O').run P W = .ok () (W.putObj r O') := by
  unfold setObj
  simp only [Sem.run, h]
  cases O <;> first | rfl | (cases hn)
theorem fits_check' {E : Env} {t : TypeId} {k : AV} (h : keyFits P t k = true) {K : Value} (hk : VR E k K) (b : Bool) (w : World) (n : Nat) : (Instr.checkKey b (n + 1) t K).run P w = .ok () w := by
  unfold keyFits at h
  split at h
  · rename_i hu; simp only [VR] at hk; subst hk; simp [Instr.checkKey, run_underlying hu]
  · rename_i hu; simp only [VR] at hk; subst hk; simp [Instr.checkKey, run_underlying hu]
  · rename_i hu; simp only [VR] at hk; subst hk; simp [Instr.checkKey, run_underlying hu]
  · cases h
theorem fits_check {E : Env} {t : TypeId} {k : AV} (h : keyFits P t k = true) {K : Value} (hk : VR E k K) (b : Bool) (w : World) : (Instr.checkKey b 10000 t K).run P w = .ok () w := fits_check' h hk b w 9999
theorem bytes_beq (a b : List UInt8) : ((⟨a.toArray⟩ : ByteArray) == ⟨b.toArray⟩) = (a == b) := by rw [beq_toListBytes, toList_mk, toList_mk]
theorem sameKey_now {E : Env} {t : TypeId} {d : TypeDesc} {k k' : AV} {b : Bool} (hd : P.underlying t = some d) (h : keyFits P t k = true) (hs : sameKey k k' = some b) {K K' : Value} (hk : VR E k K) (hk' : VR E k' K') : Instr.sameNow d K K' = some b ∧ (b = true → K' = K) := by
  unfold keyFits at h
  rw [hd] at h
  split at h
  · rename_i j i n he
    cases he
    unfold sameKey at hs
    split at hs <;> try (cases hs; done)
    · rename_i j1 a1 k1 b1 h1
      cases h1
      split at hs
      · rename_i hj
        cases hs
        simp only [VR] at hk hk'
        subst hk hk' hj
        simp [Instr.sameNow]
        intro e; exact e.symm
      · cases hs
    · rename_i h1; cases h1
    · rename_i h1; cases h1
  · rename_i he
    cases he
    unfold sameKey at hs
    split at hs <;> try (cases hs; done)
    · rename_i h1; cases h1
    · rename_i a1 b1 h1
      cases h1
      cases hs
      simp only [VR] at hk hk'
      subst hk hk'
      exact ⟨by simp only [Instr.sameNow, bytes_beq], fun e => by rw [beq_iff_eq.1 e]⟩
    · rename_i h1; cases h1
  · rename_i he
    cases he
    unfold sameKey at hs
    split at hs <;> try (cases hs; done)
    · rename_i h1; cases h1
    · rename_i h1; cases h1
    · rename_i a1 b1 h1
      cases h1
      cases hs
      simp only [VR] at hk hk'
      subst hk hk'
      simp [Instr.sameNow]
      intro e; exact e.symm
  · cases h
theorem find_run {E : Env} {t : TypeId} {d : TypeDesc} {k : AV} {K : Value} (hd : P.underlying t = some d) (h : keyFits P t k = true) (hk : VR E k K) : ∀ {es : List (AV × AV × Nat)} {Es : List MapEntry} {i : Nat} {r : Option (Nat × AV × Nat)}, findE k es i = some r → ERs E es Es →
    match r with
    | none => Instr.findNow d K Es i = some none
    | some (n, v, c) => ∃ V, Instr.findNow d K Es i = some (some (n, V)) ∧ VR E v V ∧ i ≤ n ∧ ∃ F, Es[n - i]? = some F ∧ F.key = K ∧ F.born = c
  | [], Es, i, r, hf, hE => by
    simp only [findE] at hf; cases hf
    simp only [ERs] at hE; subst hE
    simp [Instr.findNow]
  | e :: es, Es, i, r, hf, hE => by
    obtain ⟨F, L, rfl, hF, hL⟩ := hE
    simp only [findE] at hf
    split at hf
    · rename_i hs
      cases hf
      obtain ⟨h1, h2⟩ := sameKey_now hd h hs hk hF.key
      exact ⟨F.val, by simp [Instr.findNow, h1], hF.val, Nat.le_refl _, F, by simp, h2 rfl, hF.born⟩
    · rename_i hs
      obtain ⟨h1, _⟩ := sameKey_now hd h hs hk hF.key
      have := find_run hd h hk hf hL
      cases r with
      | none => simpa [Instr.findNow, h1] using this
      | some p =>
        obtain ⟨n, v, c⟩ := p
        obtain ⟨V, g1, g2, g3, F', g4, g5, g6⟩ := this
        exact ⟨V, by simp [Instr.findNow, h1, g1], g2, by omega, F', by rw [show n - i = (n - (i + 1)) + 1 from by omega]; simpa using g4, g5, g6⟩
    · cases hf
theorem findKey_run {t : TypeId} {d : TypeDesc} {K : Value} {Es : List MapEntry} {r} (hd : P.underlying t = some d) (h : Instr.findNow d K Es 0 = some r) (w : World) : (Instr.findKey t K Es).run P w = .ok r w := by
  simp [Instr.findKey, run_underlying hd, h]
theorem under_of_fits {t : TypeId} {k : AV} (h : keyFits P t k = true) : ∃ d, P.underlying t = some d := by
  unfold keyFits at h
  cases hd : P.underlying t with
  | none => rw [hd] at h; simp at h
  | some d => exact ⟨d, rfl⟩

theorem HR.mapAt {top : Nat} {E : Env} {h : Heap} {W : World} (k : HR top E h W) {i : Nat} {es} {ck : Nat} (hg : h.get i = some (.map es ck)) : ∃ b c Es, E i = some (b, c) ∧ W.heap[b]? = some (.map Es.toArray ck) ∧ ERs E es Es := by
  obtain ⟨b, c, O, e1, e2, Es, e3, rfl⟩ := k.obj i _ hg
  exact ⟨b, c, Es, e1, e2, e3⟩

theorem evLookup_run {top : Nat} {E : Env} {h : Heap} {W : World} (hr : HR top E h W) {t : TypeId} {x k v : AV} {ok : Bool} {X K : Value} (e : evLookup P h t x k ok = some v) (hx : VR E x X) (hk : VR E k K) : ∃ V, (Instr.lookup t X K ok).run P W = .ok V W ∧ VR E v V := by
  unfold evLookup at e
  split at e
  · rename_i kt et ht
    split at e
    · rename_i hf
      obtain ⟨d, hd⟩ := under_of_fits hf
      split at e
      · simp only [Option.map_eq_some_iff] at e
        obtain ⟨z, hz, rfl⟩ := e
        obtain ⟨Z, hZ, vZ, _⟩ := run_zeroT hz W
        simp only [VR] at hx; subst hx
        have h1 := fits_check hf hk true W
        refine ⟨if ok then .tuple #[Z, .bool false] else Z, ?_, ?_⟩
        · have h2 : (Instr.findKey kt K []).run P W = .ok none W := findKey_run hd rfl W
          simp [Instr.lookup, run_underlying ht, h1, h2, hZ]
        · cases ok
          · exact vZ E
          · simp only [if_true, VR]
            exact ⟨[Z, .bool false], rfl, VRs.cons (vZ E) (VRs.cons (by simp only [VR]) VRs.nil)⟩
      · rename_i r
        split at e
        · rename_i es ck hg
          obtain ⟨b, c, Es, hE, hW, hes⟩ := hr.mapAt hg
          simp only [VR] at hx
          obtain ⟨b', c', hE', rfl⟩ := hx
          rw [hE] at hE'
          cases hE'
          have h1 := fun q => fits_check hf hk q W
          have h2 := run_getObj' (P := P) hW rfl
          split at e
          · rename_i n u q hfd
            cases e
            obtain ⟨V, g1, g2, _⟩ := find_run hd hf hk hfd hes
            refine ⟨if ok then .tuple #[V, .bool true] else V, ?_, ?_⟩
            · simp [Instr.lookup, run_underlying ht, h2, h1, findKey_run hd g1 W]
            · cases ok
              · exact g2
              · simp only [if_true, VR]
                exact ⟨[V, .bool true], rfl, VRs.cons g2 (VRs.cons (by simp only [VR]) VRs.nil)⟩
          · rename_i hfd
            simp only [Option.map_eq_some_iff] at e
            obtain ⟨z, hz, rfl⟩ := e
            obtain ⟨Z, hZ, vZ, _⟩ := run_zeroT hz W
            have g1 := find_run hd hf hk hfd hes
            refine ⟨if ok then .tuple #[Z, .bool false] else Z, ?_, ?_⟩
            · simp [Instr.lookup, run_underlying ht, h2, h1, findKey_run hd g1 W, hZ]
            · cases ok
              · exact vZ E
              · simp only [if_true, VR]
                exact ⟨[Z, .bool false], rfl, VRs.cons (vZ E) (VRs.cons (by simp only [VR]) VRs.nil)⟩
          · cases e
        · cases e
      · cases e
    · cases e
  · cases e

theorem sameBits_key {t : TypeId} {k : AV} (h : keyFits P t k = true) {E : Env} {K : Value} (hk : VR E k K) : Instr.sameBits 10000 K K = true := by
  unfold keyFits at h
  split at h <;> first | (cases h; done) | (simp only [VR] at hk; subst hk; simp [Instr.sameBits, bytes_beq])
theorem setE_run {E : Env} {k v : AV} {K V : Value} (hk : VR E k K) (hv : VR E v V) : ∀ {es Es} {i : Nat}, ERs E es Es → ERs E (setE i k v es) (Es.modify i fun e => { e with key := K, val := V })
  | [], Es, i, h => by simp only [ERs] at h; subst h; cases i <;> simp [setE, ERs]
  | e :: es, _, 0, h => by
    obtain ⟨F, L, rfl, hF, hL⟩ := h
    simp only [setE, List.modify_zero_cons]
    exact ⟨_, _, rfl, ⟨hk, hv, hF.born⟩, hL⟩
  | e :: es, _, i + 1, h => by
    obtain ⟨F, L, rfl, hF, hL⟩ := h
    simp only [setE, List.modify_succ_cons]
    exact ⟨_, _, rfl, hF, setE_run hk hv hL⟩
theorem ERs.snoc {E : Env} {e F} (he : ER E e F) : ∀ {es Es}, ERs E es Es → ERs E (es ++ [e]) (Es ++ [F])
  | [], Es, h => by simp only [ERs] at h; subst h; exact ⟨F, [], rfl, he, rfl⟩
  | _ :: _, _, h => by obtain ⟨G, L, rfl, hG, hL⟩ := h; exact ⟨G, _, rfl, hG, ERs.snoc he hL⟩

theorem evUpdate_run {top : Nat} {E : Env} {h g : Heap} {W : World} (hr : HR top E h W) {t : TypeId} {x k v : AV} {X K V : Value} (e : evUpdate P h t x k v = some g) (hx : VR E x X) (hk : VR E k K) (hv : VR E v V) :
    ∃ W', (Instr.mapUpdate t X K V).run P W = .ok () W' ∧ Ext E E h g W W' ∧ HR top E g W' := by
  unfold evUpdate at e
  split at e
  · rename_i kt et r ht
    split at e
    · rename_i hf
      obtain ⟨d, hd⟩ := under_of_fits hf
      split at e
      · rename_i es ck hg
        obtain ⟨b, c, Es, hE, hW, hes⟩ := hr.mapAt hg
        simp only [VR] at hx
        obtain ⟨b', c', hE', rfl⟩ := hx
        rw [hE] at hE'
        cases hE'
        have h1 := fits_check hf hk false W
        have h2 := run_getObj' (P := P) hW rfl
        have hlt : b < W.heap.size := (Array.getElem?_eq_some_iff.1 hW).1
        split at e
        · rename_i i q hfd
          obtain ⟨V0, g1, g2, g3, F, g4, g5, g6⟩ := find_run hd hf hk hfd hes
          simp only [Nat.sub_zero] at g4
          have hkey : (((Es.toArray)[i]?).map (·.key)).getD K = K := by simp [g4, g5]
          obtain ⟨h3, h4⟩ := hr.set e hE (W.putObj b (.map (Es.modify i fun e => { e with key := K, val := V }).toArray ck)) _ (World.putObj_heap_same hlt) ⟨_, setE_run hk hv hes, rfl⟩ (fun q hq => World.putObj_heap_other hq) (by simp) rfl rfl rfl
          refine ⟨_, ?_, h4, h3⟩
          simp only [Instr.mapUpdate, Sem.run_bind, run_underlying ht, Result.andThen_ok, h2, h1, findKey_run hd g1 W, hkey, Instr.keyThatStays, sameBits_key hf hk, if_true, Sem.run_pure]
          rw [run_setObj' _ hW rfl]
          congr 3
          simp
        · rename_i hfd
          have g1 := find_run hd hf hk hfd hes
          obtain ⟨h3, h4⟩ := hr.set e hE (W.putObj b (.map (Es ++ [({ key := K, val := V, born := ck } : MapEntry)]).toArray (ck + 1))) _ (World.putObj_heap_same hlt) ⟨_, ERs.snoc ⟨hk, hv, rfl⟩ hes, rfl⟩ (fun q hq => World.putObj_heap_other hq) (by simp) rfl rfl rfl
          refine ⟨_, ?_, h4, h3⟩
          simp only [Instr.mapUpdate, Sem.run_bind, run_underlying ht, Result.andThen_ok, h2, h1, findKey_run hd g1 W]
          rw [run_setObj' _ hW rfl]
          congr 3
          simp
        · cases e
      · cases e
    · cases e
  · cases e
end Go.Proofs.Ytobehhcbnjgojaa.Ev
