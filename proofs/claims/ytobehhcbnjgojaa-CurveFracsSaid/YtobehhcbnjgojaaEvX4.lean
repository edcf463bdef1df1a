/- One operation, all of them. -/
import Derived.Test.YtobehhcbnjgojaaEvX3
namespace Go.Proofs.Ytobehhcbnjgojaa.Ev
variable {P : Program}

theorem wrap_small {n : Int} (h0 : 0 ≤ n) (h1 : n ≤ 65536) : IntKind.i64.wrap n = n := by
  unfold IntKind.wrap
  simp only [IntKind.bits, IntKind.signed]
  have : n % (2 ^ 64 : Int) = n := Int.emod_eq_of_lt h0 (by omega)
  simp only [this]
  rw [if_neg]
  simp
  omega
theorem VR.go {E : Env} (n : Nat) : VR E (aint n) (goInt n) := by simp only [aint, VR, goInt]
theorem len_op {top : Nat} {E : Env} {h : Heap} {W : World} (k : HR top E h W) {t : TypeId} {x v : AV} {X : Value} (ev : lenA P t h x = some v) (hx : VR E x X) {ts : Array TypeId} (h0 : ts[0]? = some t) (ty : TypeId) : ∃ V, (Builtin.len_ ts ty #[X]).run P W = .ok V W ∧ VR E v V := by
  unfold lenA at ev
  split at ev
  · rename_i s hu
    cases ev; simp only [VR] at hx; subst hx
    have : (⟨s.toArray⟩ : ByteArray).size = s.length := by show (s.toArray).size = _; simp
    exact ⟨goInt s.length, by simp [Builtin.len_, h0, run_underlying hu, this], VR.go _⟩
  · rename_i n e hu
    cases ev
    exact ⟨goInt n, by simp [Builtin.len_, h0, run_underlying hu], VR.go _⟩
  · rename_i e hu
    cases ev; simp only [VR] at hx; subst hx
    exact ⟨goInt (0 : Nat), by simp [Builtin.len_, h0, run_underlying hu], VR.go _⟩
  · rename_i e i off n c hu
    cases ev; simp only [VR] at hx; obtain ⟨_, _, _, rfl⟩ := hx
    exact ⟨goInt n, by simp [Builtin.len_, h0, run_underlying hu], VR.go _⟩
  · rename_i kt e hu
    cases ev; simp only [VR] at hx; subst hx
    exact ⟨goInt (0 : Nat), by simp [Builtin.len_, h0, run_underlying hu], VR.go _⟩
  · rename_i kt e r hu
    split at ev
    · rename_i es ck hg
      cases ev
      obtain ⟨b, c, Es, hE, hW, hes⟩ := k.mapAt hg
      simp only [VR] at hx
      obtain ⟨b', c', hE', rfl⟩ := hx
      rw [hE] at hE'
      cases hE'
      have hl : ∀ {es : List (AV × AV × Nat)} {Es : List MapEntry}, ERs E es Es → Es.length = es.length := by
        intro es
        induction es with
        | nil => intro Es h; simp only [ERs] at h; subst h; rfl
        | cons e es ih => intro Es h; obtain ⟨F, L, rfl, _, h2⟩ := h; simp [ih h2]
      have h2 := run_getObj' (P := P) hW rfl
      exact ⟨goInt es.length, by simp [Builtin.len_, h0, run_underlying hu, h2, hl hes], VR.go _⟩
    · cases ev
  · cases ev
theorem cap_op {E : Env} {W : World} {t : TypeId} {x v : AV} {X : Value} (ev : capA P t x = some v) (hx : VR E x X) {ts : Array TypeId} (h0 : ts[0]? = some t) (ty : TypeId) : ∃ V, (Builtin.cap_ ts ty #[X]).run P W = .ok V W ∧ VR E v V := by
  unfold capA at ev
  split at ev
  · rename_i n e hu
    cases ev
    exact ⟨goInt n, by simp [Builtin.cap_, h0, run_underlying hu], VR.go _⟩
  · rename_i e hu
    cases ev; simp only [VR] at hx; subst hx
    exact ⟨goInt (0 : Nat), by simp [Builtin.cap_, h0, run_underlying hu], VR.go _⟩
  · rename_i e i off n c hu
    cases ev; simp only [VR] at hx; obtain ⟨_, _, _, rfl⟩ := hx
    exact ⟨goInt c, by simp [Builtin.cap_, h0, run_underlying hu], VR.go _⟩
  · cases ev

theorem Res.val {top : Nat} {E : Env} {h : Heap} {W : World} {v : AV} {V : Value} (k : HR top E h W) (hv : VR E v V) : Res P top E h W (.value v) h (.ok (.value V) W) := ⟨E, W, V, rfl, Ext.refl _ _ _, k, hv⟩
theorem Res.of_plain {top : Nat} {E : Env} {h g : Heap} {W : World} {r : Option AV} {x : ANext} (k : HR top E h W) (e : plainV r h = some (x, g)) {s : Sem Value} (hs : ∀ v, r = some v → ∃ V, s.run P W = .ok V W ∧ VR E v V) : Res P top E h W x g ((do pure (.value (← s)) : Sem Next).run P W) := by
  obtain ⟨v, hv, rfl, rfl⟩ := plainV_eq e
  obtain ⟨V, h1, h2⟩ := hs v hv
  simp only [Sem.run_bind, h1, Result.andThen_ok, Sem.run_pure]
  exact Res.val k h2

theorem evOp_sound {top : Nat} {E : Env} {h g : Heap} {W : World} {a : AAct} {A : Act} {o : Oper} {x : ANext} (k : HR top E h W) (e : evOp P h a o = some (x, g)) (ht : g.next ≤ top) (hR : OpR E a A o.op.operands.toList) :
    Res P top E h W x g ((execOp A.eval o).run P W) := by
  by_cases hk : kindOf o.op = 0
  · exact (evOp_pure hk e hR).res k
  obtain ⟨dst, op, type, pos, after, guard⟩ := o
  cases op <;> first | (exact absurd rfl hk) | (simp only [evOp] at e; cases e; done) | skip
  case alloc t =>
    simp only [evOp, oAlloc] at e
    split at e
    · rename_i z hz
      obtain ⟨rfl, rfl⟩ := newV_eq e
      obtain ⟨Z, h1, h2, _⟩ := run_zeroT hz W
      obtain ⟨g1, g2, g3⟩ := k.newCells ht (h2 E).cells t
      refine ⟨_, _, .pointer (some ⟨W.heap.size, 0, none⟩), ?_, g2, g1, by simp only [VR]; exact ⟨_, _, g3, rfl⟩⟩
      simp [execOp, Instr.alloc, h1, newVar, newRow]
    · cases e
  case box t y =>
    simp only [evOp, oBox] at e
    split at e
    · rename_i v hv
      obtain ⟨rfl, rfl⟩ := newV_eq e
      obtain ⟨g1, g2, g3⟩ := k.newCells ht (hR.one hv).cells t
      refine ⟨_, _, .pointer (some ⟨W.heap.size, 0, none⟩), ?_, g2, g1, by simp only [VR]; exact ⟨_, _, g3, rfl⟩⟩
      simp [execOp, Instr.box, newVar, newRow]
    · cases e
  case buildSlice t n ps =>
    simp only [evOp, oBuildSlice] at e
    split at e
    · rename_i l hl
      split at e
      · rename_i c el hb
        obtain ⟨rfl, rfl⟩ := newV_eq e
        have hp := OpR.parts (by simpa [Op.operands] using hR) hl
        unfold evBuildSlice at hb
        split at hb
        · rename_i el' hu
          split at hb
          · rename_i s z hs hz
            split at hb
            · rename_i hc
              simp only [Option.map_eq_some_iff] at hb
              obtain ⟨r, hr, e2⟩ := hb
              cases e2
              obtain ⟨Z, h1, h2, _⟩ := zeroT_cells hz W
              have hzs : Z.cells.size = s := by rw [← hc.1]; have := (h2 E).cells.len; simpa using this
              obtain ⟨R, f1, f2⟩ := fill_run hr hp ((h2 E).cells.rep n)
              obtain ⟨g1, g2, g3⟩ := k.newCells ht f2 el
              refine ⟨_, _, .slice (some ⟨W.heap.size, 0, none⟩) n n, ?_, g2, g1, by simp only [VR]; exact ⟨_, _, g3, rfl⟩⟩
              have hbig : ¬ (n * s > 2 ^ 24) := by omega
              have hfill : Instr.fill (fun i => some (i * s, s)) ((Array.range (n * s)).map (fun i => (if n * s = 0 then (#[] : Array Value) else Z.cells)[i % (if n * s = 0 then (#[] : Array Value) else Z.cells).size]!)) (ps.toList.map fun p => (p.1, A.eval p.2)) = some R.toArray := by
                rw [← f1]
                congr 1
                by_cases h0 : n * s = 0
                · rw [h0]
                  have : n = 0 := by rcases Nat.mul_eq_zero.1 h0 with h | h <;> omega
                  subst this
                  simp
                · simp only [if_neg h0]
                  rw [← range_rep, hzs]
              by_cases h0 : n * s = 0
              · simp only [if_pos h0] at hfill
                simp [execOp, Instr.buildSlice, run_underlying hu, run_size hs, h0]
                simp [h0] at hfill
                simp [hfill, newRow]
              · simp only [if_neg h0] at hfill
                simp [execOp, Instr.buildSlice, run_underlying hu, run_size hs, h0, hbig, h1, hfill, newRow]
            · cases hb
          · cases hb
        · cases hb
      · cases e
    · cases e
  case load t y =>
    simp only [evOp, oLoad] at e
    split at e
    · rename_i i off hv
      have h1 := hR.one hv
      simp only [VR] at h1
      obtain ⟨b, c, hE, h1⟩ := h1
      refine Res.of_plain k e (s := Instr.loadAt t (A.eval y)) fun v hv => ?_
      obtain ⟨V, h2, h3⟩ := k.loadV (P := P) hv hE
      exact ⟨V, by rw [h1]; simp [Instr.loadAt, Instr.sureAddr, h2], h3⟩
    · cases e
  case store t y z =>
    simp only [evOp, oStore] at e
    split at e
    · rename_i i off v hy hz
      simp only [Option.map_eq_some_iff] at e
      obtain ⟨g', hs, e2⟩ := e
      cases e2
      have h1 := hR y (by simp [Op.operands]) _ hy
      have h2 := hR z (by simp [Op.operands]) _ hz
      simp only [VR] at h1
      obtain ⟨b, c, hE, h1⟩ := h1
      unfold evStore at hs
      split at hs
      · rename_i s hsz
        split at hs
        · rename_i hc
          obtain ⟨W', w1, w2, w3⟩ := k.store (P := P) hs hE h2.cells hc.2
          have hl : (A.eval z).cells.size = s := by rw [← hc.1]; have := h2.cells.len; simpa using this
          refine ⟨E, W', ?_, w2, w3⟩
          simp [execOp, h1, Instr.storeAt, Instr.sureAddr, storeVar, run_size hsz, hl, w1]
        · cases hs
      · cases hs
    · cases e
  case makeMap t r =>
    have hnew : ∀ (hh : newV h (.map [] 0) (fun i => AV.map i) = some (x, g)) (hrun : (Instr.makeMap t (r.map A.eval)).run P W = .ok (.map (some W.heap.size)) (W.alloc (.map #[] 0))), Res P top E h W x g ((execOp A.eval { dst := dst, op := .makeMap t r, type := type, pos := pos, after := after, guard := guard }).run P W) := by
      intro hh hrun
      obtain ⟨rfl, rfl⟩ := newV_eq hh
      obtain ⟨g1, g2, g3⟩ := k.new ht (.map [] 0) (.map #[] 0) 0 ⟨[], rfl, rfl⟩
      refine ⟨_, _, .map (some W.heap.size), ?_, g2, g1, by simp only [VR]; exact ⟨_, _, g3, rfl⟩⟩
      simp [execOp, hrun]
    simp only [evOp, oMakeMap] at e
    split at e
    · rename_i ho
      refine hnew e ?_
      cases r with
      | none => simp [Instr.makeMap]
      | some y => simp [optO] at ho
    · rename_i kk n ho
      split at e
      · rename_i k1 e1 hu
        refine hnew e ?_
        cases r with
        | none => simp [optO] at ho
        | some y =>
          simp only [optO, Option.map_eq_some_iff] at ho
          obtain ⟨v, hv, hv2⟩ := ho
          cases hv2
          have h1 := hR.one (by simpa [Op.operands] using hv)
          simp only [VR] at h1
          simp [Instr.makeMap, run_underlying hu, h1, asInt, asIntOf]
      · cases e
    · cases e
  case makeSlice t l c =>
    simp only [evOp, oMakeSlice] at e
    split at e
    · rename_i n m el hn hm hu
      split at e
      · rename_i s z by_ hs hz hb
        split at e
        · rename_i hc
          obtain ⟨c1, c2, c3, c4, c5, c6⟩ := hc
          obtain ⟨rfl, rfl⟩ := newV_eq e
          have h1 := hR l (by simp [Op.operands]) _ hn
          have h2 := hR c (by simp [Op.operands]) _ hm
          simp only [VR] at h1 h2
          obtain ⟨Z, z1, z2, _⟩ := zeroT_cells hz W
          have hzs : Z.cells.size = s := by rw [← c4]; have := (z2 E).cells.len; simpa using this
          obtain ⟨g1, g2, g3⟩ := k.newCells ht ((z2 E).cells.rep m.toNat) el
          obtain ⟨i, hi, hib⟩ := bytes_run hb W
          refine ⟨_, _, .slice (some ⟨W.heap.size, 0, none⟩) n.toNat m.toNat, ?_, g2, g1, by simp only [VR]; exact ⟨_, _, g3, rfl⟩⟩
          have w1 := wrap_small c1 (by omega)
          have w2 := wrap_small (n := m) (by omega) c3
          have hfit : ¬ (281474976710656 < (i.bytes : Int) * m) := by
            have : i.bytes * m.toNat ≤ 1000000 * 65536 := Nat.mul_le_mul (by omega) (by omega)
            have h3 : ((i.bytes * m.toNat : Nat) : Int) = (i.bytes : Int) * m := by push_cast; rw [Int.toNat_of_nonneg (by omega)]
            omega
          have hneg : ¬ (m < 0) := by omega
          have hn0 : ¬ (n < 0) := by omega
          have hnm : ¬ (m < n) := by omega
          by_cases h0 : m.toNat * s = 0
          · have hm0 : m.toNat = 0 := by rcases Nat.mul_eq_zero.1 h0 with h | h <;> omega
            simp [execOp, Instr.makeSlice, run_underlying hu, h1, h2, asInt, asIntOf, hi, w1, w2, hfit, hneg, hn0, hnm, run_size hs, newRow, hm0]
            congr 2
            apply Array.ext'
            simp
          · have hr := range_rep Z.cells m.toNat
            rw [hzs] at hr
            simp [execOp, Instr.makeSlice, run_underlying hu, h1, h2, asInt, asIntOf, hi, w1, w2, hfit, hneg, hn0, hnm, run_size hs, h0, z1, newRow, hzs, hr]
        · cases e
      · cases e
    · cases e
  case slice t y lo hi mx =>
    simp only [evOp, oSlice] at e
    split at e
    · rename_i v l r m hy hlo hhi hmx
      have h1 := hR y (by simp [Op.operands]) _ hy
      have h2 := optO_run (A := A) hlo (fun q hq u hu => hR q (by simp [Op.operands]; exact .inr (.inl (by simpa using hq))) u hu)
      have h3 := optO_run (A := A) hhi (fun q hq u hu => hR q (by simp [Op.operands]; exact .inr (.inr (.inl (by simpa using hq)))) u hu)
      have h4 := optO_run (A := A) hmx (fun q hq u hu => hR q (by simp [Op.operands]; exact .inr (.inr (.inr (by simpa using hq)))) u hu)
      exact Res.of_plain k e (s := Instr.sliceAt t (A.eval y) (lo.map A.eval) (hi.map A.eval) (mx.map A.eval)) fun v hv => evSlice_run k hv h1 h2 h3 h4
    · cases e
  case lookup t y i ok =>
    simp only [evOp, oLookup] at e
    split at e
    · rename_i v u hv hu
      exact Res.of_plain k e (s := Instr.lookup t (A.eval y) (A.eval i) ok) fun v' hv' => evLookup_run k hv' (hR y (by simp [Op.operands]) v hv) (hR i (by simp [Op.operands]) u hu)
    · cases e
  case mapUpdate t m q z =>
    simp only [evOp, oUpdate] at e
    split at e
    · rename_i v u y hv hu hy
      simp only [Option.map_eq_some_iff] at e
      obtain ⟨g', hs, e2⟩ := e
      cases e2
      obtain ⟨W', w1, w2, w3⟩ := evUpdate_run k hs (hR m (by simp [Op.operands]) v hv) (hR q (by simp [Op.operands]) u hu) (hR z (by simp [Op.operands]) y hy)
      exact ⟨E, W', by simp [execOp, w1], w2, w3⟩
    · cases e
  case insert t m q z =>
    simp only [evOp, oUpdate] at e
    split at e
    · rename_i v u y hv hu hy
      simp only [Option.map_eq_some_iff] at e
      obtain ⟨g', hs, e2⟩ := e
      cases e2
      obtain ⟨W', w1, w2, w3⟩ := evUpdate_run k hs (hR m (by simp [Op.operands]) v hv) (hR q (by simp [Op.operands]) u hu) (hR z (by simp [Op.operands]) y hy)
      exact ⟨E, W', by simp [execOp, w1], w2, w3⟩
    · cases e
  case call c =>
    obtain ⟨callee, args, ts⟩ := c
    cases callee with
    | invoke r n => simp only [evOp, oCall] at e; cases e
    | builtin b =>
      simp only [evOp, oCall] at e
      have hl0 : OpR E a A args.toList := hR.sub (by simp [Op.operands, Call.operands])
      split at e
      · rename_i l hl
        have h1 := OpR.list hl0 hl
        simp only [Option.map_eq_some_iff] at e
        obtain ⟨⟨v, g'⟩, hb, e2⟩ := e
        cases e2
        have hargs : args.map A.eval = (args.toList.map A.eval).toArray := by apply Array.ext'; simp
        cases b <;> simp only [evBuiltin] at hb <;> first | (cases hb; done) | (exact absurd rfl hk) | skip
        case append =>
          obtain ⟨E', W', V, a1, a2, a3, a4⟩ := append_run (ty := type) k hb ht h1
          exact ⟨E', W', V, by simp only [execOp, resolve, Sem.run_bind, Sem.run_pure, Result.andThen_ok, invoke, builtin, hargs, a1], a2, a3, a4⟩
        case cap =>
          split at hb
          · rename_i t y h0
            simp only [Option.map_eq_some_iff] at hb
            obtain ⟨u, hu, e2⟩ := hb
            cases e2
            simp only [VRs] at h1
            obtain ⟨Y, _, h1, hy, rfl⟩ := h1
            obtain ⟨V, r1, r2⟩ := cap_op (W := W) hu hy h0 type
            exact ⟨E, W, V, by rw [h1] at hargs; simp only [execOp, resolve, Sem.run_bind, Sem.run_pure, Result.andThen_ok, invoke, builtin, hargs, r1], Ext.refl _ _ _, k, r2⟩
          · cases hb
        case copy =>
          split at hb
          · rename_i el d s hu0
            split at hb
            · rename_i sz n i off len cap hs hn
              split at hb
              · rename_i cs hcs
                split at hb
                · rename_i hok
                  simp only [Option.map_eq_some_iff] at hb
                  obtain ⟨g2, hg2, e2⟩ := hb
                  cases e2
                  simp only [VRs] at h1
                  obtain ⟨D, _, h1, hd, S, _, rfl, hsv, rfl⟩ := h1
                  simp only [VR] at hd
                  obtain ⟨b, cc, hE, rfl⟩ := hd
                  obtain ⟨L, f1, f2⟩ := first_run (P := P) k hcs hsv
                  obtain ⟨W', w1, w2, w3⟩ := k.store (P := P) hg2 hE f2 hok
                  simp only [Option.bind_eq_some_iff] at hu0
                  obtain ⟨t, h0, hu⟩ := hu0
                  refine ⟨E, W', goInt (Nat.min n len), ?_, w2, w3, VR.go _⟩
                  rw [h1] at hargs
                  have hlr := len_run (P := P) hn hsv
                  have ff := f1 W rfl
                  simp [execOp, resolve, invoke, builtin, hargs, Builtin.copy_, h0, run_underlying hu, hlr, run_size hs, ff, w1]
                · cases hb
              · cases hb
            · cases hb
          · cases hb
        case len =>
          split at hb
          · rename_i t y h0
            simp only [Option.map_eq_some_iff] at hb
            obtain ⟨u, hu, e2⟩ := hb
            cases e2
            simp only [VRs] at h1
            obtain ⟨Y, _, h1, hy, rfl⟩ := h1
            obtain ⟨V, r1, r2⟩ := len_op k hu hy h0 type
            exact ⟨E, W, V, by rw [h1] at hargs; simp only [execOp, resolve, Sem.run_bind, Sem.run_pure, Result.andThen_ok, invoke, builtin, hargs, r1], Ext.refl _ _ _, k, r2⟩
          · cases hb
      · cases e
    | value f =>
      simp only [evOp, oCall] at e
      have hf0 : ∀ v, a.eval f = some v → VR E v (A.eval f) := fun v hv => hR f (by simp [Op.operands, Call.operands]) v hv
      have hl0 : OpR E a A args.toList := hR.sub (fun q hq => by simp [Op.operands, Call.operands]; exact .inr (by simpa using hq))
      have hargs : args.map A.eval = (args.toList.map A.eval).toArray := by apply Array.ext'; simp
      split at e
      · rename_i gf l cs xs hf hxs
        cases e
        have h1 := hf0 _ hf
        have h2 := OpR.list hl0 hxs
        simp only [VR] at h1
        obtain ⟨fn, As, Cs, h1, h3, h4, rfl⟩ := h1
        refine ⟨rfl, As ++ args.toList.map A.eval ++ Cs, ?_, (h3.append h2).append h4⟩
        have e2 : As.toArray ++ args.map A.eval ++ Cs.toArray = (As ++ args.toList.map A.eval ++ Cs).toArray := by rw [hargs]; apply Array.ext'; simp
        rw [← e2]
        simp [execOp, resolve, Deferred.ofValue, h1, invoke]
      · rename_i gf xs hf hxs
        cases e
        have h1 := hf0 _ hf
        have h2 := OpR.list hl0 hxs
        simp only [VR] at h1
        obtain ⟨fn, As, Cs, h1, h3, h4, b, c, hE, rfl⟩ := h1
        simp only [VRs] at h3 h4
        subst h3 h4
        refine ⟨rfl, args.toList.map A.eval, b, c, hE, ?_, h2⟩
        rw [← hargs]
        simp [execOp, resolve, Deferred.ofValue, h1, invoke]
      · cases e
  all_goals (simp only [evOp] at e; (cases e; done))
end Go.Proofs.Ytobehhcbnjgojaa.Ev
