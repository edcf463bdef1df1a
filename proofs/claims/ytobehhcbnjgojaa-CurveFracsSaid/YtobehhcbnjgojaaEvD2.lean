/- A region that draws its order: one step of any order. -/
import Derived.Test.YtobehhcbnjgojaaEvD1
namespace Go.Proofs.Ytobehhcbnjgojaa.Ev
variable {P : Program}
section
variable {ops : Array Oper} {as : Nat → AAct} {hs : Nat → Heap} {rc : Nat → Rec} {vs : Nat → AV} {gs : Nat → Heap} {masks kinds : List Nat}

theorem apartA_spec {ops : Array Oper} {x y : Oper} (h : apartA ops x y = true) : (∀ d, x.dst = some d → d ∉ tmpsOf ops y) ∧ (∀ d, x.dst = some d → y.dst ≠ some d) ∧ (∀ d, y.dst = some d → d ∉ tmpsOf ops x) := by
  unfold apartA at h
  simp only [Bool.and_eq_true] at h
  refine ⟨fun d hd => ?_, fun d hd => ?_, fun d hd => ?_⟩
  · rw [hd] at h
    have := h.1
    simp only [Bool.and_eq_true, Bool.not_eq_true', List.contains_eq_mem, decide_eq_false_iff_not] at this
    exact this.1
  · rw [hd] at h
    have := h.1
    simp only [Bool.and_eq_true, bne_iff_ne] at this
    exact this.2
  · rw [hd] at h
    have := h.2
    simp only [Bool.not_eq_true', List.contains_eq_mem, decide_eq_false_iff_not] at this
    exact this

theorem Don.set {listed : Array Bool} {i k : Nat} (hi : i < listed.size) : Don (listed.setIfInBounds i true) k ↔ Don listed k ∨ k = i := by
  unfold Don
  by_cases e : k = i
  · subst e; simp [Array.getD, hi]
  · simp [Array.getElem?_setIfInBounds_ne (Ne.symm e), e]

theorem wanted_eq' {E : Env} {ops : Array Oper} {a : AAct} {A : Act} (o : Oper) (hsz : A.tmps.size = a.size) (hl : ∀ t, t ∈ tmpsOf ops o → VR E (a.at t) (A.tmps.getD t undef)) : Region.wanted o (yielded ops A.tmps) = wantedA ops a o := by
  unfold Region.wanted wantedA
  cases hg : o.guard with
  | none => rfl
  | some p =>
    obtain ⟨j, want⟩ := p
    simp only
    unfold yielded yieldedA
    cases hd : (ops[j]?).bind (·.dst) with
    | none => simp
    | some t =>
      simp only [Option.bind_some]
      have h1 := hl t (by unfold tmpsOf; rw [hg]; simp only [hd, List.mem_append]; exact .inr (by simp))
      by_cases ht : t < a.size
      · have hb : Nat.blt t a.size = true := by simpa [Nat.blt_eq] using ht
        have hlt : t < A.tmps.size := by rw [hsz]; exact ht
        rw [hb]
        have hget : A.tmps[t]? = some (A.tmps.getD t undef) := by simp [Array.getD, hlt]
        rw [hget]
        show ((match some (A.tmps.getD t undef) with | some (.bool b) => some b | _ => none) == some want) = _
        generalize a.at t = v at h1 ⊢
        generalize A.tmps.getD t undef = V at h1 ⊢
        cases v <;> simp only [VR] at h1 <;> first
          | (subst h1; simp; done)
          | (obtain ⟨_, _, _, rfl⟩ := h1; simp; done)
          | (obtain ⟨_, _, _, rfl, _⟩ := h1; simp; done)
          | (obtain ⟨_, rfl, _⟩ := h1; simp; done)
          | skip
      · have hb : Nat.blt t a.size = false := by
          cases hh : Nat.blt t a.size
          · rfl
          · exact absurd (by simpa [Nat.blt_eq] using hh) ht
        rw [hb]
        have hget : A.tmps[t]? = none := Array.getElem?_eq_none (by rw [hsz]; exact Nat.le_of_not_lt ht)
        rw [hget]
        simp

/-- what is known of an operation that may come next -/
structure Nx (ops : Array Oper) (masks : List Nat) (listed : Array Bool) (i : Nat) (o : Oper) : Prop where
  op : ops[i]? = some o
  lt : i < ops.size
  un : ¬ Don listed i
  ed : ∀ e ∈ o.after, Region.binds .any e = true → Don listed e.on
  pre : ∀ k, (masks.getD i 0).testBit k = true → Don listed k
  post : ∀ k, i < k → k < ops.size → (masks.getD k 0).testBit i = true → ¬ Don listed k
theorem DC.nx (c : DC P ops as hs rc vs gs masks kinds) {listed : Array Bool} (hsz : listed.size = ops.size) (hcl : Closed ops (Don listed)) {i : Nat} (hi : i ∈ Region.ready .any ops listed) : ∃ o, Nx ops masks listed i o := by
  obtain ⟨h0, o, ho, he⟩ := mem_ready.1 hi
  have hlt : i < ops.size := (Array.getElem?_eq_some_iff.1 ho).1
  have hun : ¬ Don listed i := by
    unfold Don
    have hl : i < listed.size := by omega
    simp only [Array.getD, hl, dif_pos] at h0 ⊢
    simpa using h0
  refine ⟨o, ho, hlt, hun, he, ?_, fun k hik hk hb hd => ?_⟩
  · exact c.bef i hlt (Don listed) hcl (fun o' ho' => by rw [ho] at ho'; cases ho'; exact he)
  · exact hun (c.bef k hk (Don listed) hcl (fun o' ho' e he' hb' => hcl k o' ho' hd e he' hb') i hb)

theorem DInv.look {top : Nat} {E0 E : Env} {W0 W : World} {A : Act} {listed : Array Bool} (c : DC P ops as hs rc vs gs masks kinds) (inv : DInv P ops as hs rc top E0 W0 listed E A W) {i : Nat} {o : Oper} (x : Nx ops masks listed i o) {t : Nat} (ht : t ∈ tmpsOf ops o) : VR E ((as i).at t) (A.tmps.getD t undef) := by
  obtain ⟨m, hm, hw, hv⟩ := inv.tm t
  rcases Nat.le_total m i with h | h
  · have : (as i).at t = (as m).at t := c.at_eq h (by have := x.lt; omega) fun k ok h1 h2 hk hd => by
      have h3 : ¬ Don listed k := fun hdn => by have := (hw k ok hk hd).1 hdn; omega
      rcases c.apart i o x.op k h2 with h4 | h4
      · exact h3 (x.pre k h4)
      · exact (apartA_spec (h4 ok hk)).1 t hd ht
    rw [this]; exact hv
  · have : (as m).at t = (as i).at t := c.at_eq h hm fun k ok h1 h2 hk hd => by
      have h3 : Don listed k := (hw k ok hk hd).2 h2
      rcases Nat.lt_or_ge i k with h4 | h4
      · rcases c.apart k ok hk i h4 with h5 | h5
        · exact x.post k h4 (by omega) h5 h3
        · exact (apartA_spec (h5 o x.op)).2.2 t hd ht
      · obtain rfl : k = i := by omega
        exact x.un h3
    rw [← this]; exact hv
theorem DInv.opR {top : Nat} {E0 E : Env} {W0 W : World} {A : Act} {listed : Array Bool} (c : DC P ops as hs rc vs gs masks kinds) (inv : DInv P ops as hs rc top E0 W0 listed E A W) {i : Nat} {o : Oper} (x : Nx ops masks listed i o) : OpR E (as i) A o.op.operands.toList := fun y hy v hv => by
  cases y with
  | tmp t =>
    simp only [AAct.eval] at hv
    cases hv
    exact inv.look c x (by unfold tmpsOf; simp only [List.mem_append, List.mem_filterMap]; exact .inl ⟨.tmp t, hy, rfl⟩)
  | const k => simp only [AAct.eval] at hv; exact abs_VR hv
  | global g => simp [AAct.eval] at hv
  | func f => simp only [AAct.eval] at hv; cases hv; simp only [VR]; exact ⟨.func f, [], [], rfl, VRs.nil, VRs.nil, rfl⟩

/-- the temporaries behind it -/
theorem DInv.tmStep {top : Nat} {E0 E E' : Env} {W0 W : World} {A : Act} {listed : Array Bool} (c : DC P ops as hs rc vs gs masks kinds) (inv : DInv P ops as hs rc top E0 W0 listed E A W) {i : Nat} {o : Oper} (x : Nx ops masks listed i o) (hle : E.le E') {V : Value} (hV : VR E' (vs i) V) :
    ∀ t, ∃ m, m ≤ ops.size ∧ (∀ k ok, ops[k]? = some ok → ok.dst = some t → (Don (listed.setIfInBounds i true) k ↔ k < m)) ∧ VR E' ((as m).at t) ((A.put o.dst V).tmps.getD t undef) := by
  have hil : i < listed.size := by rw [inv.sz]; exact x.lt
  intro t
  by_cases hd : o.dst = some t
  · refine ⟨i + 1, x.lt, fun k ok hk hkd => ?_, ?_⟩
    · rw [Don.set hil]
      rcases Nat.lt_trichotomy k i with h | h | h
      · have : Don listed k := by
          rcases c.apart i o x.op k h with h4 | h4
          · exact x.pre k h4
          · exact absurd hd ((apartA_spec (h4 ok hk)).2.1 t hkd)
        simp [this]; omega
      · subst h; simp
      · have : ¬ Don listed k := by
          rcases c.apart k ok hk i h with h4 | h4
          · exact x.post k h (Array.getElem?_eq_some_iff.1 hk).1 h4
          · exact absurd hkd ((apartA_spec (h4 o x.op)).2.1 t hd)
        simp [this]; omega
    · obtain ⟨h1, h2⟩ := c.put_eq x.op hd
      rw [h1]
      have h3 : t < A.tmps.size := by rw [inv.tmsz, ← (c.size (Nat.le_of_lt x.lt)).1]; exact h2
      rw [hd]
      simpa [Act.put, Array.getD, h3] using hV
  · obtain ⟨m, hm, hw, hv⟩ := inv.tm t
    refine ⟨m, hm, fun k ok hk hkd => ?_, ?_⟩
    · rw [Don.set hil]
      have : k ≠ i := by rintro rfl; rw [x.op] at hk; cases hk; exact hd hkd
      simp only [this, or_false]
      exact hw k ok hk hkd
    · have : (A.put o.dst V).tmps.getD t undef = A.tmps.getD t undef := by
        cases hod : o.dst with
        | none => rfl
        | some d =>
          have hne : d ≠ t := fun e => hd (by rw [hod, e])
          simp [Act.put, Array.getElem?_setIfInBounds_ne hne]
      rw [this]
      exact hv.mono hle
end
end Go.Proofs.Ytobehhcbnjgojaa.Ev
