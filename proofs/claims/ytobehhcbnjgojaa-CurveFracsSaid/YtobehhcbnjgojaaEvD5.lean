/- A region that draws its order: all of it. -/
import Derived.Test.YtobehhcbnjgojaaEvD4
import Derived.OrdersIn
namespace Go.Proofs.Ytobehhcbnjgojaa.Ev
variable {P : Program}
section
variable {ops : Array Oper} {as : Nat → AAct} {hs : Nat → Heap} {rc : Nat → Rec} {vs : Nat → AV} {gs : Nat → Heap} {masks kinds : List Nat}

theorem DInv.m {top : Nat} {E0 E : Env} {W0 W : World} {A : Act} {listed : Array Bool} (inv : DInv P ops as hs rc top E0 W0 listed E A W) : MInv ops hs rc top E0 W0 listed E W := ⟨inv.mem, inv.free, inv.x⟩

theorem DInv.done {top : Nat} {E0 E E' : Env} {W0 W W' : World} {A : Act} {listed : Array Bool} (c : DC P ops as hs rc vs gs masks kinds) (inv : DInv P ops as hs rc top E0 W0 listed E A W) {i : Nat} {o : Oper} (x : Nx ops masks listed i o) (hle : E.le E') {V : Value} (hV : VR E' (vs i) V)
    (hm : MInv ops hs rc top E0 W0 (listed.setIfInBounds i true) E' W') : DInv P ops as hs rc top E0 W0 (listed.setIfInBounds i true) E' (A.put o.dst V) W' := by
  have hil : i < listed.size := by rw [inv.sz]; exact x.lt
  refine ⟨by simp [inv.sz], fun k ok hk hd e he hb => (Don.set hil).2 (.inl ?_), ?_, ?_, inv.tmStep c x hle hV, hm.mem, hm.free, hm.x⟩
  · rcases (Don.set hil).1 hd with h | h
    · exact inv.cl k ok hk h e he hb
    · subst h; rw [x.op] at hk; cases hk; exact x.ed e he hb
  · cases o.dst with
    | none => exact inv.tmsz
    | some d => simpa [Act.put] using inv.tmsz
  · have : (A.put o.dst V).defers = A.defers := by cases o.dst <;> rfl
    rw [this]; exact inv.de.mono hle

theorem DInv.step {top : Nat} {E0 E : Env} {W0 W : World} {A : Act} {listed : Array Bool} (c : DC P ops as hs rc vs gs masks kinds) (h0 : ∀ r ∈ (hs 0).hid, r.2 ≤ (hs 0).next) (hE0 : ∀ k, (hs 0).next ≤ k → k < (hs ops.size).next → E0 k = none) (htop : (hs ops.size).next ≤ top) (inv : DInv P ops as hs rc top E0 W0 listed E A W) {i : Nat} {o : Oper} (x : Nx ops masks listed i o)
    {rb : Option Nat} {n : Nat} {Q : Exit → Act → World → Prop} {K : Act → World → Prop} (hK : ∀ E' A' W', DInv P ops as hs rc top E0 W0 (listed.setIfInBounds i true) E' A' W' → K A' W') : wpOpIn (FF rb) n P ops Q i K A W := by
  unfold wpOpIn
  rw [x.op]
  simp only
  have hw := wanted_eq' (E := E) (a := as i) (A := A) o (by rw [inv.tmsz, (c.size (Nat.le_of_lt x.lt)).1]) (fun t ht => inv.look c x ht)
  rw [hw]
  have hR := inv.opR c x
  have hat := c.at_ i o x.op
  rcases hat.how with ⟨h1, h2, h3, h4⟩ | ⟨h1, h2, hblk, h4, h5, h6, h7, h8, h9⟩
  · rw [h1, if_neg (by simp)]
    refine ⟨fun _ _ => FF_fn _ _, hK E _ _ (inv.done c x E.le_refl (by rw [h3]; exact VR.undef) (inv.m.still c h0 inv.sz x (.inl h2)))⟩
  · rw [h1, if_pos rfl]
    rw [DC.len] at h2 h4 h5 h6 h7 h8
    have hty := c.tyle x.lt
    have hk := c.kind i o x.op
    have hgn : (gs i).next = (hs (i + 1)).next := by rw [c.hs1 i o x.op]
    have hit : (hs (i + 1)).next ≤ top := Nat.le_trans (c.mono (show i + 1 ≤ ops.size from x.lt) (Nat.le_refl _)).nx htop
    rcases (show (rc i).ty = 0 ∨ (rc i).ty = 1 ∨ (rc i).ty = 2 ∨ (rc i).ty = 3 by omega) with ht | ht | ht | ht
    · obtain ⟨_, hp⟩ := h7 (hk.1 (by rw [← h2, ht]))
      exact hp E W A rb n _ Q hR fun V hV => hK E _ _ (inv.done c x E.le_refl hV (inv.m.still c h0 inv.sz x (.inl ht)))
    · obtain ⟨q1, q2⟩ := inv.m.quiet c h0 inv.sz x ht
      rw [ht] at h6
      exact h6.2 _ E W A rb n _ Q q1 (by rw [hgn]; exact Nat.le_refl _) hR fun E' W' V y hr' hV => hK E' _ _ (inv.done c x y.le hV (q2 E' W' y hr'))
    · obtain ⟨q1, q2⟩ := inv.m.write c h0 hE0 inv.sz x ht
      have hev : evHeap (rc i).ty (masks.getD i 0) (recsAt rc [] i) (hs i) = hs i := by
        unfold evHeap
        rw [if_neg (by omega), if_neg (by omega)]
      rw [hev] at h6
      exact h6.2 top E W A rb n _ Q q1 (by rw [hgn]; exact hit) hR fun E' W' V y hr' hV => hK E' _ _ (inv.done c x y.le hV (q2 E' W' y hr'))
    · obtain ⟨_, B, obj, hB, hg, hp⟩ := h8 (hk.2.1 (by rw [← h2, ht]))
      rw [ht] at hg
      exact hp E W A rb n _ Q hR (inv.m.sees c inv.sz inv.cl x ht (by rw [hblk, hB]) hg) fun V hV => hK E _ _ (inv.done c x E.le_refl hV (inv.m.still c h0 inv.sz x (.inr ht)))

/-- how many are left -/
def left (listed : Array Bool) : Nat → Nat
  | 0 => 0
  | k + 1 => left listed k + (if listed.getD k false then 0 else 1)
theorem left_set {listed : Array Bool} {i : Nat} (hi : i < listed.size) (hd : ¬ Don listed i) : ∀ k, left (listed.setIfInBounds i true) k + (if i < k then 1 else 0) = left listed k
  | 0 => by simp [left]
  | k + 1 => by
    have ih := left_set hi hd k
    have hs := Don.set (k := k) hi
    unfold Don at hs hd
    simp only [left]
    by_cases hk : k = i
    · subst hk
      rw [if_pos (hs.2 (.inr rfl)), if_neg hd]
      simp at ih ⊢
      omega
    · have : (listed.setIfInBounds i true).getD k false = listed.getD k false := by
        cases h : listed.getD k false
        · cases h2 : (listed.setIfInBounds i true).getD k false
          · rfl
          · rcases hs.1 h2 with h3 | h3
            · rw [h] at h3; cases h3
            · exact absurd h3 hk
        · exact hs.2 (.inl h)
      rw [this]
      by_cases h2 : i < k
      · rw [if_pos h2] at ih; rw [if_pos (show i < k + 1 by omega)]; omega
      · rw [if_neg h2] at ih; rw [if_neg (show ¬ i < k + 1 by omega)]; omega
theorem left_zero {listed : Array Bool} : ∀ {n}, left listed n = 0 → ∀ k, k < n → Don listed k
  | 0, _, k, h => by omega
  | n + 1, h, k, hk => by
    simp only [left] at h
    by_cases e : k = n
    · subst e
      unfold Don
      split at h
      · assumption
      · omega
    · exact left_zero (n := n) (listed := listed) (by omega) k (by omega)

theorem all_done (c : DC P ops as hs rc vs gs masks kinds) {listed : Array Bool} (hsz : listed.size = ops.size) (h : Region.ready .any ops listed = []) : ∀ k, k < ops.size → Don listed k := by
  intro k
  induction k using Nat.strongRecOn with
  | _ k ih =>
    intro hk
    by_cases hd : Don listed k
    · exact hd
    · exfalso
      obtain ⟨o, ho⟩ := c.has hk
      have : k ∈ Region.ready .any ops listed := by
        refine mem_ready.2 ⟨?_, o, ho, fun e he hb => ?_⟩
        · unfold Don at hd
          have hl : k < listed.size := by omega
          simp only [Array.getD, hl, dif_pos] at hd ⊢
          simpa using hd
        · have h2 := c.edges k o ho e he hb
          exact ih e.on h2 (by omega)
      rw [h] at this
      cases this

theorem DInv.any {top : Nat} {E0 : Env} {W0 : World} (c : DC P ops as hs rc vs gs masks kinds) (h0 : ∀ r ∈ (hs 0).hid, r.2 ≤ (hs 0).next) (hE0 : ∀ k, (hs 0).next ≤ k → k < (hs ops.size).next → E0 k = none) (htop : (hs ops.size).next ≤ top) {rb : Option Nat} {n : Nat} {Q : Exit → Act → World → Prop}
    (hQ : ∀ listed E A W, DInv P ops as hs rc top E0 W0 listed E A W → (∀ k, k < ops.size → Don listed k) → Q .normal A W) :
    ∀ (fuel : Nat) {listed : Array Bool} {E : Env} {A : Act} {W : World}, left listed ops.size ≤ fuel → DInv P ops as hs rc top E0 W0 listed E A W → wpAnyIn (FF rb) n P .any ops Q fuel listed A W := by
  intro fuel
  induction fuel with
  | zero =>
    intro listed E A W hl inv
    have hall := left_zero (show left listed ops.size = 0 by omega)
    refine ⟨?_, hQ listed E A W inv hall⟩
    cases hr : Region.ready .any ops listed with
    | nil => rfl
    | cons i l =>
      exfalso
      obtain ⟨o, x⟩ := c.nx inv.sz inv.cl (i := i) (by rw [hr]; exact List.mem_cons_self)
      exact x.un (hall i x.lt)
  | succ fuel ih =>
    intro listed E A W hl inv
    refine ⟨fun hr => hQ listed E A W inv (all_done c inv.sz hr), fun i hi => ?_⟩
    obtain ⟨o, x⟩ := c.nx inv.sz inv.cl hi
    refine inv.step c h0 hE0 htop x fun E' A' W' inv' => ih ?_ inv'
    have := left_set (by rw [inv.sz]; exact x.lt) x.un ops.size
    rw [if_pos x.lt] at this
    omega

theorem HR.drew {top : Nat} {E : Env} {h : Heap} {W : World} (k : HR top E h W) : HR top E h { heap := W.heap, tape := W.tape, drawn := W.drawn + 1, os := W.os, output := W.output } := ⟨k.obj, k.inj, k.lt, k.hid, k.clean⟩

theorem DC.region (c : DC P ops as hs rc vs gs masks kinds) (hP : P.follows .mixedOrders = true) {top : Nat} {E : Env} {W : World} {A : Act} (k : HR top E (hs 0) W) (htop : (hs ops.size).next ≤ top) (ha : AR E (as 0) A) (rb : Option Nat) (n id : Nat) (v : AV) : (Code.region id ops true).wpIn (FF rb) n P (PC top E (hs 0) W ⟨.normal, v, as ops.size, hs ops.size⟩) A W := by
  have hE0 : ∀ i, (hs 0).next ≤ i → i < (hs ops.size).next → E i = none := fun i h1 h2 => k.lt i h1 (Nat.lt_of_lt_of_le h2 htop)
  refine wpIn_region_any hP (DInv.any (E0 := E) (W0 := W) (top := top) (E := E) c k.hid hE0 htop (fun listed E' A' W' inv hall => ?_) ops.size ?_ ?_)
  · have ab := c.mono (Nat.zero_le ops.size) (Nat.le_refl _)
    refine ⟨rfl, E', ⟨inv.x.le, ab.nx, ab.hid, ab.lo, ab.keep, fun i hi hs' => ?_, inv.x.fresh, inv.x.size, inv.x.keepC, inv.x.os, inv.x.tape, inv.x.output⟩, ?_, ⟨⟨?_, fun t => ?_⟩, ?_⟩⟩
    · obtain ⟨hh, ht⟩ := Heap.get_some hs'
      rw [ht] at hs'
      unfold Heap.get
      rw [if_neg]
      · exact ab.dead i hi hs'
      · rw [← Heap.hidden_eq ab.hid, hh]; simp
    · obtain ⟨m, hf, hr⟩ := inv.mem
      have hm : m = ops.size := by
        rcases Nat.lt_or_ge m ops.size with h | h
        · exact absurd (hall m h) (hf.2.1 h).2
        · have := hf.1; omega
      subst hm
      have e : gD listed rc hs ops.size = hs ops.size := by
        have : unl listed rc ops.size = [] := by
          unfold unl
          rw [List.filterMap_eq_nil_iff]
          intro k hk
          have := hall k (by simpa using hk)
          unfold Don at this
          rw [if_pos this]
        unfold gD
        rw [this]
        rfl
      rw [e] at hr
      exact hr
    · rw [inv.tmsz, (c.size (Nat.le_refl _)).1]
    · obtain ⟨m, hm, hw, hv⟩ := inv.tm t
      have : (as ops.size).at t = (as m).at t := c.at_eq hm (Nat.le_refl _) fun k ok h1 h2 hk hd => by
        have := (hw k ok hk hd).1 (hall k h2)
        omega
      unfold AAct.at at this hv
      rw [this]
      exact hv
    · rw [(c.size (Nat.le_refl _)).2]; exact inv.de
  · have : ∀ j, left (Array.replicate ops.size false) j = left (Array.replicate ops.size false) j := fun _ => rfl
    have hb : ∀ (l : Array Bool) j, left l j ≤ j := fun l j => by
      induction j with
      | zero => exact Nat.le_refl _
      | succ j ih => simp only [left]; split <;> omega
    exact hb _ _
  · have hno : ∀ k, ¬ Don (Array.replicate ops.size false) k := fun k h => by
      unfold Don at h
      by_cases hk : k < ops.size <;> simp [Array.getD, hk] at h
    obtain ⟨m, _, g2, g3, g4⟩ := firstFrom rc ops.size (j := 0) (Nat.zero_le _)
    have hget : ∀ id ob, (gD (Array.replicate ops.size false) rc hs m).get id = some ob → (hs 0).get id = some ob := fun id ob h => by
      have h' := gD_get.1 h
      obtain ⟨hh, ht⟩ := Heap.get_some (h := hs m) (i := id) (by rw [h'.2]; rfl)
      rw [ht] at h'
      have hlt : id < (hs 0).next := by
        rcases Nat.lt_or_ge id (hs 0).next with h1 | h1
        · exact h1
        · exfalso
          have hlt : id < (hs m).next := by
            rcases Nat.lt_or_ge id (hs m).next with h1 | h1
            · exact h1
            · have := c.clean g2 id h1; rw [this] at h'; cases h'.2
          obtain ⟨k, k1, k2, k3, k4⟩ := c.owner h1 (Nat.zero_le m) g2 hlt
          exact h'.1 ⟨k, k2, hno k, k3, k4⟩
      have hk := c.keeps (i := 0) hlt (Nat.zero_le m) g2 fun k k1 k2 => c.keep (by omega) (g4 k k1 k2) (Nat.lt_of_lt_of_le hlt (c.mono k1 (by omega)).nx)
      rw [hk] at h'
      unfold Heap.get
      rw [if_neg]
      · exact h'.2
      · rw [Heap.hidden_eq (show (hs 0).hid = (hs m).hid by rw [c.hidc g2]), hh]
        simp
    refine ⟨by simp, fun i o _ hd => absurd hd (hno i), ha.tm.1, ha.de, fun t => ⟨0, Nat.zero_le _, fun k o _ _ => ⟨fun hd => absurd hd (hno k), fun h => by omega⟩, ha.tm.2 t⟩, ⟨m, ⟨g2, fun h => ⟨g3 h, hno m⟩, fun k hk h2 => absurd h2 (g4 k (Nat.zero_le _) hk)⟩, ?_⟩, fun k hk _ id h1 h2 => ?_, ?_⟩
    · refine HR.mkD c k.hid g2 (fun id ob h => k.obj id ob (hget id ob h)) (fun p q b d d' hp hq => ?_) (fun id h1 h2 => k.lt id (Nat.le_trans (c.mono (Nat.zero_le m) g2).nx h1) h2)
      obtain ⟨op, hop⟩ := Option.isSome_iff_exists.1 hp
      obtain ⟨oq, hoq⟩ := Option.isSome_iff_exists.1 hq
      exact k.inj p q b d d' (by rw [hget p op hop]; rfl) (by rw [hget q oq hoq]; rfl)
    · rw [c.n0 hk] at h1
      rw [c.n1 hk] at h2
      exact hE0 id (Nat.le_trans (c.mono (Nat.zero_le k) (Nat.le_of_lt hk)).nx h1) (Nat.lt_of_lt_of_le h2 (c.mono (show k + 1 ≤ ops.size from hk) (Nat.le_refl _)).nx)
    · exact ⟨E.le_refl, fun i b d h1 h2 => (by rw [h1] at h2; cases h2), Nat.le_refl _, fun _ _ _ => rfl, rfl, rfl, rfl⟩

/-- the calculator's way through a region that draws its order holds for each order -/
theorem DTr.sound {a a' : AAct} {h h' : Heap} (hst : staticOk ops = true) (hcl : ∀ i, h.next ≤ i → h.t.get i = none)
    (t : DTr P ops (masksOf ops.toList []).reverse (kindsOf ops (masksOf ops.toList []).reverse) ops.toList [] a h a' h') (hP : P.follows .mixedOrders = true) {top : Nat} {E : Env} {W : World} {A : Act} (k : HR top E h W) (htop : h'.next ≤ top) (ha : AR E a A) (rb : Option Nat) (n id : Nat) (v : AV) : (Code.region id ops true).wpIn (FF rb) n P (PC top E h W ⟨.normal, v, a', h'⟩) A W := by
  obtain ⟨as, hs, rc, vs, gs, e1, e2, e3, e4, e5⟩ := t.funs
  simp only [Array.length_toList] at e3 e4
  obtain ⟨s1, s2, s3⟩ := static_spec hst
  have c : DC P ops as hs rc vs gs (masksOf ops.toList []).reverse (kindsOf ops (masksOf ops.toList []).reverse) := ⟨s1, s2, s3, fun i o ho => kinds_spec ho, fun i o ho => (e5 i o (by simpa using ho)).1, fun i o ho => (e5 i o (by simpa using ho)).2.1, fun i o ho => (e5 i o (by simpa using ho)).2.2, by rw [e2]; exact hcl⟩
  subst e1 e2 e3 e4
  exact c.region hP k htop ha rb n id v
end
end Go.Proofs.Ytobehhcbnjgojaa.Ev
