/- Layer 8 over the calculator's memory: what is known. -/
import Derived.Test.YtkebbdpfjhhdhaaGreatDg
import Derived.Test.YtkebbdpfjhhdhaaGreatEvX
import Derived.Test.YtkebbdpfjhhdhaaGreatDc
/- Layer 8, plain: items in the order in which they came in. -/
namespace Go.Proofs.YtkebbdpfjhhdhaaGreat
open Go.Proofs.YtkebbdpfjhhdhaaGreat.Ev

def leJ (x y : Im) : Bool := decide (x.kn < y.kn) || (x.kn == y.kn && decide (x.id ≤ y.id))
theorem leJ_iff {x y : Im} : leJ x y = true ↔ x.kn < y.kn ∨ (x.kn = y.kn ∧ x.id ≤ y.id) := by
  unfold leJ
  simp
theorem leJ_trans (x y z : Im) (h1 : leJ x y = true) (h2 : leJ y z = true) : leJ x z = true := by
  rw [leJ_iff] at *
  omega
theorem leJ_total (x y : Im) : (leJ x y || leJ y x) = true := by
  rw [Bool.or_eq_true, leJ_iff, leJ_iff]
  omega
/-- items with the same day and number are the same -/
def OneJ (l : List Im) : Prop := ∀ x ∈ l, ∀ y ∈ l, x.kn = y.kn → x.id = y.id → x = y
theorem uniqJ {l m : List Im} (h1 : OneJ l) (hp : l.Perm m) (h2 : l.Pairwise (fun x y => leJ x y = true)) (h3 : m.Pairwise (fun x y => leJ x y = true)) : l = m := by
  refine List.Perm.eq_of_pairwise (le := fun a b => leJ a b = true) (fun a b ha hb k1 k2 => ?_) h2 h3 hp
  rw [leJ_iff] at k1 k2
  exact h1 a ha b (hp.symm.subset hb) (by omega) (by omega)
def srtJ (l : List Im) : List Im := l.mergeSort leJ
theorem srtJ_perm (l : List Im) : (srtJ l).Perm l := List.mergeSort_perm l leJ
theorem srtJ_pw (l : List Im) : (srtJ l).Pairwise fun x y => leJ x y = true := List.pairwise_mergeSort leJ_trans leJ_total l
theorem srtJ_len (l : List Im) : (srtJ l).length = l.length := (srtJ_perm l).length_eq
/-! flat -/
def fdJ (x : Im) : List Int := [x.id, x.kn, x.kd, x.dy, x.bl, x.ac, x.am]
def flJ (ps : List Im) : List Int := ps.flatMap fdJ
def unJ : List Int → List Im
  | a :: b :: c :: d :: e :: f :: g :: l => ⟨a, b, c, d, e, f, g⟩ :: unJ l
  | _ => []
theorem flJ_cons (p : Im) (ps : List Im) : flJ (p :: ps) = p.id :: p.kn :: p.kd :: p.dy :: p.bl :: p.ac :: p.am :: flJ ps := by simp [flJ, fdJ]
theorem unJ_fl : ∀ ps : List Im, unJ (flJ ps) = ps
  | [] => rfl
  | p :: ps => by rw [flJ_cons]; simp only [unJ]; rw [unJ_fl ps]
theorem flJ_len (ps : List Im) : (flJ ps).length = ps.length * 7 := by
  induction ps with
  | nil => rfl
  | cons p ps ih => rw [flJ_cons]; simp [ih]; omega
theorem flJ_un : ∀ {zs : List Int}, (unJ zs).length * 7 = zs.length → flJ (unJ zs) = zs
  | [], _ => rfl
  | [_], h | [_, _], h | [_, _, _], h | [_, _, _, _], h | [_, _, _, _, _], h | [_, _, _, _, _, _], h => by simp [unJ] at h
  | a :: b :: c :: d :: e :: f :: g :: l, h => by
    simp only [unJ]
    rw [flJ_cons, flJ_un (by simp only [unJ, List.length_cons] at h; omega)]
def oneB : List Im → Bool
  | [] => true
  | x :: l => l.all (fun y => !(decide (x.kn = y.kn) && decide (x.id = y.id)) || decide (x = y)) && oneB l
theorem oneB_one : ∀ {l : List Im}, oneB l = true → OneJ l
  | [], _ => fun _ h => nomatch h
  | x :: l, h => by
    simp only [oneB, Bool.and_eq_true, List.all_eq_true] at h
    have ih := oneB_one h.2
    have hx : ∀ y ∈ l, x.kn = y.kn → x.id = y.id → x = y := fun y hy e1 e2 => by
      have := h.1 y hy
      simp [e1, e2] at this
      exact this
    intro a ha b hb e1 e2
    rcases List.mem_cons.1 ha with ea | ka <;> rcases List.mem_cons.1 hb with eb | kb
    · rw [ea, eb]
    · rw [ea] at e1 e2 ⊢
      exact hx b kb e1 e2
    · rw [eb] at e1 e2 ⊢
      exact (hx a ka e1.symm e2.symm).symm
    · exact ih a ka b kb e1 e2
theorem one_oneB : ∀ {l : List Im}, OneJ l → oneB l = true
  | [], _ => rfl
  | x :: l, h => by
    simp only [oneB, Bool.and_eq_true, List.all_eq_true]
    refine ⟨fun y hy => ?_, one_oneB fun a ha b hb => h a (List.mem_cons_of_mem _ ha) b (List.mem_cons_of_mem _ hb)⟩
    by_cases e1 : x.kn = y.kn
    · by_cases e2 : x.id = y.id
      · simp [h x (List.mem_cons_self ..) y (List.mem_cons_of_mem _ hy) e1 e2]
      · simp [e2]
    · simp [e1]
def okJ (zs : List Int) : Bool := Nat.beq ((unJ zs).length * 7) zs.length && oneB (unJ zs)
theorem okJ_fl {ps : List Im} (h : OneJ ps) : okJ (flJ ps) = true := by
  unfold okJ
  rw [unJ_fl, flJ_len, one_oneB h]
  simp
def srtF (zs : List Int) : List Int := if okJ zs = true then flJ (srtJ (unJ zs)) else zs
theorem srtF_fl {ps : List Im} (h : OneJ ps) : srtF (flJ ps) = flJ (srtJ ps) := by
  unfold srtF
  rw [if_pos (okJ_fl h), unJ_fl]
theorem okJ_un {zs : List Int} (h : okJ zs = true) : flJ (unJ zs) = zs ∧ OneJ (unJ zs) := by
  unfold okJ at h
  rw [Bool.and_eq_true] at h
  exact ⟨flJ_un (Nat.eq_of_beq_eq_true h.1), oneB_one h.2⟩
theorem srtF_len (zs : List Int) : (srtF zs).length = zs.length := by
  unfold srtF
  split
  · rename_i h
    have := (okJ_un h).1
    rw [flJ_len, srtJ_len, ← flJ_len, this]
  · rfl
theorem enF_flJ (l : List Im) : enF imC l = (flJ l).map (AV.int .i64) := by
  induction l with
  | nil => rfl
  | cons x l ih => rw [flJ_cons]; simp only [enF, List.map_cons, List.flatten_cons] at *; rw [ih]; rfl
theorem flat_get {α β : Type} {z : Nat} (hz : 0 < z) (f : α → List β) (hf : ∀ x, (f x).length = z) : ∀ (l : List α) (t : Nat), (l.flatMap f)[t]? = (l[t / z]?).bind fun x => (f x)[t % z]?
  | [], t => by simp
  | x :: l, t => by
    rw [List.flatMap_cons]
    by_cases h : t < z
    · rw [List.getElem?_append_left (by rw [hf]; exact h), Nat.div_eq_of_lt h, Nat.mod_eq_of_lt h]
      rfl
    · obtain ⟨u, rfl⟩ : ∃ u, t = z + u := ⟨t - z, by omega⟩
      rw [List.getElem?_append_right (by rw [hf]; omega), hf, Nat.add_sub_cancel_left, flat_get hz f hf l u, Nat.add_div_left _ hz, Nat.add_mod_left]
      rfl
end Go.Proofs.YtkebbdpfjhhdhaaGreat

/- Layer 8 over the calculator's memory: what is known. -/
namespace Go.Proofs.YtkebbdpfjhhdhaaGreat
open Go.Proofs.YtkebbdpfjhhdhaaGreat.Ev

/-- sorting items -/
def SortJ : Base := inpzB 117 118 7 okJ srtF
/-- a slice of no elements -/
def zeroS : AV → Bool
  | .slice0 => true
  | .sliceZ => true
  | .slice _ _ 0 _ => true
  | .sliceE _ _ _ => true
  | _ => false
theorem zeroS_eq {E : Env} : ∀ {x : AV} {X : Value}, zeroS x = true → VR E x X → ∃ p cap, X = .slice p 0 cap
  | .slice0, _, _, h => by simp only [VR] at h; exact ⟨none, 0, h⟩
  | .sliceZ, _, _, h => by simp only [VR] at h; obtain ⟨A, c, rfl⟩ := h; exact ⟨_, _, rfl⟩
  | .slice _ _ 0 _, _, _, h => by simp only [VR] at h; obtain ⟨b, c, _, rfl⟩ := h; exact ⟨_, _, rfl⟩
  | .sliceE _ _ _, _, _, h => by simp only [VR] at h; obtain ⟨b, c, _, o, _, rfl⟩ := h; exact ⟨_, _, rfl⟩
/-- sorting nothing -/
def empA (f g0 : Nat) : Nat → List AV → Heap → Option (AV × Heap) := fun q args h => bif Nat.beq q f then (match args with
  | [x, .fn (.func g1) [] []] => if g1 = g0 ∧ zeroS x = true then some (.tup [], h) else none
  | _ => none) else none
theorem empA_eq {f g0 q : Nat} {args : List AV} {h h' : Heap} {v : AV} (k : empA f g0 q args h = some (v, h')) : q = f ∧ (∃ x, zeroS x = true ∧ args = [x, .fn (.func g0) [] []]) ∧ v = .tup [] ∧ h' = h := by
  unfold empA at k
  cases hg : Nat.beq q f with
  | false => rw [hg] at k; cases k
  | true =>
  rw [hg] at k
  have hg := Nat.eq_of_beq_eq_true hg
  simp only [cond_true] at k
  split at k
  · split at k
    · rename_i hc
      cases k
      obtain ⟨rfl, hz⟩ := hc
      exact ⟨hg, ⟨_, hz, rfl⟩, rfl, rfl⟩
    · cases k
  · cases k
def empB (f g0 : Nat) : Base := ⟨empA f g0, fun k => by obtain ⟨_, _, _, rfl⟩ := empA_eq k; exact Abs.refl _⟩
theorem empB_sound {P : Program} {f g0 : Nat} {fn : Func} (hf : enters P f = some fn) (hh : ∀ (p : Option Addr) (cap : Nat) (w : World), Calls P f #[.slice p 0 cap, .func (.func g0) #[] #[]] w fun e w' => e = .returned (.tuple #[]) ∧ w' = w) : SoundC P (empB f g0) := by
  intro g args h v h' e top E W Args k ht hv
  obtain ⟨rfl, ⟨x, hz, rfl⟩, rfl, rfl⟩ := empA_eq e
  simp only [VRs] at hv
  obtain ⟨X, _, rfl, hx, _, _, rfl, hfn, rfl⟩ := hv
  simp only [VR, VRs] at hfn
  obtain ⟨fn', As, Cs, rfl, rfl, rfl, rfl⟩ := hfn
  obtain ⟨p, cap, rfl⟩ := zeroS_eq hz hx
  refine ⟨fun args w => (enter_run hf args w).1, fun n => ?_⟩
  refine (callsIn_wide.2 (hh p cap W)).mono ?_
  rintro e w' ⟨rfl, rfl⟩
  exact ⟨_, E, rfl, Ext.refl _ _ _, k, by simp [VR, VRs]⟩
/-- sorting no numbers -/
def zerA (f : Nat) : Nat → List AV → Heap → Option (AV × Heap) := fun q args h => bif Nat.beq q f then (match args with
  | [x] => if zeroS x = true then some (.tup [], h) else none
  | _ => none) else none
theorem zerA_eq {f q : Nat} {args : List AV} {h h' : Heap} {v : AV} (k : zerA f q args h = some (v, h')) : q = f ∧ (∃ x, zeroS x = true ∧ args = [x]) ∧ v = .tup [] ∧ h' = h := by
  unfold zerA at k
  cases hg : Nat.beq q f with
  | false => rw [hg] at k; cases k
  | true =>
  rw [hg] at k
  have hg := Nat.eq_of_beq_eq_true hg
  simp only [cond_true] at k
  split at k
  · split at k
    · rename_i hz
      cases k
      exact ⟨hg, ⟨_, hz, rfl⟩, rfl, rfl⟩
    · cases k
  · cases k
def zerB (f : Nat) : Base := ⟨zerA f, fun k => by obtain ⟨_, _, _, rfl⟩ := zerA_eq k; exact Abs.refl _⟩
theorem zerB_sound {P : Program} {f : Nat} {fn : Func} (hf : enters P f = some fn) (hh : ∀ (p : Option Addr) (cap : Nat) (w : World), Calls P f #[.slice p 0 cap] w fun e w' => e = .returned (.tuple #[]) ∧ w' = w) : SoundC P (zerB f) := by
  intro g args h v h' e top E W Args k ht hv
  obtain ⟨rfl, ⟨x, hz, rfl⟩, rfl, rfl⟩ := zerA_eq e
  simp only [VRs] at hv
  obtain ⟨X, _, rfl, hx, rfl⟩ := hv
  obtain ⟨p, cap, rfl⟩ := zeroS_eq hz hx
  refine ⟨fun args w => (enter_run hf args w).1, fun n => ?_⟩
  refine (callsIn_wide.2 (hh p cap W)).mono ?_
  rintro e w' ⟨rfl, rfl⟩
  exact ⟨_, E, rfl, Ext.refl _ _ _, k, by simp [VR, VRs]⟩
def NilJ : Base := empB 117 118
def sortX (l : List Int) : List Int := l.mergeSort fun x y => decide (x ≤ y)
theorem sortX_len (l : List Int) : (sortX l).length = l.length := List.length_mergeSort ..
/-- sanity() is known to say true, sorting items is known -/
def Bs : Base := orB (sayB 18) (orB KeyB (orB (inplB 104 sortX fun _ _ _ => .tup []) (orB (zerB 104) (orB (growB 122 7 114) (orB SortJ NilJ)))))
theorem sanity_con (h : Heap) (g : Gd h) : Con Tryz.prog Bs 18 [] h [] (.bool true) [] := Con.base rfl g
theorem Bs_sort (i n : Nat) (h : Heap) (hn : 0 < n) : Bs.ans 117 [.slice i 0 n (.m 0), .fn (.func 118) [] []] h = inpzA 117 118 7 okJ srtF 117 [.slice i 0 n (.m 0), .fn (.func 118) [] []] h := (orB_right rfl).trans ((orB_right rfl).trans ((orB_right rfl).trans ((orB_right rfl).trans ((orB_right rfl).trans (orB_left (by cases n with
  | zero => omega
  | succ n => rfl))))))
theorem sortJ_con {h : Heap} {j : Nat} {l : List Im} (k0 : SS h [j] [(j, .row (enF imC l) 114 7)] h) (h1 : OneJ l) (hn0 : 0 < l.length) (hb : l.length < 500000) :
    Con Tryz.prog Bs 117 [.slice j 0 l.length (.m 0), .fn (.func 118) [] []] h [j] (.tup []) [(j, .row (enF imC (srtJ l)) 114 7)] := by
  have := Con.inpz (P := Tryz.prog) (B := Bs) (e := 114) (zs := flJ l) (Bs_sort j l.length h hn0) (by rw [← enF_flJ]; exact k0) (by rw [flJ_len]) hb hn0 (okJ_fl h1)
  rw [srtF_fl h1, ← enF_flJ] at this
  exact this
/-- sorting a list of no elements -/
theorem sortE_con {h : Heap} (g : Gd h) {x : AV} (hz : zeroS x = true) : Con Tryz.prog Bs 117 [x, .fn (.func 118) [] []] h [] (.tup []) [] := by
  refine ⟨h, ⟨noA, fun a => ⟨1, ?_⟩⟩, SS.init g⟩
  have hans : Bs.ans 117 [x, .fn (.func 118) [] []] h = some (.tup [], h) := by
    refine (orB_right rfl).trans ((orB_right rfl).trans ((orB_right rfl).trans ((orB_right rfl).trans ((orB_right rfl).trans ((orB_right ?_).trans ?_)))))
    · show inpzA 117 118 7 okJ srtF 117 [x, .fn (.func 118) [] []] h = none
      cases hq : inpzA 117 118 7 okJ srtF 117 [x, .fn (.func 118) [] []] h with
      | none => rfl
      | some r =>
        obtain ⟨v, h'⟩ := r
        obtain ⟨i, n, t, zs, e1, _, _, _, _, hn0, _⟩ := inpzA_eq hq
        simp only [List.cons.injEq] at e1
        rw [e1.1] at hz
        cases n with
        | zero => omega
        | succ n => cases hz
    · show empA 117 118 117 [x, .fn (.func 118) [] []] h = _
      unfold empA
      rw [show Nat.beq 117 117 = true from rfl]
      simp only [cond_true]
      simp [hz]
  show orR (asR Bs) _ _ _ _ = _
  unfold orR
  rw [show asR Bs (.call 117 [x, .fn (.func 118) [] []]) a h = some ⟨.normal, .tup [], noA, h⟩ from by unfold asR; simp only [hans, Option.map_some]]
end Go.Proofs.YtkebbdpfjhhdhaaGreat
