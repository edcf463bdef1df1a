/- What is known of the calls of layer 1's laws, as answers; and that they are right. -/
import Derived.Test.YtcmjmdjhpmlomaaSpec
namespace Go.Proofs.Ytcmjmdjhpmlomaa
open Go.Proofs.Ytcmjmdjhpmlomaa.Ev

def v1 (f : Nat) (ks : List (Int × Int)) (err : Int) : Option AV :=
  if f = 26 then some (.int .i64 (chk ks err)) else
  if f = 27 then some (.int .i64 (chk ks err)) else
  if f = 20 then some (avF (domainR ks err)) else
  if f = 21 then some (avF (domainR ks err)) else none
def v2 (f : Nat) (ks : List (Int × Int)) (err x : Int) : Option AV :=
  if f = 22 then some (avF (valueR ks err x)) else
  if f = 23 then some (avF (valueR ks err x)) else
  if f = 24 then some (avR (valuesR ks err x)) else
  if f = 25 then some (avR (valuesR ks err x)) else none
/-- the calls of which it is known -/
def isS (f : Nat) : Bool := [26, 27, 20, 21, 22, 23, 24, 25].any (Nat.beq f)
def S0 (f : Nat) (args : List AV) (h : Heap) : Option AV :=
  match args with
  | [.agg [kv, .int .i64 err]] => (knOf h kv).bind fun ks => if ks.length ≤ 60 then v1 f ks err else none
  | [.agg [kv, .int .i64 err], .int .i64 x] => (knOf h kv).bind fun ks => if ks.length ≤ 60 then v2 f ks err x else none
  | _ => none
def S1 (f : Nat) (args : List AV) (h : Heap) : Option AV := bif isS f then S0 f args h else none
theorem S1_eq {f : Nat} {args : List AV} {h : Heap} {v : AV} (e : S1 f args h = some v) : S0 f args h = some v := by
  unfold S1 at e
  cases hf : isS f with
  | true => rw [hf] at e; exact e
  | false => rw [hf] at e; cases e
def B1 : Base := orB Bs (specB S1)

theorem s1_con {f : Nat} {a : AV} {l : List AV} {h : Heap} {v : AV} (hS : S1 f (a :: l) h = some v) (g : Gd h) : Con Try.prog B1 f (a :: l) h [] v [] := by
  refine Con.base ?_ g
  show orA Bs (specB S1) f (a :: l) h = _
  unfold orA
  rw [show Bs.ans f (a :: l) h = none from rfl]
  exact specB_eq hS
theorem avF_vr {E : Env} (r : FE) : VR E (avF r) r.val := by
  unfold avF FE.val
  simp only [VR, VRs]
  exact ⟨_, rfl, _, _, rfl, ⟨_, rfl, _, _, rfl, rfl, _, _, rfl, rfl, rfl⟩, _, _, rfl, rfl, rfl⟩
theorem avR_vr {E : Env} (r : RE) : VR E (avR r) r.val := by
  unfold avR RE.val
  simp only [VR, VRs]
  exact ⟨_, rfl, _, _, rfl, ⟨_, rfl, _, _, rfl, rfl, _, _, rfl, rfl, _, _, rfl, rfl, _, _, rfl, rfl, rfl⟩, _, _, rfl, rfl, rfl⟩
theorem said {f : Nat} {Args : Array Value} {W : World} {V : Value} {E : Env} {v : AV} (hc : Calls Try.prog f Args W fun e w' => e = .returned V ∧ RowKit.Below W.heap.size W w') (hv : VR E v V) :
    Calls Try.prog f Args W fun e w' => ∃ V, e = .returned V ∧ VR E v V ∧ RowKit.Below W.heap.size W w' := by
  refine hc.mono ?_
  rintro e w' ⟨rfl, hb⟩
  exact ⟨V, rfl, hv, hb⟩

set_option maxRecDepth 100000 in
theorem S1_sound : SoundC Try.prog (specB S1) := by
  refine specB_sound ?_ ?_
  · intro f args h v e
    replace e := S1_eq e
    unfold S0 at e
    split at e
    · simp only [Option.bind_eq_some_iff] at e
      obtain ⟨ks, _, e⟩ := e
      split at e
      · unfold v1 at e
        repeat' (split at e)
        all_goals first
          | (cases e; done)
          | (rename_i hf; subst hf; first | exact ⟨_, Ev.enters_of Try.func26 rfl rfl⟩ | exact ⟨_, Ev.enters_of Try.func27 rfl rfl⟩ | exact ⟨_, Ev.enters_of Try.func20 rfl rfl⟩ | exact ⟨_, Ev.enters_of Try.func21 rfl rfl⟩)
      · cases e
    · simp only [Option.bind_eq_some_iff] at e
      obtain ⟨ks, _, e⟩ := e
      split at e
      · unfold v2 at e
        repeat' (split at e)
        all_goals first
          | (cases e; done)
          | (rename_i hf; subst hf; first | exact ⟨_, Ev.enters_of Try.func22 rfl rfl⟩ | exact ⟨_, Ev.enters_of Try.func23 rfl rfl⟩ | exact ⟨_, Ev.enters_of Try.func24 rfl rfl⟩ | exact ⟨_, Ev.enters_of Try.func25 rfl rfl⟩)
      · cases e
    · cases e
  · intro f args h v e top E W Args k hv
    replace e := S1_eq e
    unfold S0 at e
    split at e
    · simp only [Option.bind_eq_some_iff] at e
      obtain ⟨ks, hkn, e⟩ := e
      simp only [VRs, VR] at hv
      obtain ⟨_, _, rfl, ⟨_, rfl, U, _, rfl, hU, _, _, rfl, rfl, rfl⟩, rfl⟩ := hv
      obtain ⟨A, c, rfl, hk, hA⟩ := kn_conc k hkn hU
      split at e
      · rename_i hn
        have hn : ks.length ≤ 1000000000000 := by omega
        unfold v1 at e
        split at e
        · rename_i hf; cases e; subst hf; exact said (check_any W A c ks _ hn hk) vr_int
        split at e
        · rename_i hf; cases e; subst hf; exact said (rcheck_any W A c ks _ hn hA hk) vr_int
        split at e
        · rename_i hf; cases e; subst hf; exact said (Domain_any W A c ks _ hn hk) (avF_vr _)
        split at e
        · rename_i hf; cases e; subst hf; exact said (rDomain_any W A c ks _ hn hA hk) (avF_vr _)
        cases e
      · cases e
    · simp only [Option.bind_eq_some_iff] at e
      obtain ⟨ks, hkn, e⟩ := e
      simp only [VRs, VR] at hv
      obtain ⟨_, _, rfl, ⟨_, rfl, U, _, rfl, hU, _, _, rfl, rfl, rfl⟩, _, _, rfl, rfl, rfl⟩ := hv
      obtain ⟨A, c, rfl, hk, hA⟩ := kn_conc k hkn hU
      split at e
      · rename_i hn
        have hn : ks.length ≤ 1000000000000 := by omega
        unfold v2 at e
        split at e
        · rename_i hf; cases e; subst hf; exact said (Value_any W A c ks _ _ hn hk) (avF_vr _)
        split at e
        · rename_i hf; cases e; subst hf; exact said (rValue_any W A c ks _ _ hn hA hk) (avF_vr _)
        split at e
        · rename_i hf; cases e; subst hf; exact said (Values_any W A c ks _ _ hn hk) (avR_vr _)
        split at e
        · rename_i hf; cases e; subst hf; exact said (rValues_any W A c ks _ _ hn hA hk) (avR_vr _)
        cases e
      · cases e
    · cases e
theorem B1_sound : SoundC Try.prog B1 := Bs_sound.or S1_sound
end Go.Proofs.Ytcmjmdjhpmlomaa
