/- Layer 2 over the calculator's memory: what is known, lists of ints, the small functions. -/
import Derived.Test.YtgjkfmcjalcefaaGreatProg
import Derived.Test.YtgjkfmcjalcefaaGreatEv6
import Derived.Test.YtgjkfmcjalcefaaGreatTp
import Derived.Test.YtgjkfmcjalcefaaGreatZp
namespace Go.Proofs.YtgjkfmcjalcefaaGreat
open Go.Proofs.YtgjkfmcjalcefaaGreat.Ev

/-- sanity() is known to say true; slices.Sort of ints is known, slices.SortFunc of sightings by their ID, and slices.Grow of no sightings and of no cycles -/
def Bs : Base := orB (sayB 6) (orB (inplB 48 sortX fun _ _ _ => .tup []) (orB (growB 115 6 87) (orB (inpzB 41 42 6 okR sortZ) (orB (nilB 48 none) (orB (nilB 41 (some 42)) (growB 139 4 55))))))
/-- ints in memory -/
def InH (h : Heap) (b off : Nat) (xs : List Int) : Prop := ∀ i (hi : i < xs.length), Rd h b (off + i * 1) (.int .i64 xs[i])
theorem InH.vw {h0 h : Heap} {V : Ob} {b off xs} (k : InH h0 b off xs) (hh : Vw h0 [] V h) : InH h b off xs := fun i hi => hh.rd (by simp) (k i hi)
theorem InH.at_ {h : Heap} {b off xs} (k : InH h b off xs) {z : Int} {n : Nat} (e : z.toNat = n) (hi : n < xs.length) : Rd h b (off + z.toNat * 1) (.int .i64 (nth xs n)) := by
  subst e
  rw [nth_eq hi]
  exact k _ hi
theorem InH.tak {h : Heap} {b off k : Nat} {xs : List Int} (q : InH h b off xs) : InH h b off (xs.take k) := fun i hi => by
  rw [List.getElem_take]
  exact q i (by rw [List.length_take] at hi; omega)
theorem InH.drp {h : Heap} {b off k : Nat} {xs : List Int} (q : InH h b off xs) : InH h b (off + k * 1) (xs.drop k) := fun i hi => by
  have hl : k + i < xs.length := by rw [List.length_drop] at hi; omega
  have := q (k + i) hl
  rw [List.getElem_drop]
  rw [show off + k * 1 + i * 1 = off + (k + i) * 1 by omega]
  exact this
theorem InH.loadN {h : Heap} {b off : Nat} {xs : List Int} (k : InH h b off xs) (hp : 0 < xs.length) : h.loadN b off (xs.length * 1) = some (xs.map (AV.int .i64)) := by
  rw [Nat.mul_one, ← List.length_map (f := AV.int .i64)]
  refine loadN_of (by rw [List.length_map]; exact hp) fun j hj => ?_
  rw [List.length_map] at hj
  have := (k j hj).2
  rw [Nat.mul_one] at this
  rw [List.getElem_map]
  exact this
theorem ints_ok (xs : List Int) : (xs.map (AV.int .i64)).all okCell = true := by
  induction xs with
  | nil => rfl
  | cons x l ih => simp [okCell, ih]
theorem Ev.Vw.ins {h0 h : Heap} {W : List Nat} {V : Ob} {j : Nat} {o : AObj} {xs : List Int} (k : Vw h0 W V h) (hm : (j, o) ∈ V) (hl : o.has (xs.map (AV.int .i64))) : InH h j 0 xs := fun i hi => by
  rw [Nat.zero_add, Nat.mul_one]
  exact k.rdL hm hl (by simp [hi])
/-- a slice of ints: of the arguments, or of a call's own -/
def ItV (h : Heap) (v : AV) (xs : List Int) : Prop := ((v = .slice0 ∨ v = .sliceZ) ∧ xs = []) ∨ ∃ b off c, v = .slice b off xs.length c ∧ InH h b off xs
theorem ItV.vw {h0 h : Heap} {V : Ob} {v xs} (k : ItV h0 v xs) (hh : Vw h0 [] V h) : ItV h v xs := by
  rcases k with k | ⟨b, off, c, rfl, k⟩
  · exact .inl k
  · exact .inr ⟨b, off, c, rfl, k.vw hh⟩
/-- how far a slice may be sliced: by its capacity, or as far as its own row goes -/
def CapQ (h : Heap) (b off : Nat) (c : ACap) (n : Nat) : Prop := (∃ m, c = .k m ∧ n ≤ m) ∨ (c = .m 0 ∧ off = 0 ∧ b < h.next ∧ knownN h b 1 = n)
theorem CapQ.vw {h0 h : Heap} {V : Ob} {b off c n} (k : CapQ h0 b off c n) (hh : Vw h0 [] V h) : CapQ h b off c n := by
  rcases k with k | ⟨h1, h2, h3, h4⟩
  · exact .inl k
  · have e := hh.old b h3 (by simp)
    exact .inr ⟨h1, h2, Nat.lt_of_lt_of_le h3 hh.nx, by unfold knownN at h4 ⊢; rw [e]; exact h4⟩
/-- one that may be sliced -/
def ItA (h : Heap) (v : AV) (xs : List Int) : Prop := ((v = .slice0 ∨ v = .sliceZ) ∧ xs = []) ∨ ∃ b off c, v = .slice b off xs.length c ∧ CapQ h b off c xs.length ∧ InH h b off xs
theorem ItA.vw {h0 h : Heap} {V : Ob} {v xs} (k : ItA h0 v xs) (hh : Vw h0 [] V h) : ItA h v xs := by
  rcases k with k | ⟨b, off, c, rfl, h1, k⟩
  · exact .inl k
  · exact .inr ⟨b, off, c, rfl, h1.vw hh, k.vw hh⟩
theorem ItA.itV {h : Heap} {v xs} (k : ItA h v xs) : ItV h v xs := by
  rcases k with k | ⟨b, off, c, rfl, _, k⟩
  · exact .inl k
  · exact .inr ⟨b, off, _, rfl, k⟩
theorem ItA.ne {h : Heap} {v xs} (k : ItA h v xs) (hn : 0 < xs.length) : ∃ b off c, v = .slice b off xs.length c ∧ CapQ h b off c xs.length ∧ InH h b off xs := by
  rcases k with ⟨_, rfl⟩ | k
  · simp at hn
  · exact k
theorem ItV.len {h : Heap} {v : AV} {xs : List Int} (k : ItV h v xs) : ∀ h2, lenA Tryz.prog 45 h2 v = some (.int .i64 (xs.length : Int)) := by
  intro h2
  unfold lenA
  rw [Tryz.underlying45]
  rcases k with ⟨rfl | rfl, rfl⟩ | ⟨b, off, c, rfl, _⟩ <;> rfl
theorem slI_to {h : Heap} {i off k n : Nat} {c : ACap} (q : CapQ h i off c n) (hk : k ≤ n) : evSlice Tryz.prog h 45 (.slice i off n c) none (some (.int .i64 k)) none = some (.slice i off k c) := by
  have e : sizeT Tryz.prog 3 = some 1 := by kernel_rfl
  rcases q with ⟨m, rfl, hm⟩ | ⟨rfl, rfl, _, hm⟩
  · unfold evSlice
    rw [if_neg (by simp), Tryz.underlying45]
    simp only [e, evSliceK, optB, boundIn, Option.bind_some]
    rw [if_pos (by omega)]
    simp
  · unfold evSlice
    rw [if_neg (by simp), Tryz.underlying45]
    simp only [e, evSliceM, optB, boundIn, hm]
    rw [if_pos (by omega)]
    simp
def slOff (off k m : Nat) : Nat := if m - k = 0 then off else off + k * 1
def fromV (b off : Nat) (c : ACap) (n k : Nat) : AV := match c with
  | .k m => .slice b (slOff off k m) (n - k) (.k (m - k))
  | .m d => if k = 0 ∨ k + d < n then .slice b (off + k * 1) (n - k) (.m (d + k)) else .sliceZ
theorem slI_from {h : Heap} {i off k n : Nat} {c : ACap} (q : CapQ h i off c n) (hk : k ≤ n) : evSlice Tryz.prog h 45 (.slice i off n c) (some (.int .i64 k)) none none = some (fromV i off c n k) := by
  have e : sizeT Tryz.prog 3 = some 1 := by kernel_rfl
  rcases q with ⟨m, rfl, hm⟩ | ⟨rfl, rfl, _, hm⟩
  · unfold fromV slOff
    simp only
    by_cases hc : m - k = 0
    · rw [if_pos hc]
      unfold evSlice
      rw [if_neg (by simp), Tryz.underlying45]
      simp only [e, evSliceK, optB, boundIn, Option.bind_some]
      rw [if_pos (by omega)]
      simp
      omega
    · rw [if_neg hc]
      unfold evSlice
      rw [if_neg (by simp), Tryz.underlying45]
      simp only [e, evSliceK, optB, boundIn, Option.bind_some]
      rw [if_pos (by omega)]
      simp
      omega
  · unfold fromV
    simp only
    unfold evSlice
    rw [if_neg (by simp), Tryz.underlying45]
    simp only [e, evSliceM, optB, boundIn, hm]
    rw [if_pos (by omega)]
    simp only [Int.toNat_natCast, Nat.mul_one]
    by_cases hc : k = 0 ∨ k + 0 < n
    · rw [if_pos hc, if_pos hc]
    · rw [if_neg hc, if_neg hc, if_pos (by omega)]
namespace Ev
variable {P : Program} {B : Base} {Q : Post} {h0 : Heap} {W : List Nat} {N : Nat} {D : List Nat} {K : List Fr} {s : Sl} {L : Ob} {T : Tg} {md : Bool} {ops : Array Oper} {d : Nat} {ty : TypeId} {pos : String} {af : Array Edge} {gd : Option (Nat × Bool)} {l : List Oper}
theorem St.sliceV {t : TypeId} {x : Operand} {lo hi mx : Option Operand} {v : AV} (he : ∀ h, Vw h0 W L h → evOp P h (evS s) ⟨some d, .slice t x lo hi mx, ty, pos, af, gd⟩ = some (.value v, h)) (k : WO P B Q h0 W N D K md ops l ((d, v) :: s) L T) (hw : wantS ops s N ⟨some d, .slice t x lo hi mx, ty, pos, af, gd⟩ = some true := by exact rfl) (hd : Nat.blt d N = true := by exact rfl) : WO P B Q h0 W N D K md ops (⟨some d, .slice t x lo hi mx, ty, pos, af, gd⟩ :: l) s L T :=
  WO.opE hw hd (fun _ h ha hh => ⟨h, ROp.value ha (he h hh) (Nat.le_refl _), hh.gd.ss⟩) k
theorem St.lenV {x : Operand} {t : TypeId} {n : Nat} {v : AV} (hx : evS s x = some v) (hl : ∀ h, lenA P t h v = some (.int .i64 (n : Int))) (k : WO P B Q h0 W N D K md ops l ((d, .int .i64 (n : Int)) :: s) L T) (hw : wantS ops s N ⟨some d, .call ⟨.builtin .len, #[x], #[t]⟩, ty, pos, af, gd⟩ = some true := by exact rfl) (hd : Nat.blt d N = true := by exact rfl) : WO P B Q h0 W N D K md ops (⟨some d, .call ⟨.builtin .len, #[x], #[t]⟩, ty, pos, af, gd⟩ :: l) s L T :=
  WO.pure hw hd (fun h => by unfold evOp; simp [oCall, mapO, hx, evBuiltin, hl h]) k
theorem Con.subR {f : Nat} {args : List AV} {h : Heap} {R : AV → Ob → Prop} (k : ∃ v L, Con P B f args h W v L ∧ ∃ L0 : Ob, L0.Sublist L ∧ R v L0) : ∃ v L, Con P B f args h W v L ∧ R v L := by
  obtain ⟨v, L, hc, L0, hs, hr⟩ := k
  exact ⟨v, L0, hc.sub hs, hr⟩
end Ev

set_option maxRecDepth 100000 in
theorem within_con (h : Heap) (g : Gd h) (x : Int) : Con Tryz.prog Bs 71 [.int .i64 x, .int .i64 4000] h [] (.bool (inB x 4000)) [] := by
  refine Con.start rfl Tryz.func71 rfl rfl Tryz.ntmps71 rfl rfl g ?_
  (refine WK.seq ?_; refine WK.region ?_; refine St.assign ?_; refine WO.nil ?_; refine WK.seq ?_; refine WK.region ?_; refine St.move ?_; refine St.unI ?_; refine St.move ?_; refine St.bin ?_; refine St.move ?_)
  refine St.split (fun hc => ?_) (fun hc => ?_)
  · (refine St.move ?_; refine St.move ?_; refine St.bin ?_; refine St.pickT ?_; refine St.assign ?_; refine WO.nil ?_)
    refine St.ret (by first | exact .tmp .nil | exact .cell .nil | exact .cell (.tmp .nil) | exact .tmp (.tmp .nil) | exact .cell (.cell .nil) | exact .tmp (.cell .nil) | exact .nil | exact .tmp (.cell (.tmp .nil)) | exact .cell (.tmp (.tmp .nil)) | exact .cell (.cell (.tmp .nil)) | exact .tmp (.tmp (.tmp .nil)) | exact .cell (.cell (.cell .nil))) ?_
    simp at hc
    simp [oneOf, inB, hc]
  · (refine St.skip ?_; refine St.skip ?_; refine St.skip ?_; refine St.pickF ?_; refine St.assign ?_; refine WO.nil ?_)
    refine St.ret (by first | exact .tmp .nil | exact .cell .nil | exact .cell (.tmp .nil) | exact .tmp (.tmp .nil) | exact .cell (.cell .nil) | exact .tmp (.cell .nil) | exact .nil | exact .tmp (.cell (.tmp .nil)) | exact .cell (.tmp (.tmp .nil)) | exact .cell (.cell (.tmp .nil)) | exact .tmp (.tmp (.tmp .nil)) | exact .cell (.cell (.cell .nil))) ?_
    simp at hc
    simp [oneOf, inB]
    omega
set_option maxRecDepth 100000 in
theorem isID_con (h : Heap) (g : Gd h) (x : Int) : Con Tryz.prog Bs 86 [.int .i64 x] h [] (.bool (decide (1 ≤ x) && decide (x ≤ 1099511627776))) [] := by
  refine Con.start rfl Tryz.func86 rfl rfl Tryz.ntmps86 rfl rfl g ?_
  (refine WK.seq ?_; refine WK.region ?_; refine St.assign ?_; refine WO.nil ?_; refine WK.seq ?_; refine WK.region ?_; refine St.move ?_; refine St.bin ?_; refine St.move ?_)
  refine St.split (fun hc => ?_) (fun hc => ?_)
  · (refine St.move ?_; refine St.bin ?_; refine St.pickT ?_; refine St.assign ?_; refine WO.nil ?_)
    refine St.ret (by first | exact .tmp .nil | exact .cell .nil | exact .cell (.tmp .nil) | exact .tmp (.tmp .nil) | exact .cell (.cell .nil) | exact .tmp (.cell .nil) | exact .nil | exact .tmp (.cell (.tmp .nil)) | exact .cell (.tmp (.tmp .nil)) | exact .cell (.cell (.tmp .nil)) | exact .tmp (.tmp (.tmp .nil)) | exact .cell (.cell (.cell .nil))) ?_
    simp at hc
    simp [oneOf, hc]
  · (refine St.skip ?_; refine St.skip ?_; refine St.pickF ?_; refine St.assign ?_; refine WO.nil ?_)
    refine St.ret (by first | exact .tmp .nil | exact .cell .nil | exact .cell (.tmp .nil) | exact .tmp (.tmp .nil) | exact .cell (.cell .nil) | exact .tmp (.cell .nil) | exact .nil | exact .tmp (.cell (.tmp .nil)) | exact .cell (.tmp (.tmp .nil)) | exact .cell (.cell (.tmp .nil)) | exact .tmp (.tmp (.tmp .nil)) | exact .cell (.cell (.cell .nil))) ?_
    simp at hc
    simp [oneOf]
    omega
set_option maxRecDepth 100000 in
theorem isMinute_con (h : Heap) (g : Gd h) (x : Int) : Con Tryz.prog Bs 54 [.int .i64 x] h [] (.bool (decide (0 ≤ x) && decide (x ≤ 1048576))) [] := by
  refine Con.start rfl Tryz.func54 rfl rfl Tryz.ntmps54 rfl rfl g ?_
  (refine WK.seq ?_; refine WK.region ?_; refine St.assign ?_; refine WO.nil ?_; refine WK.seq ?_; refine WK.region ?_; refine St.move ?_; refine St.bin ?_; refine St.move ?_)
  refine St.split (fun hc => ?_) (fun hc => ?_)
  · (refine St.move ?_; refine St.bin ?_; refine St.pickT ?_; refine St.assign ?_; refine WO.nil ?_)
    refine St.ret (by first | exact .tmp .nil | exact .cell .nil | exact .cell (.tmp .nil) | exact .tmp (.tmp .nil) | exact .cell (.cell .nil) | exact .tmp (.cell .nil) | exact .nil | exact .tmp (.cell (.tmp .nil)) | exact .cell (.tmp (.tmp .nil)) | exact .cell (.cell (.tmp .nil)) | exact .tmp (.tmp (.tmp .nil)) | exact .cell (.cell (.cell .nil))) ?_
    simp at hc
    simp [oneOf, hc]
  · (refine St.skip ?_; refine St.skip ?_; refine St.pickF ?_; refine St.assign ?_; refine WO.nil ?_)
    refine St.ret (by first | exact .tmp .nil | exact .cell .nil | exact .cell (.tmp .nil) | exact .tmp (.tmp .nil) | exact .cell (.cell .nil) | exact .tmp (.cell .nil) | exact .nil | exact .tmp (.cell (.tmp .nil)) | exact .cell (.tmp (.tmp .nil)) | exact .cell (.cell (.tmp .nil)) | exact .tmp (.tmp (.tmp .nil)) | exact .cell (.cell (.cell .nil))) ?_
    simp at hc
    simp [oneOf]
    omega
set_option maxRecDepth 100000 in
theorem rwithin_con (h : Heap) (g : Gd h) (x lo hi : Int) : Con Tryz.prog Bs 77 [.int .i64 x, .int .i64 lo, .int .i64 hi] h [] (.bool (decide (lo ≤ x) && decide (x ≤ hi))) [] := by
  refine Con.start rfl Tryz.func77 rfl rfl Tryz.ntmps77 rfl rfl g ?_
  (refine WK.seq ?_; refine WK.region ?_; refine St.assign ?_; refine WO.nil ?_; refine WK.seq ?_; refine WK.region ?_; refine St.move ?_; refine St.move ?_; refine St.bin ?_; refine St.move ?_)
  refine St.split (fun hc => ?_) (fun hc => ?_)
  · (refine St.move ?_; refine St.move ?_; refine St.bin ?_; refine St.pickT ?_; refine St.assign ?_; refine WO.nil ?_)
    refine St.ret (by first | exact .tmp .nil | exact .cell .nil | exact .cell (.tmp .nil) | exact .tmp (.tmp .nil) | exact .cell (.cell .nil) | exact .tmp (.cell .nil) | exact .nil | exact .tmp (.cell (.tmp .nil)) | exact .cell (.tmp (.tmp .nil)) | exact .cell (.cell (.tmp .nil)) | exact .tmp (.tmp (.tmp .nil)) | exact .cell (.cell (.cell .nil))) ?_
    simp at hc
    simp [oneOf, hc]
  · (refine St.skip ?_; refine St.skip ?_; refine St.skip ?_; refine St.pickF ?_; refine St.assign ?_; refine WO.nil ?_)
    refine St.ret (by first | exact .tmp .nil | exact .cell .nil | exact .cell (.tmp .nil) | exact .tmp (.tmp .nil) | exact .cell (.cell .nil) | exact .tmp (.cell .nil) | exact .nil | exact .tmp (.cell (.tmp .nil)) | exact .cell (.tmp (.tmp .nil)) | exact .cell (.cell (.tmp .nil)) | exact .tmp (.tmp (.tmp .nil)) | exact .cell (.cell (.cell .nil))) ?_
    simp at hc
    simp [oneOf]
    omega
end Go.Proofs.YtgjkfmcjalcefaaGreat
