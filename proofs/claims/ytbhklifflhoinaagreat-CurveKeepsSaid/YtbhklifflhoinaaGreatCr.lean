/- The reference's contracts over the calculator's memory: Check, domain, in, there, divisor, Low, At, plus. -/
import Derived.Test.YtbhklifflhoinaaGreatProg
import Derived.Test.YtbhklifflhoinaaGreatEvO
import Derived.Test.YtbhklifflhoinaaGreatPl
import Derived.Shelf.SlSortCmp.WholeK
namespace Go.Proofs.YtbhklifflhoinaaGreat
open Go.Proofs.YtbhklifflhoinaaGreat.Ev

/-- what is left of a list when neighbours that are equal come to one, with zeros behind it -/
def cmpF (zs : List Int) : List Int := uniq zs ++ List.replicate (zs.length - (uniq zs).length) 0
def flI (ps : List (Int × Int)) : List Int := ps.flatMap fun p => [p.1, p.2]
def unI : List Int → List (Int × Int)
  | a :: b :: l => (a, b) :: unI l
  | _ => []
/-- pairs by their first numbers, as slices.SortFunc leaves them -/
def sortP (ps : List (Int × Int)) : List (Int × Int) := (Go.Sort.pdq (fun x y : Int × Int => decide (Lib.compareInt x.1 y.1 < 0)) ps.toArray 0 ps.length (Lib.bitLen ps.length) true true).toList
def sortI (zs : List Int) : List Int := if zs.length % 2 = 0 then flI (sortP (unI zs)) else zs
/-- head() is known to say true; slices.Sort and slices.Compact of ints are known, and slices.SortFunc of knots by their X -/
def Bs : Base := orB (sayB 6) (orB (inplB 95 sortX fun _ _ _ => .tup []) (orB (inplB 96 cmpF fun i zs c => .slice i 0 (uniq zs).length c) (inpfB 39 40 sortI)))

/-- knots in memory -/
def KnH (h : Heap) (b off : Nat) (ks : List (Int × Int)) : Prop := ∀ i (hi : i < ks.length), Rds h b (off + i * 2) [.int .i64 ks[i].1, .int .i64 ks[i].2]
theorem KnH.vw {h0 h : Heap} {V : Ob} {b off ks} (k : KnH h0 b off ks) (hh : Vw h0 [] V h) : KnH h b off ks := fun i hi => hh.rds (by simp) (k i hi)
theorem KnH.knot {h : Heap} {b off ks} (k : KnH h b off ks) {i : Nat} (hi : i < ks.length) : Rds h b (off + i * 2) [.int .i64 (kx ks i), .int .i64 (ky ks i)] := by rw [kx_eq hi, ky_eq hi]; exact k i hi
theorem KnH.x {h : Heap} {b off ks} (k : KnH h b off ks) {i : Nat} (hi : i < ks.length) : Rd h b (off + i * 2) (.int .i64 (kx ks i)) := (k.knot hi).1
theorem KnH.y {h : Heap} {b off ks} (k : KnH h b off ks) {i : Nat} (hi : i < ks.length) : Rd h b (off + i * 2 + 1) (.int .i64 (ky ks i)) := (k.knot hi).2.1
theorem KnH.at_ {h : Heap} {b off ks} (k : KnH h b off ks) {z : Int} {n : Nat} (e : z.toNat = n) (hi : n < ks.length) : Rds h b (off + z.toNat * 2) [.int .i64 (kx ks n), .int .i64 (ky ks n)] := by subst e; exact k.knot hi
theorem KnH.xAt {h : Heap} {b off ks} (k : KnH h b off ks) {z : Int} {n : Nat} (e : z.toNat = n) (hi : n < ks.length) : Rd h b (off + z.toNat * 2) (.int .i64 (kx ks n)) := by subst e; exact k.x hi
theorem KnH.yAt {h : Heap} {b off ks} (k : KnH h b off ks) {z : Int} {n : Nat} (e : z.toNat = n) (hi : n < ks.length) : Rd h b (off + z.toNat * 2 + 1) (.int .i64 (ky ks n)) := by subst e; exact k.y hi
/-- is there a row of cells? -/
def rowAt (h : Heap) (b : Nat) : Bool := match h.get b with
  | some (.cells _ _) => true
  | some (.row _ _ _) => true
  | some (.view _) => true
  | _ => false
/-- a slice of knots -/
def KnV (h : Heap) (kv : AV) (ks : List (Int × Int)) : Prop := ((kv = .slice0 ∨ kv = .sliceZ) ∧ ks = []) ∨ ∃ b off c, kv = .slice b off ks.length c ∧ KnH h b off ks ∧ b < h.next ∧ rowAt h b = true
theorem KnV.vw {h0 h : Heap} {V : Ob} {kv ks} (k : KnV h0 kv ks) (hh : Vw h0 [] V h) : KnV h kv ks := by
  rcases k with ⟨h1, h2⟩ | ⟨b, off, c, h1, h2, h3, h4⟩
  · exact .inl ⟨h1, h2⟩
  · exact .inr ⟨b, off, c, h1, h2.vw hh, Nat.lt_of_lt_of_le h3 hh.nx, by unfold rowAt; rw [hh.old b h3 (by simp)]; exact h4⟩
theorem KnV.ne {h : Heap} {kv ks} (k : KnV h kv ks) (hne : ks ≠ []) : ∃ b off c, kv = .slice b off ks.length c ∧ KnH h b off ks := by
  rcases k with ⟨_, h2⟩ | ⟨b, off, c, h1, h2, _⟩
  · exact absurd h2 hne
  · exact ⟨b, off, c, h1, h2⟩

set_option maxRecDepth 100000 in
set_option maxHeartbeats 4000000 in
theorem rcheck_con (h : Heap) (g : Gd h) (kv : AV) (ks : List (Int × Int)) (err : Int) (hk : KnV h kv ks) (hl : ks.length ≤ 1000000000000) : Con Tryz.prog Bs 43 [.agg [kv, .int .i64 err]] h [] (.int .i64 (chk ks err)) [] := by
  rcases hk with ⟨rfl | rfl, rfl⟩ | ⟨i, off, c, rfl, hk, _⟩
  · refine Con.start rfl Tryz.func43 rfl rfl Tryz.ntmps43 rfl rfl g ?_
    (refine WK.seq ?_; refine WK.region ?_; refine St.box fun _ _ => ?_; refine St.assign ?_; refine WO.nil ?_; refine WK.seq ?_; refine WK.seq ?_; refine WK.region ?_; refine St.fieldAddr ?_; refine St.load ?_; refine St.len0 ?_; refine St.bin ?_; refine WO.nil ?_; refine WK.condF ?_; refine WK.skip ?_; refine WK.seq ?_; refine WK.seq ?_; refine WK.region ?_; refine St.fieldAddr ?_; refine St.load ?_; refine St.len0 ?_; refine St.bin ?_; refine St.move ?_; refine St.skip ?_; refine St.skip ?_; refine St.skip ?_; refine St.pickT ?_; refine St.move ?_; refine St.skip ?_; refine St.skip ?_; refine St.skip ?_; refine St.pickT ?_; refine WO.nil ?_; refine WK.condT ?_; refine WK.seq ?_; refine WK.region ?_; refine St.assign ?_; refine WO.nil ?_)
    refine St.ret (by first | exact .tmp .nil | exact .cell .nil | exact .cell (.tmp .nil) | exact .tmp (.tmp .nil) | exact .cell (.cell .nil) | exact .tmp (.cell .nil) | exact .nil | exact .tmp (.cell (.tmp .nil)) | exact .cell (.tmp (.tmp .nil)) | exact .cell (.cell (.tmp .nil)) | exact .tmp (.tmp (.tmp .nil)) | exact .cell (.cell (.cell .nil))) ?_
    rfl
  · refine Con.start rfl Tryz.func43 rfl rfl Tryz.ntmps43 rfl rfl g ?_
    (refine WK.seq ?_; refine WK.region ?_; refine St.box fun _ _ => ?_; refine St.assign ?_; refine WO.nil ?_; refine WK.seq ?_; refine WK.seq ?_; refine WK.region ?_; refine St.fieldAddr ?_; refine St.load ?_; refine St.lenZ ?_; refine St.bin ?_; refine WO.nil ?_; refine WK.condF ?_; refine WK.skip ?_; refine WK.seq ?_; refine WK.seq ?_; refine WK.region ?_; refine St.fieldAddr ?_; refine St.load ?_; refine St.lenZ ?_; refine St.bin ?_; refine St.move ?_; refine St.skip ?_; refine St.skip ?_; refine St.skip ?_; refine St.pickT ?_; refine St.move ?_; refine St.skip ?_; refine St.skip ?_; refine St.skip ?_; refine St.pickT ?_; refine WO.nil ?_; refine WK.condT ?_; refine WK.seq ?_; refine WK.region ?_; refine St.assign ?_; refine WO.nil ?_)
    refine St.ret (by first | exact .tmp .nil | exact .cell .nil | exact .cell (.tmp .nil) | exact .tmp (.tmp .nil) | exact .cell (.cell .nil) | exact .tmp (.cell .nil) | exact .nil | exact .tmp (.cell (.tmp .nil)) | exact .cell (.tmp (.tmp .nil)) | exact .cell (.cell (.tmp .nil)) | exact .tmp (.tmp (.tmp .nil)) | exact .cell (.cell (.cell .nil))) ?_
    rfl
  refine Con.start rfl Tryz.func43 rfl rfl Tryz.ntmps43 rfl rfl g ?_
  (refine WK.seq ?_; refine WK.region ?_; refine St.box fun _ _ => ?_; refine St.assign ?_; refine WO.nil ?_; refine WK.seq ?_; refine WK.seq ?_; refine WK.region ?_; refine St.fieldAddr ?_; refine St.load ?_; refine St.len ?_; refine St.bin ?_; refine WO.nil ?_)
  refine St.splitC (fun hc => ?_) (fun hc => ?_)
  · (refine WK.seq ?_; refine WK.region ?_; refine St.assign ?_; refine WO.nil ?_)
    refine St.ret (by first | exact .tmp .nil | exact .cell .nil | exact .cell (.tmp .nil) | exact .tmp (.tmp .nil) | exact .cell (.cell .nil) | exact .tmp (.cell .nil) | exact .nil | exact .tmp (.cell (.tmp .nil)) | exact .cell (.tmp (.tmp .nil)) | exact .cell (.cell (.tmp .nil)) | exact .tmp (.tmp (.tmp .nil)) | exact .cell (.cell (.cell .nil))) ?_
    simp at hc
    simp [oneOf, chk]; omega
  (refine WK.skip ?_; refine WK.seq ?_; refine WK.seq ?_; refine WK.region ?_; refine St.fieldAddr ?_; refine St.load ?_; refine St.len ?_; refine St.bin ?_; refine St.move ?_)
  refine St.split (fun hc1 => ?_) (fun hc1 => ?_)
  · (refine St.skip ?_; refine St.skip ?_; refine St.skip ?_; refine St.pickT ?_; refine St.move ?_; refine St.skip ?_; refine St.skip ?_; refine St.skip ?_; refine St.pickT ?_; refine WO.nil ?_; refine WK.condT ?_; refine WK.seq ?_; refine WK.region ?_; refine St.assign ?_; refine WO.nil ?_)
    refine St.ret (by first | exact .tmp .nil | exact .cell .nil | exact .cell (.tmp .nil) | exact .tmp (.tmp .nil) | exact .cell (.cell .nil) | exact .tmp (.cell .nil) | exact .nil | exact .tmp (.cell (.tmp .nil)) | exact .cell (.tmp (.tmp .nil)) | exact .cell (.cell (.tmp .nil)) | exact .tmp (.tmp (.tmp .nil)) | exact .cell (.cell (.cell .nil))) ?_
    simp at hc hc1
    simp [oneOf, chk, hc1]
  (refine St.fieldAddr ?_; refine St.load ?_; refine St.bin ?_; refine St.pickF ?_; refine St.move ?_)
  refine St.split (fun hc2 => ?_) (fun hc2 => ?_)
  · (refine St.skip ?_; refine St.skip ?_; refine St.skip ?_; refine St.pickT ?_; refine WO.nil ?_; refine WK.condT ?_; refine WK.seq ?_; refine WK.region ?_; refine St.assign ?_; refine WO.nil ?_)
    refine St.ret (by first | exact .tmp .nil | exact .cell .nil | exact .cell (.tmp .nil) | exact .tmp (.tmp .nil) | exact .cell (.cell .nil) | exact .tmp (.cell .nil) | exact .nil | exact .tmp (.cell (.tmp .nil)) | exact .cell (.tmp (.tmp .nil)) | exact .cell (.cell (.tmp .nil)) | exact .tmp (.tmp (.tmp .nil)) | exact .cell (.cell (.cell .nil))) ?_
    simp at hc hc1 hc2
    simp [oneOf, chk, hc2]; omega
  (refine St.fieldAddr ?_; refine St.load ?_; refine St.bin ?_; refine St.pickF ?_; refine WO.nil ?_)
  refine St.splitC (fun hc3 => ?_) (fun hc3 => ?_)
  · (refine WK.seq ?_; refine WK.region ?_; refine St.assign ?_; refine WO.nil ?_)
    refine St.ret (by first | exact .tmp .nil | exact .cell .nil | exact .cell (.tmp .nil) | exact .tmp (.tmp .nil) | exact .cell (.cell .nil) | exact .tmp (.cell .nil) | exact .nil | exact .tmp (.cell (.tmp .nil)) | exact .cell (.tmp (.tmp .nil)) | exact .cell (.cell (.tmp .nil)) | exact .tmp (.tmp (.tmp .nil)) | exact .cell (.cell (.cell .nil))) ?_
    simp at hc hc1 hc2 hc3
    simp [oneOf, chk, hc3]; omega
  (refine WK.skip ?_; refine WK.seq ?_; refine WK.seq ?_; refine WK.region ?_; refine St.assign ?_; refine WO.nil ?_; refine WK.block ?_)
  rename_i j hj
  have hch : ks.length ≤ 40 ∧ ks ≠ [] ∧ 0 ≤ err ∧ err ≤ 4000 := by
    simp at hc hc1 hc2 hc3
    exact ⟨by omega, hc1, by omega, by omega⟩
  have e1 : chk ks err = if okFrom (-1) ks then 0 else 1 := by
    have : ks.length ≠ 0 := by simp [hch.2.1]
    unfold chk
    rw [if_neg (by omega), if_neg (by omega)]
  clear hc hc1 hc2 hc3
  refine WK.inv (ι := Nat) (fun k => [(1, .ptr j 0), (3, .int .i64 k)]) (fun _ => [(j, .cells [.slice i off ks.length c, .int .i64 err] 24)])
    (fun k => k ≤ ks.length ∧ okFrom (-1) ks = okFrom (before ks k) (ks.drop k) ∧ -1 ≤ before ks k) (fun k => ks.length - k) 0 ⟨by omega, rfl, by simp [before]⟩ ⟨rfl, rfl, trivial⟩ (by (repeat (first | exact List.Sublist.refl _ | exact List.nil_sublist _ | apply List.Sublist.cons_cons | apply List.Sublist.cons))) ?_
  intro k ⟨hkl, hok, hb0⟩ ih
  (refine WK.seq ?_; refine WK.seq ?_; refine WK.region ?_; refine St.move ?_; refine St.fieldAddr ?_; refine St.load ?_; refine St.len ?_; refine St.bin ?_; refine WO.nil ?_)
  refine St.splitC (fun hc4 => ?_) (fun hc4 => ?_)
  · have hlt : k < ks.length := by simp at hc4; omega
    have hs := okFrom_step hlt
    have hb1 : before ks (k + 1) = ks[k].1 := by simp [before, hlt]
    have bad : (ks[k].1 < 0 ∨ 2000 < ks[k].1 ∨ ks[k].2 < -65536 ∨ 65536 < ks[k].2 ∨ ks[k].1 ≤ before ks k) → AV.int .i64 1 = .int .i64 (chk ks err) := fun hh => by
      rw [e1, hok, hs, if_neg]
      simp [inB]
      omega
    (refine WK.skip ?_; refine WK.seq ?_; refine WK.block ?_; refine WK.seq ?_; refine WK.region ?_; refine St.fieldAddr ?_; refine St.load ?_; refine St.move ?_)
    refine St.at ?_
    refine St.loadX (fun h hh => (hk.vw hh k hlt).agg (by simp) rfl rfl rfl) ?_
    (refine St.alloc fun _ _ => ?_; refine St.store0 ?_; refine WO.nil ?_; refine WK.seq ?_; refine WK.regionD ?_; refine St.fieldAddr ?_; refine St.load ?_; refine St.bin ?_; refine St.move ?_)
    refine St.split (fun hc5 => ?_) (fun hc5 => ?_)
    · (refine St.skip ?_; refine St.skip ?_; refine St.skip ?_; refine St.pickT ?_; refine St.move ?_; refine St.skip ?_; refine St.skip ?_; refine St.skip ?_; refine St.pickT ?_; refine St.move ?_; refine St.skip ?_; refine St.skip ?_; refine St.skip ?_; refine St.pickT ?_; refine St.move ?_; refine St.skip ?_; refine St.skip ?_; refine St.skip ?_; refine St.skip ?_; refine St.skip ?_; refine St.skip ?_; refine St.skip ?_; refine St.skip ?_; refine St.skip ?_; refine St.skip ?_; refine St.skip ?_; refine St.skip ?_; refine St.skip ?_; refine St.skip ?_; refine St.pickT ?_; refine WO.nil ?_; refine WK.condT ?_; refine WK.seq ?_; refine WK.region ?_; refine St.assign ?_; refine WO.nil ?_)
      refine St.ret (by first | exact .tmp .nil | exact .cell .nil | exact .cell (.tmp .nil) | exact .tmp (.tmp .nil) | exact .cell (.cell .nil) | exact .tmp (.cell .nil) | exact .nil | exact .tmp (.cell (.tmp .nil)) | exact .cell (.tmp (.tmp .nil)) | exact .cell (.cell (.tmp .nil)) | exact .tmp (.tmp (.tmp .nil)) | exact .cell (.cell (.cell .nil))) ?_
      exact bad (by simp at hc5; omega)
    (refine St.fieldAddr ?_; refine St.load ?_; refine St.bin ?_; refine St.pickF ?_; refine St.move ?_)
    refine St.split (fun hc6 => ?_) (fun hc6 => ?_)
    · (refine St.skip ?_; refine St.skip ?_; refine St.skip ?_; refine St.pickT ?_; refine St.move ?_; refine St.skip ?_; refine St.skip ?_; refine St.skip ?_; refine St.pickT ?_; refine St.move ?_; refine St.skip ?_; refine St.skip ?_; refine St.skip ?_; refine St.skip ?_; refine St.skip ?_; refine St.skip ?_; refine St.skip ?_; refine St.skip ?_; refine St.skip ?_; refine St.skip ?_; refine St.skip ?_; refine St.skip ?_; refine St.skip ?_; refine St.skip ?_; refine St.pickT ?_; refine WO.nil ?_; refine WK.condT ?_; refine WK.seq ?_; refine WK.region ?_; refine St.assign ?_; refine WO.nil ?_)
      refine St.ret (by first | exact .tmp .nil | exact .cell .nil | exact .cell (.tmp .nil) | exact .tmp (.tmp .nil) | exact .cell (.cell .nil) | exact .tmp (.cell .nil) | exact .nil | exact .tmp (.cell (.tmp .nil)) | exact .cell (.tmp (.tmp .nil)) | exact .cell (.cell (.tmp .nil)) | exact .tmp (.tmp (.tmp .nil)) | exact .cell (.cell (.cell .nil))) ?_
      exact bad (by simp at hc6; omega)
    (refine St.fieldAddr ?_; refine St.load ?_; refine St.bin ?_; refine St.pickF ?_; refine St.move ?_)
    refine St.split (fun hc7 => ?_) (fun hc7 => ?_)
    · (refine St.skip ?_; refine St.skip ?_; refine St.skip ?_; refine St.pickT ?_; refine St.move ?_; refine St.skip ?_; refine St.skip ?_; refine St.skip ?_; refine St.skip ?_; refine St.skip ?_; refine St.skip ?_; refine St.skip ?_; refine St.skip ?_; refine St.skip ?_; refine St.skip ?_; refine St.skip ?_; refine St.skip ?_; refine St.skip ?_; refine St.skip ?_; refine St.pickT ?_; refine WO.nil ?_; refine WK.condT ?_; refine WK.seq ?_; refine WK.region ?_; refine St.assign ?_; refine WO.nil ?_)
      refine St.ret (by first | exact .tmp .nil | exact .cell .nil | exact .cell (.tmp .nil) | exact .tmp (.tmp .nil) | exact .cell (.cell .nil) | exact .tmp (.cell .nil) | exact .nil | exact .tmp (.cell (.tmp .nil)) | exact .cell (.tmp (.tmp .nil)) | exact .cell (.cell (.tmp .nil)) | exact .tmp (.tmp (.tmp .nil)) | exact .cell (.cell (.cell .nil))) ?_
      exact bad (by simp at hc7; omega)
    (refine St.fieldAddr ?_; refine St.load ?_; refine St.bin ?_; refine St.pickF ?_; refine St.move ?_)
    refine St.split (fun hc8 => ?_) (fun hc8 => ?_)
    · (refine St.skip ?_; refine St.skip ?_; refine St.skip ?_; refine St.skip ?_; refine St.skip ?_; refine St.skip ?_; refine St.skip ?_; refine St.skip ?_; refine St.skip ?_; refine St.skip ?_; refine St.skip ?_; refine St.skip ?_; refine St.skip ?_; refine St.skip ?_; refine St.pickT ?_; refine WO.nil ?_; refine WK.condT ?_; refine WK.seq ?_; refine WK.region ?_; refine St.assign ?_; refine WO.nil ?_)
      refine St.ret (by first | exact .tmp .nil | exact .cell .nil | exact .cell (.tmp .nil) | exact .tmp (.tmp .nil) | exact .cell (.cell .nil) | exact .tmp (.cell .nil) | exact .nil | exact .tmp (.cell (.tmp .nil)) | exact .cell (.tmp (.tmp .nil)) | exact .cell (.cell (.tmp .nil)) | exact .tmp (.tmp (.tmp .nil)) | exact .cell (.cell (.cell .nil))) ?_
      exact bad (by simp at hc8; omega)
    (refine St.move ?_; refine St.bin ?_; refine St.move ?_)
    have step : ¬ ks[k].1 ≤ before ks k → okFrom (-1) ks = okFrom (before ks (k + 1)) (ks.drop (k + 1)) := fun hn => by
      simp at hc5 hc6 hc7 hc8
      rw [hok, hs]
      simp [inB]
      omega
    refine St.split (fun hc9 => ?_) (fun hc9 => ?_)
    · have hk0 : 0 < k := by simp at hc9; omega
      have hb2 : before ks k = kx ks (k - 1) := by
        rw [kx_eq (by omega)]
        unfold before
        rw [if_neg (by omega), List.getElem?_eq_getElem (by omega)]
        rfl
      (refine St.fieldAddr ?_; refine St.load ?_; refine St.fieldAddr ?_; refine St.load ?_; refine St.move ?_; refine St.binI ?_)
      refine St.at ?_
      (refine St.fieldAddr ?_)
      refine St.loadX (fun h hh => ((hk.vw hh).xAt (z := (k : Int) - 1) (n := k - 1) (by omega) (by omega)).one rfl) ?_
      (refine St.bin ?_; refine St.pickT ?_; refine St.pickF ?_; refine WO.nil ?_)
      refine St.splitC (fun hc10 => ?_) (fun hc10 => ?_)
      · (refine WK.seq ?_; refine WK.region ?_; refine St.assign ?_; refine WO.nil ?_)
        refine St.ret (by first | exact .tmp .nil | exact .cell .nil | exact .cell (.tmp .nil) | exact .tmp (.tmp .nil) | exact .cell (.cell .nil) | exact .tmp (.cell .nil) | exact .nil | exact .tmp (.cell (.tmp .nil)) | exact .cell (.tmp (.tmp .nil)) | exact .cell (.cell (.tmp .nil)) | exact .tmp (.tmp (.tmp .nil)) | exact .cell (.cell (.cell .nil))) ?_
        exact bad (by simp at hc10; omega)
      (refine WK.skip ?_; refine WK.blk ?_; refine WK.region ?_; refine St.move ?_; refine St.binI ?_; refine St.assign ?_; refine WO.nil ?_)
      refine WK.le ?_ (by (repeat (first | exact List.Sublist.refl _ | exact List.nil_sublist _ | apply List.Sublist.cons_cons | apply List.Sublist.cons))) (ih (k + 1) ⟨hlt, step (by simp at hc10; omega), ?_⟩ (by omega))
      · exact ⟨rfl, rfl, trivial⟩
      · rw [hb1]; simp at hc5; omega
    · have hk0 : k = 0 := by simp at hc9; omega
      (refine St.skip ?_; refine St.skip ?_; refine St.skip ?_; refine St.skip ?_; refine St.skip ?_; refine St.skip ?_; refine St.skip ?_; refine St.skip ?_; refine St.skip ?_; refine St.skip ?_; refine St.pickF ?_; refine St.pickF ?_; refine WO.nil ?_; refine WK.condF ?_; refine WK.skip ?_; refine WK.blk ?_; refine WK.region ?_; refine St.move ?_; refine St.binI ?_; refine St.assign ?_; refine WO.nil ?_)
      refine WK.le ?_ (by (repeat (first | exact List.Sublist.refl _ | exact List.nil_sublist _ | apply List.Sublist.cons_cons | apply List.Sublist.cons))) (ih (k + 1) ⟨hlt, step ?_, ?_⟩ (by omega))
      · exact ⟨rfl, rfl, trivial⟩
      · subst hk0; simp [before]; simp at hc5; omega
      · rw [hb1]; simp at hc5; omega
  · (refine WK.exit ?_; refine WK.seq ?_; refine WK.region ?_; refine St.assign ?_; refine WO.nil ?_)
    refine St.ret (by first | exact .tmp .nil | exact .cell .nil | exact .cell (.tmp .nil) | exact .tmp (.tmp .nil) | exact .cell (.cell .nil) | exact .tmp (.cell .nil) | exact .nil | exact .tmp (.cell (.tmp .nil)) | exact .cell (.tmp (.tmp .nil)) | exact .cell (.cell (.tmp .nil)) | exact .tmp (.tmp (.tmp .nil)) | exact .cell (.cell (.cell .nil))) ?_
    have : k = ks.length := by simp at hc4; omega
    subst this
    simp [oneOf, e1, hok, okFrom]

theorem dLo_get {ks : List (Int × Int)} : kx ks 0 = dLo ks := rfl
set_option maxRecDepth 100000 in
set_option maxHeartbeats 4000000 in
theorem rdomain_con (h : Heap) (g : Gd h) (b off : Nat) (c : ACap) (ks : List (Int × Int)) (err : Int) (hk : KnH h b off ks) (hne : ks ≠ []) (hl : ks.length ≤ 1000000000000) : Con Tryz.prog Bs 89 [.agg [.slice b off ks.length c, .int .i64 err]] h [] (.agg [.int .i64 (dLo ks), .int .i64 (dHi ks)]) [] := by
  have hp : 0 < ks.length := List.length_pos_iff.2 hne
  refine Con.start rfl Tryz.func89 rfl rfl Tryz.ntmps89 rfl rfl g ?_
  (refine WK.seq ?_; refine WK.region ?_; refine St.box fun _ _ => ?_; refine St.alloc fun _ _ => ?_; refine WO.nil ?_; refine WK.seq ?_; refine WK.regionD ?_; refine St.fieldAddr ?_; refine St.load ?_)
  refine St.at ?_
  (refine St.fieldAddr ?_)
  refine St.loadX (fun h hh => ((hk.vw hh).xAt (n := 0) rfl hp).one rfl) ?_
  (refine St.fieldAddr ?_; refine St.load ?_; refine St.fieldAddr ?_; refine St.load ?_; refine St.len ?_; refine St.binI ?_)
  refine St.at ?_
  (refine St.fieldAddr ?_)
  refine St.loadX (fun h hh => ((hk.vw hh).xAt (z := (ks.length : Int) - 1) (n := ks.length - 1) (by omega) (by omega)).one rfl) ?_
  (refine St.build ?_; refine StD.store0 ?_; refine WO.nil ?_)
  refine St.ret (by first | exact .tmp .nil | exact .cell .nil | exact .cell (.tmp .nil) | exact .tmp (.tmp .nil) | exact .cell (.cell .nil) | exact .tmp (.cell .nil) | exact .nil | exact .tmp (.cell (.tmp .nil)) | exact .cell (.tmp (.tmp .nil)) | exact .cell (.cell (.tmp .nil)) | exact .tmp (.tmp (.tmp .nil)) | exact .cell (.cell (.cell .nil))) ?_
  rfl

set_option maxRecDepth 100000 in
set_option maxHeartbeats 4000000 in
theorem rin_con (h : Heap) (g : Gd h) (n lo hi : Int) : Con Tryz.prog Bs 51 [.int .i64 n, .agg [.int .i64 lo, .int .i64 hi]] h [] (.bool (decide (lo ≤ n) && decide (n ≤ hi))) [] := by
  refine Con.start rfl Tryz.func51 rfl rfl Tryz.ntmps51 rfl rfl g ?_
  (refine WK.seq ?_; refine WK.region ?_; refine St.box fun _ _ => ?_; refine St.assign ?_; refine WO.nil ?_; refine WK.seq ?_; refine WK.region ?_; refine St.move ?_; refine St.fieldAddr ?_; refine St.load ?_; refine St.bin ?_; refine St.move ?_)
  refine St.split (fun hc => ?_) (fun hc => ?_)
  · (refine St.move ?_; refine St.fieldAddr ?_; refine St.load ?_; refine St.bin ?_; refine St.pickT ?_; refine St.assign ?_; refine WO.nil ?_)
    refine St.ret (by first | exact .tmp .nil | exact .cell .nil | exact .cell (.tmp .nil) | exact .tmp (.tmp .nil) | exact .cell (.cell .nil) | exact .tmp (.cell .nil) | exact .nil | exact .tmp (.cell (.tmp .nil)) | exact .cell (.tmp (.tmp .nil)) | exact .cell (.cell (.tmp .nil)) | exact .tmp (.tmp (.tmp .nil)) | exact .cell (.cell (.cell .nil))) ?_
    simp at hc
    simp [oneOf, hc]
  · (refine St.skip ?_; refine St.skip ?_; refine St.skip ?_; refine St.skip ?_; refine St.pickF ?_; refine St.assign ?_; refine WO.nil ?_)
    refine St.ret (by first | exact .tmp .nil | exact .cell .nil | exact .cell (.tmp .nil) | exact .tmp (.tmp .nil) | exact .cell (.cell .nil) | exact .tmp (.cell .nil) | exact .nil | exact .tmp (.cell (.tmp .nil)) | exact .cell (.tmp (.tmp .nil)) | exact .cell (.cell (.tmp .nil)) | exact .tmp (.tmp (.tmp .nil)) | exact .cell (.cell (.cell .nil))) ?_
    simp at hc
    simp [oneOf]; omega

def thereR (ks : List (Int × Int)) (err x : Int) : Int := if chk ks err = 0 then (if inDom ks x x = true then 0 else 3) else chk ks err

end Go.Proofs.YtbhklifflhoinaaGreat
