/- Plain facts: cuts that are found from left to right are no more than any cuts that prove the same. No walk. -/
import Derived.Test.YtekpffjcffeanaaWp
import Derived.Test.YtekpffjcffeanaaWd
import Derived.Test.YtekpffjcffeanaaWe
import Derived.Test.YtekpffjcffeanaaWj
import Derived.Test.YtekpffjcffeanaaWg
namespace Go.Proofs.Ytekpffjcffeanaa

/-- no addend is greater -/
inductive PLe : List Int → List Int → Prop
  | nil : PLe [] []
  | cons {a b : Int} {x y : List Int} : a ≤ b → PLe x y → PLe (a :: x) (b :: y)
theorem PLe.refl : ∀ x : List Int, PLe x x
  | [] => .nil
  | _ :: x => .cons (Int.le_refl _) (PLe.refl x)
theorem PLe.sum {x y : List Int} (h : PLe x y) : ∀ c d : Int, c ≤ d → x.foldl (· + ·) c ≤ y.foldl (· + ·) d := by
  induction h with
  | nil => intro c d h; exact h
  | cons h _ ih => intro c d hc; exact ih _ _ (by simp only; omega)
/-- the least of each two addends -/
def lowR (x y : List Int) : List Int := List.zipWith min x y
theorem lowR_len {x y : List Int} {n : Nat} (h1 : x.length = n) (h2 : y.length = n) : (lowR x y).length = n := by
  unfold lowR
  rw [List.length_zipWith]
  omega
theorem lowR_right : ∀ {x y : List Int}, x.length = y.length → PLe (lowR x y) y
  | [], [], _ => .nil
  | a :: x, b :: y, h => .cons (by omega) (lowR_right (x := x) (y := y) (by simpa using h))
  | [], _ :: _, h => by simp at h
  | _ :: _, [], h => by simp at h
theorem lowR_self : ∀ x : List Int, lowR x x = x
  | [] => rfl
  | a :: x => by
    show min a a :: lowR x x = _
    rw [lowR_self x]
    congr 1
    omega
section
variable (a : Nat → List Int) (lv H lo : Int)
def sumL (x : List Int) : Int := x.foldl (· + ·) 0
/-- what has been found after k minutes: the cuts, and the least addends since the last; nothing once a minute is too low -/
def grd : Nat → Option (List Int × List Int)
  | 0 => some ([], [])
  | k + 1 => (grd k).bind fun g => if H ≤ lv + sumL (if k = 0 then a k else lowR g.2 (a k)) then some (g.1, if k = 0 then a k else lowR g.2 (a k)) else if H ≤ lv + sumL (a k) then some (g.1 ++ [lo + (k : Int)], a k) else none
/-- what a look at cuts has come to after k minutes -/
def prv (C : List Int) : Nat → Option (List Int)
  | 0 => some []
  | k + 1 => (prv C k).bind fun p => if lv + sumL (lowR (if lo + (k : Int) ∈ C ∨ k = 0 then a k else p) (a k)) < H then none else some (lowR (if lo + (k : Int) ∈ C ∨ k = 0 then a k else p) (a k))
/-- how many cuts lie up to the minute before -/
def cntC (C : List Int) (k : Nat) : Nat := (C.filter fun c => decide (c < lo + (k : Int))).length
/-- cuts: one behind the other, behind the first minute -/
def ascC : Int → List Int → Prop
  | _, [] => True
  | b, c :: r => b < c ∧ ascC c r
theorem ascC_lt : ∀ {b : Int} {C : List Int}, ascC b C → ∀ c ∈ C, b < c
  | _, _ :: r, h, c, hc => by
    rcases List.mem_cons.1 hc with rfl | hc
    · exact h.1
    · have := ascC_lt h.2 c hc
      have := h.1
      omega
theorem ascC_nodup : ∀ {b : Int} {C : List Int}, ascC b C → C.Nodup
  | _, [], _ => List.nodup_nil
  | _, c :: r, h => List.nodup_cons.2 ⟨fun hm => by have := ascC_lt h.2 c hm; omega, ascC_nodup h.2⟩
theorem ascC_snoc : ∀ {b : Int} {C : List Int} {x : Int}, ascC b C → b < x → (∀ c ∈ C, c < x) → ascC b (C ++ [x])
  | _, [], _, _, h, _ => ⟨h, trivial⟩
  | _, c :: r, x, h, _, hx => ⟨h.1, ascC_snoc h.2 (hx c (by simp)) fun d hd => hx d (by simp [hd])⟩
theorem cntC_succ {C : List Int} (hn : C.Nodup) (k : Nat) : cntC lo C (k + 1) = cntC lo C k + if lo + (k : Int) ∈ C then 1 else 0 := by
  unfold cntC
  induction C with
  | nil => simp
  | cons c r ih =>
    obtain ⟨h1, h2⟩ := List.nodup_cons.1 hn
    have ih := ih h2
    by_cases e : c = lo + (k : Int)
    · subst e
      rw [if_neg h1] at ih
      simp only [List.filter_cons, List.mem_cons, true_or, if_true]
      rw [if_pos (by simp; omega), if_neg (by simp)]
      simp only [List.length_cons]
      omega
    · have e2 : (lo + (k : Int) ∈ c :: r) ↔ lo + (k : Int) ∈ r := by
        rw [List.mem_cons]
        exact ⟨fun h => h.resolve_left (fun q => e q.symm), .inr⟩
      by_cases q : c < lo + (k : Int)
      · simp only [List.filter_cons, e2]
        rw [if_pos (by simp; omega), if_pos (by simpa using q)]
        simp only [List.length_cons]
        split at ih <;> simp_all <;> omega
      · simp only [List.filter_cons, e2]
        rw [if_neg (by simp; omega), if_neg (by simpa using q)]
        exact ih
theorem cntC_le (C : List Int) (k : Nat) : cntC lo C k ≤ C.length := List.length_filter_le _ _
/-- what is found proves what it was found for -/
theorem grd_prv {n : Nat} (ha : ∀ k, (a k).length = n) : ∀ {k : Nat} {g q : List Int}, grd a lv H lo k = some (g, q) → ascC lo g ∧ (∀ c ∈ g, c < lo + (k : Int)) ∧ (0 < k → q.length = n) ∧ ∀ r, (∀ c ∈ r, lo + (k : Int) ≤ c) → prv a lv H lo (g ++ r) k = some q
  | 0, g, q, h => by
    cases h
    exact ⟨trivial, fun c hc => (by cases hc), fun h => (by cases h), fun r _ => rfl⟩
  | k + 1, g, q, h => by
    unfold grd at h
    simp only [Option.bind_eq_some_iff] at h
    obtain ⟨⟨g0, q0⟩, h0, h1⟩ := h
    obtain ⟨i1, i2, i3, i4⟩ := grd_prv ha h0
    simp only at h1
    by_cases c1 : H ≤ lv + sumL (if k = 0 then a k else lowR q0 (a k))
    · rw [if_pos c1] at h1
      simp only [Option.some.injEq, Prod.mk.injEq] at h1
      obtain ⟨e1, e2⟩ := h1
      subst e1 e2
      refine ⟨i1, fun c hc => by have := i2 c hc; omega, fun _ => ?_, fun r hr => ?_⟩
      · split
        · exact ha k
        · exact lowR_len (i3 (by omega)) (ha k)
      · unfold prv
        rw [i4 r fun c hc => by have := hr c hc; omega]
        have hm : lo + (k : Int) ∉ g0 ++ r := fun hm => by
          rcases List.mem_append.1 hm with hm | hm
          · have := i2 _ hm; omega
          · have := hr _ hm; omega
        simp only [Option.bind_some, hm, false_or]
        by_cases k0 : k = 0
        · simp only [if_pos k0] at c1 ⊢
          rw [lowR_self, if_neg (by omega)]
        · simp only [if_neg k0] at c1 ⊢
          rw [if_neg (by omega)]
    · rw [if_neg c1] at h1
      split at h1
      · rename_i hak
        simp only [Option.some.injEq, Prod.mk.injEq] at h1
        obtain ⟨e1, e2⟩ := h1
        subst e1 e2
        have k0 : k ≠ 0 := fun e => c1 (by rw [if_pos e]; exact hak)
        refine ⟨ascC_snoc i1 (by omega) i2, fun c hc => ?_, fun _ => ha k, fun r hr => ?_⟩
        · rcases List.mem_append.1 hc with hc | hc
          · have := i2 c hc; omega
          · rw [List.mem_singleton.1 hc]; omega
        · unfold prv
          rw [List.append_assoc, i4 ([lo + (k : Int)] ++ r) fun c hc => by
            rcases List.mem_append.1 hc with hc | hc
            · rw [List.mem_singleton.1 hc]; omega
            · have := hr c hc; omega]
          simp only [Option.bind_some]
          have hm : lo + (k : Int) ∈ g0 ++ ([lo + (k : Int)] ++ r) ∨ k = 0 := .inl (by simp)
          rw [if_pos hm, lowR_self, if_neg (by omega)]
      · cases h1
end
end Go.Proofs.Ytekpffjcffeanaa

/- The least of two addends; cuts that lie right. -/
namespace Go.Proofs.Ytekpffjcffeanaa
open Go.Proofs.Ytekpffjcffeanaa.Ev

theorem low_set {x y : List Int} {n k : Nat} (hx : x.length = n) (hy : y.length = n) (hk : k < n) : ((lowR x y).take k ++ x.drop k).set k (min (nth x k) (nth y k)) = (lowR x y).take (k + 1) ++ x.drop (k + 1) := by
  have hl := lowR_len hx hy
  have e1 : ((lowR x y).take k).length = k := by rw [List.length_take]; omega
  rw [List.set_append_right _ _ (by omega), e1, Nat.sub_self, List.drop_eq_getElem_cons (show k < x.length by omega), List.set_cons_zero, List.take_succ_eq_append_getElem (show k < (lowR x y).length by omega), List.append_assoc]
  congr 1
  simp only [List.singleton_append]
  congr 1
  unfold lowR
  rw [List.getElem_zipWith, nth_eq (by omega), nth_eq (by omega)]
set_option maxRecDepth 100000 in
set_option maxHeartbeats 8000000 in
theorem lower_con (h : Heap) (g : Gd h) (x y : List Int) (hx : x.length = 7) (hy : y.length = 7) :
    Con Try.prog Bs 113 [.agg (x.map (AV.int .i64)), .agg (y.map (AV.int .i64))] h [] (.agg ((lowR x y).map (AV.int .i64))) [] := by
  have hl := lowR_len hx hy
  refine Con.start rfl Try.func113 rfl rfl Try.ntmps113 rfl rfl g ?_
  (refine WK.seq ?_; refine WK.region ?_; refine St.box fun _ _ => ?_; refine St.box fun _ _ => ?_; refine St.alloc fun _ _ => ?_; refine WO.nil ?_; refine WK.seq ?_; refine WK.seq ?_; refine WK.region ?_; refine St.move ?_; refine WO.nil ?_; refine WK.block ?_)
  rename_i p2 hp2 p3 hp3 p4 hp4
  refine WK.inv (ι := Nat) (fun k => [(2, .ptr p2 0), (3, .ptr p3 0), (4, .ptr p4 0), (6, .int .i64 k)]) (fun k => [(p4, .cells [.int .i64 0, .int .i64 0, .int .i64 0, .int .i64 0, .int .i64 0, .int .i64 0, .int .i64 0] 148), (p3, .cells (y.map (AV.int .i64)) 148), (p2, .cells (((lowR x y).take k ++ x.drop k).map (AV.int .i64)) 148)]) (fun k => k ≤ 7) (fun k => 7 - k) 0 (by omega) ⟨rfl, rfl, rfl, rfl, trivial⟩ (by (repeat (first | exact List.Sublist.refl _ | exact List.nil_sublist _ | apply List.Sublist.cons_cons | apply List.Sublist.cons))) ?_
  intro k hk ih
  have hlk : ((lowR x y).take k ++ x.drop k).length = 7 := by rw [List.length_append, List.length_take, List.length_drop]; omega
  (refine WK.seq ?_; refine WK.region ?_; refine St.bin ?_; refine WO.nil ?_; refine WK.seq ?_)
  refine St.splitC (fun hc => ?_) (fun hc => ?_)
  · have hlt : k < 7 := by simp at hc; omega
    have hset := low_set hx hy hlt
    have hnx : (((lowR x y).take k ++ x.drop k).map (AV.int .i64))[k]? = some (.int .i64 (nth x k)) := by
      rw [List.getElem?_map, List.getElem?_append_right (by rw [List.length_take]; omega), List.length_take, show k - min k (lowR x y).length = 0 by omega, List.getElem?_drop, List.getElem?_eq_getElem (by omega), nth_eq (by omega)]
      rfl
    have hny : (y.map (AV.int .i64))[k]? = some (.int .i64 (nth y k)) := by
      rw [List.getElem?_map, List.getElem?_eq_getElem (by omega), nth_eq (by omega)]
      rfl
    (refine WK.skip ?_; refine WK.seq ?_; refine WK.block ?_; refine WK.seq ?_; refine WK.region ?_; refine St.move ?_; refine St.assign ?_; refine WO.nil ?_; refine WK.regionD ?_; refine St.move ?_; refine St.move ?_; refine St.atA ?_)
    refine St.loadX (fun h2 hh => (hh.rdL (j := p2) (List.Mem.tail _ (List.Mem.tail _ (List.Mem.head _))) (AObj.has_cells _ _) (off := 0 + (k : Int).toNat * 1) (v := .int .i64 (nth x k)) ((congrArg (fun z => (((lowR x y).take k ++ x.drop k).map (AV.int .i64))[z]?) (show 0 + (k : Int).toNat * 1 = k by omega)).trans hnx)).one rfl) ?_
    (refine St.move ?_; refine St.atA ?_)
    refine St.loadX (fun h2 hh => (hh.rdL (j := p3) (List.Mem.tail _ (List.Mem.head _)) (AObj.has_cells _ _) (off := 0 + (k : Int).toNat * 1) (v := .int .i64 (nth y k)) ((congrArg (fun z => (y.map (AV.int .i64))[z]?) (show 0 + (k : Int).toNat * 1 = k by omega)).trans hny)).one rfl) ?_
    (refine StD.mkS fun _ _ => ?_)
    rename_i i2 hi2
    refine StD.callV [(7, i2, .cells [.int .i64 (nth y k)] 3)] (fun _ => rfl) (fun x hx => by cases List.mem_singleton.1 hx; exact ⟨List.Mem.head _, by show maskAt _ _ 7 = true; decide +kernel⟩) (fun h2 hh => least_con h2 hh.gd (nth x k) _ [nth y k] (.inr ⟨_, 0, _, rfl, hh.ins (List.Mem.head _) (AObj.has_cells _ _)⟩) (by simp)) ?_
    (refine St.atA ?_)
    refine StD.store2 (hv := store_int (off := 0 + (k : Int).toNat * 1) (n := k) (by omega) (by rw [List.length_map, hlk]; omega)) ?_
    rw [← List.map_set, show ([nth y k].foldl min (nth x k)) = min (nth x k) (nth y k) from rfl, hset]
    (refine WO.nil1 ?_; refine WK.blk ?_; refine WK.region ?_; refine St.binI ?_; refine St.move ?_; refine WO.nil ?_)
    refine WK.perm (L' := [(p4, .cells [.int .i64 0, .int .i64 0, .int .i64 0, .int .i64 0, .int .i64 0, .int .i64 0, .int .i64 0] 148), (p3, .cells (y.map (AV.int .i64)) 148), (p2, .cells (((lowR x y).take (k + 1) ++ x.drop (k + 1)).map (AV.int .i64)) 148), (i2, .cells [.int .i64 (nth y k)] 3)]) (by (refine perm_cnt fun _ _ => ?_; simp only [List.append_eq, List.cons_append, List.nil_append, List.count_append, List.count_cons, List.count_nil, Nat.add_zero, Nat.zero_add]; try ac_rfl)) ?_
    refine WK.le ?_ (by (repeat (first | exact List.Sublist.refl _ | exact List.nil_sublist _ | apply List.Sublist.cons_cons | apply List.Sublist.cons))) (ih (k + 1) hlt (by omega))
    exact ⟨rfl, rfl, rfl, rfl, trivial⟩
  · have : k = 7 := by simp at hc; omega
    subst this
    have e : (lowR x y).take 7 ++ x.drop 7 = lowR x y := by rw [List.take_of_length_le (by omega), List.drop_eq_nil_of_le (by omega), List.append_nil]
    rw [e]
    (refine WK.exit ?_; refine WK.seq ?_; refine WK.region ?_)
    refine St.load (hv := load_arr (by rw [List.length_map]; exact hl)) ?_
    skip
    refine St.store0 (hv := store_arr (by rw [List.length_map]; exact hl) rfl (by simp [okCell])) ?_
    (refine WO.nil ?_)
    refine St.ret (.cell (hv := load_arr (by rw [List.length_map]; exact hl)) .nil) ?_
    rfl
end Go.Proofs.Ytekpffjcffeanaa

/- Cuts: do they lie right; looking one up. -/
namespace Go.Proofs.Ytekpffjcffeanaa
open Go.Proofs.Ytekpffjcffeanaa.Ev

/-- do cuts lie one behind the other, behind b, up to hi? -/
def cutsB (hi : Int) : Int → List Int → Bool
  | _, [] => true
  | b, c :: r => if c ≤ b ∨ hi < c then false else cutsB hi c r
theorem cutsB_asc {hi : Int} : ∀ {b : Int} {C : List Int}, cutsB hi b C = true → ascC b C ∧ ∀ c ∈ C, c ≤ hi
  | _, [], _ => ⟨trivial, fun c hc => by cases hc⟩
  | b, c :: r, h => by
    unfold cutsB at h
    split at h
    · cases h
    · rename_i q
      obtain ⟨h1, h2⟩ := cutsB_asc h
      refine ⟨⟨by omega, h1⟩, fun d hd => ?_⟩
      rcases List.mem_cons.1 hd with rfl | hd
      · omega
      · exact h2 d hd
theorem cutsB_drop {hi : Int} {C : List Int} {k : Nat} (hk : k < C.length) (b : Int) : cutsB hi b (C.drop k) = if nth C k ≤ b ∨ hi < nth C k then false else cutsB hi (nth C k) (C.drop (k + 1)) := by
  rw [List.drop_eq_getElem_cons hk, cutsB, nth_eq hk]
set_option maxRecDepth 100000 in
set_option maxHeartbeats 8000000 in
theorem areCuts_con (h : Heap) (g : Gd h) (lo hi : Int) (v : AV) (C : List Int) (hv : ItV h v C) (hl : C.length ≤ 9223372036854775807) :
    Con Try.prog Bs 74 [.agg [.int .i64 lo, .int .i64 hi], v] h [] (.bool (cutsB hi lo C)) [] := by
  refine Con.start rfl Try.func74 rfl rfl Try.ntmps74 rfl rfl g ?_
  (refine WK.seq ?_; refine WK.region ?_; refine St.box fun _ _ => ?_; refine St.assign ?_; refine WO.nil ?_; refine WK.seq ?_; refine WK.region ?_; refine St.fieldAddr ?_; refine St.load ?_; refine St.assign ?_; refine WO.nil ?_; refine WK.seq ?_; refine WK.seq ?_; refine WK.region ?_; refine St.move ?_)
  rename_i p2 hp2
  refine St.lenV rfl hv.len ?_
  (refine St.move ?_; refine WO.nil ?_; refine WK.block ?_)
  by_cases hn : C.length = 0
  · have e1 : C = [] := List.length_eq_zero_iff.1 hn
    subst e1
    refine WK.unroll ?_
    (refine WK.seq ?_; refine WK.region ?_; refine St.bin ?_; refine WO.nil ?_; refine WK.seq ?_; refine WK.condF ?_; refine WK.exit ?_; refine WK.seq ?_; refine WK.region ?_; refine St.assign ?_; refine WO.nil ?_)
    refine St.ret (by first | exact .tmp .nil | exact .cell .nil | exact .cell (.tmp .nil) | exact .tmp (.tmp .nil) | exact .cell (.cell .nil) | exact .tmp (.cell .nil) | exact .nil | exact .tmp (.cell (.tmp .nil)) | exact .cell (.tmp (.tmp .nil)) | exact .cell (.cell (.tmp .nil)) | exact .tmp (.tmp (.tmp .nil)) | exact .cell (.cell (.cell .nil))) ?_
    rfl
  obtain ⟨b, off, c, rfl, hk⟩ := hv.ne (by omega)
  refine WK.inv (ι := Nat × Int) (fun z => [(2, .ptr p2 0), (5, .int .i64 z.2), (10, .slice b off C.length c), (11, .int .i64 C.length), (12, .int .i64 z.1)]) (fun _ => [(p2, .cells [.int .i64 lo, .int .i64 hi] 37)]) (fun z => z.1 ≤ C.length ∧ cutsB hi lo C = cutsB hi z.2 (C.drop z.1)) (fun z => C.length - z.1) (0, lo) ⟨by simp, rfl⟩ ⟨rfl, rfl, rfl, rfl, rfl, trivial⟩ (by (repeat (first | exact List.Sublist.refl _ | exact List.nil_sublist _ | apply List.Sublist.cons_cons | apply List.Sublist.cons))) ?_
  rintro ⟨k, x⟩ ⟨hkl, hcu⟩ ih
  simp only at hkl hcu ih ⊢
  (refine WK.seq ?_; refine WK.region ?_; refine St.bin ?_; refine WO.nil ?_; refine WK.seq ?_)
  refine St.splitC (fun hc => ?_) (fun hc => ?_)
  · have hlt : k < C.length := by simp at hc; omega
    have hd := cutsB_drop (hi := hi) hlt x
    (refine WK.skip ?_; refine WK.seq ?_; refine WK.block ?_; refine WK.seq ?_; refine WK.region ?_)
    refine St.at ?_
    refine St.loadX (fun h hh => ((hk.vw hh).at_ (z := (k : Int)) (n := k) (by omega) hlt).one rfl) ?_
    (refine St.assign ?_; refine WO.nil ?_; refine WK.seq ?_; refine WK.seq ?_; refine WK.region ?_; refine St.move ?_; refine St.move ?_; refine St.bin ?_; refine St.move ?_)
    refine St.split (fun b1 => ?_) (fun b1 => ?_)
    · rw [if_pos (.inl (by simpa using b1))] at hd
      (refine St.skip ?_; refine St.skip ?_; refine St.skip ?_; refine St.skip ?_; refine St.pickT ?_; refine WO.nil ?_; refine WK.condT ?_; refine WK.seq ?_; refine WK.region ?_; refine St.assign ?_; refine WO.nil ?_)
      refine St.ret (by first | exact .tmp .nil | exact .cell .nil | exact .cell (.tmp .nil) | exact .tmp (.tmp .nil) | exact .cell (.cell .nil) | exact .tmp (.cell .nil) | exact .nil | exact .tmp (.cell (.tmp .nil)) | exact .cell (.tmp (.tmp .nil)) | exact .cell (.cell (.tmp .nil)) | exact .tmp (.tmp (.tmp .nil)) | exact .cell (.cell (.cell .nil))) ?_
      rw [hcu, hd]; rfl
    (refine St.move ?_; refine St.fieldAddr ?_; refine St.load ?_; refine St.bin ?_; refine St.pickF ?_; refine WO.nil ?_)
    refine St.splitC (fun b2 => ?_) (fun b2 => ?_)
    · rw [if_pos (.inr (by simpa using b2))] at hd
      (refine WK.seq ?_; refine WK.region ?_; refine St.assign ?_; refine WO.nil ?_)
      refine St.ret (by first | exact .tmp .nil | exact .cell .nil | exact .cell (.tmp .nil) | exact .tmp (.tmp .nil) | exact .cell (.cell .nil) | exact .tmp (.cell .nil) | exact .nil | exact .tmp (.cell (.tmp .nil)) | exact .cell (.tmp (.tmp .nil)) | exact .cell (.cell (.tmp .nil)) | exact .tmp (.tmp (.tmp .nil)) | exact .cell (.cell (.cell .nil))) ?_
      rw [hcu, hd]; rfl
    rw [if_neg (by simp at b1 b2; omega)] at hd
    (refine WK.skip ?_; refine WK.region ?_; refine St.move ?_; refine St.assign ?_; refine WO.nil ?_; refine WK.blk ?_; refine WK.region ?_; refine St.binI ?_; refine St.move ?_; refine WO.nil ?_)
    refine WK.le ?_ (by (repeat (first | exact List.Sublist.refl _ | exact List.nil_sublist _ | apply List.Sublist.cons_cons | apply List.Sublist.cons))) (ih (k + 1, nth C k) ⟨by simp only; omega, by simp only; rw [hcu, hd]⟩ (by simp only; omega))
    exact ⟨rfl, rfl, rfl, rfl, rfl, trivial⟩
  · have : k = C.length := by simp at hc; omega
    subst this
    (refine WK.exit ?_; refine WK.seq ?_; refine WK.region ?_; refine St.assign ?_; refine WO.nil ?_)
    refine St.ret (by first | exact .tmp .nil | exact .cell .nil | exact .cell (.tmp .nil) | exact .tmp (.tmp .nil) | exact .cell (.cell .nil) | exact .tmp (.cell .nil) | exact .nil | exact .tmp (.cell (.tmp .nil)) | exact .cell (.tmp (.tmp .nil)) | exact .cell (.cell (.tmp .nil)) | exact .tmp (.tmp (.tmp .nil)) | exact .cell (.cell (.cell .nil))) ?_
    rw [hcu, List.drop_eq_nil_of_le (by omega)]
    rfl
set_option maxRecDepth 100000 in
theorem isNaNc_con (h : Heap) (g : Gd h) (x : Int) : Con Try.prog Bs 127 [.int .i64 x] h [] (.bool false) [] := by
  refine Con.start rfl Try.func127 rfl rfl Try.ntmps127 rfl rfl g ?_
  (refine WK.seq ?_; refine WK.region ?_; refine St.assign ?_; refine WO.nil ?_; refine WK.seq ?_; refine WK.region ?_; refine St.move ?_; refine St.move ?_; refine St.bin ?_; refine St.assign ?_; refine WO.nil ?_)
  refine St.ret (by first | exact .tmp .nil | exact .cell .nil | exact .cell (.tmp .nil) | exact .tmp (.tmp .nil) | exact .cell (.cell .nil) | exact .tmp (.cell .nil) | exact .nil | exact .tmp (.cell (.tmp .nil)) | exact .cell (.tmp (.tmp .nil)) | exact .cell (.cell (.tmp .nil)) | exact .tmp (.tmp (.tmp .nil)) | exact .cell (.cell (.cell .nil))) ?_
  simp [oneOf]
set_option maxRecDepth 100000 in
theorem isNaNs_con (h : Heap) (g : Gd h) (x : Int) : Con Try.prog Bs 133 [.int .i64 x] h [] (.bool false) [] := by
  refine Con.start rfl Try.func133 rfl rfl Try.ntmps133 rfl rfl g ?_
  (refine WK.seq ?_; refine WK.region ?_; refine St.assign ?_; refine WO.nil ?_; refine WK.seq ?_; refine WK.region ?_; refine St.move ?_; refine St.move ?_; refine St.bin ?_; refine St.assign ?_; refine WO.nil ?_)
  refine St.ret (by first | exact .tmp .nil | exact .cell .nil | exact .cell (.tmp .nil) | exact .tmp (.tmp .nil) | exact .cell (.cell .nil) | exact .tmp (.cell .nil) | exact .nil | exact .tmp (.cell (.tmp .nil)) | exact .cell (.tmp (.tmp .nil)) | exact .cell (.cell (.tmp .nil)) | exact .tmp (.tmp (.tmp .nil)) | exact .cell (.cell (.cell .nil))) ?_
  simp [oneOf]
set_option maxRecDepth 100000 in
theorem less_con (h : Heap) (g : Gd h) (x y : Int) : Con Try.prog Bs 132 [.int .i64 x, .int .i64 y] h [] (.bool (decide (x < y))) [] := by
  refine Con.start rfl Try.func132 rfl rfl Try.ntmps132 rfl rfl g ?_
  (refine WK.seq ?_; refine WK.region ?_; refine St.assign ?_; refine WO.nil ?_; refine WK.seq ?_; refine WK.region ?_; refine St.move ?_)
  refine St.call (fun _ => rfl) (fun h2 hh => isNaNc_con h2 hh.gd x) ?_
  (refine St.move ?_; refine St.skip ?_; refine St.skip ?_; refine St.skip ?_; refine St.pickF ?_; refine St.move ?_; refine St.move ?_; refine St.move ?_; refine St.bin ?_; refine St.pickF ?_; refine St.assign ?_; refine WO.nil ?_)
  refine St.ret (by first | exact .tmp .nil | exact .cell .nil | exact .cell (.tmp .nil) | exact .tmp (.tmp .nil) | exact .cell (.cell .nil) | exact .tmp (.cell .nil) | exact .nil | exact .tmp (.cell (.tmp .nil)) | exact .cell (.tmp (.tmp .nil)) | exact .cell (.cell (.tmp .nil)) | exact .tmp (.tmp (.tmp .nil)) | exact .cell (.cell (.cell .nil))) ?_
  rfl
/-- the first place of an ascending list whose element is no less -/
theorem ascC_mono : ∀ {b : Int} {C : List Int}, ascC b C → ∀ i j, i < j → j < C.length → nth C i < nth C j
  | _, [], _, _, _, _, h => by cases h
  | b, c :: r, h, i, 0, h1, _ => by cases h1
  | b, c :: r, h, 0, j + 1, _, h2 => by
    have h3 : j < r.length := by simpa using h2
    have := ascC_lt h.2 (nth r j) (by rw [nth_eq h3]; exact List.getElem_mem _)
    exact this
  | b, c :: r, h, i + 1, j + 1, h1, h2 => ascC_mono h.2 i j (by omega) (by simpa using h2)
theorem mid_wrap {i j : Nat} (h : i + j < 4000000) : IntKind.i64.wrap ((IntKind.u64.wrap ((i : Int) + (j : Int))).fdiv (2 ^ min (Int.toNat 1) IntKind.u64.bits)) = (((i + j) / 2 : Nat) : Int) := by
  have h1 : IntKind.u64.wrap ((i : Int) + (j : Int)) = (i : Int) + (j : Int) := by
    unfold IntKind.wrap
    simp [IntKind.bits, IntKind.signed]
    omega
  have h2 : (2 : Int) ^ min (Int.toNat 1) IntKind.u64.bits = 2 := by decide +kernel
  rw [h1, h2, Int.fdiv_eq_ediv_of_nonneg _ (by omega), wrap_ok (by omega)]
  omega
set_option maxRecDepth 100000 in
set_option maxHeartbeats 16000000 in
theorem search_con (h : Heap) (g : Gd h) (b0 : Int) (x : Int) (v : AV) (C : List Int) (hv : ItV h v C) (hl : C.length ≤ 1000000) (hC : ascC b0 C) :
    ∃ w L, Con Try.prog Bs 115 [v, .int .i64 x] h [] w L ∧ ∃ i : Int, w = .tup [.int .i64 i, .bool (decide (x ∈ C))] ∧ L = [] := by
    refine Con.startR rfl Try.func115 rfl rfl Try.ntmps115 rfl rfl (SS.init g) ?_
    (refine WK.seq ?_; refine WK.region ?_; refine St.assign ?_; refine St.assign ?_; refine WO.nil ?_; refine WK.seq ?_; refine WK.region ?_; refine St.move ?_)
    refine St.lenV rfl hv.len ?_
    (refine St.assign ?_; refine WO.nil ?_; refine WK.seq ?_; refine WK.region ?_; refine St.move ?_; refine St.assign ?_; refine St.assign ?_; refine WO.nil ?_; refine WK.seq ?_; refine WK.block ?_)
    by_cases hn : C.length = 0
    · have e1 : C = [] := List.length_eq_zero_iff.1 hn
      subst e1
      refine WK.unroll ?_
      (refine WK.seq ?_; refine WK.seq ?_; refine WK.region ?_; refine St.move ?_; refine St.move ?_; refine St.bin ?_; refine WO.nil ?_; refine WK.condF ?_; refine WK.exit ?_; refine WK.seq ?_; refine WK.region ?_; refine St.move ?_; refine St.move ?_; refine St.move ?_; refine St.bin ?_; refine St.move ?_; refine St.skip ?_; refine St.skip ?_; refine St.skip ?_; refine St.skip ?_; refine St.skip ?_; refine St.skip ?_; refine St.skip ?_; refine St.skip ?_; refine St.skip ?_; refine St.skip ?_; refine St.skip ?_; refine St.skip ?_; refine St.skip ?_; refine St.skip ?_; refine St.skip ?_; refine St.skip ?_; refine St.skip ?_; refine St.pickF ?_; refine St.assign ?_; refine St.assign ?_; refine WO.nil ?_)
      refine St.ret (by first | exact .tmp .nil | exact .cell .nil | exact .cell (.tmp .nil) | exact .tmp (.tmp .nil) | exact .cell (.cell .nil) | exact .tmp (.cell .nil) | exact .nil | exact .tmp (.cell (.tmp .nil)) | exact .cell (.tmp (.tmp .nil)) | exact .cell (.cell (.tmp .nil)) | exact .tmp (.tmp (.tmp .nil)) | exact .cell (.cell (.cell .nil))) ?_
      exact ⟨0, rfl, rfl⟩
    obtain ⟨b, off, c, rfl, hk⟩ := hv.ne (by omega)
    refine WK.inv (ι := Nat × Nat) (fun z => [(0, .slice b off C.length c), (1, .int .i64 x), (6, .int .i64 C.length), (7, .int .i64 z.1), (8, .int .i64 z.2)]) (fun _ => []) (fun z => z.1 ≤ z.2 ∧ z.2 ≤ C.length ∧ (∀ m, m < z.1 → nth C m < x) ∧ (∀ m, z.2 ≤ m → m < C.length → x ≤ nth C m)) (fun z => z.2 - z.1) (0, C.length) ⟨Nat.zero_le _, Nat.le_refl _, fun m hm => absurd hm (Nat.not_lt_zero m), fun m h1 h2 => absurd h2 (Nat.not_lt.2 h1)⟩ ⟨rfl, rfl, rfl, rfl, rfl, trivial⟩ (by (repeat (first | exact List.Sublist.refl _ | exact List.nil_sublist _ | apply List.Sublist.cons_cons | apply List.Sublist.cons))) ?_
    rintro ⟨i, j⟩ ⟨h1, h2, h3, h4⟩ ih
    simp only at h1 h2 h3 h4 ih ⊢
    (refine WK.seq ?_; refine WK.seq ?_; refine WK.region ?_; refine St.move ?_; refine St.move ?_; refine St.bin ?_; refine WO.nil ?_)
    refine St.splitC (fun hc => ?_) (fun hc => ?_)
    · have hlt : i < j := by simp at hc; omega
      have hmid : IntKind.i64.wrap ((IntKind.u64.wrap ((i : Int) + (j : Int))).fdiv (2 ^ min (Int.toNat 1) IntKind.u64.bits)) = (((i + j) / 2 : Nat) : Int) := mid_wrap (by omega)
      (refine WK.skip ?_; refine WK.block ?_; refine WK.seq ?_; refine WK.region ?_; refine St.move ?_; refine St.move ?_; refine St.binI ?_; refine St.conv ?_; refine St.bin ?_; refine St.conv ?_; refine St.assign ?_; refine WO.nil ?_; refine WK.seq ?_; refine WK.region ?_; refine St.move ?_; refine St.move ?_)
      rw [hmid]
      generalize hM : (i + j) / 2 = M at *
      have hM1 : i ≤ M ∧ M < j := by omega
      refine St.at ?_
      refine St.loadX (fun h hh => ((hk.vw hh).at_ (z := (M : Int)) (n := M) (by omega) (by omega)).one rfl) ?_
      (refine St.move ?_)
      refine St.call (fun _ => rfl) (fun h2 hh => less_con h2 hh.gd (nth C M) x) ?_
      (refine WO.nil ?_)
      refine St.splitC (fun q => ?_) (fun q => ?_)
      · have q' : nth C M < x := by simpa using q
        (refine WK.region ?_; refine St.move ?_; refine St.binI ?_; refine St.assign ?_; refine WO.nil ?_; refine WK.blk ?_)
        refine WK.le ?_ (by (repeat (first | exact List.Sublist.refl _ | exact List.nil_sublist _ | apply List.Sublist.cons_cons | apply List.Sublist.cons))) (ih (M + 1, j) ⟨by simp only; omega, h2, fun m hm => ?_, h4⟩ (by simp only; omega))
        · exact ⟨rfl, rfl, rfl, rfl, rfl, trivial⟩
        · simp only at hm
          by_cases e : m = M
          · rw [e]; exact q'
          · have := ascC_mono hC m M (by omega) (by omega)
            omega
      · have q' : x ≤ nth C M := by simpa using q
        (refine WK.region ?_; refine St.move ?_; refine St.assign ?_; refine WO.nil ?_; refine WK.blk ?_)
        refine WK.le ?_ (by (repeat (first | exact List.Sublist.refl _ | exact List.nil_sublist _ | apply List.Sublist.cons_cons | apply List.Sublist.cons))) (ih (i, M) ⟨by simp only; omega, by simp only; omega, h3, fun m hm hl => ?_⟩ (by simp only; omega))
        · exact ⟨rfl, rfl, rfl, rfl, rfl, trivial⟩
        · simp only at hm
          by_cases e : m = M
          · rw [e]; exact q'
          · have := ascC_mono hC M m (by omega) (by omega)
            omega
    · have hij : i = j := by simp at hc; omega
      subst hij
      (refine WK.exit ?_; refine WK.seq ?_; refine WK.region ?_; refine St.move ?_; refine St.move ?_; refine St.move ?_; refine St.bin ?_; refine St.move ?_)
      refine St.split (fun q => ?_) (fun q => ?_)
      · have hlt : i < C.length := by simp at q; omega
        (refine St.move ?_; refine St.move ?_)
        refine St.at ?_
        refine St.loadX (fun h hh => ((hk.vw hh).at_ (z := (i : Int)) (n := i) (by omega) hlt).one rfl) ?_
        (refine St.move ?_; refine St.bin ?_; refine St.move ?_)
        have hmem : decide (x ∈ C) = (nth C i == x) := by
          by_cases e : nth C i = x
          · have : x ∈ C := by rw [← e, nth_eq hlt]; exact List.getElem_mem _
            simp [this, e]
          · have : x ∉ C := fun hx => by
              obtain ⟨m, hm, e2⟩ := List.getElem_of_mem hx
              rw [← nth_eq hm] at e2
              rcases Nat.lt_trichotomy m i with h | h | h
              · have := h3 m h; omega
              · subst h; exact e e2
              · have h5 := ascC_mono hC i m h hm
                have h6 := h4 i (Nat.le_refl _) hlt
                omega
            simp [this, e]
        rw [hmem]
        refine St.split (fun q2 => ?_) (fun q2 => ?_)
        · (refine St.skip ?_; refine St.skip ?_; refine St.skip ?_; refine St.skip ?_; refine St.skip ?_; refine St.skip ?_; refine St.skip ?_; refine St.skip ?_; refine St.skip ?_; refine St.pickT ?_; refine St.pickT ?_; refine St.assign ?_; refine St.assign ?_; refine WO.nil ?_)
          refine St.ret (by first | exact .tmp .nil | exact .cell .nil | exact .cell (.tmp .nil) | exact .tmp (.tmp .nil) | exact .cell (.cell .nil) | exact .tmp (.cell .nil) | exact .nil | exact .tmp (.cell (.tmp .nil)) | exact .cell (.tmp (.tmp .nil)) | exact .cell (.cell (.tmp .nil)) | exact .tmp (.tmp (.tmp .nil)) | exact .cell (.cell (.cell .nil))) ?_
          exact ⟨i, by rw [q2]; rfl, rfl⟩
        · (refine St.move ?_; refine St.move ?_)
          refine St.at ?_
          refine St.loadX (fun h hh => ((hk.vw hh).at_ (z := (i : Int)) (n := i) (by omega) hlt).one rfl) ?_
          skip
          refine St.call (fun _ => rfl) (fun h2 hh => isNaNs_con h2 hh.gd (nth C i)) ?_
          (refine St.move ?_; refine St.skip ?_; refine St.skip ?_; refine St.pickF ?_; refine St.pickF ?_; refine St.pickT ?_; refine St.assign ?_; refine St.assign ?_; refine WO.nil ?_)
          refine St.ret (by first | exact .tmp .nil | exact .cell .nil | exact .cell (.tmp .nil) | exact .tmp (.tmp .nil) | exact .cell (.cell .nil) | exact .tmp (.cell .nil) | exact .nil | exact .tmp (.cell (.tmp .nil)) | exact .cell (.tmp (.tmp .nil)) | exact .cell (.cell (.tmp .nil)) | exact .tmp (.tmp (.tmp .nil)) | exact .cell (.cell (.cell .nil))) ?_
          exact ⟨i, by rw [q2]; rfl, rfl⟩
      · have hge : C.length ≤ i := by simp at q; omega
        (refine St.skip ?_; refine St.skip ?_; refine St.skip ?_; refine St.skip ?_; refine St.skip ?_; refine St.skip ?_; refine St.skip ?_; refine St.skip ?_; refine St.skip ?_; refine St.skip ?_; refine St.skip ?_; refine St.skip ?_; refine St.skip ?_; refine St.skip ?_; refine St.skip ?_; refine St.skip ?_; refine St.skip ?_; refine St.pickF ?_; refine St.assign ?_; refine St.assign ?_; refine WO.nil ?_)
        refine St.ret (by first | exact .tmp .nil | exact .cell .nil | exact .cell (.tmp .nil) | exact .tmp (.tmp .nil) | exact .cell (.cell .nil) | exact .tmp (.cell .nil) | exact .nil | exact .tmp (.cell (.tmp .nil)) | exact .cell (.tmp (.tmp .nil)) | exact .cell (.cell (.tmp .nil)) | exact .tmp (.tmp (.tmp .nil)) | exact .cell (.cell (.cell .nil))) ?_
        have : x ∉ C := fun hx => by
          obtain ⟨m, hm, e2⟩ := List.getElem_of_mem hx
          rw [← nth_eq hm] at e2
          have := h3 m (by omega)
          omega
        exact ⟨i, by simp [this, oneOf], rfl⟩
end Go.Proofs.Ytekpffjcffeanaa

/- Do cuts prove a height: proves over the calculator's memory. -/
namespace Go.Proofs.Ytekpffjcffeanaa
open Go.Proofs.Ytekpffjcffeanaa.Ev

theorem lowR_bd {c : Int} : ∀ {x y : List Int}, (∀ a ∈ x, -c ≤ a ∧ a ≤ c) → (∀ a ∈ y, -c ≤ a ∧ a ≤ c) → ∀ a ∈ lowR x y, -c ≤ a ∧ a ≤ c
  | [], _, _, _, a, h => by cases h
  | _ :: _, [], _, _, a, h => by cases h
  | p :: x, q :: y, hx, hy, a, h => by
    rcases List.mem_cons.1 h with rfl | h
    · have h1 := hx p (by simp)
      have h2 := hy q (by simp)
      omega
    · exact lowR_bd (fun b hb => hx b (by simp [hb])) (fun b hb => hy b (by simp [hb])) a h
theorem prv_none {a : Nat → List Int} {lv H lo : Int} {C : List Int} {k : Nat} (h : prv a lv H lo C k = none) : ∀ j, prv a lv H lo C (k + j) = none
  | 0 => h
  | j + 1 => by
    rw [← Nat.add_assoc, prv, prv_none h j]
    rfl
theorem sum_bd {l : List Int} (hl : l.length = 7) (h : ∀ x ∈ l, -4000 ≤ x ∧ x ≤ 4000) : -28000 ≤ sumL l ∧ sumL l ≤ 28000 := by
  have := fold_bd h 7 (by omega)
  rw [List.take_of_length_le (by omega)] at this
  unfold sumL
  omega
set_option maxRecDepth 100000 in
set_option maxHeartbeats 32000000 in
theorem proves_con (h : Heap) (g : Gd h) (lv lo hi height : Int) (cv sv v : AV) (cl : List Cw) (ss : List Sh) (C : List Int) (hc : CyV h cv cl) (hs : ShV h sv ss) (hv : ItV h v C) (hl : C.length ≤ 1000000) (m : MinOk lv (cys cl) ss lo hi) (hC : ascC lo C) :
    Con Try.prog Bs 75 [.agg [.int .i64 lv, cv, sv], .agg [.int .i64 lo, .int .i64 hi], .int .i64 height, v] h [] (.bool (prv (fun k => addA (cys cl) ss (lo + (k : Int))) lv height lo C (hi - lo + 1).toNat).isSome) [] := by
  have w := m.w
  have m1 := m.l1
  have m2 := m.le
  have m3 := m.h2
  have m4 := m.n
  have l1 := w.l1
  have l2 := w.l2
  have hA7 : ∀ k : Nat, (addA (cys cl) ss (lo + (k : Int))).length = 7 := fun k => addK_len (Nat.le_refl _) w.n1
  have hAb : ∀ k : Nat, ∀ x ∈ addA (cys cl) ss (lo + (k : Int)), -4000 ≤ x ∧ x ≤ 4000 := fun k => addA_bd (t := lo + (k : Int)) (chkC_all w.cs) (chkS_all w.ss)
  have hy := moments_y h lv lo hi cv sv cl ss hc hs m
  generalize hAd : (fun k : Nat => addA (cys cl) ss (lo + (k : Int))) = A at *
  have hAk : ∀ k : Nat, addA (cys cl) ss (lo + (k : Int)) = A k := fun k => by rw [← hAd]
  simp only [hAk] at hA7 hAb hy
  have hvc : v.cells = [v] := by rcases hv with ⟨rfl | rfl, _⟩ | ⟨_, _, _, rfl, _⟩ <;> rfl
  have key : ∃ w L, Con Try.prog Bs 75 [.agg [.int .i64 lv, cv, sv], .agg [.int .i64 lo, .int .i64 hi], .int .i64 height, v] h [] w L ∧ w = .bool (prv A lv height lo C (hi - lo + 1).toNat).isSome ∧ L = [] := by
    refine Con.pick (Con.startR rfl Try.func75 rfl rfl Try.ntmps75 rfl rfl (SS.init g) ?_)
    (refine WK.seq ?_; refine WK.region ?_; refine St.box fun _ _ => ?_; refine St.box fun _ _ => ?_; refine St.box fun _ _ => ?_; refine St.box fun _ _ => ?_; refine St.alloc fun _ _ => ?_; refine WO.nil ?_; refine WK.seq ?_; refine WK.region ?_; refine St.alloc fun _ _ => ?_; refine WO.nil ?_; refine WK.seq ?_; refine WK.seq ?_; refine WK.region ?_; refine St.load ?_; refine St.load ?_)
    rename_i p4 hp4 p5 hp5 p6 hp6 p7 hp7 p8 hp8 p9 hp9
    refine St.callR (fun _ => rfl) (fun h2 hh => moments_con h2 hh.gd lv lo hi cv sv) ?_
    rintro u L' ⟨j1, j2, rfl, rfl⟩
    (refine WO.nil ?_; refine WK.block ?_)
    rw [hvc]
    refine WK.perm (L' := (j2, .cells [.int .i64 lo, .int .i64 hi] 37) :: (j1, .cells [.int .i64 lv, cv, sv] 25) :: (p9, .cells [.int .i64 0, .int .i64 0, .int .i64 0, .int .i64 0, .int .i64 0, .int .i64 0, .int .i64 0] 148) :: (p8, .cells [.bool false] 4) :: [(p7, .cells [v] 26), (p6, .cells [.int .i64 height] 3), (p5, .cells [.int .i64 lo, .int .i64 hi] 37), (p4, .cells [.int .i64 lv, cv, sv] 25)]) (List.Perm.refl _) ?_
    refine rangeY (hb := h) (j1 := j1) (j2 := j2) (L0 := (p9, .cells [.int .i64 0, .int .i64 0, .int .i64 0, .int .i64 0, .int .i64 0, .int .i64 0, .int .i64 0] 148) :: (p8, .cells [.bool false] 4) :: [(p7, .cells [v] 26), (p6, .cells [.int .i64 height] 3), (p5, .cells [.int .i64 lo, .int .i64 hi] 37), (p4, .cells [.int .i64 lv, cv, sv] 25)])
      (fun k Ln => ∃ z p : List Int, prv A lv height lo C k = some p ∧ z.length = 7 ∧ (∀ x ∈ z, -4000 ≤ x ∧ x ≤ 4000) ∧ (0 < k → z = p) ∧ Ln = (p9, .cells (z.map (AV.int .i64)) 148) :: (p8, .cells [.bool false] 4) :: [(p7, .cells [v] 26), (p6, .cells [.int .i64 height] 3), (p5, .cells [.int .i64 lo, .int .i64 hi] 37), (p4, .cells [.int .i64 lv, cv, sv] 25)])
      (fun pd Ln => pd = some .ret ∧ prv A lv height lo C (hi - lo + 1).toNat = none ∧ ∃ z : List Int, Ln = (p9, .cells (z.map (AV.int .i64)) 148) :: (p8, .cells [.bool false] 4) :: [(p7, .cells [v] 26), (p6, .cells [.int .i64 height] 3), (p5, .cells [.int .i64 lo, .int .i64 hi] 37), (p4, .cells [.int .i64 lv, cv, sv] 25)])
      hy rfl (SS.init g).vw (fun _ h => by cases h) (by (refine perm_cnt fun _ _ => ?_; simp only [List.append_eq, List.cons_append, List.nil_append, List.count_append, List.count_cons, List.count_nil, Nat.add_zero, Nat.zero_add]; try ac_rfl)) ⟨[0, 0, 0, 0, 0, 0, 0], [], rfl, rfl, by simp, fun h => absurd h (Nat.lt_irrefl 0), rfl⟩ (fun _ => rfl) rfl ?_ ?_ ?_
    · rintro r2 q2 hq2 k Lk h2 hk ⟨z, p, hp, hz7, hzb, hzp, rfl⟩ hl2
      have hW2 := hl2.ss.ltW
      have hst : prv A lv height lo C (k + 1) = if lv + sumL (lowR (if lo + (k : Int) ∈ C ∨ k = 0 then A k else p) (A k)) < height then none else some (lowR (if lo + (k : Int) ∈ C ∨ k = 0 then A k else p) (A k)) := by
        rw [prv, hp]
        rfl
      have ak7 := hA7 k
      have akb := hAb k
      (refine WK.seq ?_; refine WK.region ?_; refine St.assign ?_; refine WO.nil ?_; refine WK.region ?_; refine St.alloc fun _ _ => ?_)
      rename_i j11 hj11
      refine St.store0 (hv := store_arr (by rw [List.length_map]; exact ak7) rfl (ints_ok _)) ?_
      (refine WO.nil ?_)
      refine WK.busyQ hq2.st (A := [(_, _)]) rfl ?_
      (refine WK.block ?_; refine WK.seq ?_; refine WK.seq ?_; refine WK.region ?_; refine St.load ?_; refine St.move ?_)
      refine St.callR (fun _ => rfl) (fun h3 hh => search_con h3 hh.gd lo (lo + (k : Int)) v C (hv.vw (hl2.to hh)) hl hC) ?_
      rintro u2 L2 ⟨iS, rfl, rfl⟩
      (refine St.move ?_; refine St.extract ?_; refine St.extract ?_; refine St.assign ?_; refine St.assign ?_; refine WO.nil ?_; refine WK.seq ?_; refine WK.region ?_; refine St.move ?_; refine St.move ?_)
      refine St.split (fun b1 => ?_) (fun b1 => ?_)
      · have hY : (if lo + (k : Int) ∈ C ∨ k = 0 then A k else p) = A k := if_pos (.inl (by simpa using b1))
        (refine St.skip ?_; refine St.skip ?_; refine St.skip ?_; refine St.skip ?_; refine St.pickT ?_; refine WO.nil ?_; refine WK.condT ?_; refine WK.region ?_)
        refine St.load (hv := load_arr (by rw [List.length_map]; exact ak7)) ?_
        skip
        refine St.store2 (hv := store_arr (by rw [List.length_map]; exact ak7) (by rw [List.length_map]; exact hz7) (ints_ok _)) ?_
        have hy7 := lowR_len (x := A k) (y := A k) ak7 ak7
        have hyb := lowR_bd (c := 4000) (x := A k) (y := A k) akb akb
        have hsb := sum_bd hy7 hyb
        unfold sumL at hsb hst
        rw [hY] at hst
        (refine WO.nil ?_; refine WK.seq ?_; refine WK.region ?_)
        refine St.load (hv := load_arr (by rw [List.length_map]; exact ak7)) ?_
        skip
        refine St.load (hv := load_arr (by rw [List.length_map]; exact ak7)) ?_
        skip
        refine St.call (fun _ => rfl) (fun h3 hh => lower_con h3 hh.gd (A k) (A k) ak7 ak7) ?_
        skip
        refine St.store2 (hv := store_arr (by rw [List.length_map]; exact hy7) (by rw [List.length_map]; exact ak7) (ints_ok _)) ?_
        (refine WO.nil ?_; refine WK.seq ?_; refine WK.regionD ?_; refine St.fieldAddr ?_; refine St.load ?_)
        refine St.load (hv := load_arr (by rw [List.length_map]; exact hy7)) ?_
        skip
        refine St.call (fun _ => rfl) (fun h3 hh => sum_con h3 hh.gd _ hy7 hyb) ?_
        (refine St.binI ?_; refine St.load ?_; refine St.bin ?_; refine WO.nil ?_)
        refine St.splitC (fun hlow => ?_) (fun hlow => ?_)
        · rw [if_pos (by simpa using hlow)] at hst
          (refine WK.seq ?_; refine WK.region ?_; refine St.store3 ?_; refine WO.nil ?_)
          refine retY (Lk := (p9, .cells ((lowR (A k) (A k)).map (AV.int .i64)) 148) :: (p8, .cells [.bool false] 4) :: [(p7, .cells [v] 26), (p6, .cells [.int .i64 height] 3), (p5, .cells [.int .i64 lo, .int .i64 hi] 37), (p4, .cells [.int .i64 lv, cv, sv] 25)]) (X := [(j11, .cells ((A k).map (AV.int .i64)) 148)]) ?_ ⟨rfl, ?_, _, rfl⟩
          · (refine perm_cnt fun _ _ => ?_; simp only [List.append_eq, List.cons_append, List.nil_append, List.count_append, List.count_cons, List.count_nil, Nat.add_zero, Nat.zero_add]; try ac_rfl)
          · have := prv_none hst ((hi - lo + 1).toNat - (k + 1))
            rw [show k + 1 + ((hi - lo + 1).toNat - (k + 1)) = (hi - lo + 1).toNat by omega] at this
            exact this
        · rw [if_neg (by simpa using hlow)] at hst
          (refine WK.skip ?_; refine WK.blk ?_)
          refine endY (Lk := (p9, .cells ((lowR (A k) (A k)).map (AV.int .i64)) 148) :: (p8, .cells [.bool false] 4) :: [(p7, .cells [v] 26), (p6, .cells [.int .i64 height] 3), (p5, .cells [.int .i64 lo, .int .i64 hi] 37), (p4, .cells [.int .i64 lv, cv, sv] 25)]) (X := [(j11, .cells ((A k).map (AV.int .i64)) 148)]) ?_ ⟨_, _, hst, hy7, hyb, fun _ => rfl, rfl⟩
          (refine perm_cnt fun _ _ => ?_; simp only [List.append_eq, List.cons_append, List.nil_append, List.count_append, List.count_cons, List.count_nil, Nat.add_zero, Nat.zero_add]; try ac_rfl)
      (refine St.move ?_; refine St.fieldAddr ?_; refine St.load ?_; refine St.bin ?_; refine St.pickF ?_; refine WO.nil ?_)
      refine St.splitC (fun b2 => ?_) (fun b2 => ?_)
      · have hY : (if lo + (k : Int) ∈ C ∨ k = 0 then A k else p) = A k := if_pos (.inr (by simp at b2; omega))
        (refine WK.region ?_)
        refine St.load (hv := load_arr (by rw [List.length_map]; exact ak7)) ?_
        skip
        refine St.store2 (hv := store_arr (by rw [List.length_map]; exact ak7) (by rw [List.length_map]; exact hz7) (ints_ok _)) ?_
        have hy7 := lowR_len (x := A k) (y := A k) ak7 ak7
        have hyb := lowR_bd (c := 4000) (x := A k) (y := A k) akb akb
        have hsb := sum_bd hy7 hyb
        unfold sumL at hsb hst
        rw [hY] at hst
        (refine WO.nil ?_; refine WK.seq ?_; refine WK.region ?_)
        refine St.load (hv := load_arr (by rw [List.length_map]; exact ak7)) ?_
        skip
        refine St.load (hv := load_arr (by rw [List.length_map]; exact ak7)) ?_
        skip
        refine St.call (fun _ => rfl) (fun h3 hh => lower_con h3 hh.gd (A k) (A k) ak7 ak7) ?_
        skip
        refine St.store2 (hv := store_arr (by rw [List.length_map]; exact hy7) (by rw [List.length_map]; exact ak7) (ints_ok _)) ?_
        (refine WO.nil ?_; refine WK.seq ?_; refine WK.regionD ?_; refine St.fieldAddr ?_; refine St.load ?_)
        refine St.load (hv := load_arr (by rw [List.length_map]; exact hy7)) ?_
        skip
        refine St.call (fun _ => rfl) (fun h3 hh => sum_con h3 hh.gd _ hy7 hyb) ?_
        (refine St.binI ?_; refine St.load ?_; refine St.bin ?_; refine WO.nil ?_)
        refine St.splitC (fun hlow => ?_) (fun hlow => ?_)
        · rw [if_pos (by simpa using hlow)] at hst
          (refine WK.seq ?_; refine WK.region ?_; refine St.store3 ?_; refine WO.nil ?_)
          refine retY (Lk := (p9, .cells ((lowR (A k) (A k)).map (AV.int .i64)) 148) :: (p8, .cells [.bool false] 4) :: [(p7, .cells [v] 26), (p6, .cells [.int .i64 height] 3), (p5, .cells [.int .i64 lo, .int .i64 hi] 37), (p4, .cells [.int .i64 lv, cv, sv] 25)]) (X := [(j11, .cells ((A k).map (AV.int .i64)) 148)]) ?_ ⟨rfl, ?_, _, rfl⟩
          · (refine perm_cnt fun _ _ => ?_; simp only [List.append_eq, List.cons_append, List.nil_append, List.count_append, List.count_cons, List.count_nil, Nat.add_zero, Nat.zero_add]; try ac_rfl)
          · have := prv_none hst ((hi - lo + 1).toNat - (k + 1))
            rw [show k + 1 + ((hi - lo + 1).toNat - (k + 1)) = (hi - lo + 1).toNat by omega] at this
            exact this
        · rw [if_neg (by simpa using hlow)] at hst
          (refine WK.skip ?_; refine WK.blk ?_)
          refine endY (Lk := (p9, .cells ((lowR (A k) (A k)).map (AV.int .i64)) 148) :: (p8, .cells [.bool false] 4) :: [(p7, .cells [v] 26), (p6, .cells [.int .i64 height] 3), (p5, .cells [.int .i64 lo, .int .i64 hi] 37), (p4, .cells [.int .i64 lv, cv, sv] 25)]) (X := [(j11, .cells ((A k).map (AV.int .i64)) 148)]) ?_ ⟨_, _, hst, hy7, hyb, fun _ => rfl, rfl⟩
          (refine perm_cnt fun _ _ => ?_; simp only [List.append_eq, List.cons_append, List.nil_append, List.count_append, List.count_cons, List.count_nil, Nat.add_zero, Nat.zero_add]; try ac_rfl)
      have k0 : k ≠ 0 := by simp at b2; omega
      have hY : (if lo + (k : Int) ∈ C ∨ k = 0 then A k else p) = z := by
        rw [if_neg (by simp at b1; simp [b1, k0])]
        exact (hzp (by omega)).symm
      have hy7 := lowR_len (x := z) (y := A k) hz7 ak7
      have hyb := lowR_bd (c := 4000) (x := z) (y := A k) hzb akb
      have hsb := sum_bd hy7 hyb
      unfold sumL at hsb hst
      rw [hY] at hst
      (refine WK.skip ?_; refine WK.seq ?_; refine WK.region ?_)
      refine St.load (hv := load_arr (by rw [List.length_map]; exact hz7)) ?_
      skip
      refine St.load (hv := load_arr (by rw [List.length_map]; exact ak7)) ?_
      skip
      refine St.call (fun _ => rfl) (fun h3 hh => lower_con h3 hh.gd (z) (A k) hz7 ak7) ?_
      skip
      refine St.store2 (hv := store_arr (by rw [List.length_map]; exact hy7) (by rw [List.length_map]; exact hz7) (ints_ok _)) ?_
      (refine WO.nil ?_; refine WK.seq ?_; refine WK.regionD ?_; refine St.fieldAddr ?_; refine St.load ?_)
      refine St.load (hv := load_arr (by rw [List.length_map]; exact hy7)) ?_
      skip
      refine St.call (fun _ => rfl) (fun h3 hh => sum_con h3 hh.gd _ hy7 hyb) ?_
      (refine St.binI ?_; refine St.load ?_; refine St.bin ?_; refine WO.nil ?_)
      refine St.splitC (fun hlow => ?_) (fun hlow => ?_)
      · rw [if_pos (by simpa using hlow)] at hst
        (refine WK.seq ?_; refine WK.region ?_; refine St.store3 ?_; refine WO.nil ?_)
        refine retY (Lk := (p9, .cells ((lowR (z) (A k)).map (AV.int .i64)) 148) :: (p8, .cells [.bool false] 4) :: [(p7, .cells [v] 26), (p6, .cells [.int .i64 height] 3), (p5, .cells [.int .i64 lo, .int .i64 hi] 37), (p4, .cells [.int .i64 lv, cv, sv] 25)]) (X := [(j11, .cells ((A k).map (AV.int .i64)) 148)]) ?_ ⟨rfl, ?_, _, rfl⟩
        · (refine perm_cnt fun _ _ => ?_; simp only [List.append_eq, List.cons_append, List.nil_append, List.count_append, List.count_cons, List.count_nil, Nat.add_zero, Nat.zero_add]; try ac_rfl)
        · have := prv_none hst ((hi - lo + 1).toNat - (k + 1))
          rw [show k + 1 + ((hi - lo + 1).toNat - (k + 1)) = (hi - lo + 1).toNat by omega] at this
          exact this
      · rw [if_neg (by simpa using hlow)] at hst
        (refine WK.skip ?_; refine WK.blk ?_)
        refine endY (Lk := (p9, .cells ((lowR (z) (A k)).map (AV.int .i64)) 148) :: (p8, .cells [.bool false] 4) :: [(p7, .cells [v] 26), (p6, .cells [.int .i64 height] 3), (p5, .cells [.int .i64 lo, .int .i64 hi] 37), (p4, .cells [.int .i64 lv, cv, sv] 25)]) (X := [(j11, .cells ((A k).map (AV.int .i64)) 148)]) ?_ ⟨_, _, hst, hy7, hyb, fun _ => rfl, rfl⟩
        (refine perm_cnt fun _ _ => ?_; simp only [List.append_eq, List.cons_append, List.nil_append, List.count_append, List.count_cons, List.count_nil, Nat.add_zero, Nat.zero_add]; try ac_rfl)
    · rintro dq L' ⟨z, p, hp, hz7, hzb, hzp, rfl⟩
      rw [hp]
      (refine WK.blk ?_; refine WK.seq ?_; refine WK.region ?_; refine St.store1 ?_; refine WO.nil ?_)
      refine St.ret1 (A := (p9, .cells (z.map (AV.int .i64)) 148) :: (p8, .cells [.bool true] 4) :: [(p7, .cells [v] 26), (p6, .cells [.int .i64 height] 3), (p5, .cells [.int .i64 lo, .int .i64 hi] 37), (p4, .cells [.int .i64 lv, cv, sv] 25)]) (C := []) rfl (.cell .nil) ?_
      exact ⟨[], _, List.Perm.refl _, rfl, rfl⟩
    · rintro dq c L' ⟨e, hno, z, rfl⟩
      cases e
      rw [hno]
      skip
      refine St.ret1 (A := (p9, .cells (z.map (AV.int .i64)) 148) :: (p8, .cells [.bool false] 4) :: [(p7, .cells [v] 26), (p6, .cells [.int .i64 height] 3), (p5, .cells [.int .i64 lo, .int .i64 hi] 37), (p4, .cells [.int .i64 lv, cv, sv] 25)]) (C := []) rfl (.cell .nil) ?_
      exact ⟨[], _, List.Perm.refl _, rfl, rfl⟩
  obtain ⟨w, L, hcon, rfl, rfl⟩ := key
  exact hcon
end Go.Proofs.Ytekpffjcffeanaa

/- Cuts that are found from left to right: prove over the calculator's memory. -/
namespace Go.Proofs.Ytekpffjcffeanaa
open Go.Proofs.Ytekpffjcffeanaa.Ev

theorem grd_none {a : Nat → List Int} {lv H lo : Int} {k : Nat} (h : grd a lv H lo k = none) : ∀ j, grd a lv H lo (k + j) = none
  | 0 => h
  | j + 1 => by
    rw [← Nat.add_assoc, grd, grd_none h j]
    rfl
theorem grd_len {a : Nat → List Int} {lv H lo : Int} : ∀ {k : Nat} {g q : List Int}, grd a lv H lo k = some (g, q) → g.length ≤ k
  | 0, g, q, h => by
    cases h
    exact Nat.le_refl _
  | k + 1, g, q, h => by
    unfold grd at h
    simp only [Option.bind_eq_some_iff] at h
    obtain ⟨⟨g0, q0⟩, h0, h1⟩ := h
    have := grd_len h0
    simp only at h1
    by_cases c1 : H ≤ lv + sumL (if k = 0 then a k else lowR q0 (a k))
    · rw [if_pos c1] at h1
      simp only [Option.some.injEq, Prod.mk.injEq] at h1
      rw [← h1.1]
      omega
    · rw [if_neg c1] at h1
      by_cases c2 : H ≤ lv + sumL (a k)
      · rw [if_pos c2] at h1
        simp only [Option.some.injEq, Prod.mk.injEq] at h1
        rw [← h1.1, List.length_append, List.length_singleton]
        omega
      · rw [if_neg c2] at h1
        cases h1
set_option maxRecDepth 100000 in
set_option maxHeartbeats 64000000 in
theorem prove_con (h : Heap) (g : Gd h) (lv lo hi height : Int) (cv sv : AV) (cl : List Cw) (ss : List Sh) (hc : CyV h cv cl) (hs : ShV h sv ss) (m : MinOk lv (cys cl) ss lo hi) :
    ∃ v L, Con Try.prog Bs 73 [.agg [.int .i64 lv, cv, sv], .agg [.int .i64 lo, .int .i64 hi], .int .i64 height] h [] v L ∧ ∃ u cu, v = .tup [u, .bool (grd (fun k => addA (cys cl) ss (lo + (k : Int))) lv height lo (hi - lo + 1).toNat).isSome] ∧ (∀ c q, grd (fun k => addA (cys cl) ss (lo + (k : Int))) lv height lo (hi - lo + 1).toNat = some (c, q) → cu = c) ∧ IsL 3 1 cu.length (cu.map (AV.int .i64)) u L := by
  have w := m.w
  have m1 := m.l1
  have m2 := m.le
  have m3 := m.h2
  have m4 := m.n
  have l1 := w.l1
  have l2 := w.l2
  have hA7 : ∀ k : Nat, (addA (cys cl) ss (lo + (k : Int))).length = 7 := fun k => addK_len (Nat.le_refl _) w.n1
  have hAb : ∀ k : Nat, ∀ x ∈ addA (cys cl) ss (lo + (k : Int)), -4000 ≤ x ∧ x ≤ 4000 := fun k => addA_bd (t := lo + (k : Int)) (chkC_all w.cs) (chkS_all w.ss)
  have hy := moments_y h lv lo hi cv sv cl ss hc hs m
  generalize hAd : (fun k : Nat => addA (cys cl) ss (lo + (k : Int))) = A at *
  have hAk : ∀ k : Nat, addA (cys cl) ss (lo + (k : Int)) = A k := fun k => by rw [← hAd]
  simp only [hAk] at hA7 hAb hy
  refine Con.pick (Con.startR rfl Try.func73 rfl rfl Try.ntmps73 rfl rfl (SS.init g) ?_)
  (refine WK.seq ?_; refine WK.region ?_; refine St.box fun _ _ => ?_; refine St.box fun _ _ => ?_; refine St.box fun _ _ => ?_; refine St.assign ?_; refine St.assign ?_; refine WO.nil ?_; refine WK.scope ?_; refine WK.seq ?_; refine WK.region ?_; refine St.alloc fun _ _ => ?_; refine WO.nil ?_; refine WK.seq ?_; refine WK.region ?_; refine St.alloc fun _ _ => ?_; refine WO.nil ?_; refine WK.seq ?_; refine WK.region ?_; refine St.alloc fun _ _ => ?_; refine St.store0 ?_; refine WO.nil ?_; refine WK.seq ?_; refine WK.label ?_; refine WK.seq ?_; refine WK.seq ?_; refine WK.region ?_; refine St.load ?_; refine St.load ?_)
  rename_i p3 hp3 p4 hp4 p5 hp5 p8 hp8 p9 hp9 p10 hp10
  refine St.callR (fun _ => rfl) (fun h2 hh => moments_con h2 hh.gd lv lo hi cv sv) ?_
  rintro u L' ⟨j1, j2, rfl, rfl⟩
  (refine WO.nil ?_; refine WK.block ?_)
  refine WK.perm (L' := (j2, .cells [.int .i64 lo, .int .i64 hi] 37) :: (j1, .cells [.int .i64 lv, cv, sv] 25) :: (p10, .cells [.bool true] 4) :: (p9, .cells [.int .i64 0, .int .i64 0, .int .i64 0, .int .i64 0, .int .i64 0, .int .i64 0, .int .i64 0] 148) :: (p8, .cells [.slice0] 26) :: [(p5, .cells [.int .i64 height] 3), (p4, .cells [.int .i64 lo, .int .i64 hi] 37), (p3, .cells [.int .i64 lv, cv, sv] 25)]) (List.Perm.refl _) ?_
  refine rangeY (hb := h) (j1 := j1) (j2 := j2) (L0 := (p10, .cells [.bool true] 4) :: (p9, .cells [.int .i64 0, .int .i64 0, .int .i64 0, .int .i64 0, .int .i64 0, .int .i64 0, .int .i64 0] 148) :: (p8, .cells [.slice0] 26) :: [(p5, .cells [.int .i64 height] 3), (p4, .cells [.int .i64 lo, .int .i64 hi] 37), (p3, .cells [.int .i64 lv, cv, sv] 25)])
    (fun k Ln => ∃ z c q : List Int, ∃ w Lw, grd A lv height lo k = some (c, q) ∧ z.length = 7 ∧ (∀ x ∈ z, -4000 ≤ x ∧ x ≤ 4000) ∧ (0 < k → z = q) ∧ IsR 3 1 c.length (c.map (AV.int .i64)) w Lw ∧ Ln = (p10, .cells [.bool true] 4) :: (p9, .cells (z.map (AV.int .i64)) 148) :: (p8, .cells [w] 26) :: ([(p5, .cells [.int .i64 height] 3), (p4, .cells [.int .i64 lo, .int .i64 hi] 37), (p3, .cells [.int .i64 lv, cv, sv] 25)] ++ Lw))
    (fun pd Ln => pd = some (.exit 0) ∧ grd A lv height lo (hi - lo + 1).toNat = none ∧ ∃ z : List Int, Ln = (p10, .cells [.bool false] 4) :: (p9, .cells (z.map (AV.int .i64)) 148) :: (p8, .cells [.slice0] 26) :: [(p5, .cells [.int .i64 height] 3), (p4, .cells [.int .i64 lo, .int .i64 hi] 37), (p3, .cells [.int .i64 lv, cv, sv] 25)])
    hy rfl (SS.init g).vw (fun _ h => by cases h) (by (refine perm_cnt fun _ _ => ?_; simp only [List.append_eq, List.cons_append, List.nil_append, List.count_append, List.count_cons, List.count_nil, Nat.add_zero, Nat.zero_add]; try ac_rfl)) ⟨[0, 0, 0, 0, 0, 0, 0], [], [], .slice0, [], rfl, rfl, by simp, fun h => absurd h (Nat.lt_irrefl 0), .nil rfl rfl, rfl⟩ (fun _ => rfl) rfl ?_ ?_ ?_
  · rintro r2 q2 hq2 k Lk h2 hk ⟨z, c, q, w', Lw, hp, hz7, hzb, hzp, hw, rfl⟩ hl2
    have hW2 := hl2.ss.ltW
    have hcl := grd_len hp
    have hst : grd A lv height lo (k + 1) = if height ≤ lv + sumL (if k = 0 then A k else lowR q (A k)) then some (c, if k = 0 then A k else lowR q (A k)) else if height ≤ lv + sumL (A k) then some (c ++ [lo + (k : Int)], A k) else none := by
      rw [grd, hp]
      rfl
    have ak7 := hA7 k
    have akb := hAb k
    have hsa := sum_bd ak7 akb
    unfold sumL at hsa hst
    (refine WK.seq ?_; refine WK.region ?_; refine St.assign ?_; refine WO.nil ?_; refine WK.region ?_; refine St.alloc fun _ _ => ?_)
    rename_i j12 hj12
    refine St.store0 (hv := store_arr (by rw [List.length_map]; exact ak7) rfl (ints_ok _)) ?_
    (refine WO.nil ?_)
    refine WK.busyQ hq2.st (A := [(_, _)]) rfl ?_
    (refine WK.block ?_; refine WK.seq ?_; refine WK.region ?_)
    refine St.load (hv := load_arr (by rw [List.length_map]; exact ak7)) ?_
    (refine St.alloc fun _ _ => ?_)
    rename_i j13 hj13
    refine St.store0 (hv := store_arr (by rw [List.length_map]; exact ak7) rfl (ints_ok _)) ?_
    (refine WO.nil ?_; refine WK.seq ?_; refine WK.seq ?_; refine WK.region ?_; refine St.move ?_; refine St.fieldAddr ?_; refine St.load ?_; refine St.bin ?_; refine WO.nil ?_)
    refine St.splitC (fun b1 => ?_) (fun b1 => ?_)
    · have k0 : k ≠ 0 := by simp at b1; omega
      rw [if_neg k0, ← hzp (by omega)] at hst
      have hy7 := lowR_len (x := z) (y := A k) hz7 ak7
      have hyb := lowR_bd (c := 4000) (x := z) (y := A k) hzb akb
      (refine WK.region ?_)
      refine St.load (hv := load_arr (by rw [List.length_map]; exact hz7)) ?_
      skip
      refine St.load (hv := load_arr (by rw [List.length_map]; exact ak7)) ?_
      skip
      refine St.call (fun _ => rfl) (fun h3 hh => lower_con h3 hh.gd z (A k) hz7 ak7) ?_
      skip
      refine St.store0 (hv := store_arr (by rw [List.length_map]; exact hy7) (by rw [List.length_map]; exact ak7) (ints_ok _)) ?_
      have hsy := sum_bd (l := lowR z (A k)) hy7 hyb
      unfold sumL at hsy
      (refine WO.nil ?_; refine WK.block ?_; refine WK.seq ?_; refine WK.regionD ?_; refine St.fieldAddr ?_; refine St.load ?_)
      refine St.load (hv := load_arr (by rw [List.length_map]; exact hy7)) ?_
      skip
      refine St.call (fun _ => rfl) (fun h3 hh => sum_con h3 hh.gd (lowR z (A k)) hy7 hyb) ?_
      (refine St.binI ?_; refine St.load ?_; refine St.bin ?_; refine St.assign ?_; refine WO.nil ?_)
      refine St.splitC (fun c1 => ?_) (fun c1 => ?_)
      · rw [if_pos (by simpa using c1)] at hst
        (refine WK.region ?_)
        refine St.load (hv := load_arr (by rw [List.length_map]; exact hy7)) ?_
        skip
        refine St.store4 (hv := store_arr (by rw [List.length_map]; exact hy7) (by rw [List.length_map]; exact hz7) (ints_ok _)) ?_
        (refine WO.nil ?_; refine WK.blk ?_; refine WK.blk ?_)
        refine endY (Lk := (p10, .cells [.bool true] 4) :: (p9, .cells ((lowR z (A k)).map (AV.int .i64)) 148) :: (p8, .cells [w'] 26) :: ([(p5, .cells [.int .i64 height] 3), (p4, .cells [.int .i64 lo, .int .i64 hi] 37), (p3, .cells [.int .i64 lv, cv, sv] 25)] ++ Lw)) (X := [(j13, .cells ((lowR z (A k)).map (AV.int .i64)) 148), (j12, .cells ((A k).map (AV.int .i64)) 148)]) ?_ ⟨_, c, _, w', Lw, hst, hy7, hyb, fun _ => rfl, hw, rfl⟩
        (refine perm_cnt fun _ _ => ?_; simp only [List.append_eq, List.cons_append, List.nil_append, List.count_append, List.count_cons, List.count_nil, Nat.add_zero, Nat.zero_add]; try ac_rfl)
      rw [if_neg (by simpa using c1)] at hst
      (refine WK.seq ?_; refine WK.regionD ?_; refine St.fieldAddr ?_; refine St.load ?_)
      refine St.load (hv := load_arr (by rw [List.length_map]; exact ak7)) ?_
      skip
      refine St.call (fun _ => rfl) (fun h3 hh => sum_con h3 hh.gd (A k) ak7 akb) ?_
      (refine St.binI ?_; refine St.load ?_; refine St.bin ?_; refine St.assign ?_; refine WO.nil ?_)
      refine St.splitC (fun c2 => ?_) (fun c2 => ?_)
      rotate_left
      · rw [if_neg (by simpa using c2)] at hst
        (refine WK.seq ?_; refine WK.region ?_; refine St.store5 ?_; refine St.store3 ?_; refine WO.nil ?_)
        refine exitY (Lk := (p10, .cells [.bool false] 4) :: (p9, .cells (z.map (AV.int .i64)) 148) :: (p8, .cells [.slice0] 26) :: [(p5, .cells [.int .i64 height] 3), (p4, .cells [.int .i64 lo, .int .i64 hi] 37), (p3, .cells [.int .i64 lv, cv, sv] 25)]) (X := (j13, .cells ((lowR z (A k)).map (AV.int .i64)) 148) :: (j12, .cells ((A k).map (AV.int .i64)) 148) :: Lw) ?_ ⟨rfl, ?_, _, rfl⟩
        · (refine perm_cnt fun _ _ => ?_; simp only [List.append_eq, List.cons_append, List.nil_append, List.count_append, List.count_cons, List.count_nil, Nat.add_zero, Nat.zero_add]; try ac_rfl)
        · have := grd_none hst ((hi - lo + 1).toNat - (k + 1))
          rw [show k + 1 + ((hi - lo + 1).toNat - (k + 1)) = (hi - lo + 1).toNat by omega] at this
          exact this
      rw [if_pos (by simpa using c2)] at hst
      skip
      cases hw with
      | nil g1 g2 =>
        obtain rfl : c = [] := List.length_eq_zero_iff.1 g1
        refine WK.perm (L' := (j13, .cells ((lowR z (A k)).map (AV.int .i64)) 148) :: (j12, .cells ((A k).map (AV.int .i64)) 148) :: (r2, .loop q2.busy) :: (p10, .cells [.bool true] 4) :: (p9, .cells (z.map (AV.int .i64)) 148) :: (p8, .cells [.slice0] 26) :: [(p5, .cells [.int .i64 height] 3), (p4, .cells [.int .i64 lo, .int .i64 hi] 37), (p3, .cells [.int .i64 lv, cv, sv] 25)]) (List.Perm.refl _) ?_
        refine WK.regionE (n := 9) ((j13, .cells ((lowR z (A k)).map (AV.int .i64)) 148) :: (j12, .cells ((A k).map (AV.int .i64)) 148) :: (r2, .loop q2.busy) :: (p10, .cells [.bool true] 4) :: (p9, .cells (z.map (AV.int .i64)) 148) :: (p8, .cells [.slice0] 26) :: [(p5, .cells [.int .i64 height] 3), (p4, .cells [.int .i64 lo, .int .i64 hi] 37), (p3, .cells [.int .i64 lv, cv, sv] 25)]) (by (repeat (first | exact List.Sublist.refl _ | exact List.nil_sublist _ | apply List.Sublist.cons_cons | apply List.Sublist.cons))) ?_
        refine WE.load 5 ?_
        refine WE.move ?_
        refine WE.mkS 1 (fun i2 hi2 => ?_)
        refine WE.appNil (fun j14 hj14 => ?_) ⟨rfl, rfl, rfl, rfl, rfl, rfl, rfl, rfl, rfl, rfl, rfl, rfl⟩ (List.Mem.head _) rfl rfl
        refine WE.load 1 (hv := load_arr (by rw [List.length_map]; exact ak7)) ?_
        refine WE.store (A := [_, _, _, _, _]) 5 rfl ?_
        refine WE.store (A := [_, _, _, _]) 4 rfl (hv := store_arr (by rw [List.length_map]; exact ak7) (by rw [List.length_map]; exact hz7) (ints_ok _)) ?_
        refine WE.nil ?_
        (refine WK.blk ?_; refine WK.blk ?_)
        refine WK.perm (L' := (j14, .row [.int .i64 (lo + (k : Int))] 3 1) :: (i2, .cells [.int .i64 (lo + (k : Int))] 3) :: (j13, .cells ((lowR z (A k)).map (AV.int .i64)) 148) :: (j12, .cells ((A k).map (AV.int .i64)) 148) :: (r2, .loop q2.busy) :: (p10, .cells [.bool true] 4) :: (p9, .cells ((A k).map (AV.int .i64)) 148) :: (p8, .cells [.slice j14 0 1 (.m 0)] 26) :: [(p5, .cells [.int .i64 height] 3), (p4, .cells [.int .i64 lo, .int .i64 hi] 37), (p3, .cells [.int .i64 lv, cv, sv] 25)]) (List.Perm.refl _) ?_
        refine endY (Lk := (p10, .cells [.bool true] 4) :: (p9, .cells ((A k).map (AV.int .i64)) 148) :: (p8, .cells [.slice j14 0 1 (.m 0)] 26) :: ([(p5, .cells [.int .i64 height] 3), (p4, .cells [.int .i64 lo, .int .i64 hi] 37), (p3, .cells [.int .i64 lv, cv, sv] 25)] ++ [(j14, .row [.int .i64 (lo + (k : Int))] 3 1)])) (X := [(i2, .cells [.int .i64 (lo + (k : Int))] 3), (j13, .cells ((lowR z (A k)).map (AV.int .i64)) 148), (j12, .cells ((A k).map (AV.int .i64)) 148)]) ?_ ⟨A k, [lo + (k : Int)], A k, .slice j14 0 1 (.m 0), _, hst, ak7, akb, fun _ => rfl, .row j14 rfl, rfl⟩
        (refine perm_cnt fun _ _ => ?_; simp only [List.append_eq, List.cons_append, List.nil_append, List.count_append, List.count_cons, List.count_nil, Nat.add_zero, Nat.zero_add]; try ac_rfl)
      | row jr g1 =>
        refine WK.perm (L' := (j13, .cells ((lowR z (A k)).map (AV.int .i64)) 148) :: (j12, .cells ((A k).map (AV.int .i64)) 148) :: (r2, .loop q2.busy) :: (p10, .cells [.bool true] 4) :: (p9, .cells (z.map (AV.int .i64)) 148) :: (p8, .cells [.slice jr 0 c.length (.m 0)] 26) :: ([(p5, .cells [.int .i64 height] 3), (p4, .cells [.int .i64 lo, .int .i64 hi] 37), (p3, .cells [.int .i64 lv, cv, sv] 25)] ++ [(jr, .row (c.map (AV.int .i64)) 3 1)])) (List.Perm.refl _) ?_
        refine WK.regionE (n := 10) ((j13, .cells ((lowR z (A k)).map (AV.int .i64)) 148) :: (j12, .cells ((A k).map (AV.int .i64)) 148) :: (r2, .loop q2.busy) :: (p10, .cells [.bool true] 4) :: (p9, .cells (z.map (AV.int .i64)) 148) :: (p8, .cells [.slice jr 0 c.length (.m 0)] 26) :: ([(p5, .cells [.int .i64 height] 3), (p4, .cells [.int .i64 lo, .int .i64 hi] 37), (p3, .cells [.int .i64 lv, cv, sv] 25)] ++ [(jr, .row (c.map (AV.int .i64)) 3 1)])) (by (repeat (first | exact List.Sublist.refl _ | exact List.nil_sublist _ | apply List.Sublist.cons_cons | apply List.Sublist.cons))) ?_
        refine WE.load 5 ?_
        refine WE.move ?_
        refine WE.mkS 1 (fun i2 hi2 => ?_)
        refine WE.appRow (A := [_, _, _, _, _, _, _, _, _]) (C := []) (lb := 9) rfl rfl (fun j14 hj14 => ?_) ⟨rfl, rfl, rfl, rfl, rfl, rfl, rfl, rfl, rfl, rfl, rfl, rfl⟩ (List.Mem.head _) rfl g1 (by omega) (by omega)
        refine WE.load 1 (hv := load_arr (by rw [List.length_map]; exact ak7)) ?_
        refine WE.store (A := [_, _, _, _, _]) 5 rfl ?_
        refine WE.store (A := [_, _, _, _]) 4 rfl (hv := store_arr (by rw [List.length_map]; exact ak7) (by rw [List.length_map]; exact hz7) (ints_ok _)) ?_
        refine WE.nil ?_
        (refine WK.blk ?_; refine WK.blk ?_)
        refine WK.perm (L' := (j14, .row (c.map (AV.int .i64) ++ [.int .i64 (lo + (k : Int))]) 3 1) :: (i2, .cells [.int .i64 (lo + (k : Int))] 3) :: (j13, .cells ((lowR z (A k)).map (AV.int .i64)) 148) :: (j12, .cells ((A k).map (AV.int .i64)) 148) :: (r2, .loop q2.busy) :: (p10, .cells [.bool true] 4) :: (p9, .cells ((A k).map (AV.int .i64)) 148) :: (p8, .cells [.slice j14 0 (c.length + 1) (.m 0)] 26) :: [(p5, .cells [.int .i64 height] 3), (p4, .cells [.int .i64 lo, .int .i64 hi] 37), (p3, .cells [.int .i64 lv, cv, sv] 25)]) (List.Perm.refl _) ?_
        refine endY (Lk := (p10, .cells [.bool true] 4) :: (p9, .cells ((A k).map (AV.int .i64)) 148) :: (p8, .cells [.slice j14 0 (c.length + 1) (.m 0)] 26) :: ([(p5, .cells [.int .i64 height] 3), (p4, .cells [.int .i64 lo, .int .i64 hi] 37), (p3, .cells [.int .i64 lv, cv, sv] 25)] ++ [(j14, .row (c.map (AV.int .i64) ++ [.int .i64 (lo + (k : Int))]) 3 1)])) (X := [(i2, .cells [.int .i64 (lo + (k : Int))] 3), (j13, .cells ((lowR z (A k)).map (AV.int .i64)) 148), (j12, .cells ((A k).map (AV.int .i64)) 148)]) ?_ ⟨A k, c ++ [lo + (k : Int)], A k, .slice j14 0 (c.length + 1) (.m 0), _, hst, ak7, akb, fun _ => rfl, ?_, rfl⟩
        · (refine perm_cnt fun _ _ => ?_; simp only [List.append_eq, List.cons_append, List.nil_append, List.count_append, List.count_cons, List.count_nil, Nat.add_zero, Nat.zero_add]; try ac_rfl)
        · rw [List.length_append, List.map_append]
          exact .row j14 (by simp)
    · have k0 : k = 0 := by simp at b1; omega
      rw [if_pos k0] at hst
      have hsy := sum_bd (l := A k) ak7 akb
      unfold sumL at hsy
      (refine WK.skip ?_; refine WK.block ?_; refine WK.seq ?_; refine WK.regionD ?_; refine St.fieldAddr ?_; refine St.load ?_)
      refine St.load (hv := load_arr (by rw [List.length_map]; exact ak7)) ?_
      skip
      refine St.call (fun _ => rfl) (fun h3 hh => sum_con h3 hh.gd (A k) ak7 akb) ?_
      (refine St.binI ?_; refine St.load ?_; refine St.bin ?_; refine St.assign ?_; refine WO.nil ?_)
      refine St.splitC (fun c1 => ?_) (fun c1 => ?_)
      · rw [if_pos (by simpa using c1)] at hst
        (refine WK.region ?_)
        refine St.load (hv := load_arr (by rw [List.length_map]; exact ak7)) ?_
        skip
        refine St.store4 (hv := store_arr (by rw [List.length_map]; exact ak7) (by rw [List.length_map]; exact hz7) (ints_ok _)) ?_
        (refine WO.nil ?_; refine WK.blk ?_; refine WK.blk ?_)
        refine endY (Lk := (p10, .cells [.bool true] 4) :: (p9, .cells ((A k).map (AV.int .i64)) 148) :: (p8, .cells [w'] 26) :: ([(p5, .cells [.int .i64 height] 3), (p4, .cells [.int .i64 lo, .int .i64 hi] 37), (p3, .cells [.int .i64 lv, cv, sv] 25)] ++ Lw)) (X := [(j13, .cells ((A k).map (AV.int .i64)) 148), (j12, .cells ((A k).map (AV.int .i64)) 148)]) ?_ ⟨_, c, _, w', Lw, hst, ak7, akb, fun _ => rfl, hw, rfl⟩
        (refine perm_cnt fun _ _ => ?_; simp only [List.append_eq, List.cons_append, List.nil_append, List.count_append, List.count_cons, List.count_nil, Nat.add_zero, Nat.zero_add]; try ac_rfl)
      rw [if_neg (by simpa using c1)] at hst
      (refine WK.seq ?_; refine WK.regionD ?_; refine St.fieldAddr ?_; refine St.load ?_)
      refine St.load (hv := load_arr (by rw [List.length_map]; exact ak7)) ?_
      skip
      refine St.call (fun _ => rfl) (fun h3 hh => sum_con h3 hh.gd (A k) ak7 akb) ?_
      (refine St.binI ?_; refine St.load ?_; refine St.bin ?_; refine St.assign ?_; refine WO.nil ?_)
      refine St.splitC (fun c2 => ?_) (fun c2 => ?_)
      rotate_left
      · rw [if_neg (by simpa using c2)] at hst
        (refine WK.seq ?_; refine WK.region ?_; refine St.store5 ?_; refine St.store3 ?_; refine WO.nil ?_)
        refine exitY (Lk := (p10, .cells [.bool false] 4) :: (p9, .cells (z.map (AV.int .i64)) 148) :: (p8, .cells [.slice0] 26) :: [(p5, .cells [.int .i64 height] 3), (p4, .cells [.int .i64 lo, .int .i64 hi] 37), (p3, .cells [.int .i64 lv, cv, sv] 25)]) (X := (j13, .cells ((A k).map (AV.int .i64)) 148) :: (j12, .cells ((A k).map (AV.int .i64)) 148) :: Lw) ?_ ⟨rfl, ?_, _, rfl⟩
        · (refine perm_cnt fun _ _ => ?_; simp only [List.append_eq, List.cons_append, List.nil_append, List.count_append, List.count_cons, List.count_nil, Nat.add_zero, Nat.zero_add]; try ac_rfl)
        · have := grd_none hst ((hi - lo + 1).toNat - (k + 1))
          rw [show k + 1 + ((hi - lo + 1).toNat - (k + 1)) = (hi - lo + 1).toNat by omega] at this
          exact this
      rw [if_pos (by simpa using c2)] at hst
      skip
      cases hw with
      | nil g1 g2 =>
        obtain rfl : c = [] := List.length_eq_zero_iff.1 g1
        refine WK.perm (L' := (j13, .cells ((A k).map (AV.int .i64)) 148) :: (j12, .cells ((A k).map (AV.int .i64)) 148) :: (r2, .loop q2.busy) :: (p10, .cells [.bool true] 4) :: (p9, .cells (z.map (AV.int .i64)) 148) :: (p8, .cells [.slice0] 26) :: [(p5, .cells [.int .i64 height] 3), (p4, .cells [.int .i64 lo, .int .i64 hi] 37), (p3, .cells [.int .i64 lv, cv, sv] 25)]) (List.Perm.refl _) ?_
        refine WK.regionE (n := 9) ((j13, .cells ((A k).map (AV.int .i64)) 148) :: (j12, .cells ((A k).map (AV.int .i64)) 148) :: (r2, .loop q2.busy) :: (p10, .cells [.bool true] 4) :: (p9, .cells (z.map (AV.int .i64)) 148) :: (p8, .cells [.slice0] 26) :: [(p5, .cells [.int .i64 height] 3), (p4, .cells [.int .i64 lo, .int .i64 hi] 37), (p3, .cells [.int .i64 lv, cv, sv] 25)]) (by (repeat (first | exact List.Sublist.refl _ | exact List.nil_sublist _ | apply List.Sublist.cons_cons | apply List.Sublist.cons))) ?_
        refine WE.load 5 ?_
        refine WE.move ?_
        refine WE.mkS 1 (fun i2 hi2 => ?_)
        refine WE.appNil (fun j14 hj14 => ?_) ⟨rfl, rfl, rfl, rfl, rfl, rfl, rfl, rfl, rfl, rfl, rfl, rfl⟩ (List.Mem.head _) rfl rfl
        refine WE.load 1 (hv := load_arr (by rw [List.length_map]; exact ak7)) ?_
        refine WE.store (A := [_, _, _, _, _]) 5 rfl ?_
        refine WE.store (A := [_, _, _, _]) 4 rfl (hv := store_arr (by rw [List.length_map]; exact ak7) (by rw [List.length_map]; exact hz7) (ints_ok _)) ?_
        refine WE.nil ?_
        (refine WK.blk ?_; refine WK.blk ?_)
        refine WK.perm (L' := (j14, .row [.int .i64 (lo + (k : Int))] 3 1) :: (i2, .cells [.int .i64 (lo + (k : Int))] 3) :: (j13, .cells ((A k).map (AV.int .i64)) 148) :: (j12, .cells ((A k).map (AV.int .i64)) 148) :: (r2, .loop q2.busy) :: (p10, .cells [.bool true] 4) :: (p9, .cells ((A k).map (AV.int .i64)) 148) :: (p8, .cells [.slice j14 0 1 (.m 0)] 26) :: [(p5, .cells [.int .i64 height] 3), (p4, .cells [.int .i64 lo, .int .i64 hi] 37), (p3, .cells [.int .i64 lv, cv, sv] 25)]) (List.Perm.refl _) ?_
        refine endY (Lk := (p10, .cells [.bool true] 4) :: (p9, .cells ((A k).map (AV.int .i64)) 148) :: (p8, .cells [.slice j14 0 1 (.m 0)] 26) :: ([(p5, .cells [.int .i64 height] 3), (p4, .cells [.int .i64 lo, .int .i64 hi] 37), (p3, .cells [.int .i64 lv, cv, sv] 25)] ++ [(j14, .row [.int .i64 (lo + (k : Int))] 3 1)])) (X := [(i2, .cells [.int .i64 (lo + (k : Int))] 3), (j13, .cells ((A k).map (AV.int .i64)) 148), (j12, .cells ((A k).map (AV.int .i64)) 148)]) ?_ ⟨A k, [lo + (k : Int)], A k, .slice j14 0 1 (.m 0), _, hst, ak7, akb, fun _ => rfl, .row j14 rfl, rfl⟩
        (refine perm_cnt fun _ _ => ?_; simp only [List.append_eq, List.cons_append, List.nil_append, List.count_append, List.count_cons, List.count_nil, Nat.add_zero, Nat.zero_add]; try ac_rfl)
      | row jr g1 =>
        refine WK.perm (L' := (j13, .cells ((A k).map (AV.int .i64)) 148) :: (j12, .cells ((A k).map (AV.int .i64)) 148) :: (r2, .loop q2.busy) :: (p10, .cells [.bool true] 4) :: (p9, .cells (z.map (AV.int .i64)) 148) :: (p8, .cells [.slice jr 0 c.length (.m 0)] 26) :: ([(p5, .cells [.int .i64 height] 3), (p4, .cells [.int .i64 lo, .int .i64 hi] 37), (p3, .cells [.int .i64 lv, cv, sv] 25)] ++ [(jr, .row (c.map (AV.int .i64)) 3 1)])) (List.Perm.refl _) ?_
        refine WK.regionE (n := 10) ((j13, .cells ((A k).map (AV.int .i64)) 148) :: (j12, .cells ((A k).map (AV.int .i64)) 148) :: (r2, .loop q2.busy) :: (p10, .cells [.bool true] 4) :: (p9, .cells (z.map (AV.int .i64)) 148) :: (p8, .cells [.slice jr 0 c.length (.m 0)] 26) :: ([(p5, .cells [.int .i64 height] 3), (p4, .cells [.int .i64 lo, .int .i64 hi] 37), (p3, .cells [.int .i64 lv, cv, sv] 25)] ++ [(jr, .row (c.map (AV.int .i64)) 3 1)])) (by (repeat (first | exact List.Sublist.refl _ | exact List.nil_sublist _ | apply List.Sublist.cons_cons | apply List.Sublist.cons))) ?_
        refine WE.load 5 ?_
        refine WE.move ?_
        refine WE.mkS 1 (fun i2 hi2 => ?_)
        refine WE.appRow (A := [_, _, _, _, _, _, _, _, _]) (C := []) (lb := 9) rfl rfl (fun j14 hj14 => ?_) ⟨rfl, rfl, rfl, rfl, rfl, rfl, rfl, rfl, rfl, rfl, rfl, rfl⟩ (List.Mem.head _) rfl g1 (by omega) (by omega)
        refine WE.load 1 (hv := load_arr (by rw [List.length_map]; exact ak7)) ?_
        refine WE.store (A := [_, _, _, _, _]) 5 rfl ?_
        refine WE.store (A := [_, _, _, _]) 4 rfl (hv := store_arr (by rw [List.length_map]; exact ak7) (by rw [List.length_map]; exact hz7) (ints_ok _)) ?_
        refine WE.nil ?_
        (refine WK.blk ?_; refine WK.blk ?_)
        refine WK.perm (L' := (j14, .row (c.map (AV.int .i64) ++ [.int .i64 (lo + (k : Int))]) 3 1) :: (i2, .cells [.int .i64 (lo + (k : Int))] 3) :: (j13, .cells ((A k).map (AV.int .i64)) 148) :: (j12, .cells ((A k).map (AV.int .i64)) 148) :: (r2, .loop q2.busy) :: (p10, .cells [.bool true] 4) :: (p9, .cells ((A k).map (AV.int .i64)) 148) :: (p8, .cells [.slice j14 0 (c.length + 1) (.m 0)] 26) :: [(p5, .cells [.int .i64 height] 3), (p4, .cells [.int .i64 lo, .int .i64 hi] 37), (p3, .cells [.int .i64 lv, cv, sv] 25)]) (List.Perm.refl _) ?_
        refine endY (Lk := (p10, .cells [.bool true] 4) :: (p9, .cells ((A k).map (AV.int .i64)) 148) :: (p8, .cells [.slice j14 0 (c.length + 1) (.m 0)] 26) :: ([(p5, .cells [.int .i64 height] 3), (p4, .cells [.int .i64 lo, .int .i64 hi] 37), (p3, .cells [.int .i64 lv, cv, sv] 25)] ++ [(j14, .row (c.map (AV.int .i64) ++ [.int .i64 (lo + (k : Int))]) 3 1)])) (X := [(i2, .cells [.int .i64 (lo + (k : Int))] 3), (j13, .cells ((A k).map (AV.int .i64)) 148), (j12, .cells ((A k).map (AV.int .i64)) 148)]) ?_ ⟨A k, c ++ [lo + (k : Int)], A k, .slice j14 0 (c.length + 1) (.m 0), _, hst, ak7, akb, fun _ => rfl, ?_, rfl⟩
        · (refine perm_cnt fun _ _ => ?_; simp only [List.append_eq, List.cons_append, List.nil_append, List.count_append, List.count_cons, List.count_nil, Nat.add_zero, Nat.zero_add]; try ac_rfl)
        · rw [List.length_append, List.map_append]
          exact .row j14 (by simp)
  · rintro dq L' ⟨z, c, q, w', Lw, hp, hz7, hzb, hzp, hw, rfl⟩
    rw [hp]
    (refine WK.blk ?_; refine WK.seq ?_; refine WK.regionD ?_; refine St.load ?_; refine St.load ?_; refine St.assign ?_; refine St.assign ?_; refine WO.nil ?_)
    refine St.ret1 (A := (p10, .cells [.bool true] 4) :: (p9, .cells (z.map (AV.int .i64)) 148) :: (p8, .cells [w'] 26) :: ([(p5, .cells [.int .i64 height] 3), (p4, .cells [.int .i64 lo, .int .i64 hi] 37), (p3, .cells [.int .i64 lv, cv, sv] 25)] ++ Lw)) (C := []) rfl (.tmp (.tmp .nil)) ?_
    refine ⟨Lw, (p10, .cells [.bool true] 4) :: (p9, .cells (z.map (AV.int .i64)) 148) :: (p8, .cells [w'] 26) :: [(p5, .cells [.int .i64 height] 3), (p4, .cells [.int .i64 lo, .int .i64 hi] 37), (p3, .cells [.int .i64 lv, cv, sv] 25)], ?_, w', c, rfl, fun c' q' e => by cases e; rfl, hw.isL⟩
    (refine perm_cnt fun _ _ => ?_; simp only [List.append_eq, List.cons_append, List.nil_append, List.count_append, List.count_cons, List.count_nil, Nat.add_zero, Nat.zero_add]; try ac_rfl)
  · rintro dq cx L' ⟨e, hno, z, rfl⟩
    cases e
    rw [hno]
    (refine WK.exit ?_; refine WK.seq ?_; refine WK.regionD ?_; refine St.load ?_; refine St.load ?_; refine St.assign ?_; refine St.assign ?_; refine WO.nil ?_)
    refine St.ret1 (A := (p10, .cells [.bool false] 4) :: (p9, .cells (z.map (AV.int .i64)) 148) :: (p8, .cells [.slice0] 26) :: [(p5, .cells [.int .i64 height] 3), (p4, .cells [.int .i64 lo, .int .i64 hi] 37), (p3, .cells [.int .i64 lv, cv, sv] 25)]) (C := []) rfl (.tmp (.tmp .nil)) ?_
    exact ⟨[], _, List.Perm.refl _, .slice0, [], rfl, fun c' q' e => (by cases e), .nil rfl rfl⟩
end Go.Proofs.Ytekpffjcffeanaa

/- Prove and CheckProof; the law TideProofsHold over the calculator's memory. -/
namespace Go.Proofs.Ytekpffjcffeanaa
open Go.Proofs.Ytekpffjcffeanaa.Ev

def addF (cs : List Cy) (ss : List Sh) (lo : Int) (k : Nat) : List Int := addA cs ss (lo + (k : Int))
def pvS : Option (List Int × List Int) → List Int × Int
  | none => ([], 5)
  | some r => if 2000 < r.1.length then ([], 2) else (r.1, 0)
/-- what Prove returns: the cuts, and an error -/
def pvR (lv : Int) (cs : List Cy) (ss : List Sh) (lo hi height : Int) : List Int × Int :=
  if minR lv cs ss lo hi ≠ 0 then ([], minR lv cs ss lo hi) else pvS (grd (addF cs ss lo) lv height lo (hi - lo + 1).toNat)
/-- what CheckProof returns -/
def cpR (lv : Int) (cs : List Cy) (ss : List Sh) (lo hi height : Int) (C : List Int) : Int :=
  if minR lv cs ss lo hi ≠ 0 then minR lv cs ss lo hi else if 2000 < C.length then 2 else if (cutsB hi lo C && (prv (addF cs ss lo) lv height lo C (hi - lo + 1).toNat).isSome) = false then 8 else 0
set_option maxRecDepth 100000 in
set_option maxHeartbeats 8000000 in
theorem proveP_con (h : Heap) (g : Gd h) (lv lo hi height : Int) (cv sv : AV) (cl : List Cw) (ss : List Sh) (hc : CyV h cv cl) (hs : ShV h sv ss) :
    ∃ v L, Con Try.prog Bs 29 [.agg [.int .i64 lv, cv, sv], .agg [.int .i64 lo, .int .i64 hi], .int .i64 height] h [] v L ∧ ∃ u, v = .tup [u, .int .i64 (pvR lv (cys cl) ss lo hi height).2] ∧ IsL 3 1 (pvR lv (cys cl) ss lo hi height).1.length ((pvR lv (cys cl) ss lo hi height).1.map (AV.int .i64)) u L := by
  refine Con.pick (Con.startR rfl Try.func29 rfl rfl Try.ntmps29 rfl rfl (SS.init g) ?_)
  (refine WK.seq ?_; refine WK.region ?_; refine St.box fun _ _ => ?_; refine St.box fun _ _ => ?_; refine St.assign ?_; refine St.assign ?_; refine WO.nil ?_; refine WK.seq ?_; refine WK.seq ?_; refine WK.region ?_; refine St.load ?_; refine St.load ?_)
  rename_i p3 hp3 p4 hp4
  refine St.call (fun _ => rfl) (fun h2 hh => checkMinutes_con h2 hh.gd lv lo hi cv sv cl ss (hc.vw hh) (hs.vw hh)) ?_
  (refine St.assign ?_; refine WO.nil ?_; refine WK.seq ?_; refine WK.region ?_; refine St.move ?_; refine St.bin ?_; refine WO.nil ?_)
  refine St.splitC (fun h1 => ?_) (fun h1 => ?_)
  · (refine WK.seq ?_; refine WK.region ?_; refine St.move ?_; refine St.assign ?_; refine St.assign ?_; refine WO.nil ?_)
    refine St.ret (by first | exact .tmp .nil | exact .cell .nil | exact .cell (.tmp .nil) | exact .tmp (.tmp .nil) | exact .cell (.cell .nil) | exact .tmp (.cell .nil) | exact .nil | exact .tmp (.cell (.tmp .nil)) | exact .cell (.tmp (.tmp .nil)) | exact .cell (.cell (.tmp .nil)) | exact .tmp (.tmp (.tmp .nil)) | exact .cell (.cell (.cell .nil))) ?_
    have e : pvR lv (cys cl) ss lo hi height = ([], minR lv (cys cl) ss lo hi) := if_pos (by simpa using h1)
    rw [e]
    exact ⟨[], _, List.Perm.refl _, _, rfl, .nil rfl rfl⟩
  have e1 : minR lv (cys cl) ss lo hi = 0 := by simpa using h1
  have m := minR_ok e1
  have e : pvR lv (cys cl) ss lo hi height = pvS (grd (addF (cys cl) ss lo) lv height lo (hi - lo + 1).toNat) := if_neg (by simp [e1])
  rw [e]
  (refine WK.skip ?_; refine WK.seq ?_; refine WK.region ?_; refine St.load ?_; refine St.load ?_; refine St.move ?_)
  refine St.callR (fun _ => rfl) (fun h2 hh => prove_con h2 hh.gd lv lo hi height cv sv cl ss (hc.vw hh) (hs.vw hh) m) ?_
  rintro v L1 ⟨u, cu, rfl, hcu, hu⟩
  have ef : (fun k : Nat => addA (cys cl) ss (lo + (k : Int))) = addF (cys cl) ss lo := rfl
  rw [ef] at hcu ⊢
  refine WO.permF (L' := (p4, .cells [.int .i64 lo, .int .i64 hi] 37) :: (p3, .cells [.int .i64 lv, cv, sv] 25) :: L1) (by (refine perm_cnt fun _ _ => ?_; simp only [List.append_eq, List.cons_append, List.nil_append, List.count_append, List.count_cons, List.count_nil, Nat.add_zero, Nat.zero_add]; try ac_rfl)) ?_
  cases hG : grd (addF (cys cl) ss lo) lv height lo (hi - lo + 1).toNat with
  | none =>
    (refine St.move ?_; refine St.extract ?_; refine St.extract ?_; refine St.assign ?_; refine St.assign ?_; refine WO.nil ?_; refine WK.seq ?_; refine WK.seq ?_; refine WK.region ?_; refine St.move ?_; refine St.un ?_; refine WO.nil ?_; refine WK.condT ?_; refine WK.seq ?_; refine WK.region ?_; refine St.assign ?_; refine St.assign ?_; refine WO.nil ?_)
    refine St.ret (by first | exact .tmp .nil | exact .cell .nil | exact .cell (.tmp .nil) | exact .tmp (.tmp .nil) | exact .cell (.cell .nil) | exact .tmp (.cell .nil) | exact .nil | exact .tmp (.cell (.tmp .nil)) | exact .cell (.tmp (.tmp .nil)) | exact .cell (.cell (.tmp .nil)) | exact .tmp (.tmp (.tmp .nil)) | exact .cell (.cell (.cell .nil))) ?_
    exact ⟨[], _, List.Perm.refl _, _, rfl, .nil rfl rfl⟩
  | some r =>
    obtain ⟨c, q⟩ := r
    obtain rfl := hcu c q hG
    have ep : pvS (some (cu, q)) = if 2000 < cu.length then ([], 2) else (cu, 0) := rfl
    rw [ep]
    (refine St.move ?_; refine St.extract ?_; refine St.extract ?_; refine St.assign ?_; refine St.assign ?_; refine WO.nil ?_; refine WK.seq ?_; refine WK.seq ?_; refine WK.region ?_; refine St.move ?_; refine St.un ?_; refine WO.nil ?_; refine WK.condF ?_; refine WK.skip ?_; refine WK.seq ?_; refine WK.seq ?_; refine WK.region ?_; refine St.move ?_)
    refine St.lenV rfl (isl_len hu Try.underlying26) ?_
    (refine St.bin ?_; refine WO.nil ?_)
    refine St.splitC (fun h2 => ?_) (fun h2 => ?_)
    · rw [if_pos (by simp at h2; omega)]
      (refine WK.seq ?_; refine WK.region ?_; refine St.assign ?_; refine St.assign ?_; refine WO.nil ?_)
      refine St.ret (by first | exact .tmp .nil | exact .cell .nil | exact .cell (.tmp .nil) | exact .tmp (.tmp .nil) | exact .cell (.cell .nil) | exact .tmp (.cell .nil) | exact .nil | exact .tmp (.cell (.tmp .nil)) | exact .cell (.tmp (.tmp .nil)) | exact .cell (.cell (.tmp .nil)) | exact .tmp (.tmp (.tmp .nil)) | exact .cell (.cell (.cell .nil))) ?_
      exact ⟨[], _, List.Perm.refl _, _, rfl, .nil rfl rfl⟩
    · rw [if_neg (by simp at h2; omega)]
      (refine WK.skip ?_; refine WK.seq ?_; refine WK.region ?_; refine St.move ?_; refine St.assign ?_; refine St.assign ?_; refine WO.nil ?_)
      refine St.ret (by first | exact .tmp .nil | exact .cell .nil | exact .cell (.tmp .nil) | exact .tmp (.tmp .nil) | exact .cell (.cell .nil) | exact .tmp (.cell .nil) | exact .nil | exact .tmp (.cell (.tmp .nil)) | exact .cell (.tmp (.tmp .nil)) | exact .cell (.cell (.tmp .nil)) | exact .tmp (.tmp (.tmp .nil)) | exact .cell (.cell (.cell .nil))) ?_
      refine ⟨L1, [(p4, .cells [.int .i64 lo, .int .i64 hi] 37), (p3, .cells [.int .i64 lv, cv, sv] 25)], ?_, u, rfl, hu⟩
      (refine perm_cnt fun _ _ => ?_; simp only [List.append_eq, List.cons_append, List.nil_append, List.count_append, List.count_cons, List.count_nil, Nat.add_zero, Nat.zero_add]; try ac_rfl)
set_option maxRecDepth 100000 in
set_option maxHeartbeats 8000000 in
theorem checkProof_con (h : Heap) (g : Gd h) (lv lo hi height : Int) (cv sv v : AV) (cl : List Cw) (ss : List Sh) (C : List Int) (hc : CyV h cv cl) (hs : ShV h sv ss) (hv : ItV h v C) (hl : C.length ≤ 9223372036854775807) :
    Con Try.prog Bs 30 [.agg [.int .i64 lv, cv, sv], .agg [.int .i64 lo, .int .i64 hi], .int .i64 height, v] h [] (.int .i64 (cpR lv (cys cl) ss lo hi height C)) [] := by
  refine Con.start rfl Try.func30 rfl rfl Try.ntmps30 rfl rfl g ?_
  (refine WK.seq ?_; refine WK.region ?_; refine St.box fun _ _ => ?_; refine St.box fun _ _ => ?_; refine St.assign ?_; refine WO.nil ?_; refine WK.seq ?_; refine WK.seq ?_; refine WK.region ?_; refine St.load ?_; refine St.load ?_)
  refine St.call (fun _ => rfl) (fun h2 hh => checkMinutes_con h2 hh.gd lv lo hi cv sv cl ss (hc.vw hh) (hs.vw hh)) ?_
  (refine St.assign ?_; refine WO.nil ?_; refine WK.seq ?_; refine WK.region ?_; refine St.move ?_; refine St.bin ?_; refine WO.nil ?_)
  refine St.splitC (fun h1 => ?_) (fun h1 => ?_)
  · (refine WK.seq ?_; refine WK.region ?_; refine St.move ?_; refine St.assign ?_; refine WO.nil ?_)
    refine St.ret (by first | exact .tmp .nil | exact .cell .nil | exact .cell (.tmp .nil) | exact .tmp (.tmp .nil) | exact .cell (.cell .nil) | exact .tmp (.cell .nil) | exact .nil | exact .tmp (.cell (.tmp .nil)) | exact .cell (.tmp (.tmp .nil)) | exact .cell (.cell (.tmp .nil)) | exact .tmp (.tmp (.tmp .nil)) | exact .cell (.cell (.cell .nil))) ?_
    have e : cpR lv (cys cl) ss lo hi height C = minR lv (cys cl) ss lo hi := if_pos (by simpa using h1)
    rw [e]
    rfl
  have e1 : minR lv (cys cl) ss lo hi = 0 := by simpa using h1
  have m := minR_ok e1
  have e : cpR lv (cys cl) ss lo hi height C = if 2000 < C.length then 2 else if (cutsB hi lo C && (prv (addF (cys cl) ss lo) lv height lo C (hi - lo + 1).toNat).isSome) = false then 8 else 0 := if_neg (by simp [e1])
  rw [e]
  (refine WK.skip ?_; refine WK.seq ?_; refine WK.seq ?_; refine WK.region ?_; refine St.move ?_)
  refine St.lenV rfl hv.len ?_
  (refine St.bin ?_; refine WO.nil ?_)
  refine St.splitC (fun h2 => ?_) (fun h2 => ?_)
  · rw [if_pos (by simp at h2; omega)]
    (refine WK.seq ?_; refine WK.region ?_; refine St.assign ?_; refine WO.nil ?_)
    refine St.ret (by first | exact .tmp .nil | exact .cell .nil | exact .cell (.tmp .nil) | exact .tmp (.tmp .nil) | exact .cell (.cell .nil) | exact .tmp (.cell .nil) | exact .nil | exact .tmp (.cell (.tmp .nil)) | exact .cell (.tmp (.tmp .nil)) | exact .cell (.cell (.tmp .nil)) | exact .tmp (.tmp (.tmp .nil)) | exact .cell (.cell (.cell .nil))) ?_
    rfl
  rw [if_neg (by simp at h2; omega)]
  have hl2 : C.length ≤ 1000000 := by simp at h2; omega
  (refine WK.skip ?_; refine WK.seq ?_; refine WK.seq ?_; refine WK.region ?_; refine St.load ?_; refine St.move ?_)
  refine St.call (fun _ => rfl) (fun h2 hh => areCuts_con h2 hh.gd lo hi v C (hv.vw hh) hl) ?_
  cases hcu : cutsB hi lo C with
  | false =>
    (refine St.un ?_; refine St.move ?_; refine St.skip ?_; refine St.skip ?_; refine St.skip ?_; refine St.skip ?_; refine St.skip ?_; refine St.skip ?_; refine St.pickT ?_; refine WO.nil ?_; refine WK.condT ?_; refine WK.seq ?_; refine WK.region ?_; refine St.assign ?_; refine WO.nil ?_)
    refine St.ret (by first | exact .tmp .nil | exact .cell .nil | exact .cell (.tmp .nil) | exact .tmp (.tmp .nil) | exact .cell (.cell .nil) | exact .tmp (.cell .nil) | exact .nil | exact .tmp (.cell (.tmp .nil)) | exact .cell (.tmp (.tmp .nil)) | exact .cell (.cell (.tmp .nil)) | exact .tmp (.tmp (.tmp .nil)) | exact .cell (.cell (.cell .nil))) ?_
    rfl
  | true =>
    obtain ⟨hC, _⟩ := cutsB_asc hcu
    (refine St.un ?_; refine St.move ?_; refine St.load ?_; refine St.load ?_; refine St.move ?_; refine St.move ?_)
    refine St.call (fun _ => rfl) (fun h2 hh => proves_con h2 hh.gd lv lo hi height cv sv v cl ss C (hc.vw hh) (hs.vw hh) (hv.vw hh) hl2 m hC) ?_
    have ef : (fun k : Nat => addA (cys cl) ss (lo + (k : Int))) = addF (cys cl) ss lo := rfl
    rw [ef]
    generalize (prv (addF (cys cl) ss lo) lv height lo C (hi - lo + 1).toNat).isSome = b
    cases b
    · (refine St.un ?_; refine St.pickF ?_; refine WO.nil ?_; refine WK.condT ?_; refine WK.seq ?_; refine WK.region ?_; refine St.assign ?_; refine WO.nil ?_)
      refine St.ret (by first | exact .tmp .nil | exact .cell .nil | exact .cell (.tmp .nil) | exact .tmp (.tmp .nil) | exact .cell (.cell .nil) | exact .tmp (.cell .nil) | exact .nil | exact .tmp (.cell (.tmp .nil)) | exact .cell (.tmp (.tmp .nil)) | exact .cell (.cell (.tmp .nil)) | exact .tmp (.tmp (.tmp .nil)) | exact .cell (.cell (.cell .nil))) ?_
      rfl
    · (refine St.un ?_; refine St.pickF ?_; refine WO.nil ?_; refine WK.condF ?_; refine WK.skip ?_; refine WK.seq ?_; refine WK.region ?_; refine St.assign ?_; refine WO.nil ?_)
      refine St.ret (by first | exact .tmp .nil | exact .cell .nil | exact .cell (.tmp .nil) | exact .tmp (.tmp .nil) | exact .cell (.cell .nil) | exact .tmp (.cell .nil) | exact .nil | exact .tmp (.cell (.tmp .nil)) | exact .cell (.tmp (.tmp .nil)) | exact .cell (.cell (.tmp .nil)) | exact .tmp (.tmp (.tmp .nil)) | exact .cell (.cell (.cell .nil))) ?_
      rfl
end Go.Proofs.Ytekpffjcffeanaa
