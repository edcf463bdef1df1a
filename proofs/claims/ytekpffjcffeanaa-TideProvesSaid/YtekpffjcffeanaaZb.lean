/- Plain facts: the reference's way of finding cuts and looking at them comes to the same. No walk. -/
import Derived.Test.YtekpffjcffeanaaZa
import Derived.Test.YtekpffjcffeanaaUd
import Derived.Test.YtekpffjcffeanaaWo
namespace Go.Proofs.Ytekpffjcffeanaa

/-- the first one comes last -/
def rotL : List Int → List Int
  | [] => []
  | p :: x => x ++ [p]
theorem rotL_len : ∀ x : List Int, (rotL x).length = x.length
  | [] => rfl
  | p :: x => by simp [rotL]
theorem rotL_low : ∀ {x y : List Int}, x.length = y.length → lowR (rotL x) (rotL y) = rotL (lowR x y)
  | [], [], _ => rfl
  | p :: x, q :: y, h => by
    have h1 : x.length = y.length := by simpa using h
    show List.zipWith min (x ++ [p]) (y ++ [q]) = List.zipWith min x y ++ [min p q]
    rw [List.zipWith_append h1]
    rfl
  | [], _ :: _, h => by simp at h
  | _ :: _, [], h => by simp at h
theorem foldl_from (l : List Int) : ∀ x : Int, l.foldl (· + ·) x = x + l.foldl (· + ·) 0 := by
  induction l with
  | nil => intro x; simp
  | cons y l ih => intro x; rw [List.foldl_cons, List.foldl_cons, ih (x + y), ih (0 + y)]; omega
theorem rotL_sum : ∀ x : List Int, sumL (rotL x) = sumL x
  | [] => rfl
  | p :: x => by
    unfold sumL rotL
    rw [List.foldl_append]
    show x.foldl (· + ·) 0 + p = x.foldl (· + ·) (0 + p)
    rw [foldl_from x (0 + p)]
    omega
section
variable (a : Nat → List Int) (lv H lo : Int)
/-- what the reference has after k more minutes: cuts, and the least since the last; it never ends -/
def grw : Nat → List Int × List Int
  | 0 => ([], a 0)
  | k + 1 => if lv + sumL (lowR (grw k).2 (a (k + 1))) < H then ((grw k).1 ++ [lo + ((k + 1 : Nat) : Int)], a (k + 1)) else ((grw k).1, lowR (grw k).2 (a (k + 1)))
/-- where no minute is too low, both have the same cuts -/
theorem grw_grd {n : Nat} (ha : ∀ k, (a k).length = n) : ∀ {k : Nat}, (∀ i, i ≤ k → H ≤ lv + sumL (a i)) → grd a lv H lo (k + 1) = some (grw a lv H lo k) ∧ (grw a lv H lo k).2.length = n
  | 0, h => by
    have h0 := h 0 (Nat.le_refl _)
    refine ⟨?_, ha 0⟩
    show (some (([] : List Int), ([] : List Int))).bind _ = _
    rw [Option.bind_some]
    simp only [if_true]
    rw [if_pos h0]
    rfl
  | k + 1, h => by
    obtain ⟨i1, i2⟩ := grw_grd ha (k := k) fun i hi => h i (by omega)
    have hk := h (k + 1) (Nat.le_refl _)
    rw [grd, i1, Option.bind_some]
    simp only [Nat.succ_ne_zero, if_false]
    rw [grw]
    by_cases c : lv + sumL (lowR (grw a lv H lo k).2 (a (k + 1))) < H
    · rw [if_neg (by omega), if_pos c, if_pos hk]
      exact ⟨rfl, ha _⟩
    · rw [if_pos (by omega), if_neg c]
      exact ⟨rfl, lowR_len i2 (ha _)⟩
/-- a minute that is too low ends the program's search -/
theorem grd_low {n : Nat} (ha : ∀ k, (a k).length = n) {k i : Nat} (hi : i < k) (h : lv + sumL (a i) < H) : grd a lv H lo k = none := by
  have h1 : grd a lv H lo (i + 1) = none := by
    rw [grd]
    cases hg : grd a lv H lo i with
    | none => rfl
    | some r =>
      obtain ⟨c, q⟩ := r
      rw [Option.bind_some]
      simp only
      have hq : (if i = 0 then a i else lowR q (a i)).length = n → sumL (if i = 0 then a i else lowR q (a i)) ≤ sumL (a i) := fun hl => by
        split
        · exact Int.le_refl _
        · rename_i i0
          rw [if_neg i0] at hl
          have hql : q.length = (a i).length ∨ q.length ≠ (a i).length := Decidable.em _
          rcases hql with hql | hql
          · exact (lowR_right hql).sum 0 0 (Int.le_refl _)
          · exfalso
            obtain ⟨_, _, i3, _⟩ := grd_prv a lv H lo ha hg
            exact hql ((i3 (by omega)).trans (ha i).symm)
      have hlen : (if i = 0 then a i else lowR q (a i)).length = n := by
        split
        · exact ha i
        · obtain ⟨_, _, i3, _⟩ := grd_prv a lv H lo ha hg
          exact lowR_len (i3 (by omega)) (ha i)
      have := hq hlen
      rw [if_neg (by omega), if_neg (by omega)]
  obtain ⟨j, rfl⟩ : ∃ j, k = i + 1 + j := ⟨k - (i + 1), by omega⟩
  clear hi
  induction j with
  | zero => exact h1
  | succ j ih =>
    rw [← Nat.add_assoc, grd, ih]
    rfl
/-- the least since the last cut, with no look at its height -/
def now (C : List Int) : Nat → List Int
  | 0 => a 0
  | k + 1 => if lo + ((k + 1 : Nat) : Int) ∈ C then a (k + 1) else lowR (now C k) (a (k + 1))
theorem now_len {n : Nat} (ha : ∀ k, (a k).length = n) (C : List Int) : ∀ k, (now a lo C k).length = n
  | 0 => ha 0
  | k + 1 => by
    unfold now
    split
    · exact ha _
    · exact lowR_len (now_len ha C k) (ha _)
theorem lowR_left {x y : List Int} (h : x.length = y.length) : PLe (lowR x y) x := by
  induction x generalizing y with
  | nil => exact .nil
  | cons p x ih =>
    cases y with
    | nil => simp at h
    | cons q y => exact .cons (by omega) (ih (by simpa using h))
/-- one round of the reference's look: what the program's has come to -/
theorem prv_step {n : Nat} (ha : ∀ k, (a k).length = n) (C : List Int) (k : Nat) (h : prv a lv H lo C (k + 1) = some (now a lo C k) ∨ (prv a lv H lo C (k + 1) = none ∧ lv + sumL (now a lo C k) < H)) (hnc : lo + ((k + 1 : Nat) : Int) ∈ C → H ≤ lv + sumL (now a lo C k)) :
    prv a lv H lo C (k + 2) = some (now a lo C (k + 1)) ∨ (prv a lv H lo C (k + 2) = none ∧ lv + sumL (now a lo C (k + 1)) < H) := by
  have hnl := now_len a lo ha C k
  rcases h with h | ⟨h, h2⟩
  · rw [prv, h, Option.bind_some, now]
    simp only [Nat.add_one_ne_zero, or_false]
    by_cases hm : lo + ((k + 1 : Nat) : Int) ∈ C
    · simp only [if_pos hm, lowR_self]
      by_cases c : lv + sumL (a (k + 1)) < H
      · rw [if_pos c]; exact .inr ⟨rfl, c⟩
      · rw [if_neg c]; exact .inl rfl
    · simp only [if_neg hm]
      by_cases c : lv + sumL (lowR (now a lo C k) (a (k + 1))) < H
      · rw [if_pos c]; exact .inr ⟨rfl, c⟩
      · rw [if_neg c]; exact .inl rfl
  · have hm : lo + ((k + 1 : Nat) : Int) ∉ C := fun hm => by have := hnc hm; omega
    refine .inr ⟨by rw [prv, h]; rfl, ?_⟩
    rw [now, if_neg hm]
    have := (lowR_left (hnl.trans (ha (k + 1)).symm)).sum 0 0 (Int.le_refl _)
    unfold sumL at h2 ⊢
    omega
theorem prv_first (C : List Int) : prv a lv H lo C 1 = some (now a lo C 0) ∨ (prv a lv H lo C 1 = none ∧ lv + sumL (now a lo C 0) < H) := by
  show (some ([] : List Int)).bind _ = _ ∨ ((some ([] : List Int)).bind _ = _ ∧ _)
  simp only [Option.bind_some, or_true, if_true, lowR_self]
  by_cases c : lv + sumL (a 0) < H
  · rw [if_pos c]; exact .inr ⟨rfl, c⟩
  · rw [if_neg c]; exact .inl rfl
/-- what stands is high enough -/
theorem prv_ge {C : List Int} {k : Nat} {p : List Int} (h : prv a lv H lo C (k + 1) = some p) : H ≤ lv + sumL p := by
  unfold prv at h
  simp only [Option.bind_eq_some_iff] at h
  obtain ⟨p0, _, h1⟩ := h
  by_cases hs : lv + sumL (lowR (if lo + (k : Int) ∈ C ∨ k = 0 then a k else p0) (a k)) < H
  · rw [if_pos hs] at h1
    cases h1
  · rw [if_neg hs] at h1
    simp only [Option.some.injEq] at h1
    rw [← h1]
    omega
end
/-- the cut that comes next -/
theorem nth_cut {lo : Int} : ∀ {b : Int} {C : List Int}, ascC b C → ∀ (k : Nat), cntC lo C k < C.length → (nth C (cntC lo C k) = lo + (k : Int) ↔ lo + (k : Int) ∈ C)
  | _, [], _, k, h => by cases h
  | b, c :: r, hC, k, h => by
    by_cases hc : c < lo + (k : Int)
    · have e : cntC lo (c :: r) k = cntC lo r k + 1 := by
        unfold cntC
        rw [List.filter_cons, if_pos (by simpa using hc)]
        rfl
      rw [e] at h ⊢
      have ih := nth_cut hC.2 k (by simpa using h)
      have e2 : nth (c :: r) (cntC lo r k + 1) = nth r (cntC lo r k) := rfl
      rw [e2, ih, List.mem_cons]
      exact ⟨.inr, fun h => h.resolve_left (by omega)⟩
    · have hall : ∀ d ∈ r, c < d := ascC_lt hC.2
      have e : cntC lo (c :: r) k = 0 := by
        unfold cntC
        rw [List.filter_eq_nil_iff.2 fun d hd => by
          rcases List.mem_cons.1 hd with rfl | hd
          · simpa using hc
          · have := hall d hd
            simp
            omega]
        rfl
      rw [e]
      show c = _ ↔ _
      rw [List.mem_cons]
      refine ⟨fun h => .inl h.symm, fun h => ?_⟩
      rcases h with h | h
      · exact h.symm
      · have := hall _ h
        omega
theorem cnt_out {lo b : Int} {C : List Int} (hC : ascC b C) {k : Nat} (h : ¬ cntC lo C k < C.length) : lo + (k : Int) ∉ C := fun hm => by
  have e : cntC lo C k = C.length := by have := cntC_le lo C k; omega
  unfold cntC at e
  have := List.filter_eq_self.1 (List.length_filter_eq_length_iff.1 e |> fun q => List.filter_eq_self.2 q) _ hm
  simp at this
end Go.Proofs.Ytekpffjcffeanaa

/- The reference's bottoms: bottomed, lower, high. -/
namespace Go.Proofs.Ytekpffjcffeanaa
open Go.Proofs.Ytekpffjcffeanaa.Ev

theorem load_bot {l : List AV} {ty : TypeId} (h : l.length = 7) : (AObj.cells l ty).load Try.prog 137 0 = some (.agg l) := by
  have e1 : isAggT Try.prog 137 = some true := by kernel_rfl
  have e2 : sizeT Try.prog 137 = some 7 := by kernel_rfl
  unfold AObj.load
  rw [e1, e2]
  simp only [read_all h, Option.map_some]
theorem store_bot {l z : List AV} {ty : TypeId} (h : l.length = 7) (hz : z.length = 7) (ho : l.all okCell = true) : (AObj.cells z ty).store Try.prog 137 0 (.agg l) = some (.cells l ty) := by
  have e2 : sizeT Try.prog 137 = some 7 := by kernel_rfl
  unfold AObj.store
  rw [e2]
  have e3 := overN_mk (off := 0) (xs := l) (l := z) (by omega)
  rw [List.take_zero, List.nil_append, List.drop_eq_nil_of_le (by omega), List.append_nil] at e3
  simp [AV.cells, AObj.put, h, e3]
  simpa using ho
theorem rotL_set : ∀ {l : List Int} {k : Nat} {v : Int}, k + 1 < l.length → (rotL l).set k v = rotL (l.set (k + 1) v)
  | [], _, _, h => by cases h
  | p :: x, k, v, h => by
    have hk : k < x.length := by simpa using h
    show (x ++ [p]).set k v = x.set k v ++ [p]
    rw [List.set_append_left _ _ hk]
set_option maxRecDepth 100000 in
set_option maxHeartbeats 16000000 in
theorem bottomed_con (h : Heap) (g : Gd h) (lv t : Int) (cv sv : AV) (l : List Cw) (ss : List Sh) (hc : CyV h cv l) (hs : ShV h sv ss) (w : WOk lv (cys l) ss) (h0 : 0 ≤ t) (h1 : t ≤ 1048576) :
    Con Try.prog Bs 102 [.agg [.int .i64 lv, cv, sv], .int .i64 t] h [] (.agg ((rotL (addA (cys l) ss t)).map (AV.int .i64))) [] := by
  have hn6 := w.n1
  rw [cys_len] at hn6
  have hal : ∀ k, k ≤ l.length → (addK (cys l) ss t k).length = 7 := fun k hk => addK_len (by rw [cys_len]; exact hk) (by omega)
  refine Con.start rfl Try.func102 rfl rfl Try.ntmps102 rfl rfl g ?_
  (refine WK.seq ?_; refine WK.region ?_; refine St.box fun _ _ => ?_; refine St.alloc fun _ _ => ?_; refine WO.nil ?_; refine WK.seq ?_; refine WK.region ?_; refine St.alloc fun _ _ => ?_; refine WO.nil ?_; refine WK.seq ?_; refine WK.region ?_; refine St.load ?_; refine St.move ?_)
  rename_i p2 hp2 p4 hp4 p5 hp5
  refine St.call (fun _ => rfl) (fun h2 hh => rcorrection_con h2 hh.gd lv t cv sv ss (hs.vw hh) w.n2 h0 h1) ?_
  (refine St.fieldAddr ?_; refine St.atA ?_; refine St.store0 ?_; refine WO.nil ?_; refine WK.seq ?_; refine WK.seq ?_; refine WK.region ?_; refine St.assign ?_; refine WO.nil ?_; refine WK.block ?_)
  refine WK.perm (L' := [(p5, .cells ((rotL (addK (cys l) ss t 0)).map (AV.int .i64)) 137), (p4, .cells [.int .i64 0, .int .i64 0, .int .i64 0, .int .i64 0, .int .i64 0, .int .i64 0, .int .i64 0] 137), (p2, .cells [.int .i64 lv, cv, sv] 25)]) (List.Perm.refl _) ?_
  refine WK.inv (ι := Nat) (fun z => [(1, .int .i64 t), (2, .ptr p2 0), (4, .ptr p4 0), (5, .ptr p5 0), (6, .int .i64 z)]) (fun z => [(p5, .cells ((rotL (addK (cys l) ss t z)).map (AV.int .i64)) 137), (p4, .cells [.int .i64 0, .int .i64 0, .int .i64 0, .int .i64 0, .int .i64 0, .int .i64 0, .int .i64 0] 137), (p2, .cells [.int .i64 lv, cv, sv] 25)]) (fun z => z ≤ l.length) (fun z => l.length - z) 0 (by omega) ⟨rfl, rfl, rfl, rfl, rfl, trivial⟩ (by (repeat (first | exact List.Sublist.refl _ | exact List.nil_sublist _ | apply List.Sublist.cons_cons | apply List.Sublist.cons))) ?_
  intro k hkl ih
  have hlk := hal k hkl
  (refine WK.seq ?_; refine WK.seq ?_; refine WK.region ?_; refine St.move ?_; refine St.fieldAddr ?_; refine St.load ?_)
  refine St.lenV rfl hc.len ?_
  (refine St.bin ?_; refine WO.nil ?_)
  refine St.splitC (fun hcc => ?_) (fun hcc => ?_)
  · have hlt : k < l.length := by simp at hcc; omega
    obtain ⟨b, off, c, rfl, hk⟩ := hc.ne (by omega)
    have hit := (hk k hlt).2
    have hck := chkC_all w.cs (nthC (cys l) k) (by rw [nthC_eq (by rw [cys_len]; exact hlt)]; exact List.getElem_mem _)
    have hset := addK_set (ss := ss) (t := t) (show k < (cys l).length by rw [cys_len]; exact hlt) (by rw [cys_len]; exact hn6)
    have hrs := rotL_set (l := addK (cys l) ss t k) (k := k) (v := valC (nthC (cys l) k) t) (by omega)
    rw [hset] at hrs
    rw [cys_nth hlt] at hrs hck
    (refine WK.skip ?_; refine WK.seq ?_; refine WK.block ?_; refine WK.region ?_; refine St.move ?_; refine St.fieldAddr ?_; refine St.load ?_; refine St.move ?_)
    refine St.at ?_
    refine St.loadX (fun h hh => ((hk.vw hh).at_ (z := (k : Int)) (n := k) (by omega) hlt).agg (by simp) rfl rfl rfl) ?_
    (refine St.move ?_)
    refine St.call (fun _ => rfl) (fun h2 hh => of_con h2 hh.gd _ _ _ t _ _ (hit.vw hh) hck (by omega) (by omega)) ?_
    (refine St.fieldAddr ?_; refine St.atA ?_)
    refine St.store0 (hv := store_int (off := 0 + 0 + (k : Int).toNat * 1) (n := k) (by omega) (by rw [List.length_map, rotL_len, hlk]; omega)) ?_
    rw [← List.map_set]
    have hrs' : (rotL (addK (cys l) ss t k)).set k (valC ⟨(nthW l k).c.id, (nthW l k).c.bg, (nthW l k).c.ev, (nthW l k).c.hs⟩ t) = rotL (addK (cys l) ss t (k + 1)) := hrs
    rw [hrs']
    (refine WO.nil ?_; refine WK.blk ?_; refine WK.region ?_; refine St.move ?_; refine St.binI ?_; refine St.assign ?_; refine WO.nil ?_)
    refine WK.le ?_ (by (repeat (first | exact List.Sublist.refl _ | exact List.nil_sublist _ | apply List.Sublist.cons_cons | apply List.Sublist.cons))) (ih (k + 1) hlt (by omega))
    exact ⟨rfl, rfl, rfl, rfl, rfl, trivial⟩
  · have : k = l.length := by simp at hcc; omega
    subst this
    have e : addK (cys l) ss t l.length = addA (cys l) ss t := by unfold addA; rw [cys_len]
    rw [e] at hlk ⊢
    (refine WK.exit ?_; refine WK.seq ?_; refine WK.region ?_)
    refine St.load (hv := load_bot (by rw [List.length_map, rotL_len]; exact hlk)) ?_
    skip
    refine St.store1 (hv := store_bot (by rw [List.length_map, rotL_len]; exact hlk) rfl (ints_ok _)) ?_
    (refine WO.nil ?_)
    refine St.ret (.cell (hv := load_bot (by rw [List.length_map, rotL_len]; exact hlk)) .nil) ?_
    rfl
set_option maxRecDepth 100000 in
set_option maxHeartbeats 8000000 in
theorem rlower_con (h : Heap) (g : Gd h) (x y : List Int) (hx : x.length = 7) (hy : y.length = 7) :
    Con Try.prog Bs 103 [.agg (x.map (AV.int .i64)), .agg (y.map (AV.int .i64))] h [] (.agg ((lowR x y).map (AV.int .i64))) [] := by
  have hl := lowR_len hx hy
  refine Con.start rfl Try.func103 rfl rfl Try.ntmps103 rfl rfl g ?_
  (refine WK.seq ?_; refine WK.region ?_; refine St.box fun _ _ => ?_; refine St.box fun _ _ => ?_; refine St.alloc fun _ _ => ?_; refine WO.nil ?_; refine WK.seq ?_; refine WK.seq ?_; refine WK.region ?_; refine St.assign ?_; refine WO.nil ?_; refine WK.block ?_)
  rename_i p2 hp2 p3 hp3 p4 hp4
  refine WK.inv (ι := Nat) (fun k => [(2, .ptr p2 0), (3, .ptr p3 0), (4, .ptr p4 0), (5, .int .i64 k)]) (fun k => [(p4, .cells [.int .i64 0, .int .i64 0, .int .i64 0, .int .i64 0, .int .i64 0, .int .i64 0, .int .i64 0] 137), (p3, .cells (y.map (AV.int .i64)) 137), (p2, .cells (((lowR x y).take k ++ x.drop k).map (AV.int .i64)) 137)]) (fun k => k ≤ 7) (fun k => 7 - k) 0 (by omega) ⟨rfl, rfl, rfl, rfl, trivial⟩ (by (repeat (first | exact List.Sublist.refl _ | exact List.nil_sublist _ | apply List.Sublist.cons_cons | apply List.Sublist.cons))) ?_
  intro k hk ih
  have hlk : ((lowR x y).take k ++ x.drop k).length = 7 := by rw [List.length_append, List.length_take, List.length_drop]; omega
  (refine WK.seq ?_; refine WK.seq ?_; refine WK.region ?_; refine St.move ?_; refine St.bin ?_; refine WO.nil ?_)
  refine St.splitC (fun hc => ?_) (fun hc => ?_)
  · have hlt : k < 7 := by simp at hc; omega
    have hset := low_set hx hy hlt
    have hnx : (((lowR x y).take k ++ x.drop k).map (AV.int .i64))[k]? = some (.int .i64 (nth x k)) := by
      rw [List.getElem?_map, List.getElem?_append_right (by rw [List.length_take]; omega), List.length_take, show k - min k (lowR x y).length = 0 by omega, List.getElem?_drop, List.getElem?_eq_getElem (by omega), nth_eq (by omega)]
      rfl
    have hny : (y.map (AV.int .i64))[k]? = some (.int .i64 (nth y k)) := by
      rw [List.getElem?_map, List.getElem?_eq_getElem (by omega), nth_eq (by omega)]
      rfl
    (refine WK.skip ?_; refine WK.seq ?_; refine WK.block ?_; refine WK.regionD ?_; refine St.move ?_; refine St.move ?_; refine St.fieldAddr ?_; refine St.atA ?_)
    refine St.loadX (fun h2 hh => (hh.rdL (j := p2) (List.Mem.tail _ (List.Mem.tail _ (List.Mem.head _))) (AObj.has_cells _ _) (off := 0 + 0 + (k : Int).toNat * 1) (v := .int .i64 (nth x k)) ((congrArg (fun z => (((lowR x y).take k ++ x.drop k).map (AV.int .i64))[z]?) (show 0 + 0 + (k : Int).toNat * 1 = k by omega)).trans hnx)).one rfl) ?_
    (refine St.move ?_; refine St.fieldAddr ?_; refine St.atA ?_)
    refine St.loadX (fun h2 hh => (hh.rdL (j := p3) (List.Mem.tail _ (List.Mem.head _)) (AObj.has_cells _ _) (off := 0 + 0 + (k : Int).toNat * 1) (v := .int .i64 (nth y k)) ((congrArg (fun z => (y.map (AV.int .i64))[z]?) (show 0 + 0 + (k : Int).toNat * 1 = k by omega)).trans hny)).one rfl) ?_
    (refine St.minI ?_; refine St.fieldAddr ?_; refine St.atA ?_)
    refine StD.store2 (hv := store_int (off := 0 + 0 + (k : Int).toNat * 1) (n := k) (by omega) (by rw [List.length_map, hlk]; omega)) ?_
    rw [← List.map_set, hset]
    (refine WO.nil ?_; refine WK.blk ?_; refine WK.region ?_; refine St.move ?_; refine St.binI ?_; refine St.assign ?_; refine WO.nil ?_)
    refine WK.le ?_ (by (repeat (first | exact List.Sublist.refl _ | exact List.nil_sublist _ | apply List.Sublist.cons_cons | apply List.Sublist.cons))) (ih (k + 1) hlt (by omega))
    exact ⟨rfl, rfl, rfl, rfl, trivial⟩
  · have : k = 7 := by simp at hc; omega
    subst this
    have e : (lowR x y).take 7 ++ x.drop 7 = lowR x y := by rw [List.take_of_length_le (by omega), List.drop_eq_nil_of_le (by omega), List.append_nil]
    rw [e]
    (refine WK.exit ?_; refine WK.seq ?_; refine WK.region ?_)
    refine St.load (hv := load_bot (by rw [List.length_map]; exact hl)) ?_
    skip
    refine St.store0 (hv := store_bot (by rw [List.length_map]; exact hl) rfl (ints_ok _)) ?_
    (refine WO.nil ?_)
    refine St.ret (.cell (hv := load_bot (by rw [List.length_map]; exact hl)) .nil) ?_
    rfl
set_option maxRecDepth 100000 in
set_option maxHeartbeats 8000000 in
theorem high_bot_con (h : Heap) (g : Gd h) (lv : Int) (cv sv : AV) (x : List Int) (hx : x.length = 7) (hb : ∀ a ∈ x, -4000 ≤ a ∧ a ≤ 4000) (l1 : -4000 ≤ lv) (l2 : lv ≤ 4000) :
    Con Try.prog Bs 104 [.agg [.int .i64 lv, cv, sv], .agg (x.map (AV.int .i64))] h [] (.int .i64 (lv + sumL x)) [] := by
  refine Con.start rfl Try.func104 rfl rfl Try.ntmps104 rfl rfl g ?_
  (refine WK.seq ?_; refine WK.region ?_; refine St.box fun _ _ => ?_; refine St.box fun _ _ => ?_; refine St.assign ?_; refine WO.nil ?_; refine WK.seq ?_; refine WK.region ?_; refine St.fieldAddr ?_; refine St.load ?_; refine St.assign ?_; refine WO.nil ?_; refine WK.seq ?_; refine WK.seq ?_; refine WK.region ?_; refine St.assign ?_; refine WO.nil ?_; refine WK.block ?_)
  rename_i p2 hp2 p3 hp3
  refine WK.inv (ι := Nat) (fun k => [(2, .ptr p2 0), (3, .ptr p3 0), (5, .int .i64 (lv + (x.take k).foldl (· + ·) 0)), (6, .int .i64 k)]) (fun _ => [(p3, .cells (x.map (AV.int .i64)) 137), (p2, .cells [.int .i64 lv, cv, sv] 25)]) (fun k => k ≤ 7) (fun k => 7 - k) 0 (by omega) ⟨rfl, rfl, congrArg (fun z => some (AV.int .i64 z)) (by simp), rfl, trivial⟩ (by (repeat (first | exact List.Sublist.refl _ | exact List.nil_sublist _ | apply List.Sublist.cons_cons | apply List.Sublist.cons))) ?_
  intro k hk ih
  (refine WK.seq ?_; refine WK.seq ?_; refine WK.region ?_; refine St.move ?_; refine St.bin ?_; refine WO.nil ?_)
  refine St.splitC (fun hc => ?_) (fun hc => ?_)
  · have hlt : k < 7 := by simp at hc; omega
    obtain ⟨s1, s2⟩ := fold_bd hb k (by omega)
    have s3 := hb (nth x k) (by rw [nth_eq (by omega)]; exact List.getElem_mem _)
    have e3 : (x.take k).foldl (· + ·) 0 + nth x k = (x.take (k + 1)).foldl (· + ·) 0 := (foldl_take _ _ (show k < x.length by omega)).symm
    have hnx : (x.map (AV.int .i64))[k]? = some (.int .i64 (nth x k)) := by
      rw [List.getElem?_map, List.getElem?_eq_getElem (by omega), nth_eq (by omega)]
      rfl
    (refine WK.skip ?_; refine WK.seq ?_; refine WK.block ?_; refine WK.region ?_; refine St.move ?_; refine St.move ?_; refine St.fieldAddr ?_; refine St.atA ?_)
    refine St.loadX (fun h2 hh => (hh.rdL (j := p3) (List.Mem.head _) (AObj.has_cells _ _) (off := 0 + 0 + (k : Int).toNat * 1) (v := .int .i64 (nth x k)) ((congrArg (fun z => (x.map (AV.int .i64))[z]?) (show 0 + 0 + (k : Int).toNat * 1 = k by omega)).trans hnx)).one rfl) ?_
    (refine St.binI ?_; refine St.assign ?_; refine WO.nil ?_; refine WK.blk ?_; refine WK.region ?_; refine St.move ?_; refine St.binI ?_; refine St.assign ?_; refine WO.nil ?_)
    refine WK.le ?_ (by (repeat (first | exact List.Sublist.refl _ | exact List.nil_sublist _ | apply List.Sublist.cons_cons | apply List.Sublist.cons))) (ih (k + 1) hlt (by omega))
    exact ⟨rfl, rfl, congrArg (fun z => some (AV.int .i64 z)) (by omega), rfl, trivial⟩
  · have : k = 7 := by simp at hc; omega
    subst this
    (refine WK.exit ?_; refine WK.seq ?_; refine WK.region ?_; refine St.move ?_; refine St.assign ?_; refine WO.nil ?_)
    refine St.ret (by first | exact .tmp .nil | exact .cell .nil | exact .cell (.tmp .nil) | exact .tmp (.tmp .nil) | exact .cell (.cell .nil) | exact .tmp (.cell .nil) | exact .nil | exact .tmp (.cell (.tmp .nil)) | exact .cell (.tmp (.tmp .nil)) | exact .cell (.cell (.tmp .nil)) | exact .tmp (.tmp (.tmp .nil)) | exact .cell (.cell (.cell .nil))) ?_
    unfold sumL
    rw [List.take_of_length_le (by omega)]
    rfl
end Go.Proofs.Ytekpffjcffeanaa

/- The reference's Prove over the calculator's memory. -/
namespace Go.Proofs.Ytekpffjcffeanaa
open Go.Proofs.Ytekpffjcffeanaa.Ev

theorem grd_rot {a : Nat → List Int} {lv H lo : Int} {n : Nat} (ha : ∀ k, (a k).length = n) : ∀ k, grd (fun k => rotL (a k)) lv H lo k = (grd a lv H lo k).map fun r => (r.1, rotL r.2)
  | 0 => rfl
  | k + 1 => by
    rw [grd, grd, grd_rot ha k]
    cases hg : grd a lv H lo k with
    | none => rfl
    | some r =>
      obtain ⟨c, q⟩ := r
      obtain ⟨_, _, i3, _⟩ := grd_prv a lv H lo ha hg
      have e : (if k = 0 then rotL (a k) else lowR (rotL q) (rotL (a k))) = rotL (if k = 0 then a k else lowR q (a k)) := by
        by_cases k0 : k = 0
        · rw [if_pos k0, if_pos k0]
        · rw [if_neg k0, if_neg k0, rotL_low ((i3 (by omega)).trans (ha k).symm)]
      simp only [Option.map_some, Option.bind_some]
      rw [e, rotL_sum, rotL_sum]
      by_cases c1 : H ≤ lv + sumL (if k = 0 then a k else lowR q (a k))
      · rw [if_pos c1, if_pos c1]
        rfl
      · rw [if_neg c1, if_neg c1]
        by_cases c2 : H ≤ lv + sumL (a k)
        · rw [if_pos c2, if_pos c2]
          rfl
        · rw [if_neg c2, if_neg c2]
          rfl
theorem prv_len {a : Nat → List Int} {lv H lo : Int} {n : Nat} (ha : ∀ k, (a k).length = n) {C : List Int} : ∀ {k : Nat} {p : List Int}, prv a lv H lo C k = some p → 0 < k → p.length = n
  | 0, _, _, h => by cases h
  | k + 1, p, h, _ => by
    unfold prv at h
    simp only [Option.bind_eq_some_iff] at h
    obtain ⟨p0, h0, h1⟩ := h
    have hl : (if lo + (k : Int) ∈ C ∨ k = 0 then a k else p0).length = n := by
      by_cases hc : lo + (k : Int) ∈ C ∨ k = 0
      · rw [if_pos hc]; exact ha k
      · rw [if_neg hc]; exact prv_len ha h0 (by omega)
    by_cases hs : lv + sumL (lowR (if lo + (k : Int) ∈ C ∨ k = 0 then a k else p0) (a k)) < H
    · rw [if_pos hs] at h1
      cases h1
    · rw [if_neg hs] at h1
      simp only [Option.some.injEq] at h1
      rw [← h1]
      exact lowR_len hl (ha k)
theorem prv_rot {a : Nat → List Int} {lv H lo : Int} {n : Nat} (ha : ∀ k, (a k).length = n) {C : List Int} : ∀ k, prv (fun k => rotL (a k)) lv H lo C k = (prv a lv H lo C k).map rotL
  | 0 => rfl
  | k + 1 => by
    rw [prv, prv, prv_rot ha k]
    cases hg : prv a lv H lo C k with
    | none => rfl
    | some p =>
      have hl : (if lo + (k : Int) ∈ C ∨ k = 0 then a k else p).length = (a k).length := by
        by_cases hc : lo + (k : Int) ∈ C ∨ k = 0
        · rw [if_pos hc]
        · rw [if_neg hc]; exact (prv_len ha hg (by omega)).trans (ha k).symm
      have e : lowR (if lo + (k : Int) ∈ C ∨ k = 0 then rotL (a k) else rotL p) (rotL (a k)) = rotL (lowR (if lo + (k : Int) ∈ C ∨ k = 0 then a k else p) (a k)) := by
        rw [← rotL_low hl]
        by_cases hc : lo + (k : Int) ∈ C ∨ k = 0
        · rw [if_pos hc, if_pos hc]
        · rw [if_neg hc, if_neg hc]
      simp only [Option.map_some, Option.bind_some]
      rw [e, rotL_sum]
      by_cases c1 : lv + sumL (lowR (if lo + (k : Int) ∈ C ∨ k = 0 then a k else p) (a k)) < H
      · rw [if_pos c1, if_pos c1]
        rfl
      · rw [if_neg c1, if_neg c1]
        rfl
theorem rotL_bd {x : List Int} {c : Int} (h : ∀ a ∈ x, -c ≤ a ∧ a ≤ c) : ∀ a ∈ rotL x, -c ≤ a ∧ a ≤ c := by
  cases x with
  | nil => exact fun a ha => by cases ha
  | cons p x =>
    intro a ha
    rcases List.mem_append.1 ha with ha | ha
    · exact h a (List.mem_cons_of_mem _ ha)
    · rw [List.mem_singleton.1 ha]; exact h p (by simp)
set_option maxRecDepth 100000 in
theorem build_resI {u : AV} (hu : (u = .slice0) ∨ ∃ i n c, u = .slice i 0 n c) : evBuild Try.prog 90 [(0, u)] = some (.agg [u, .int .i64 0]) := by
  rcases hu with rfl | ⟨i, n, c, rfl⟩
  · kernel_rfl
  · kernel_rfl
set_option maxRecDepth 100000 in
set_option maxHeartbeats 32000000 in
theorem rprove_con (h : Heap) (g : Gd h) (lv lo hi height : Int) (cv sv : AV) (cl : List Cw) (ss : List Sh) (hc : CyV h cv cl) (hs : ShV h sv ss) :
    ∃ v L, Con Try.prog Bs 52 [.agg [.int .i64 lv, cv, sv], .agg [.int .i64 lo, .int .i64 hi], .int .i64 height] h [] v L ∧ ∃ u, v = .agg [u, .int .i64 (pvR lv (cys cl) ss lo hi height).2] ∧ IsL 3 1 (pvR lv (cys cl) ss lo hi height).1.length ((pvR lv (cys cl) ss lo hi height).1.map (AV.int .i64)) u L := by
  refine Con.pick (Con.startR rfl Try.func52 rfl rfl Try.ntmps52 rfl rfl (SS.init g) ?_)
  (refine WK.seq ?_; refine WK.region ?_; refine St.box fun _ _ => ?_; refine St.box fun _ _ => ?_; refine St.alloc fun _ _ => ?_; refine WO.nil ?_; refine WK.seq ?_; refine WK.region ?_; refine St.load ?_; refine St.load ?_)
  rename_i p3 hp3 p4 hp4 p6 hp6
  refine St.call (fun _ => rfl) (fun h2 hh => extreme_con false h2 hh.gd lv lo hi cv sv cl ss (hc.vw hh) (hs.vw hh)) ?_
  by_cases e1 : minR lv (cys cl) ss lo hi = 0
  rotate_left
  · have ep : pkR lv (cys cl) ss lo hi false = (0, 0, minR lv (cys cl) ss lo hi) := if_pos e1
    have e : pvR lv (cys cl) ss lo hi height = ([], minR lv (cys cl) ss lo hi) := if_pos e1
    rw [ep, e]
    (refine St.alloc fun _ _ => ?_; refine St.store0 ?_; refine WO.nil ?_; refine WK.seq ?_; refine WK.seq ?_; refine WK.region ?_; refine St.fieldAddr ?_; refine St.load ?_; refine St.bin ?_; refine WO.nil ?_)
    refine St.splitC (fun _ => ?_) (fun hb => ?_)
    rotate_left
    · exfalso
      simp at hb
      exact e1 hb
    (refine WK.seq ?_; refine WK.region ?_; refine St.fieldAddr ?_; refine St.load ?_; refine St.build ?_; refine St.store1 ?_; refine WO.nil ?_)
    refine St.ret (by first | exact .tmp .nil | exact .cell .nil | exact .cell (.tmp .nil) | exact .tmp (.tmp .nil) | exact .cell (.cell .nil) | exact .tmp (.cell .nil) | exact .nil | exact .tmp (.cell (.tmp .nil)) | exact .cell (.tmp (.tmp .nil)) | exact .cell (.cell (.tmp .nil)) | exact .tmp (.tmp (.tmp .nil)) | exact .cell (.cell (.cell .nil))) ?_
    exact ⟨[], _, List.Perm.refl _, .slice0, rfl, .nil rfl rfl⟩
  have m := minR_ok e1
  have w := m.w
  have m1 := m.l1
  have m2 := m.le
  have m3 := m.h2
  have m4 := m.n
  have ep : pkR lv (cys cl) ss lo hi false = (hgt lv (cys cl) ss lo (exK false (hgt lv (cys cl) ss lo) (hi - lo).toNat), lo + (exK false (hgt lv (cys cl) ss lo) (hi - lo).toNat : Int), 0) := if_neg (by simp [e1])
  have e : pvR lv (cys cl) ss lo hi height = pvS (grd (addF (cys cl) ss lo) lv height lo (hi - lo + 1).toNat) := if_neg (by simp [e1])
  rw [ep, e]
  have hA7 : ∀ k : Nat, (addF (cys cl) ss lo k).length = 7 := fun k => addK_len (Nat.le_refl _) w.n1
  have hAs : ∀ k : Nat, lv + sumL (addF (cys cl) ss lo k) = hgt lv (cys cl) ss lo k := fun k => by
    unfold sumL addF
    rw [addA_sum]
    rfl
  have hex := exK_le false (hgt lv (cys cl) ss lo) (hi - lo).toNat
  have hbest := exK_best false (hgt lv (cys cl) ss lo) (hi - lo).toNat
  generalize hX : exK false (hgt lv (cys cl) ss lo) (hi - lo).toNat = X at *
  (refine St.alloc fun _ _ => ?_; refine St.store0 ?_; refine WO.nil ?_; refine WK.seq ?_; refine WK.seq ?_; refine WK.region ?_; refine St.fieldAddr ?_; refine St.load ?_; refine St.bin ?_; refine WO.nil ?_; refine WK.condF ?_; refine WK.skip ?_; refine WK.seq ?_; refine WK.seq ?_; refine WK.region ?_; refine St.fieldAddr ?_; refine St.load ?_; refine St.move ?_; refine St.bin ?_; refine WO.nil ?_)
  rename_i p7 hp7
  refine St.splitC (fun hb => ?_) (fun hb => ?_)
  · have hlow : lv + sumL (addF (cys cl) ss lo X) < height := by rw [hAs]; simpa using hb
    rw [grd_low (addF (cys cl) ss lo) lv height lo hA7 (show X < (hi - lo + 1).toNat by omega) hlow]
    (refine WK.seq ?_; refine WK.region ?_; refine St.build ?_; refine St.store1 ?_; refine WO.nil ?_)
    refine St.ret (by first | exact .tmp .nil | exact .cell .nil | exact .cell (.tmp .nil) | exact .tmp (.tmp .nil) | exact .cell (.cell .nil) | exact .tmp (.cell .nil) | exact .nil | exact .tmp (.cell (.tmp .nil)) | exact .cell (.tmp (.tmp .nil)) | exact .cell (.cell (.tmp .nil)) | exact .tmp (.tmp (.tmp .nil)) | exact .cell (.cell (.cell .nil))) ?_
    exact ⟨[], _, List.Perm.refl _, .slice0, rfl, .nil rfl rfl⟩
  have hall : ∀ i, i ≤ (hi - lo).toNat → height ≤ lv + sumL (rotL (addF (cys cl) ss lo i)) := fun i hi2 => by
    have h1 := hbest i hi2
    have h2 : height ≤ hgt lv (cys cl) ss lo X := by simpa using hb
    unfold bey at h1
    simp at h1
    rw [rotL_sum, hAs]
    omega
  have hN : (hi - lo + 1).toNat = (hi - lo).toNat + 1 := by omega
  have hR7 : ∀ k : Nat, (rotL (addF (cys cl) ss lo k)).length = 7 := fun k => (rotL_len _).trans (hA7 k)
  have hRb : ∀ k : Nat, ∀ x ∈ rotL (addF (cys cl) ss lo k), -4000 ≤ x ∧ x ≤ 4000 := fun k => rotL_bd (c := 4000) (addA_bd (t := lo + (k : Int)) (chkC_all w.cs) (chkS_all w.ss))
  have hgr := (grw_grd (fun k => rotL (addF (cys cl) ss lo k)) lv height lo hR7 hall).1
  rw [← hN, grd_rot hA7] at hgr
  have hbo : ∀ k : Nat, rotL (addA (cys cl) ss (lo + (k : Int))) = rotL (addF (cys cl) ss lo k) := fun _ => rfl
  generalize hAd : (fun k : Nat => rotL (addF (cys cl) ss lo k)) = A at *
  have hAk : ∀ k : Nat, rotL (addF (cys cl) ss lo k) = A k := fun k => by rw [← hAd]
  simp only [hAk] at hR7 hRb hbo
  (refine WK.skip ?_; refine WK.seq ?_; refine WK.region ?_; refine St.assign ?_; refine WO.nil ?_; refine WK.seq ?_; refine WK.region ?_; refine St.load ?_; refine St.fieldAddr ?_; refine St.load ?_)
  refine St.call (v := .agg ((A 0).map (AV.int .i64))) (fun _ => rfl) (fun h2 hh => by
    have := bottomed_con h2 hh.gd lv lo cv sv cl ss (hc.vw hh) (hs.vw hh) w m1 (by omega)
    have e0 := hbo 0
    simp only [Int.natCast_zero, Int.add_zero] at e0
    rw [e0] at this
    exact this) ?_
  (refine St.alloc fun _ _ => ?_)
  rename_i p9 hp9
  refine St.store0 (hv := store_bot (by rw [List.length_map]; exact hR7 0) rfl (ints_ok _)) ?_
  (refine WO.nil ?_; refine WK.seq ?_; refine WK.seq ?_; refine WK.region ?_; refine St.fieldAddr ?_; refine St.load ?_; refine St.binI ?_; refine St.assign ?_; refine WO.nil ?_; refine WK.block ?_)
  refine WK.perm (L' := (p9, .cells ((A 0).map (AV.int .i64)) 137) :: (p7, .cells [.int .i64 (hgt lv (cys cl) ss lo X), .int .i64 (lo + (X : Int)), .int .i64 0] 77) :: [(p6, .cells [.slice0, .int .i64 0] 90), (p4, .cells [.int .i64 lo, .int .i64 hi] 37), (p3, .cells [.int .i64 lv, cv, sv] 25)]) (List.Perm.refl _) ?_
  refine WK.inv (ι := Nat × AV × Ob) (fun z => [(2, .int .i64 height), (3, .ptr p3 0), (4, .ptr p4 0), (6, .ptr p6 0), (8, z.2.1), (9, .ptr p9 0), (10, .int .i64 (lo + ((z.1 + 1 : Nat) : Int)))]) (fun z => (p9, .cells ((grw A lv height lo z.1).2.map (AV.int .i64)) 137) :: ([(p6, .cells [.slice0, .int .i64 0] 90), (p4, .cells [.int .i64 lo, .int .i64 hi] 37), (p3, .cells [.int .i64 lv, cv, sv] 25)] ++ z.2.2)) (fun z => z.1 ≤ (hi - lo).toNat ∧ (∀ x ∈ (grw A lv height lo z.1).2, -4000 ≤ x ∧ x ≤ 4000) ∧ (grw A lv height lo z.1).2.length = 7 ∧ (grw A lv height lo z.1).1.length ≤ z.1 ∧ IsL 3 1 (grw A lv height lo z.1).1.length ((grw A lv height lo z.1).1.map (AV.int .i64)) z.2.1 z.2.2) (fun z => (hi - lo).toNat - z.1) (0, .slice0, []) ⟨Nat.zero_le _, hRb 0, hR7 0, Nat.le_refl _, .nil rfl rfl⟩ ⟨rfl, rfl, rfl, rfl, rfl, rfl, congrArg (fun z => some (AV.int .i64 z)) (by simp), trivial⟩ ?_ ?_
  · exact List.Sublist.cons_cons _ (List.sublist_cons_self _ _)
  rintro ⟨j, u, Lu⟩ ⟨hj, hqb, hq7, hjl, hu⟩ ih
  simp only at hj hqb hq7 hjl hu ih ⊢
  (refine WK.seq ?_; refine WK.seq ?_; refine WK.region ?_; refine St.move ?_; refine St.fieldAddr ?_; refine St.load ?_; refine St.bin ?_; refine WO.nil ?_)
  refine St.splitC (fun hcc => ?_) (fun hcc => ?_)
  rotate_left
  · have : j = (hi - lo).toNat := by simp at hcc; omega
    subst this
    clear ih
    obtain ⟨r, hr⟩ : ∃ r, grd (addF (cys cl) ss lo) lv height lo (hi - lo + 1).toNat = some r := by
      cases hg : grd (addF (cys cl) ss lo) lv height lo (hi - lo + 1).toNat with
      | none => rw [hg] at hgr; cases hgr
      | some r => exact ⟨r, rfl⟩
    rw [hr] at hgr ⊢
    have hr1 : r.1 = (grw A lv height lo (hi - lo).toNat).1 := by
      simp only [Option.map_some, Option.some.injEq] at hgr
      rw [← hgr]
    have epv : pvS (some r) = if 2000 < r.1.length then ([], 2) else (r.1, 0) := rfl
    rw [epv, hr1]
    generalize (grw A lv height lo (hi - lo).toNat).1 = cu at *
    (refine WK.exit ?_; refine WK.seq ?_; refine WK.seq ?_; refine WK.region ?_; refine St.move ?_)
    refine St.lenV rfl (isl_len hu Try.underlying26) ?_
    (refine St.bin ?_; refine WO.nil ?_)
    refine St.splitC (fun c2 => ?_) (fun c2 => ?_)
    · rw [if_pos (by simp at c2; omega)]
      (refine WK.seq ?_; refine WK.region ?_; refine St.build ?_; refine St.store1 ?_; refine WO.nil ?_)
      refine St.ret (by first | exact .tmp .nil | exact .cell .nil | exact .cell (.tmp .nil) | exact .tmp (.tmp .nil) | exact .cell (.cell .nil) | exact .tmp (.cell .nil) | exact .nil | exact .tmp (.cell (.tmp .nil)) | exact .cell (.tmp (.tmp .nil)) | exact .cell (.cell (.tmp .nil)) | exact .tmp (.tmp (.tmp .nil)) | exact .cell (.cell (.cell .nil))) ?_
      exact ⟨[], _, List.Perm.refl _, .slice0, rfl, .nil rfl rfl⟩
    · rw [if_neg (by simp at c2; omega)]
      (refine WK.skip ?_; refine WK.seq ?_; refine WK.region ?_; refine St.move ?_)
      refine St.build ?_ (he := build_resI (isl_form hu))
      refine St.store1 (hv := store_res (by kernel_rfl) (isl_ok hu).1) ?_
      (refine WO.nil ?_)
      refine St.ret (by first | exact .tmp .nil | exact .cell .nil | exact .cell (.tmp .nil) | exact .tmp (.tmp .nil) | exact .cell (.cell .nil) | exact .tmp (.cell .nil) | exact .nil | exact .tmp (.cell (.tmp .nil)) | exact .cell (.tmp (.tmp .nil)) | exact .cell (.cell (.tmp .nil)) | exact .tmp (.tmp (.tmp .nil)) | exact .cell (.cell (.cell .nil))) ?_
      refine ⟨Lu, [(p9, .cells ((grw A lv height lo (hi - lo).toNat).2.map (AV.int .i64)) 137), (p6, .cells [u, .int .i64 0] 90), (p4, .cells [.int .i64 lo, .int .i64 hi] 37), (p3, .cells [.int .i64 lv, cv, sv] 25)], ?_, u, rfl, hu⟩
      (refine perm_cnt fun _ _ => ?_; simp only [List.append_eq, List.cons_append, List.nil_append, List.count_append, List.count_cons, List.count_nil, Nat.add_zero, Nat.zero_add]; try ac_rfl)
  have hlt : j + 1 ≤ (hi - lo).toNat := by simp at hcc; omega
  have hgs : grw A lv height lo (j + 1) = if lv + sumL (lowR (grw A lv height lo j).2 (A (j + 1))) < height then ((grw A lv height lo j).1 ++ [lo + ((j + 1 : Nat) : Int)], A (j + 1)) else ((grw A lv height lo j).1, lowR (grw A lv height lo j).2 (A (j + 1))) := rfl
  generalize grw A lv height lo j = G at *
  obtain ⟨cu, q⟩ := G
  simp only at hqb hq7 hjl hu hgs ⊢
  have hB : ∀ (h2 : Heap) {V : Ob}, Vw h [] V h2 → Con Try.prog Bs 102 [.agg [.int .i64 lv, cv, sv], .int .i64 (lo + ((j + 1 : Nat) : Int))] h2 [] (.agg ((A (j + 1)).map (AV.int .i64))) [] := fun h2 V hh => by
    have := bottomed_con h2 hh.gd lv (lo + ((j + 1 : Nat) : Int)) cv sv cl ss (hc.vw hh) (hs.vw hh) w (by omega) (by omega)
    rw [hbo] at this
    exact this
  have hl7 := lowR_len hq7 (hR7 (j + 1))
  have hlb := lowR_bd (c := 4000) hqb (hRb (j + 1))
  (refine WK.skip ?_; refine WK.seq ?_; refine WK.block ?_; refine WK.seq ?_; refine WK.regionD ?_)
  refine St.load (hv := load_bot (by rw [List.length_map]; exact hq7)) ?_
  (refine St.load ?_; refine St.move ?_)
  refine St.call (fun _ => rfl) (fun h2 hh => hB h2 hh) ?_
  refine St.call (fun _ => rfl) (fun h2 hh => rlower_con h2 hh.gd q (A (j + 1)) hq7 (hR7 (j + 1))) ?_
  (refine StD.alloc fun _ _ => ?_)
  rename_i p11 hp11
  refine StD.storeT (hv := store_bot (by rw [List.length_map]; exact hl7) rfl (ints_ok _)) ?_
  (refine WO.nil1 ?_; refine WK.seq ?_; refine WK.seq ?_; refine WK.region ?_; refine St.load ?_)
  refine St.load (hv := load_bot (by rw [List.length_map]; exact hl7)) ?_
  skip
  refine St.call (fun _ => rfl) (fun h2 hh => high_bot_con h2 hh.gd lv cv sv _ hl7 hlb w.l1 w.l2) ?_
  (refine St.move ?_; refine St.bin ?_; refine WO.nil ?_)
  refine St.splitC (fun c1 => ?_) (fun c1 => ?_)
  · rw [if_pos (by simpa using c1)] at hgs
    (refine WK.seq ?_; refine WK.region ?_; refine St.move ?_; refine St.move ?_; refine St.mkS fun _ _ => ?_)
    rename_i i2 hi2
    refine St.appL (new := [.int .i64 (lo + ((j + 1 : Nat) : Int))]) (Lk := (i2, .cells [.int .i64 (lo + ((j + 1 : Nat) : Int))] 3) :: (p11, .cells ((lowR q (A (j + 1))).map (AV.int .i64)) 137) :: (p9, .cells (q.map (AV.int .i64)) 137) :: [(p6, .cells [.slice0, .int .i64 0] 90), (p4, .cells [.int .i64 lo, .int .i64 hi] 37), (p3, .cells [.int .i64 lv, cv, sv] 25)]) hu ?_ (fun w3 Lw3 hw3 => ?_) ⟨rfl, rfl, rfl, rfl, rfl, rfl, rfl, rfl, rfl, rfl, rfl, rfl⟩ (List.Mem.head _) rfl (by omega) (by omega)
    · (refine perm_cnt fun _ _ => ?_; simp only [List.append_eq, List.cons_append, List.nil_append, List.count_append, List.count_cons, List.count_nil, Nat.add_zero, Nat.zero_add]; try ac_rfl)
    refine WO.permF (L' := (p11, .cells ((lowR q (A (j + 1))).map (AV.int .i64)) 137) :: (p9, .cells (q.map (AV.int .i64)) 137) :: ([(p6, .cells [.slice0, .int .i64 0] 90), (p4, .cells [.int .i64 lo, .int .i64 hi] 37), (p3, .cells [.int .i64 lv, cv, sv] 25)] ++ (Lw3 ++ [(i2, .cells [.int .i64 (lo + ((j + 1 : Nat) : Int))] 3)]))) (by (refine perm_cnt fun _ _ => ?_; simp only [List.append_eq, List.cons_append, List.nil_append, List.count_append, List.count_cons, List.count_nil, Nat.add_zero, Nat.zero_add]; try ac_rfl)) ?_
    (refine St.assign ?_; refine WO.nil ?_; refine WK.region ?_; refine St.load ?_; refine St.move ?_)
    refine St.call (fun _ => rfl) (fun h2 hh => hB h2 hh) ?_
    skip
    refine St.store0 (hv := store_bot (by rw [List.length_map]; exact hR7 (j + 1)) (by rw [List.length_map]; exact hl7) (ints_ok _)) ?_
    (refine WO.nil ?_; refine WK.region ?_)
    refine St.load (hv := load_bot (by rw [List.length_map]; exact hR7 (j + 1))) ?_
    skip
    refine St.store1 (hv := store_bot (by rw [List.length_map]; exact hR7 (j + 1)) (by rw [List.length_map]; exact hq7) (ints_ok _)) ?_
    (refine WO.nil ?_; refine WK.blk ?_; refine WK.region ?_; refine St.move ?_; refine St.binI ?_; refine St.assign ?_; refine WO.nil ?_)
    refine WK.perm (L' := (p9, .cells ((A (j + 1)).map (AV.int .i64)) 137) :: ([(p6, .cells [.slice0, .int .i64 0] 90), (p4, .cells [.int .i64 lo, .int .i64 hi] 37), (p3, .cells [.int .i64 lv, cv, sv] 25)] ++ (Lw3 ++ [(p11, .cells ((A (j + 1)).map (AV.int .i64)) 137), (i2, .cells [.int .i64 (lo + ((j + 1 : Nat) : Int))] 3)]))) (by (refine perm_cnt fun _ _ => ?_; simp only [List.append_eq, List.cons_append, List.nil_append, List.count_append, List.count_cons, List.count_nil, Nat.add_zero, Nat.zero_add]; try ac_rfl)) ?_
    have ih2 := ih (j + 1, w3, Lw3)
    simp only [hgs] at ih2
    refine WK.le ?_ ?_ (ih2 ⟨by omega, hRb _, hR7 _, by rw [List.length_append, List.length_singleton]; omega, ?_⟩ (by omega))
    · exact ⟨rfl, rfl, rfl, rfl, rfl, rfl, congrArg (fun z => some (AV.int .i64 z)) (by omega), trivial⟩
    · exact List.Sublist.cons_cons _ (List.Sublist.cons_cons _ (List.Sublist.cons_cons _ (List.Sublist.cons_cons _ (List.sublist_append_left _ _))))
    · rw [List.length_append, List.map_append]
      exact hw3
  · rw [if_neg (by simpa using c1)] at hgs
    (refine WK.skip ?_; refine WK.region ?_)
    refine St.load (hv := load_bot (by rw [List.length_map]; exact hl7)) ?_
    skip
    refine St.store1 (hv := store_bot (by rw [List.length_map]; exact hl7) (by rw [List.length_map]; exact hq7) (ints_ok _)) ?_
    (refine WO.nil ?_; refine WK.blk ?_; refine WK.region ?_; refine St.move ?_; refine St.binI ?_; refine St.assign ?_; refine WO.nil ?_)
    refine WK.perm (L' := (p9, .cells ((lowR q (A (j + 1))).map (AV.int .i64)) 137) :: ([(p6, .cells [.slice0, .int .i64 0] 90), (p4, .cells [.int .i64 lo, .int .i64 hi] 37), (p3, .cells [.int .i64 lv, cv, sv] 25)] ++ (Lu ++ [(p11, .cells ((lowR q (A (j + 1))).map (AV.int .i64)) 137)]))) (by (refine perm_cnt fun _ _ => ?_; simp only [List.append_eq, List.cons_append, List.nil_append, List.count_append, List.count_cons, List.count_nil, Nat.add_zero, Nat.zero_add]; try ac_rfl)) ?_
    have ih2 := ih (j + 1, u, Lu)
    simp only [hgs] at ih2
    refine WK.le ?_ ?_ (ih2 ⟨by omega, hlb, hl7, by omega, hu⟩ (by omega))
    · exact ⟨rfl, rfl, rfl, rfl, rfl, rfl, congrArg (fun z => some (AV.int .i64 z)) (by omega), trivial⟩
    · exact List.Sublist.cons_cons _ (List.Sublist.cons_cons _ (List.Sublist.cons_cons _ (List.Sublist.cons_cons _ (List.sublist_append_left _ _))))
end Go.Proofs.Ytekpffjcffeanaa

/- The reference's CheckProof over the calculator's memory. -/
namespace Go.Proofs.Ytekpffjcffeanaa
open Go.Proofs.Ytekpffjcffeanaa.Ev

theorem cpR_no {lv : Int} {cs : List Cy} {ss : List Sh} {lo hi height : Int} {C : List Int} (h : minR lv cs ss lo hi ≠ 0) : cpR lv cs ss lo hi height C = minR lv cs ss lo hi := if_pos h
set_option maxRecDepth 100000 in
set_option maxHeartbeats 64000000 in
theorem rcheckProof_con (h : Heap) (g : Gd h) (lv lo hi height : Int) (cv sv v : AV) (cl : List Cw) (ss : List Sh) (C : List Int) (hc : CyV h cv cl) (hs : ShV h sv ss) (hv : ItV h v C) (hl : C.length ≤ 9223372036854775807) :
    Con Try.prog Bs 54 [.agg [.int .i64 lv, cv, sv], .agg [.int .i64 lo, .int .i64 hi], .int .i64 height, v] h [] (.int .i64 (cpR lv (cys cl) ss lo hi height C)) [] := by
  refine Con.start rfl Try.func54 rfl rfl Try.ntmps54 rfl rfl g ?_
  (refine WK.seq ?_; refine WK.region ?_; refine St.box fun _ _ => ?_; refine St.box fun _ _ => ?_; refine St.assign ?_; refine WO.nil ?_; refine WK.seq ?_; refine WK.region ?_; refine St.load ?_; refine St.load ?_)
  rename_i p4 hp4 p5 hp5
  refine St.call (fun _ => rfl) (fun h2 hh => watched_con h2 hh.gd lv lo hi cv sv cl ss (hc.vw hh) (hs.vw hh)) ?_
  (refine St.assign ?_; refine WO.nil ?_; refine WK.seq ?_; refine WK.seq ?_; refine WK.region ?_; refine St.move ?_; refine St.bin ?_; refine WO.nil ?_)
  refine St.splitC (fun h1 => ?_) (fun h1 => ?_)
  · (refine WK.seq ?_; refine WK.region ?_; refine St.move ?_; refine St.assign ?_; refine WO.nil ?_)
    refine St.ret (by first | exact .tmp .nil | exact .cell .nil | exact .cell (.tmp .nil) | exact .tmp (.tmp .nil) | exact .cell (.cell .nil) | exact .tmp (.cell .nil) | exact .nil | exact .tmp (.cell (.tmp .nil)) | exact .cell (.tmp (.tmp .nil)) | exact .cell (.cell (.tmp .nil)) | exact .tmp (.tmp (.tmp .nil)) | exact .cell (.cell (.cell .nil))) ?_
    rw [cpR_no (by simpa using h1)]
    rfl
  have e1 : minR lv (cys cl) ss lo hi = 0 := by simpa using h1
  have m := minR_ok e1
  have w := m.w
  have m1 := m.l1
  have m2 := m.le
  have m3 := m.h2
  have m4 := m.n
  have e : cpR lv (cys cl) ss lo hi height C = if 2000 < C.length then 2 else if (cutsB hi lo C && (prv (addF (cys cl) ss lo) lv height lo C (hi - lo + 1).toNat).isSome) = false then 8 else 0 := if_neg (by simp [e1])
  rw [e]
  (refine WK.skip ?_; refine WK.seq ?_; refine WK.seq ?_; refine WK.region ?_; refine St.move ?_)
  refine St.lenV rfl hv.len ?_
  (refine St.bin ?_; refine WO.nil ?_)
  refine St.splitC (fun h2 => ?_) (fun h2 => ?_)
  · rw [if_pos (by simp at h2; omega)]
    (refine WK.seq ?_; refine WK.region ?_; refine St.assign ?_; refine WO.nil ?_)
    refine St.ret (by first | exact .tmp .nil | exact .cell .nil | exact .cell (.tmp .nil) | exact .tmp (.tmp .nil) | exact .cell (.cell .nil) | exact .tmp (.cell .nil) | exact .nil | exact .tmp (.cell (.tmp .nil)) | exact .cell (.tmp (.tmp .nil)) | exact .cell (.cell (.tmp .nil)) | exact .tmp (.tmp (.tmp .nil)) | exact .cell (.cell (.cell .nil))) ?_
    rfl
  rw [if_neg (by simp at h2; omega)]
  have hl2 : C.length ≤ 2000 := by simp at h2; omega
  clear h1 h2 e
  (refine WK.skip ?_; refine WK.seq ?_; refine WK.seq ?_; refine WK.region ?_; refine St.assign ?_; refine WO.nil ?_; refine WK.block ?_)
  refine WK.inv (ι := Nat × Int) (fun z => [(2, .int .i64 height), (3, v), (4, .ptr p4 0), (5, .ptr p5 0), (10, .int .i64 z.1)]) (fun _ => [(p5, .cells [.int .i64 lo, .int .i64 hi] 37), (p4, .cells [.int .i64 lv, cv, sv] 25)]) (fun z => z.1 ≤ C.length ∧ lo ≤ z.2 ∧ (z.1 = 0 → z.2 = lo) ∧ (0 < z.1 → z.2 = nth C (z.1 - 1)) ∧ cutsB hi lo C = cutsB hi z.2 (C.drop z.1)) (fun z => C.length - z.1) (0, lo) ⟨Nat.zero_le _, Int.le_refl _, fun _ => rfl, fun h => absurd h (Nat.lt_irrefl 0), rfl⟩ ⟨rfl, rfl, rfl, rfl, rfl, trivial⟩ (by (repeat (first | exact List.Sublist.refl _ | exact List.nil_sublist _ | apply List.Sublist.cons_cons | apply List.Sublist.cons))) ?_
  rintro ⟨i, b⟩ ⟨hi1, hb0, hb1, hb2, hcu⟩ ih
  simp only at hi1 hb0 hb1 hb2 hcu ih ⊢
  (refine WK.seq ?_; refine WK.seq ?_; refine WK.region ?_; refine St.move ?_; refine St.move ?_)
  refine St.lenV rfl hv.len ?_
  (refine St.bin ?_; refine WO.nil ?_)
  refine St.splitC (fun hcc => ?_) (fun hcc => ?_)
  · have hlt : i < C.length := by simp at hcc; omega
    have hd := cutsB_drop (hi := hi) hlt b
    obtain ⟨bl, off, cp, rfl, hk⟩ := hv.ne (by omega)
    (refine WK.skip ?_; refine WK.seq ?_; refine WK.block ?_; refine WK.seq ?_; refine WK.regionD ?_; refine St.move ?_; refine St.move ?_)
    refine St.at ?_
    skip
    refine St.loadX (fun h hh => ((hk.vw hh).at_ (z := (i : Int)) (n := i) (by omega) hlt).one rfl) ?_
    (refine St.fieldAddr ?_; refine St.load ?_; refine St.bin ?_; refine St.move ?_)
    refine St.split (fun c1 => ?_) (fun c1 => ?_)
    · rw [if_pos (.inl (by simp at c1; omega))] at hd
      (refine St.skip ?_; refine St.skip ?_; refine St.skip ?_; refine St.skip ?_; refine St.skip ?_; refine St.skip ?_; refine St.skip ?_; refine St.pickT ?_; refine St.move ?_; refine St.skip ?_; refine St.skip ?_; refine St.skip ?_; refine St.skip ?_; refine St.skip ?_; refine St.skip ?_; refine St.skip ?_; refine St.skip ?_; refine St.skip ?_; refine St.skip ?_; refine St.skip ?_; refine St.skip ?_; refine St.skip ?_; refine St.skip ?_; refine St.skip ?_; refine St.pickT ?_; refine WO.nil ?_; refine WK.condT ?_; refine WK.seq ?_; refine WK.region ?_; refine St.assign ?_; refine WO.nil ?_)
      refine St.ret (by first | exact .tmp .nil | exact .cell .nil | exact .cell (.tmp .nil) | exact .tmp (.tmp .nil) | exact .cell (.cell .nil) | exact .tmp (.cell .nil) | exact .nil | exact .tmp (.cell (.tmp .nil)) | exact .cell (.tmp (.tmp .nil)) | exact .cell (.cell (.tmp .nil)) | exact .tmp (.tmp (.tmp .nil)) | exact .cell (.cell (.cell .nil))) ?_
      rw [hcu, hd]; rfl
    (refine St.move ?_; refine St.move ?_)
    refine St.at ?_
    skip
    refine St.loadX (fun h hh => ((hk.vw hh).at_ (z := (i : Int)) (n := i) (by omega) hlt).one rfl) ?_
    (refine St.fieldAddr ?_; refine St.load ?_; refine St.bin ?_; refine St.pickF ?_; refine St.move ?_)
    refine St.split (fun c2 => ?_) (fun c2 => ?_)
    · rw [if_pos (.inr (by simpa using c2))] at hd
      (refine St.skip ?_; refine St.skip ?_; refine St.skip ?_; refine St.skip ?_; refine St.skip ?_; refine St.skip ?_; refine St.skip ?_; refine St.skip ?_; refine St.skip ?_; refine St.skip ?_; refine St.skip ?_; refine St.skip ?_; refine St.skip ?_; refine St.skip ?_; refine St.skip ?_; refine St.pickT ?_; refine WO.nil ?_; refine WK.condT ?_; refine WK.seq ?_; refine WK.region ?_; refine St.assign ?_; refine WO.nil ?_)
      refine St.ret (by first | exact .tmp .nil | exact .cell .nil | exact .cell (.tmp .nil) | exact .tmp (.tmp .nil) | exact .cell (.cell .nil) | exact .tmp (.cell .nil) | exact .nil | exact .tmp (.cell (.tmp .nil)) | exact .cell (.tmp (.tmp .nil)) | exact .cell (.cell (.tmp .nil)) | exact .tmp (.tmp (.tmp .nil)) | exact .cell (.cell (.cell .nil))) ?_
      rw [hcu, hd]; rfl
    (refine St.move ?_; refine St.bin ?_; refine St.move ?_)
    refine St.split (fun c3 => ?_) (fun c3 => ?_)
    · have hpi : 0 < i := by simp at c3; omega
      have eb := hb2 hpi
      (refine St.move ?_; refine St.move ?_)
      refine St.at ?_
      skip
      refine St.loadX (fun h hh => ((hk.vw hh).at_ (z := (i : Int)) (n := i) (by omega) hlt).one rfl) ?_
      (refine St.move ?_; refine St.move ?_; refine St.binI ?_; refine St.maxI ?_)
      refine St.at ?_
      skip
      refine St.loadX (fun h hh => ((hk.vw hh).at_ (z := max 0 ((i : Int) - 1)) (n := i - 1) (by omega) (by omega)).one rfl) ?_
      (refine St.bin ?_; refine St.pickT ?_; refine St.pickF ?_; refine WO.nil ?_)
      refine St.splitC (fun c4 => ?_) (fun c4 => ?_)
      · rw [if_pos (.inl (by rw [eb]; simpa using c4))] at hd
        (refine WK.seq ?_; refine WK.region ?_; refine St.assign ?_; refine WO.nil ?_)
        refine St.ret (by first | exact .tmp .nil | exact .cell .nil | exact .cell (.tmp .nil) | exact .tmp (.tmp .nil) | exact .cell (.cell .nil) | exact .tmp (.cell .nil) | exact .nil | exact .tmp (.cell (.tmp .nil)) | exact .cell (.tmp (.tmp .nil)) | exact .cell (.cell (.tmp .nil)) | exact .tmp (.tmp (.tmp .nil)) | exact .cell (.cell (.cell .nil))) ?_
        rw [hcu, hd]; rfl
      rw [if_neg (by rw [eb]; simp at c2 c4; omega)] at hd
      (refine WK.skip ?_; refine WK.blk ?_; refine WK.region ?_; refine St.move ?_; refine St.binI ?_; refine St.assign ?_; refine WO.nil ?_)
      refine WK.le ?_ (by (repeat (first | exact List.Sublist.refl _ | exact List.nil_sublist _ | apply List.Sublist.cons_cons | apply List.Sublist.cons))) (ih (i + 1, nth C i) ⟨by simp only; omega, by simp at c1 ⊢; omega, fun h => by simp at h, fun _ => rfl, by simp only; rw [hcu, hd]⟩ (by simp only; omega))
      exact ⟨rfl, rfl, rfl, rfl, rfl, trivial⟩
    · have hz : i = 0 := by simp at c3; omega
      have eb := hb1 hz
      rw [if_neg (by rw [eb]; simp at c1 c2; omega)] at hd
      (refine St.skip ?_; refine St.skip ?_; refine St.skip ?_; refine St.skip ?_; refine St.skip ?_; refine St.skip ?_; refine St.skip ?_; refine St.skip ?_; refine St.skip ?_; refine St.skip ?_; refine St.skip ?_; refine St.pickF ?_; refine St.pickF ?_; refine WO.nil ?_; refine WK.condF ?_; refine WK.skip ?_; refine WK.blk ?_; refine WK.region ?_; refine St.move ?_; refine St.binI ?_; refine St.assign ?_; refine WO.nil ?_)
      refine WK.le ?_ (by (repeat (first | exact List.Sublist.refl _ | exact List.nil_sublist _ | apply List.Sublist.cons_cons | apply List.Sublist.cons))) (ih (i + 1, nth C i) ⟨by simp only; omega, by simp at c1 ⊢; omega, fun h => by simp at h, fun _ => rfl, by simp only; rw [hcu, hd]⟩ (by simp only; omega))
      exact ⟨rfl, rfl, rfl, rfl, rfl, trivial⟩
  have : i = C.length := by simp at hcc; omega
  subst this
  clear ih
  rw [List.drop_eq_nil_of_le (Nat.le_refl _)] at hcu
  have hct : cutsB hi lo C = true := hcu
  obtain ⟨hC, hCh⟩ := cutsB_asc hct
  rw [hct, Bool.true_and]
  have hA7 : ∀ k : Nat, (addF (cys cl) ss lo k).length = 7 := fun k => addK_len (Nat.le_refl _) w.n1
  have hR7 : ∀ k : Nat, (rotL (addF (cys cl) ss lo k)).length = 7 := fun k => (rotL_len _).trans (hA7 k)
  have hRb : ∀ k : Nat, ∀ x ∈ rotL (addF (cys cl) ss lo k), -4000 ≤ x ∧ x ≤ 4000 := fun k => rotL_bd (c := 4000) (addA_bd (t := lo + (k : Int)) (chkC_all w.cs) (chkS_all w.ss))
  have hpr : (prv (addF (cys cl) ss lo) lv height lo C (hi - lo + 1).toNat).isSome = (prv (fun k => rotL (addF (cys cl) ss lo k)) lv height lo C (hi - lo + 1).toNat).isSome := by
    rw [prv_rot hA7]
    cases prv (addF (cys cl) ss lo) lv height lo C (hi - lo + 1).toNat <;> rfl
  rw [hpr]
  have hbo : ∀ k : Nat, rotL (addA (cys cl) ss (lo + (k : Int))) = rotL (addF (cys cl) ss lo k) := fun _ => rfl
  have hP0 := prv_first (fun k => rotL (addF (cys cl) ss lo k)) lv height lo C
  have hPs := prv_step (fun k => rotL (addF (cys cl) ss lo k)) lv height lo hR7 C
  have hNl := now_len (fun k => rotL (addF (cys cl) ss lo k)) lo hR7 C
  generalize hAd : (fun k : Nat => rotL (addF (cys cl) ss lo k)) = A at *
  have hAk : ∀ k : Nat, rotL (addF (cys cl) ss lo k) = A k := fun k => by rw [← hAd]
  simp only [hAk] at hR7 hRb hbo
  have hB : ∀ (h2 : Heap) {V : Ob} (k : Nat), lo + (k : Int) ≤ hi → Vw h [] V h2 → Con Try.prog Bs 102 [.agg [.int .i64 lv, cv, sv], .int .i64 (lo + (k : Int))] h2 [] (.agg ((A k).map (AV.int .i64))) [] := fun h2 V k hk hh => by
    have := bottomed_con h2 hh.gd lv (lo + (k : Int)) cv sv cl ss (hc.vw hh) (hs.vw hh) w (by omega) (by omega)
    rw [hbo] at this
    exact this
  have hc1 : cntC lo C 1 = 0 := by
    unfold cntC
    rw [List.filter_eq_nil_iff.2 fun c hc => by
      have := ascC_lt hC c hc
      simp
      omega]
    rfl
  have hnd := ascC_nodup hC
  have hbad : ∀ j : Nat, j < (hi - lo + 1).toNat → (prv A lv height lo C (j + 1) = some (now A lo C j) ∨ (prv A lv height lo C (j + 1) = none ∧ lv + sumL (now A lo C j) < height)) → lv + sumL (now A lo C j) < height → prv A lv height lo C (hi - lo + 1).toNat = none := fun j hj hp hlow => by
    rcases hp with hp | ⟨hp, _⟩
    · have := prv_ge A lv height lo hp
      omega
    · have := prv_none hp ((hi - lo + 1).toNat - (j + 1))
      rw [show j + 1 + ((hi - lo + 1).toNat - (j + 1)) = (hi - lo + 1).toNat by omega] at this
      exact this
  (refine WK.exit ?_; refine WK.seq ?_; refine WK.region ?_; refine St.assign ?_; refine WO.nil ?_; refine WK.seq ?_; refine WK.region ?_; refine St.load ?_; refine St.fieldAddr ?_; refine St.load ?_)
  refine St.call (v := .agg ((A 0).map (AV.int .i64))) (fun _ => rfl) (fun h2 hh => by
    have := hB h2 0 (by simp; omega) hh
    simp only [Int.natCast_zero, Int.add_zero] at this
    exact this) ?_
  (refine St.alloc fun _ _ => ?_)
  rename_i p12 hp12
  refine St.store0 (hv := store_bot (by rw [List.length_map]; exact hR7 0) rfl (ints_ok _)) ?_
  (refine WO.nil ?_; refine WK.seq ?_; refine WK.seq ?_; refine WK.region ?_; refine St.fieldAddr ?_; refine St.load ?_; refine St.binI ?_; refine St.assign ?_; refine WO.nil ?_; refine WK.block ?_)
  refine WK.perm (L' := (p12, .cells ((now A lo C 0).map (AV.int .i64)) 137) :: [(p5, .cells [.int .i64 lo, .int .i64 hi] 37), (p4, .cells [.int .i64 lv, cv, sv] 25)]) (List.Perm.refl _) ?_
  refine WK.inv (ι := Nat) (fun j => [(2, .int .i64 height), (3, v), (4, .ptr p4 0), (5, .ptr p5 0), (11, .int .i64 (cntC lo C (j + 1) : Int)), (12, .ptr p12 0), (13, .int .i64 (lo + ((j + 1 : Nat) : Int)))]) (fun j => (p12, .cells ((now A lo C j).map (AV.int .i64)) 137) :: [(p5, .cells [.int .i64 lo, .int .i64 hi] 37), (p4, .cells [.int .i64 lv, cv, sv] 25)]) (fun j => j < (hi - lo + 1).toNat ∧ (∀ x ∈ now A lo C j, -4000 ≤ x ∧ x ≤ 4000) ∧ (prv A lv height lo C (j + 1) = some (now A lo C j) ∨ (prv A lv height lo C (j + 1) = none ∧ lv + sumL (now A lo C j) < height))) (fun j => (hi - lo + 1).toNat - j) 0 ⟨by omega, hRb 0, hP0⟩ ⟨rfl, rfl, rfl, rfl, congrArg (fun z : Nat => some (AV.int .i64 (z : Int))) hc1.symm, rfl, congrArg (fun z => some (AV.int .i64 z)) (by simp), trivial⟩ (by (repeat (first | exact List.Sublist.refl _ | exact List.nil_sublist _ | apply List.Sublist.cons_cons | apply List.Sublist.cons))) ?_
  rintro j ⟨hj, hnb, hP⟩ ih
  have hn7 := hNl j
  have hcs := cntC_succ lo hnd (j + 1)
  have hcle := cntC_le lo C (j + 1)
  (refine WK.seq ?_; refine WK.seq ?_; refine WK.region ?_; refine St.move ?_; refine St.fieldAddr ?_; refine St.load ?_; refine St.bin ?_; refine WO.nil ?_)
  refine St.splitC (fun hcc => ?_) (fun hcc => ?_)
  rotate_left
  · have hje : j + 1 = (hi - lo + 1).toNat := by simp at hcc; omega
    rw [← hje]
    (refine WK.exit ?_; refine WK.seq ?_; refine WK.seq ?_; refine WK.region ?_; refine St.load ?_)
    refine St.load (hv := load_bot (by rw [List.length_map]; exact hn7)) ?_
    skip
    refine St.call (fun _ => rfl) (fun h2 hh => high_bot_con h2 hh.gd lv cv sv _ hn7 hnb w.l1 w.l2) ?_
    (refine St.move ?_; refine St.bin ?_; refine WO.nil ?_)
    refine St.splitC (fun c1 => ?_) (fun c1 => ?_)
    · have hno := hbad j hj hP (by simpa using c1)
      rw [← hje] at hno
      rw [hno]
      (refine WK.seq ?_; refine WK.region ?_; refine St.assign ?_; refine WO.nil ?_)
      refine St.ret (by first | exact .tmp .nil | exact .cell .nil | exact .cell (.tmp .nil) | exact .tmp (.tmp .nil) | exact .cell (.cell .nil) | exact .tmp (.cell .nil) | exact .nil | exact .tmp (.cell (.tmp .nil)) | exact .cell (.tmp (.tmp .nil)) | exact .cell (.cell (.tmp .nil)) | exact .tmp (.tmp (.tmp .nil)) | exact .cell (.cell (.cell .nil))) ?_
      rfl
    · rcases hP with hP | ⟨_, hlow⟩
      · rw [hP]
        (refine WK.skip ?_; refine WK.seq ?_; refine WK.region ?_; refine St.assign ?_; refine WO.nil ?_)
        refine St.ret (by first | exact .tmp .nil | exact .cell .nil | exact .cell (.tmp .nil) | exact .tmp (.tmp .nil) | exact .cell (.cell .nil) | exact .tmp (.cell .nil) | exact .nil | exact .tmp (.cell (.tmp .nil)) | exact .cell (.tmp (.tmp .nil)) | exact .cell (.cell (.tmp .nil)) | exact .tmp (.tmp (.tmp .nil)) | exact .cell (.cell (.cell .nil))) ?_
        rfl
      · exfalso
        simp at c1
        omega
  have hle : lo + ((j + 1 : Nat) : Int) ≤ hi := by simpa using hcc
  have hstep := hPs j hP
  (refine WK.skip ?_; refine WK.seq ?_; refine WK.block ?_; refine WK.seq ?_; refine WK.region ?_; refine St.move ?_; refine St.move ?_)
  refine St.lenV rfl hv.len ?_
  (refine St.bin ?_; refine St.move ?_)
  refine St.split (fun c1 => ?_) (fun c1 => ?_)
  · have hlt : cntC lo C (j + 1) < C.length := by simp at c1; omega
    have hnc := nth_cut hC (j + 1) hlt
    obtain ⟨bl, off, cp, rfl, hk⟩ := hv.ne (by omega)
    (refine St.move ?_; refine St.move ?_)
    refine St.at ?_
    skip
    refine St.loadX (fun h hh => ((hk.vw hh).at_ (z := (cntC lo C (j + 1) : Int)) (n := cntC lo C (j + 1)) (by omega) hlt).one rfl) ?_
    (refine St.move ?_; refine St.bin ?_; refine St.pickT ?_; refine WO.nil ?_)
    refine St.splitC (fun c2 => ?_) (fun c2 => ?_)
    · have hm := hnc.1 (by simpa using c2)
      rw [if_pos hm] at hcs
      have hnow : now A lo C (j + 1) = A (j + 1) := if_pos hm
      (refine WK.seq ?_; refine WK.seq ?_; refine WK.region ?_; refine St.load ?_)
      refine St.load (hv := load_bot (by rw [List.length_map]; exact hn7)) ?_
      skip
      refine St.call (fun _ => rfl) (fun h2 hh => high_bot_con h2 hh.gd lv cv sv _ hn7 hnb w.l1 w.l2) ?_
      (refine St.move ?_; refine St.bin ?_; refine WO.nil ?_)
      refine St.splitC (fun c3 => ?_) (fun c3 => ?_)
      · rw [hbad j hj hP (by simpa using c3)]
        (refine WK.seq ?_; refine WK.region ?_; refine St.assign ?_; refine WO.nil ?_)
        refine St.ret (by first | exact .tmp .nil | exact .cell .nil | exact .cell (.tmp .nil) | exact .tmp (.tmp .nil) | exact .cell (.cell .nil) | exact .tmp (.cell .nil) | exact .nil | exact .tmp (.cell (.tmp .nil)) | exact .cell (.tmp (.tmp .nil)) | exact .cell (.cell (.tmp .nil)) | exact .tmp (.tmp (.tmp .nil)) | exact .cell (.cell (.cell .nil))) ?_
        rfl
      (refine WK.skip ?_; refine WK.seq ?_; refine WK.region ?_; refine St.load ?_; refine St.move ?_)
      refine St.call (fun _ => rfl) (fun h2 hh => hB h2 (j + 1) hle hh) ?_
      skip
      refine St.store0 (hv := store_bot (by rw [List.length_map]; exact hR7 (j + 1)) (by rw [List.length_map]; exact hn7) (ints_ok _)) ?_
      (refine WO.nil ?_; refine WK.region ?_; refine St.move ?_; refine St.binI ?_; refine St.assign ?_; refine WO.nil ?_; refine WK.blk ?_; refine WK.region ?_; refine St.move ?_; refine St.binI ?_; refine St.assign ?_; refine WO.nil ?_)
      have ih2 := ih (j + 1) ⟨by omega, by rw [hnow]; exact hRb _, hstep fun _ => by simpa using c3⟩ (by omega)
      rw [hnow] at ih2
      refine WK.le ?_ (by (repeat (first | exact List.Sublist.refl _ | exact List.nil_sublist _ | apply List.Sublist.cons_cons | apply List.Sublist.cons))) ih2
      exact ⟨rfl, rfl, rfl, rfl, congrArg (fun z : Int => some (AV.int .i64 z)) (by rw [hcs]; rfl), rfl, congrArg (fun z => some (AV.int .i64 z)) (by omega), trivial⟩
    · have hm : lo + ((j + 1 : Nat) : Int) ∉ C := fun hm => by
        have := hnc.2 hm
        simp at c2
        exact c2 (by omega)
      rw [if_neg hm] at hcs
      have hnow : now A lo C (j + 1) = lowR (now A lo C j) (A (j + 1)) := if_neg hm
      have hl7 := lowR_len hn7 (hR7 (j + 1))
      have hlb := lowR_bd (c := 4000) hnb (hRb (j + 1))
      (refine WK.regionD ?_)
      refine St.load (hv := load_bot (by rw [List.length_map]; exact hn7)) ?_
      (refine St.load ?_; refine St.move ?_)
      refine St.call (fun _ => rfl) (fun h2 hh => hB h2 (j + 1) hle hh) ?_
      refine St.call (fun _ => rfl) (fun h2 hh => rlower_con h2 hh.gd (now A lo C j) (A (j + 1)) hn7 (hR7 (j + 1))) ?_
      refine StD.store0 (hv := store_bot (by rw [List.length_map]; exact hl7) (by rw [List.length_map]; exact hn7) (ints_ok _)) ?_
      (refine WO.nil ?_; refine WK.blk ?_; refine WK.region ?_; refine St.move ?_; refine St.binI ?_; refine St.assign ?_; refine WO.nil ?_)
      have ih2 := ih (j + 1) ⟨by omega, by rw [hnow]; exact hlb, hstep fun q => absurd q hm⟩ (by omega)
      rw [hnow] at ih2
      refine WK.le ?_ (by (repeat (first | exact List.Sublist.refl _ | exact List.nil_sublist _ | apply List.Sublist.cons_cons | apply List.Sublist.cons))) ih2
      exact ⟨rfl, rfl, rfl, rfl, congrArg (fun z : Int => some (AV.int .i64 z)) (by rw [hcs]; rfl), rfl, congrArg (fun z => some (AV.int .i64 z)) (by omega), trivial⟩
  · have hm : lo + ((j + 1 : Nat) : Int) ∉ C := cnt_out hC (by simp at c1; omega)
    rw [if_neg hm] at hcs
    have hnow : now A lo C (j + 1) = lowR (now A lo C j) (A (j + 1)) := if_neg hm
    have hl7 := lowR_len hn7 (hR7 (j + 1))
    have hlb := lowR_bd (c := 4000) hnb (hRb (j + 1))
    (refine St.skip ?_; refine St.skip ?_; refine St.skip ?_; refine St.skip ?_; refine St.skip ?_; refine St.skip ?_; refine St.pickF ?_; refine WO.nil ?_; refine WK.condF ?_; refine WK.regionD ?_)
    refine St.load (hv := load_bot (by rw [List.length_map]; exact hn7)) ?_
    (refine St.load ?_; refine St.move ?_)
    refine St.call (fun _ => rfl) (fun h2 hh => hB h2 (j + 1) hle hh) ?_
    refine St.call (fun _ => rfl) (fun h2 hh => rlower_con h2 hh.gd (now A lo C j) (A (j + 1)) hn7 (hR7 (j + 1))) ?_
    refine StD.store0 (hv := store_bot (by rw [List.length_map]; exact hl7) (by rw [List.length_map]; exact hn7) (ints_ok _)) ?_
    (refine WO.nil ?_; refine WK.blk ?_; refine WK.region ?_; refine St.move ?_; refine St.binI ?_; refine St.assign ?_; refine WO.nil ?_)
    have ih2 := ih (j + 1) ⟨by omega, by rw [hnow]; exact hlb, hstep fun q => absurd q hm⟩ (by omega)
    rw [hnow] at ih2
    refine WK.le ?_ (by (repeat (first | exact List.Sublist.refl _ | exact List.nil_sublist _ | apply List.Sublist.cons_cons | apply List.Sublist.cons))) ih2
    exact ⟨rfl, rfl, rfl, rfl, congrArg (fun z : Int => some (AV.int .i64 z)) (by rw [hcs]; rfl), rfl, congrArg (fun z => some (AV.int .i64 z)) (by omega), trivial⟩
end Go.Proofs.Ytekpffjcffeanaa

/- The law TideProofsHold over the calculator's memory. -/
namespace Go.Proofs.Ytekpffjcffeanaa
open Go.Proofs.Ytekpffjcffeanaa.Ev

theorem isl_itv {h0 h : Heap} {W : List Nat} {V : Ob} {C : List Int} {v : AV} {Lv : Ob} (hw : IsL 3 1 C.length (C.map (AV.int .i64)) v Lv) (k : Vw h0 W V h) (hs : ∀ x ∈ Lv, x ∈ V) : ItV h v C := by
  rcases hw.open_ with ⟨rfl, _, h1, _⟩ | ⟨i, c, o, rfl, rfl, ho, _⟩
  · exact .inl ⟨.inl rfl, List.length_eq_zero_iff.1 h1⟩
  · exact .inr ⟨i, 0, c, rfl, k.ins (hs _ (List.mem_cons_self ..)) ho⟩
end Go.Proofs.Ytekpffjcffeanaa

/- The law TideProves over the calculator's memory. -/
namespace Go.Proofs.Ytekpffjcffeanaa
open Go.Proofs.Ytekpffjcffeanaa.Ev

theorem pv_len {lv : Int} {cs : List Cy} {ss : List Sh} {lo hi height : Int} : (pvR lv cs ss lo hi height).1.length ≤ 2000 := by
  unfold pvR
  split
  · exact Nat.zero_le _
  · unfold pvS
    split
    · exact Nat.zero_le _
    · split
      · exact Nat.zero_le _
      · simp only; omega
set_option maxRecDepth 100000 in
set_option maxHeartbeats 32000000 in
theorem provesL_con (h : Heap) (g : Gd h) (lv lo hi height : Int) (cv sv v : AV) (cl : List Cw) (ss : List Sh) (C : List Int) (hc : CyV h cv cl) (hs : ShV h sv ss) (hcl : cl.length ≤ 9223372036854775807) (hv : ItV h v C) (hl : C.length ≤ 9223372036854775807) :
    Con Try.prog Bs 14 [.agg [.int .i64 lv, cv, sv], .agg [.int .i64 lo, .int .i64 hi], .int .i64 height, v] h [] (.bool true) [] := by
  refine Con.start rfl Try.func14 rfl rfl Try.ntmps14 rfl rfl g ?_
  (refine WK.seq ?_; refine WK.region ?_; refine St.box fun _ _ => ?_; refine St.box fun _ _ => ?_; refine St.assign ?_; refine WO.nil ?_; refine WK.seq ?_; refine WK.seq ?_; refine WK.region ?_; refine St.load ?_)
  rename_i p4 hp4 p5 hp5
  refine St.call (fun _ => rfl) (fun h2 hh => few_con h2 hh.gd lv cv sv cl ss (hc.vw hh) (hs.vw hh) hcl) ?_
  (refine St.un ?_; refine St.move ?_)
  refine St.split (fun h1 => ?_) (fun h1 => ?_)
  · (refine St.skip ?_; refine St.skip ?_; refine St.skip ?_; refine St.pickT ?_; refine St.move ?_; refine St.skip ?_; refine St.skip ?_; refine St.skip ?_; refine St.skip ?_; refine St.skip ?_; refine St.skip ?_; refine St.skip ?_; refine St.skip ?_; refine St.pickT ?_; refine St.move ?_; refine St.skip ?_; refine St.skip ?_; refine St.skip ?_; refine St.pickT ?_; refine WO.nil ?_; refine WK.condT ?_; refine WK.seq ?_; refine WK.region ?_)
    refine St.call (fun _ => rfl) (fun h2 hh => sanity_con h2 hh.gd) ?_
    (refine St.assign ?_; refine WO.nil ?_)
    refine St.ret (by first | exact .tmp .nil | exact .cell .nil | exact .cell (.tmp .nil) | exact .tmp (.tmp .nil) | exact .cell (.cell .nil) | exact .tmp (.cell .nil) | exact .nil | exact .tmp (.cell (.tmp .nil)) | exact .cell (.tmp (.tmp .nil)) | exact .cell (.cell (.tmp .nil)) | exact .tmp (.tmp (.tmp .nil)) | exact .cell (.cell (.cell .nil))) ?_
    rfl
  (refine St.load ?_)
  refine St.call (fun _ => rfl) (fun h2 hh => short_con h2 hh.gd lo hi) ?_
  (refine St.un ?_; refine St.pickF ?_; refine St.move ?_)
  refine St.split (fun h1 => ?_) (fun h1 => ?_)
  · (refine St.skip ?_; refine St.skip ?_; refine St.skip ?_; refine St.skip ?_; refine St.skip ?_; refine St.skip ?_; refine St.skip ?_; refine St.skip ?_; refine St.pickT ?_; refine St.move ?_; refine St.skip ?_; refine St.skip ?_; refine St.skip ?_; refine St.pickT ?_; refine WO.nil ?_; refine WK.condT ?_; refine WK.seq ?_; refine WK.region ?_)
    refine St.call (fun _ => rfl) (fun h2 hh => sanity_con h2 hh.gd) ?_
    (refine St.assign ?_; refine WO.nil ?_)
    refine St.ret (by first | exact .tmp .nil | exact .cell .nil | exact .cell (.tmp .nil) | exact .tmp (.tmp .nil) | exact .cell (.cell .nil) | exact .tmp (.cell .nil) | exact .nil | exact .tmp (.cell (.tmp .nil)) | exact .cell (.tmp (.tmp .nil)) | exact .cell (.cell (.tmp .nil)) | exact .tmp (.tmp (.tmp .nil)) | exact .cell (.cell (.cell .nil))) ?_
    rfl
  (refine St.move ?_)
  refine St.lenV rfl hv.len ?_
  (refine St.bin ?_; refine St.move ?_)
  refine St.split (fun b1 => ?_) (fun b1 => ?_)
  · (refine St.move ?_)
    refine St.lenV rfl hv.len ?_
    (refine St.bin ?_; refine St.pickT ?_; refine St.pickF ?_; refine St.move ?_)
    refine St.split (fun b2 => ?_) (fun b2 => ?_)
    · (refine St.skip ?_; refine St.skip ?_; refine St.skip ?_; refine St.pickT ?_; refine WO.nil ?_; refine WK.condT ?_; refine WK.seq ?_; refine WK.region ?_)
      refine St.call (fun _ => rfl) (fun h2 hh => sanity_con h2 hh.gd) ?_
      (refine St.assign ?_; refine WO.nil ?_)
      refine St.ret (by first | exact .tmp .nil | exact .cell .nil | exact .cell (.tmp .nil) | exact .tmp (.tmp .nil) | exact .cell (.cell .nil) | exact .tmp (.cell .nil) | exact .nil | exact .tmp (.cell (.tmp .nil)) | exact .cell (.tmp (.tmp .nil)) | exact .cell (.cell (.tmp .nil)) | exact .tmp (.tmp (.tmp .nil)) | exact .cell (.cell (.cell .nil))) ?_
      rfl
    (refine St.move ?_)
    refine St.lenV rfl hv.len ?_
    (refine St.bin ?_; refine St.pickF ?_; refine WO.nil ?_)
    refine St.splitC (fun _ => ?_) (fun _ => ?_)
    · (refine WK.seq ?_; refine WK.region ?_)
      refine St.call (fun _ => rfl) (fun h2 hh => sanity_con h2 hh.gd) ?_
      (refine St.assign ?_; refine WO.nil ?_)
      refine St.ret (by first | exact .tmp .nil | exact .cell .nil | exact .cell (.tmp .nil) | exact .tmp (.tmp .nil) | exact .cell (.cell .nil) | exact .tmp (.cell .nil) | exact .nil | exact .tmp (.cell (.tmp .nil)) | exact .cell (.tmp (.tmp .nil)) | exact .cell (.cell (.tmp .nil)) | exact .tmp (.tmp (.tmp .nil)) | exact .cell (.cell (.cell .nil))) ?_
      rfl
    (refine WK.skip ?_; refine WK.seq ?_; refine WK.region ?_; refine St.load ?_; refine St.load ?_; refine St.move ?_)
    refine St.callR (fun _ => rfl) (fun h2 hh => proveP_con h2 hh.gd lv lo hi height cv sv cl ss (hc.vw hh) (hs.vw hh)) ?_
    rintro v1 L1 ⟨u1, rfl, hu1⟩
    refine WO.permF (L' := (p5, .cells [.int .i64 lo, .int .i64 hi] 37) :: (p4, .cells [.int .i64 lv, cv, sv] 25) :: L1) (by (refine perm_cnt fun _ _ => ?_; simp only [List.append_eq, List.cons_append, List.nil_append, List.count_append, List.count_cons, List.count_nil, Nat.add_zero, Nat.zero_add]; try ac_rfl)) ?_
    (refine St.move ?_; refine St.extract ?_; refine St.extract ?_; refine St.assign ?_; refine St.assign ?_; refine WO.nil ?_; refine WK.seq ?_; refine WK.region ?_; refine St.load ?_; refine St.load ?_; refine St.move ?_)
    refine St.callR (fun _ => rfl) (fun h2 hh => rprove_con h2 hh.gd lv lo hi height cv sv cl ss (hc.vw hh) (hs.vw hh)) ?_
    rintro v2 L2 ⟨u2, rfl, hu2⟩
    refine WO.permF (L' := (p5, .cells [.int .i64 lo, .int .i64 hi] 37) :: (p4, .cells [.int .i64 lv, cv, sv] 25) :: (L1 ++ L2)) (by (refine perm_cnt fun _ _ => ?_; simp only [List.append_eq, List.cons_append, List.nil_append, List.count_append, List.count_cons, List.count_nil, Nat.add_zero, Nat.zero_add]; try ac_rfl)) ?_
    have hpl := pv_len (lv := lv) (cs := cys cl) (ss := ss) (lo := lo) (hi := hi) (height := height)
    generalize pvR lv (cys cl) ss lo hi height = pv at *
    obtain ⟨own, e⟩ := pv
    simp only at hu1 hu2 hpl ⊢
    (refine St.alloc fun _ _ => ?_)
    rename_i p11 hp11
    refine St.store0 (hv := store_res (by kernel_rfl) (isl_ok hu2).1) ?_
    (refine WO.nil ?_; refine WK.seq ?_; refine WK.regionD ?_)
    refine St.call (fun _ => rfl) (fun h2 hh => sanity_con h2 hh.gd) ?_
    (refine St.move ?_; refine St.move ?_; refine St.fieldAddr ?_; refine St.load ?_)
    refine St.call (v := .bool true) (fun _ => rfl) (fun h2 hh => by
      have := sameInts_con h2 hh.gd u1 u2 own own (isl_itv hu1 hh (fun x hx => by simp [hx])) (isl_itv hu2 hh (fun x hx => by simp [hx])) (by omega)
      rw [decide_eq_true rfl] at this
      exact this) ?_
    (refine St.pickT ?_; refine St.move ?_; refine St.move ?_; refine St.fieldAddr ?_; refine St.load ?_; refine St.bin ?_; refine St.pickT ?_; refine St.move ?_)
    refine St.split (fun _ => ?_) (fun hb => ?_)
    rotate_left
    · simp at hb
    (refine St.load ?_; refine St.load ?_; refine St.move ?_; refine St.move ?_)
    refine St.call (fun _ => rfl) (fun h2 hh => checkProof_con h2 hh.gd lv lo hi height cv sv v cl ss C (hc.vw hh) (hs.vw hh) (hv.vw hh) hl) ?_
    (refine St.load ?_; refine St.load ?_; refine St.move ?_; refine St.move ?_)
    refine St.call (fun _ => rfl) (fun h2 hh => rcheckProof_con h2 hh.gd lv lo hi height cv sv v cl ss C (hc.vw hh) (hs.vw hh) (hv.vw hh) hl) ?_
    (refine St.bin ?_; refine St.pickT ?_; refine St.assign ?_; refine WO.nil ?_)
    refine St.ret (by first | exact .tmp .nil | exact .cell .nil | exact .cell (.tmp .nil) | exact .tmp (.tmp .nil) | exact .cell (.cell .nil) | exact .tmp (.cell .nil) | exact .nil | exact .tmp (.cell (.tmp .nil)) | exact .cell (.tmp (.tmp .nil)) | exact .cell (.cell (.tmp .nil)) | exact .tmp (.tmp (.tmp .nil)) | exact .cell (.cell (.cell .nil))) ?_
    simp [oneOf]
  (refine St.skip ?_; refine St.skip ?_; refine St.skip ?_; refine St.pickF ?_; refine St.pickF ?_; refine St.move ?_; refine St.move ?_)
  refine St.lenV rfl hv.len ?_
  (refine St.bin ?_; refine St.pickF ?_; refine WO.nil ?_)
  refine St.splitC (fun _ => ?_) (fun _ => ?_)
  · (refine WK.seq ?_; refine WK.region ?_)
    refine St.call (fun _ => rfl) (fun h2 hh => sanity_con h2 hh.gd) ?_
    (refine St.assign ?_; refine WO.nil ?_)
    refine St.ret (by first | exact .tmp .nil | exact .cell .nil | exact .cell (.tmp .nil) | exact .tmp (.tmp .nil) | exact .cell (.cell .nil) | exact .tmp (.cell .nil) | exact .nil | exact .tmp (.cell (.tmp .nil)) | exact .cell (.tmp (.tmp .nil)) | exact .cell (.cell (.tmp .nil)) | exact .tmp (.tmp (.tmp .nil)) | exact .cell (.cell (.cell .nil))) ?_
    rfl
  (refine WK.skip ?_; refine WK.seq ?_; refine WK.region ?_; refine St.load ?_; refine St.load ?_; refine St.move ?_)
  refine St.callR (fun _ => rfl) (fun h2 hh => proveP_con h2 hh.gd lv lo hi height cv sv cl ss (hc.vw hh) (hs.vw hh)) ?_
  rintro v1 L1 ⟨u1, rfl, hu1⟩
  refine WO.permF (L' := (p5, .cells [.int .i64 lo, .int .i64 hi] 37) :: (p4, .cells [.int .i64 lv, cv, sv] 25) :: L1) (by (refine perm_cnt fun _ _ => ?_; simp only [List.append_eq, List.cons_append, List.nil_append, List.count_append, List.count_cons, List.count_nil, Nat.add_zero, Nat.zero_add]; try ac_rfl)) ?_
  (refine St.move ?_; refine St.extract ?_; refine St.extract ?_; refine St.assign ?_; refine St.assign ?_; refine WO.nil ?_; refine WK.seq ?_; refine WK.region ?_; refine St.load ?_; refine St.load ?_; refine St.move ?_)
  refine St.callR (fun _ => rfl) (fun h2 hh => rprove_con h2 hh.gd lv lo hi height cv sv cl ss (hc.vw hh) (hs.vw hh)) ?_
  rintro v2 L2 ⟨u2, rfl, hu2⟩
  refine WO.permF (L' := (p5, .cells [.int .i64 lo, .int .i64 hi] 37) :: (p4, .cells [.int .i64 lv, cv, sv] 25) :: (L1 ++ L2)) (by (refine perm_cnt fun _ _ => ?_; simp only [List.append_eq, List.cons_append, List.nil_append, List.count_append, List.count_cons, List.count_nil, Nat.add_zero, Nat.zero_add]; try ac_rfl)) ?_
  have hpl := pv_len (lv := lv) (cs := cys cl) (ss := ss) (lo := lo) (hi := hi) (height := height)
  generalize pvR lv (cys cl) ss lo hi height = pv at *
  obtain ⟨own, e⟩ := pv
  simp only at hu1 hu2 hpl ⊢
  (refine St.alloc fun _ _ => ?_)
  rename_i p11 hp11
  refine St.store0 (hv := store_res (by kernel_rfl) (isl_ok hu2).1) ?_
  (refine WO.nil ?_; refine WK.seq ?_; refine WK.regionD ?_)
  refine St.call (fun _ => rfl) (fun h2 hh => sanity_con h2 hh.gd) ?_
  (refine St.move ?_; refine St.move ?_; refine St.fieldAddr ?_; refine St.load ?_)
  refine St.call (v := .bool true) (fun _ => rfl) (fun h2 hh => by
    have := sameInts_con h2 hh.gd u1 u2 own own (isl_itv hu1 hh (fun x hx => by simp [hx])) (isl_itv hu2 hh (fun x hx => by simp [hx])) (by omega)
    rw [decide_eq_true rfl] at this
    exact this) ?_
  (refine St.pickT ?_; refine St.move ?_; refine St.move ?_; refine St.fieldAddr ?_; refine St.load ?_; refine St.bin ?_; refine St.pickT ?_; refine St.move ?_)
  refine St.split (fun _ => ?_) (fun hb => ?_)
  rotate_left
  · simp at hb
  (refine St.load ?_; refine St.load ?_; refine St.move ?_; refine St.move ?_)
  refine St.call (fun _ => rfl) (fun h2 hh => checkProof_con h2 hh.gd lv lo hi height cv sv v cl ss C (hc.vw hh) (hs.vw hh) (hv.vw hh) hl) ?_
  (refine St.load ?_; refine St.load ?_; refine St.move ?_; refine St.move ?_)
  refine St.call (fun _ => rfl) (fun h2 hh => rcheckProof_con h2 hh.gd lv lo hi height cv sv v cl ss C (hc.vw hh) (hs.vw hh) (hv.vw hh) hl) ?_
  (refine St.bin ?_; refine St.pickT ?_; refine St.assign ?_; refine WO.nil ?_)
  refine St.ret (by first | exact .tmp .nil | exact .cell .nil | exact .cell (.tmp .nil) | exact .tmp (.tmp .nil) | exact .cell (.cell .nil) | exact .tmp (.cell .nil) | exact .nil | exact .tmp (.cell (.tmp .nil)) | exact .cell (.tmp (.tmp .nil)) | exact .cell (.cell (.tmp .nil)) | exact .tmp (.tmp (.tmp .nil)) | exact .cell (.cell (.cell .nil))) ?_
  simp [oneOf]
end Go.Proofs.Ytekpffjcffeanaa
