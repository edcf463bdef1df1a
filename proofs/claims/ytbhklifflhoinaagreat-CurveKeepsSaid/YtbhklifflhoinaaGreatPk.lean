/- peak over the calculator's memory. -/
import Derived.Test.YtbhklifflhoinaaGreatSo
import Derived.Test.YtbhklifflhoinaaGreatFo
namespace Go.Proofs.YtbhklifflhoinaaGreat
open Go.Proofs.YtbhklifflhoinaaGreat.Ev

/-- a list of fractions, cell by cell -/
def flatA (l : List (Int × Int)) : List AV := l.flatMap fun f => [AV.int .i64 f.1, AV.int .i64 f.2]
theorem flatA_len : ∀ (l : List (Int × Int)), (flatA l).length = l.length * 2
  | [] => rfl
  | f :: l => by have := flatA_len l; simp [flatA] at this ⊢; omega
theorem flatA_snoc (l : List (Int × Int)) (f : Int × Int) : flatA (l ++ [f]) = flatA l ++ [AV.int .i64 f.1, AV.int .i64 f.2] := by simp [flatA]
theorem flatA_get : ∀ (l : List (Int × Int)) (i : Nat) (h : i < l.length), (flatA l)[i * 2]? = some (.int .i64 l[i].1) ∧ (flatA l)[i * 2 + 1]? = some (.int .i64 l[i].2)
  | [], i, h => by simp at h
  | f :: l, 0, _ => by simp [flatA]
  | f :: l, i + 1, h => by
    have h1 := flatA_get l i (by simpa using h)
    have e : flatA (f :: l) = AV.int .i64 f.1 :: AV.int .i64 f.2 :: flatA l := by simp [flatA]
    rw [e, show (i + 1) * 2 = i * 2 + 1 + 1 by omega]
    simpa using h1
/-- a list of fractions that the call has made -/
theorem Ev.Vw.frs {h0 h : Heap} {W : List Nat} {V : Ob} {j : Nat} {o : AObj} {fs : List (Int × Int)} (k : Vw h0 W V h) (hm : (j, o) ∈ V) (hl : o.has (flatA fs)) : KnH h j 0 fs := fun i hi => by
  rw [Nat.zero_add]
  exact ⟨k.rdL hm hl (flatA_get fs i hi).1, k.rdL hm hl (flatA_get fs i hi).2, trivial⟩

/-- ints in memory -/
def InH (h : Heap) (b off : Nat) (xs : List Int) : Prop := ∀ i (hi : i < xs.length), Rd h b (off + i * 1) (.int .i64 xs[i])
theorem InH.vw {h0 h : Heap} {V : Ob} {b off xs} (k : InH h0 b off xs) (hh : Vw h0 [] V h) : InH h b off xs := fun i hi => hh.rd (by simp) (k i hi)
theorem InH.at_ {h : Heap} {b off xs} (k : InH h b off xs) {z : Int} {n : Nat} (e : z.toNat = n) (hi : n < xs.length) : Rd h b (off + z.toNat * 1) (.int .i64 (xs[n]?.getD 0)) := by
  subst e
  rw [List.getElem?_eq_getElem hi]
  exact k _ hi
theorem Ev.Vw.ins {h0 h : Heap} {W : List Nat} {V : Ob} {j : Nat} {o : AObj} {xs : List Int} (k : Vw h0 W V h) (hm : (j, o) ∈ V) (hl : o.has (xs.map (AV.int .i64))) : InH h j 0 xs := fun i hi => by
  rw [Nat.zero_add, Nat.mul_one]
  exact k.rdL hm hl (by simp [hi])
def pkA (p : Pk) : AV := .agg [.int .i64 p.ln, .int .i64 p.ld, .int .i64 p.hn, .int .i64 p.hd, .int .i64 p.al, .int .i64 p.ah]

set_option maxRecDepth 100000 in
set_option maxHeartbeats 8000000 in
theorem peak_con (h : Heap) (g : Gd h) (b off : Nat) (c : ACap) (xs : List Int) (fw : Nat) (fa ca : List AV) (f : Int → Int × Int) (hpos : 0 < xs.length) (hl : xs.length ≤ 65536) (hk : InH h b off xs)
    (hsm : ∀ x ∈ xs, Small (f x).1 (f x).2)
    (hw : ∀ x ∈ xs, ∀ h' V, Vw h [] V h' → Con Tryz.prog Bs fw (fa ++ [.int .i64 x] ++ ca) h' [] (.agg [.int .i64 (f x).1, .int .i64 (f x).2]) []) :
    Con Tryz.prog Bs 54 [.slice b off xs.length c, .fn (.func fw) fa ca] h [] (pkA (pkOf xs (xs.map f))) [] := by
  have hsm' : ∀ i, i < xs.length → Small (kx (xs.map f) i) (ky (xs.map f) i) := fun i hi => by
    rw [kx_eq (by simpa using hi), ky_eq (by simpa using hi), List.getElem_map]
    exact hsm _ (List.getElem_mem _)
  refine Con.start rfl Tryz.func54 rfl rfl Tryz.ntmps54 rfl rfl g ?_
  (refine WK.seq ?_; refine WK.region ?_; refine St.alloc fun _ _ => ?_; refine WO.nil ?_; refine WK.seq ?_; refine WK.region ?_; refine St.move ?_; refine St.len ?_)
  refine St.mkE (m := xs.length) (fun w Lw hw0 => ?_) ⟨by omega, by omega⟩
  rename_i r hr
  refine WO.permF (L' := (r, .cells [.int .i64 0, .int .i64 0, .int .i64 0, .int .i64 0, .int .i64 0, .int .i64 0] 45) :: Lw) (List.perm_append_singleton _ _).symm ?_
  (refine St.assign ?_; refine WO.nil ?_; refine WK.seq ?_; refine WK.seq ?_; refine WK.region ?_; refine St.move ?_; refine St.len ?_; refine St.move ?_; refine WO.nil ?_; refine WK.block ?_)
  refine WK.inv (ι := Nat × AV × Ob) (fun z => [(0, .slice b off xs.length c), (1, .fn (.func fw) fa ca), (4, .ptr r 0), (5, z.2.1), (13, .slice b off xs.length c), (14, .int .i64 xs.length), (15, .int .i64 z.1)]) (fun z => (r, .cells [.int .i64 0, .int .i64 0, .int .i64 0, .int .i64 0, .int .i64 0, .int .i64 0] 45) :: z.2.2)
    (fun z => z.1 ≤ xs.length ∧ IsL 43 2 z.1 (flatA ((xs.take z.1).map f)) z.2.1 z.2.2) (fun z => xs.length - z.1) (0, w, Lw)
    ⟨by simp, hw0⟩ ⟨rfl, rfl, rfl, rfl, rfl, rfl, rfl, trivial⟩ (by (repeat (first | exact List.Sublist.refl _ | exact List.nil_sublist _ | apply List.Sublist.cons_cons | apply List.Sublist.cons))) ?_
  clear hw0
  rintro ⟨k, w, Lw⟩ ⟨hkl, hw1⟩ ih
  simp only at hkl hw1 ih ⊢
  (refine WK.seq ?_; refine WK.region ?_; refine St.bin ?_; refine WO.nil ?_; refine WK.seq ?_)
  refine St.splitC (fun hc => ?_) (fun hc => ?_)
  · have hlt : k < xs.length := by simp at hc; omega
    have e3 : flatA ((xs.take (k + 1)).map f) = flatA ((xs.take k).map f) ++ [.int .i64 (f (xs[k]'hlt)).1, .int .i64 (f (xs[k]'hlt)).2] := by
      rw [List.take_succ_eq_append_getElem hlt, List.map_append]
      exact flatA_snoc _ _
    (refine WK.skip ?_; refine WK.seq ?_; refine WK.block ?_; refine WK.seq ?_; refine WK.region ?_)
    refine St.at ?_
    skip
    refine St.loadX (fun h hh => ((hk.vw hh) k hlt).one rfl) ?_
    (refine St.assign ?_; refine WO.nil ?_; refine WK.region ?_; refine St.move ?_; refine St.move ?_; refine St.move ?_)
    refine St.call (v := .agg [.int .i64 (f (xs[k]'hlt)).1, .int .i64 (f (xs[k]'hlt)).2]) (fun _ => rfl) (fun h hh => hw _ (List.getElem_mem hlt) h _ hh) ?_
    (refine St.mkS fun _ _ => ?_)
    rename_i i2 hi2
    refine St.appL (new := [.int .i64 (f (xs[k]'hlt)).1, .int .i64 (f (xs[k]'hlt)).2]) (Lk := [(i2, .cells [.int .i64 (f (xs[k]'hlt)).1, .int .i64 (f (xs[k]'hlt)).2] 43), (r, .cells [.int .i64 0, .int .i64 0, .int .i64 0, .int .i64 0, .int .i64 0, .int .i64 0] 45)]) hw1 List.perm_append_comm (fun w3 Lw3 hw3 => ?_) ⟨rfl, rfl, rfl, rfl, rfl, rfl, rfl, rfl, rfl, rfl, rfl, rfl⟩ (List.Mem.head _) rfl (by omega) (by omega)
    refine WO.permF (L' := [(i2, .cells [.int .i64 (f (xs[k]'hlt)).1, .int .i64 (f (xs[k]'hlt)).2] 43), (r, .cells [.int .i64 0, .int .i64 0, .int .i64 0, .int .i64 0, .int .i64 0, .int .i64 0] 45)] ++ Lw3) List.perm_append_comm ?_
    (refine St.assign ?_; refine WO.nil ?_; refine WK.blk ?_; refine WK.region ?_; refine St.binI ?_; refine St.move ?_; refine WO.nil ?_)
    refine WK.le ?_ (by (repeat (first | exact List.Sublist.refl _ | exact List.nil_sublist _ | apply List.Sublist.cons_cons | apply List.Sublist.cons))) (ih (k + 1, w3, Lw3) ⟨hlt, ?_⟩ (by simp only; omega))
    · exact ⟨rfl, rfl, rfl, rfl, rfl, rfl, rfl, trivial⟩
    · simp only
      rw [e3]
      exact hw3
  · have : k = xs.length := by simp at hc; omega
    subst this
    rw [List.take_length] at hw1
    obtain ⟨i, c1, o, rfl, rfl, ho, -⟩ := hw1.ne hpos
    have hlen : (xs.map f).length = xs.length := by simp
    have b1 := bestIx_lt lessF (0, 0) (xs.map f) (k := xs.length) (by omega) (by omega)
    have b2 := bestIx_lt moreF (0, 0) (xs.map f) (k := xs.length) (by omega) (by omega)
    rw [hlen] at b1 b2
    have hL : ∀ (h2 : Heap) {V : Ob}, Vw h [] V h2 → (i, o) ∈ V → Con Tryz.prog Bs 97 [.slice i 0 xs.length c1, .fn (.func 85) [] []] h2 [] (.int .i64 (bestIx lessF (0, 0) (xs.map f) xs.length)) [] := fun h2 V hh hm => by
      have := foremost_con h2 hh.gd i 0 c1 (xs.map f) 85 lessF (by omega) (hh.frs hm ho) (fun i j hi hj h' hg => isLess_con h' hg _ _ _ _ (hsm' i (by omega)) (hsm' j (by omega)))
      rw [hlen] at this
      exact this
    have hM : ∀ (h2 : Heap) {V : Ob}, Vw h [] V h2 → (i, o) ∈ V → Con Tryz.prog Bs 97 [.slice i 0 xs.length c1, .fn (.func 83) [] []] h2 [] (.int .i64 (bestIx moreF (0, 0) (xs.map f) xs.length)) [] := fun h2 V hh hm => by
      have := foremost_con h2 hh.gd i 0 c1 (xs.map f) 83 moreF (by omega) (hh.frs hm ho) (fun i j hi hj h' hg => isMore_con h' hg _ _ _ _ (hsm' i (by omega)) (hsm' j (by omega)))
      rw [hlen] at this
      exact this
    (refine WK.exit ?_; refine WK.seq ?_; refine WK.region ?_; refine St.move ?_)
    refine St.call (fun _ => rfl) (fun h2 hh => hL h2 hh (by simp)) ?_
    (refine St.move ?_)
    refine St.call (fun _ => rfl) (fun h2 hh => hM h2 hh (by simp)) ?_
    (refine St.assign ?_; refine St.assign ?_; refine WO.nil ?_; refine WK.seq ?_; refine WK.regionD ?_; refine St.move ?_; refine St.move ?_)
    refine St.at ?_
    skip
    refine St.loadX (fun h2 hh => ((hh.frs (fs := xs.map f) (j := i) (o := o) (by simp) ho).at_ (z := (bestIx lessF (0, 0) (xs.map f) xs.length : Int)) (n := bestIx lessF (0, 0) (xs.map f) xs.length) (by omega) (by omega)).agg (by simp) rfl rfl rfl) ?_
    (refine St.move ?_; refine St.move ?_)
    refine St.at ?_
    skip
    refine St.loadX (fun h2 hh => ((hh.frs (fs := xs.map f) (j := i) (o := o) (by simp) ho).at_ (z := (bestIx moreF (0, 0) (xs.map f) xs.length : Int)) (n := bestIx moreF (0, 0) (xs.map f) xs.length) (by omega) (by omega)).agg (by simp) rfl rfl rfl) ?_
    (refine St.move ?_; refine St.move ?_)
    refine St.at ?_
    skip
    refine St.loadX (fun h2 hh => ((hk.vw hh).at_ (z := (bestIx lessF (0, 0) (xs.map f) xs.length : Int)) (n := bestIx lessF (0, 0) (xs.map f) xs.length) (by omega) (by omega)).one rfl) ?_
    (refine St.move ?_; refine St.move ?_)
    refine St.at ?_
    skip
    refine St.loadX (fun h2 hh => ((hk.vw hh).at_ (z := (bestIx moreF (0, 0) (xs.map f) xs.length : Int)) (n := bestIx moreF (0, 0) (xs.map f) xs.length) (by omega) (by omega)).one rfl) ?_
    (refine St.build ?_; refine StD.store0 ?_; refine WO.nil ?_)
    refine St.ret (by first | exact .tmp .nil | exact .cell .nil | exact .cell (.tmp .nil) | exact .tmp (.tmp .nil) | exact .cell (.cell .nil) | exact .tmp (.cell .nil) | exact .nil | exact .tmp (.cell (.tmp .nil)) | exact .cell (.tmp (.tmp .nil)) | exact .cell (.cell (.tmp .nil)) | exact .tmp (.tmp (.tmp .nil)) | exact .cell (.cell (.cell .nil))) ?_
    unfold pkA pkOf
    rw [hlen]
    rfl
end Go.Proofs.YtbhklifflhoinaaGreat
