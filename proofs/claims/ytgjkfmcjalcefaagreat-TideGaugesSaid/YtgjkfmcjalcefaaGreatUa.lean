/- Waters in memory; the program's Check, Height and what they call. -/
import Derived.Test.YtgjkfmcjalcefaaGreatTs
import Derived.Test.YtgjkfmcjalcefaaGreatUp
import Derived.Test.YtgjkfmcjalcefaaGreatEv7
namespace Go.Proofs.YtgjkfmcjalcefaaGreat
open Go.Proofs.YtgjkfmcjalcefaaGreat.Ev

theorem ItV.ok {h : Heap} {v : AV} {xs : List Int} (k : ItV h v xs) : okCell v = true := by
  rcases k with ⟨rfl | rfl, _⟩ | ⟨b, off, c, rfl, _⟩ <;> rfl
/-- a cycle and its list's value -/
structure Cw where
  c : Cy
  v : AV
def noW : Cw := ⟨noC, .slice0⟩
def nthW (l : List Cw) (i : Nat) : Cw := l[i]?.getD noW
theorem nthW_eq {l : List Cw} {i : Nat} (h : i < l.length) : nthW l i = l[i] := by simp [nthW, h]
def cys (l : List Cw) : List Cy := l.map (·.c)
theorem cys_len (l : List Cw) : (cys l).length = l.length := by simp [cys]
theorem cys_nth {l : List Cw} {i : Nat} (h : i < l.length) : nthC (cys l) i = (nthW l i).c := by
  rw [nthC_eq (by rw [cys_len]; exact h), nthW_eq h]
  simp [cys]
/-- cycles in memory -/
def CyH (h : Heap) (b off : Nat) (l : List Cw) : Prop := ∀ i, i < l.length → Rds h b (off + i * 4) [.int .i64 (nthW l i).c.id, .int .i64 (nthW l i).c.bg, .int .i64 (nthW l i).c.ev, (nthW l i).v] ∧ ItV h (nthW l i).v (nthW l i).c.hs
theorem CyH.vw {h0 h : Heap} {V : Ob} {b off l} (k : CyH h0 b off l) (hh : Vw h0 [] V h) : CyH h b off l := fun i hi => ⟨hh.rds (by simp) (k i hi).1, (k i hi).2.vw hh⟩
theorem CyH.at_ {h : Heap} {b off l} (k : CyH h b off l) {z : Int} {n : Nat} (e : z.toNat = n) (hi : n < l.length) : Rds h b (off + z.toNat * 4) [.int .i64 (nthW l n).c.id, .int .i64 (nthW l n).c.bg, .int .i64 (nthW l n).c.ev, (nthW l n).v] := by
  subst e; exact (k _ hi).1
def CyV (h : Heap) (v : AV) (l : List Cw) : Prop := ((v = .slice0 ∨ v = .sliceZ) ∧ l = []) ∨ ∃ b off c, v = .slice b off l.length c ∧ CyH h b off l
theorem CyV.vw {h0 h : Heap} {V : Ob} {v l} (k : CyV h0 v l) (hh : Vw h0 [] V h) : CyV h v l := by
  rcases k with k | ⟨b, off, c, rfl, k⟩
  · exact .inl k
  · exact .inr ⟨b, off, c, rfl, k.vw hh⟩
theorem CyV.ne {h : Heap} {v : AV} {l : List Cw} (k : CyV h v l) (hn : 0 < l.length) : ∃ b off c, v = .slice b off l.length c ∧ CyH h b off l := by
  rcases k with ⟨_, rfl⟩ | k
  · simp at hn
  · exact k
theorem CyV.len {h : Heap} {v : AV} {l : List Cw} (k : CyV h v l) : ∀ h2, lenA Tryz.prog 22 h2 v = some (.int .i64 (l.length : Int)) := by
  intro h2
  unfold lenA
  rw [Tryz.underlying22]
  rcases k with ⟨rfl | rfl, rfl⟩ | ⟨b, off, c, rfl, _⟩ <;> rfl
/-- shifts in memory -/
def ShH (h : Heap) (b off : Nat) (l : List Sh) : Prop := ∀ i, i < l.length → Rds h b (off + i * 3) [.int .i64 (nthS l i).fr, .int .i64 (nthS l i).to, .int .i64 (nthS l i).ad]
theorem ShH.vw {h0 h : Heap} {V : Ob} {b off l} (k : ShH h0 b off l) (hh : Vw h0 [] V h) : ShH h b off l := fun i hi => hh.rds (by simp) (k i hi)
theorem ShH.at_ {h : Heap} {b off l} (k : ShH h b off l) {z : Int} {n : Nat} (e : z.toNat = n) (hi : n < l.length) : Rds h b (off + z.toNat * 3) [.int .i64 (nthS l n).fr, .int .i64 (nthS l n).to, .int .i64 (nthS l n).ad] := by
  subst e; exact k _ hi
def ShV (h : Heap) (v : AV) (l : List Sh) : Prop := ((v = .slice0 ∨ v = .sliceZ) ∧ l = []) ∨ ∃ b off c, v = .slice b off l.length c ∧ ShH h b off l
theorem ShV.vw {h0 h : Heap} {V : Ob} {v l} (k : ShV h0 v l) (hh : Vw h0 [] V h) : ShV h v l := by
  rcases k with k | ⟨b, off, c, rfl, k⟩
  · exact .inl k
  · exact .inr ⟨b, off, c, rfl, k.vw hh⟩
theorem ShV.ne {h : Heap} {v : AV} {l : List Sh} (k : ShV h v l) (hn : 0 < l.length) : ∃ b off c, v = .slice b off l.length c ∧ ShH h b off l := by
  rcases k with ⟨_, rfl⟩ | k
  · simp at hn
  · exact k
theorem ShV.len {h : Heap} {v : AV} {l : List Sh} (k : ShV h v l) : ∀ h2, lenA Tryz.prog 23 h2 v = some (.int .i64 (l.length : Int)) := by
  intro h2
  unfold lenA
  rw [Tryz.underlying23]
  rcases k with ⟨rfl | rfl, rfl⟩ | ⟨b, off, c, rfl, _⟩ <;> rfl
set_option maxRecDepth 100000 in
theorem dayOf_con (h : Heap) (g : Gd h) (t : Int) (h0 : 0 ≤ t) (h1 : t ≤ 1048576) : Con Tryz.prog Bs 126 [.int .i64 t] h [] (.int .i64 (t / 1440)) [] := by
  have e : t.tdiv 1440 = t / 1440 := Int.tdiv_eq_ediv_of_nonneg h0
  refine Con.start rfl Tryz.func126 rfl rfl Tryz.ntmps126 rfl rfl g ?_
  (refine WK.seq ?_; refine WK.region ?_; refine St.assign ?_; refine WO.nil ?_; refine WK.seq ?_; refine WK.region ?_; refine St.move ?_; refine St.binI ?_; refine St.assign ?_; refine WO.nil ?_)
  refine St.ret (by first | exact .tmp .nil | exact .cell .nil | exact .cell (.tmp .nil) | exact .tmp (.tmp .nil) | exact .cell (.cell .nil) | exact .tmp (.cell .nil) | exact .nil | exact .tmp (.cell (.tmp .nil)) | exact .cell (.tmp (.tmp .nil)) | exact .cell (.cell (.tmp .nil)) | exact .tmp (.tmp (.tmp .nil)) | exact .cell (.cell (.cell .nil))) ?_
  rw [← e]
  rfl
set_option maxRecDepth 100000 in
theorem idOf_con (h : Heap) (g : Gd h) (id bg ev : Int) (v : AV) : Con Tryz.prog Bs 89 [.agg [.int .i64 id, .int .i64 bg, .int .i64 ev, v]] h [] (.int .i64 id) [] := by
  refine Con.start rfl Tryz.func89 rfl rfl Tryz.ntmps89 rfl rfl g ?_
  (refine WK.seq ?_; refine WK.region ?_; refine St.box fun _ _ => ?_; refine St.assign ?_; refine WO.nil ?_; refine WK.seq ?_; refine WK.region ?_; refine St.fieldAddr ?_; refine St.load ?_; refine St.assign ?_; refine WO.nil ?_)
  refine St.ret (by first | exact .tmp .nil | exact .cell .nil | exact .cell (.tmp .nil) | exact .tmp (.tmp .nil) | exact .cell (.cell .nil) | exact .tmp (.cell .nil) | exact .nil | exact .tmp (.cell (.tmp .nil)) | exact .cell (.tmp (.tmp .nil)) | exact .cell (.cell (.tmp .nil)) | exact .tmp (.tmp (.tmp .nil)) | exact .cell (.cell (.cell .nil))) ?_
  rfl
theorem look_int {h : Heap} {r c : Nat} {xs : List Int} (hg : h.get r = some (.map (mapE xs 0) c)) (k : Int) : evLookup Tryz.prog h 149 (.map r) (.int .i64 k) false = some (.bool (decide (k ∈ xs))) := by
  have hk : keyFits Tryz.prog 3 (.int .i64 k) = true := by
    unfold keyFits
    rw [Tryz.underlying3]
    rfl
  have hz : zeroT Tryz.prog 4 = some (.bool false) := by kernel_rfl
  unfold evLookup
  rw [Tryz.underlying149]
  simp only [hk, if_true, hg]
  by_cases hm : k ∈ xs
  · obtain ⟨j, n, e⟩ := findE_yes (c := 0) (i := 0) hm
    rw [e, decide_eq_true hm]
    rfl
  · rw [findE_no hm, decide_eq_false hm]
    simp only [hz]
    rfl
theorem upd_int {h g : Heap} {r : Nat} {xs : List Int} {k : Int} (hm : k ∉ xs) (hg : h.get r = some (.map (mapE xs 0) xs.length)) (hs : h.set r (.map (mapE (xs ++ [k]) 0) (xs.length + 1)) = some g) : evUpdate Tryz.prog h 149 (.map r) (.int .i64 k) (.bool true) = some g := by
  have hk : keyFits Tryz.prog 3 (.int .i64 k) = true := by
    unfold keyFits
    rw [Tryz.underlying3]
    rfl
  unfold evUpdate
  rw [Tryz.underlying149]
  simp only [hk, if_true, hg, findE_no hm]
  rw [mapE_snoc, Nat.zero_add] at hs
  exact hs
set_option maxRecDepth 100000 in
set_option maxHeartbeats 8000000 in
theorem checkEach_con (h : Heap) (g : Gd h) (v : AV) (l : List Cw) (hv : CyV h v l) (hl : l.length ≤ 1000000) :
    Con Tryz.prog Bs 88 [v, .fn (.func 53) [] [], .fn (.func 89) [] []] h [] (.int .i64 (chkC [] (cys l))) [] := by
  refine Con.start rfl Tryz.func88 rfl rfl Tryz.ntmps88 rfl rfl g ?_
  (refine WK.seq ?_; refine WK.region ?_; refine St.assign ?_; refine WO.nil ?_; refine WK.seq ?_; refine WK.region ?_)
  refine St.makeMap (fun r hr => ?_) 
  (refine St.assign ?_; refine WO.nil ?_; refine WK.seq ?_; refine WK.seq ?_; refine WK.region ?_; refine St.move ?_)
  refine St.lenV rfl hv.len ?_
  (refine St.move ?_; refine WO.nil ?_; refine WK.block ?_)
  by_cases hn : l.length = 0
  · have e1 : l = [] := List.length_eq_zero_iff.1 hn
    subst e1
    refine WK.unroll ?_
    (refine WK.seq ?_; refine WK.region ?_; refine St.bin ?_; refine WO.nil ?_; refine WK.seq ?_; refine WK.condF ?_; refine WK.exit ?_; refine WK.seq ?_; refine WK.region ?_; refine St.assign ?_; refine WO.nil ?_)
    refine St.ret (by first | exact .tmp .nil | exact .cell .nil | exact .cell (.tmp .nil) | exact .tmp (.tmp .nil) | exact .cell (.cell .nil) | exact .tmp (.cell .nil) | exact .nil | exact .tmp (.cell (.tmp .nil)) | exact .cell (.tmp (.tmp .nil)) | exact .cell (.cell (.tmp .nil)) | exact .tmp (.tmp (.tmp .nil)) | exact .cell (.cell (.cell .nil))) ?_
    rfl
  obtain ⟨b, off, c, rfl, hk⟩ := hv.ne (by omega)
  refine WK.inv (ι := Nat) (fun z => [(1, .fn (.func 53) [] []), (2, .fn (.func 89) [] []), (6, .int .i64 0), (7, .map r), (11, .slice b off l.length c), (12, .int .i64 l.length), (13, .int .i64 z)]) (fun z => [(r, .map (mapE (ids ((cys l).take z)) 0) z)]) (fun z => z ≤ l.length ∧ chkC [] (cys l) = chkC (ids ((cys l).take z)) ((cys l).drop z)) (fun z => l.length - z) 0 ⟨by omega, rfl⟩ ⟨rfl, rfl, rfl, rfl, rfl, rfl, rfl, trivial⟩ (by (repeat (first | exact List.Sublist.refl _ | exact List.nil_sublist _ | apply List.Sublist.cons_cons | apply List.Sublist.cons))) ?_
  rintro k ⟨hkl, hchk⟩ ih
  (refine WK.seq ?_; refine WK.region ?_; refine St.bin ?_; refine WO.nil ?_; refine WK.seq ?_)
  refine St.splitC (fun hc => ?_) (fun hc => ?_)
  · have hlt : k < l.length := by simp at hc; omega
    have hit := (hk k hlt).2
    have hd := chkC_drop (seen := ids ((cys l).take k)) (cs := cys l) (k := k) (by rw [cys_len]; exact hlt)
    have hids := ids_succ (cs := cys l) (k := k) (by rw [cys_len]; exact hlt)
    rw [cys_nth hlt] at hd hids
    (refine WK.skip ?_; refine WK.seq ?_; refine WK.block ?_; refine WK.seq ?_; refine WK.region ?_)
    refine St.at ?_
    refine St.loadX (fun h hh => ((hk.vw hh).at_ (z := (k : Int)) (n := k) (by omega) hlt).agg (by simp) rfl rfl rfl) ?_
    (refine St.alloc fun _ _ => ?_)
    refine St.store0 (hv := store4 rfl rfl rfl rfl hit.ok) ?_
    (refine WO.nil ?_; refine WK.seq ?_; refine WK.seq ?_; refine WK.region ?_; refine St.move ?_; refine St.load ?_)
    rename_i x hx
    refine St.call (fun _ => rfl) (fun h2 hh => isCycle_con h2 hh.gd _ _ _ _ _ (hit.vw hh)) ?_
    generalize hW : nthW l k = w at *
    obtain ⟨⟨id, bg, ev, hs⟩, wv⟩ := w
    simp only at hd hids ⊢
    (refine St.un ?_; refine WO.nil ?_)
    refine St.splitC (fun hc2 => ?_) (fun hc2 => ?_)
    · rw [if_pos (by simpa using hc2)] at hd
      (refine WK.seq ?_; refine WK.region ?_; refine St.assign ?_; refine WO.nil ?_)
      refine St.ret (by first | exact .tmp .nil | exact .cell .nil | exact .cell (.tmp .nil) | exact .tmp (.tmp .nil) | exact .cell (.cell .nil) | exact .tmp (.cell .nil) | exact .nil | exact .tmp (.cell (.tmp .nil)) | exact .cell (.tmp (.tmp .nil)) | exact .cell (.cell (.tmp .nil)) | exact .tmp (.tmp (.tmp .nil)) | exact .cell (.cell (.cell .nil))) ?_
      rw [hchk, hd]; rfl
    rw [if_neg (by simpa using hc2)] at hd
    (refine WK.skip ?_; refine WK.seq ?_; refine WK.seq ?_; refine WK.region ?_; refine St.move ?_; refine St.move ?_; refine St.load ?_)
    refine St.call (fun _ => rfl) (fun h2 hh => idOf_con h2 hh.gd id bg ev wv) ?_
    skip
    have hgm : ∀ (h2 : Heap) {V : Ob}, Vw h [] V h2 → (r, .map (mapE (ids ((cys l).take k)) 0) k) ∈ V → h2.get r = some (.map (mapE (ids ((cys l).take k)) 0) k) := fun h2 V hh hm => (hh.own _ hm).1
    refine St.lookupV (v := .bool (decide (id ∈ ids ((cys l).take k)))) (fun h2 hh => ?_) ?_
    · show plainV (evLookup Tryz.prog h2 149 (.map r) (.int .i64 id) false) h2 = _
      rw [look_int (hgm h2 hh (by simp))]
      rfl
    (refine WO.nil ?_)
    refine St.splitC (fun hc3 => ?_) (fun hc3 => ?_)
    · rw [if_pos (by simpa using hc3)] at hd
      (refine WK.seq ?_; refine WK.region ?_; refine St.assign ?_; refine WO.nil ?_)
      refine St.ret (by first | exact .tmp .nil | exact .cell .nil | exact .cell (.tmp .nil) | exact .tmp (.tmp .nil) | exact .cell (.cell .nil) | exact .tmp (.cell .nil) | exact .nil | exact .tmp (.cell (.tmp .nil)) | exact .cell (.tmp (.tmp .nil)) | exact .cell (.cell (.tmp .nil)) | exact .tmp (.tmp (.tmp .nil)) | exact .cell (.cell (.cell .nil))) ?_
      rw [hchk, hd]; rfl
    have hnm : id ∉ ids ((cys l).take k) := by simpa using hc3
    rw [if_neg hnm] at hd
    have hil : (ids ((cys l).take k)).length = k := by
      unfold ids
      rw [List.length_map, List.length_take, cys_len]
      omega
    (refine WK.skip ?_; refine WK.region ?_; refine St.move ?_; refine St.move ?_; refine St.load ?_)
    refine St.call (fun _ => rfl) (fun h2 hh => idOf_con h2 hh.gd id bg ev wv) ?_
    skip
    refine St.mapUpd (A := [(x, .cells [.int .i64 id, .int .i64 bg, .int .i64 ev, wv] 55)]) (C := []) (r := r) (es := mapE (ids ((cys l).take k)) 0) (c := k) (es' := mapE (ids ((cys l).take (k + 1))) 0) (c' := k + 1) rfl (fun h2 g2 e1 e2 => ?_) ?_
    · show (evUpdate Tryz.prog h2 149 (.map r) (.int .i64 id) (.bool true)).map (fun h => (ANext.skip, h)) = _
      rw [hids] at e2
      have e3 : h2.get r = some (.map (mapE (ids ((cys l).take k)) 0) (ids ((cys l).take k)).length) := by rw [hil]; exact e1
      rw [upd_int hnm e3 (by rw [hil]; exact e2)]
      rfl
    (refine WO.nil ?_; refine WK.blk ?_; refine WK.region ?_; refine St.binI ?_; refine St.move ?_; refine WO.nil ?_)
    refine WK.le ?_ (by (repeat (first | exact List.Sublist.refl _ | exact List.nil_sublist _ | apply List.Sublist.cons_cons | apply List.Sublist.cons))) (ih (k + 1) ⟨hlt, ?_⟩ (by omega))
    · exact ⟨rfl, rfl, rfl, rfl, rfl, rfl, rfl, trivial⟩
    · rw [hchk, hd, hids]
  · have : k = l.length := by simp at hc; omega
    subst this
    (refine WK.exit ?_; refine WK.seq ?_; refine WK.region ?_; refine St.assign ?_; refine WO.nil ?_)
    refine St.ret (by first | exact .tmp .nil | exact .cell .nil | exact .cell (.tmp .nil) | exact .tmp (.tmp .nil) | exact .cell (.cell .nil) | exact .tmp (.cell .nil) | exact .nil | exact .tmp (.cell (.tmp .nil)) | exact .cell (.tmp (.tmp .nil)) | exact .cell (.cell (.tmp .nil)) | exact .tmp (.tmp (.tmp .nil)) | exact .cell (.cell (.cell .nil))) ?_
    rw [hchk, List.drop_eq_nil_of_le (by rw [cys_len]; omega)]
    rfl
end Go.Proofs.YtgjkfmcjalcefaaGreat
