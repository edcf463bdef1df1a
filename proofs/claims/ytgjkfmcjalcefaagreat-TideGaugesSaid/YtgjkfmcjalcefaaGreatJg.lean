/- The reference's put: a pair is put into a list, in its order. -/
import Derived.Test.YtgjkfmcjalcefaaGreatJd
import Derived.Test.YtgjkfmcjalcefaaGreatJf
namespace Go.Proofs.YtgjkfmcjalcefaaGreat
open Go.Proofs.YtgjkfmcjalcefaaGreat.Ev

/-- pairs in their order -/
def ltQ (p q : Int × Int) : Bool := Bool.or (decide (p.1 < q.1)) (Bool.and (p.1 == q.1) (decide (p.2 < q.2)))
/-- a pair, put into a list -/
def InsQ (xs : List (Int × Int)) (n : Int × Int) (ys : List (Int × Int)) : Prop := ∃ a, a ≤ xs.length ∧ (∀ k, k < a → ltQ (nthQ xs k) n = true) ∧ (a < xs.length → ltQ (nthQ xs a) n = false) ∧ ys = xs.take a ++ [n] ++ xs.drop a
/-- pairs that a caller has made: none, or a row -/
def OwQ (h : Heap) (v : AV) (xs : List (Int × Int)) : Prop := (v = .slice0 ∧ xs = []) ∨ ∃ j, v = .slice j 0 xs.length (.m 0) ∧ j < h.next ∧ knownN h j 2 = xs.length ∧ PrH h j 0 xs ∧ 0 < xs.length
theorem PrH.p1 {h : Heap} {b off l} (k : PrH h b off l) {z : Int} {n : Nat} (e : z.toNat = n) (hi : n < l.length) : Rd h b (off + z.toNat * 2 + (0 : Int).toNat * 1) (.int .i64 (nthQ l n).1) := (k.at_ e hi).1
theorem PrH.p2 {h : Heap} {b off l} (k : PrH h b off l) {z : Int} {n : Nat} (e : z.toNat = n) (hi : n < l.length) : Rd h b (off + z.toNat * 2 + (1 : Int).toNat * 1) (.int .i64 (nthQ l n).2) := (k.at_ e hi).2.1
theorem kn_old {h0 h : Heap} {V : Ob} {j n : Nat} (hj : j < h0.next) (hq : knownN h0 j 2 = n) (hh : Vw h0 [] V h) : knownN h j 2 = n := by
  have e := hh.old j hj (by simp)
  unfold knownN at hq ⊢
  rw [e]
  exact hq
theorem slQ_to {h : Heap} {j a n : Nat} (hm : knownN h j 2 = n) (hk : a ≤ n) : evSlice Tryz.prog h 39 (.slice j 0 n (.m 0)) none (some (.int .i64 a)) none = some (.slice j 0 a (.m 0)) := by
  have e : sizeT Tryz.prog 89 = some 2 := by kernel_rfl
  unfold evSlice
  rw [if_neg (by simp), Tryz.underlying39]
  simp only [e, evSliceM, optB, boundIn, hm]
  rw [if_pos (by omega)]
  simp
def fromQ (j n a : Nat) : AV := if a = 0 ∨ a + 0 < n then .slice j (0 + a * 2) (n - a) (.m (0 + a)) else .sliceZ
theorem slQ_from {h : Heap} {j a n : Nat} (hm : knownN h j 2 = n) (hk : a ≤ n) : evSlice Tryz.prog h 39 (.slice j 0 n (.m 0)) (some (.int .i64 a)) none none = some (fromQ j n a) := by
  have e : sizeT Tryz.prog 89 = some 2 := by kernel_rfl
  unfold fromQ evSlice
  rw [if_neg (by simp), Tryz.underlying39]
  simp only [e, evSliceM, optB, boundIn, hm]
  rw [if_pos (by omega)]
  simp only [Int.toNat_natCast]
  by_cases hc : a = 0 ∨ a + 0 < n
  · rw [if_pos hc, if_pos hc]
  · rw [if_neg hc, if_neg hc, if_pos (by omega)]
theorem pr_none {h : Heap} {b off : Nat} {xs : List (Int × Int)} (hk : PrH h b off xs) (hn : 0 < xs.length) (off2 : Nat) : h.loadN b off2 0 = some [] := by
  have h1 := (hk 0 hn).1.at_
  unfold Heap.at1 at h1
  unfold Heap.loadN
  split at h1
  · simp [takeN]
  · simp [takeN]
  · rfl
  · cases h1
theorem flP_ok (xs : List (Int × Int)) : (flP xs).all okCell = true := by
  induction xs with
  | nil => rfl
  | cons p r ih =>
    show ([AV.int .i64 p.1, AV.int .i64 p.2] ++ flP r).all okCell = true
    rw [List.all_append, ih]
    rfl
theorem Rds.appQ {h : Heap} {b : Nat} : ∀ {l m : List AV} {off : Nat}, Rds h b off l → Rds h b (off + l.length) m → Rds h b off (l ++ m)
  | [], m, off, _, r => by simpa using r
  | v :: l, m, off, r1, r2 => ⟨r1.1, Rds.appQ r1.2 (by rw [List.length_cons] at r2; rw [show off + 1 + l.length = off + (l.length + 1) by omega]; exact r2)⟩
theorem pr_rds {h : Heap} {b : Nat} : ∀ {l : List (Int × Int)} {off : Nat}, PrH h b off l → Rds h b off (flP l)
  | [], _, _ => trivial
  | g :: r, off, k => by
    have h0 := k 0 (by simp)
    rw [Nat.zero_mul, Nat.add_zero] at h0
    refine Rds.appQ (l := [AV.int .i64 g.1, AV.int .i64 g.2]) h0 (pr_rds (l := r) fun i hi => ?_)
    have := k (i + 1) (by simpa using hi)
    rw [show off + [AV.int .i64 g.1, AV.int .i64 g.2].length + i * 2 = off + (i + 1) * 2 from by show off + 2 + _ = _; omega]
    exact this
theorem PrH.tak {h : Heap} {b off k : Nat} {l : List (Int × Int)} (q : PrH h b off l) : PrH h b off (l.take k) := fun i hi => by
  have h1 : i < l.length := by rw [List.length_take] at hi; omega
  have h2 : i < k := by rw [List.length_take] at hi; omega
  have e : nthQ (l.take k) i = nthQ l i := by simp [nthQ, List.getElem?_take, h2]
  rw [e]
  exact q i h1
theorem PrH.drp {h : Heap} {b off k : Nat} {l : List (Int × Int)} (q : PrH h b off l) : PrH h b (off + k * 2) (l.drop k) := fun i hi => by
  have h1 : k + i < l.length := by rw [List.length_drop] at hi; omega
  have e : nthQ (l.drop k) i = nthQ l (k + i) := by simp [nthQ]
  rw [e, show off + k * 2 + i * 2 = off + (k + i) * 2 by rw [Nat.add_mul]; omega]
  exact q _ h1
theorem comesQ_to {h : Heap} {j a : Nat} {c : ACap} {xs : List (Int × Int)} {L : Ob} (hk : PrH h j 0 xs) (hn : 0 < xs.length) (h1 : a ≤ xs.length) (h2 : xs.length ≤ 4000) : ComesA h [] L (.slice j 0 a c) 2 a (flP (xs.take a)) := by
  rcases Nat.eq_zero_or_pos a with rfl | h3
  · exact .inl ⟨rfl, rfl, rfl, fun h2 hh => pr_none (hk.vw hh) hn _⟩
  · have e : (flP (xs.take a)).length = a * 2 := by rw [flP_len, List.length_take]; omega
    refine .inr ⟨h3, j, 0, c, rfl, by omega, e, flP_ok _, fun h2 hh => (pr_rds (hk.vw hh).tak).loadN (fun q => ?_) e⟩
    rw [q] at e
    simp at e
    omega
theorem comesQ_from {h : Heap} {j a : Nat} {xs : List (Int × Int)} {L : Ob} (hk : PrH h j 0 xs) (hn : 0 < xs.length) (h1 : a ≤ xs.length) (h2 : xs.length ≤ 4000) : ComesA h [] L (fromQ j xs.length a) 2 (xs.length - a) (flP (xs.drop a)) := by
  have e : (flP (xs.drop a)).length = (xs.length - a) * 2 := by rw [flP_len, List.length_drop]
  rcases Nat.eq_zero_or_pos (xs.length - a) with h3 | h3
  · have hd : xs.drop a = [] := List.length_eq_zero_iff.1 (by rw [List.length_drop]; omega)
    have hv : fromQ j xs.length a = .sliceZ := if_neg (by omega)
    rw [hv, hd, h3]
    exact .inl ⟨rfl, rfl, rfl, fun _ _ => rfl⟩
  · have hv : fromQ j xs.length a = .slice j (0 + a * 2) (xs.length - a) (.m (0 + a)) := if_pos (by omega)
    rw [hv]
    refine .inr ⟨h3, j, _, _, rfl, by omega, e, flP_ok _, fun h2 hh => (pr_rds (hk.vw hh).drp).loadN (fun q => ?_) e⟩
    rw [q] at e
    simp at e
    omega
theorem comesQ_one {h0 : Heap} {L : Ob} {j : Nat} {n : Int × Int} {t : TypeId} (hm : (j, AObj.cells [.int .i64 n.1, .int .i64 n.2] t) ∈ L) : ComesA h0 [] L (.slice j 0 1 (.k 1)) 2 1 [.int .i64 n.1, .int .i64 n.2] :=
  .inr ⟨by omega, j, 0, _, rfl, by omega, rfl, rfl, fun h2 hh => readN_load (hh.own _ hm).1 rfl⟩
set_option maxRecDepth 100000 in
set_option maxHeartbeats 16000000 in
theorem put_con (h : Heap) (g : Gd h) (v : AV) (xs : List (Int × Int)) (n : Int × Int) (hv : OwQ h v xs) (hl : xs.length ≤ 4000) :
    ∃ v' L', Con Tryz.prog Bs 45 [v, .agg [.int .i64 n.1, .int .i64 n.2]] h [] v' L' ∧ ∃ ys j, InsQ xs n ys ∧ v' = .slice j 0 (xs.length + 1) (.m 0) ∧ L' = [(j, .row (flP ys) 89 2)] := by
  refine Con.subR (Con.startR rfl Tryz.func45 rfl rfl Tryz.ntmps45 rfl rfl (SS.init g) ?_)
  (refine WK.seq ?_; refine WK.region ?_; refine St.box fun _ _ => ?_; refine St.assign ?_; refine WO.nil ?_; refine WK.seq ?_; refine WK.region ?_; refine St.assign ?_; refine WO.nil ?_; refine WK.seq ?_; refine WK.block ?_)
  rename_i p3 hp3
  rcases hv with ⟨rfl, rfl⟩ | ⟨j, rfl, hj, hq, hk, hn⟩
  · refine WK.unroll ?_
    (refine WK.seq ?_; refine WK.seq ?_; refine WK.regionD ?_; refine St.move ?_; refine St.move ?_; refine St.len0 ?_; refine St.bin ?_; refine St.move ?_; refine St.skip ?_; refine St.skip ?_; refine St.skip ?_; refine St.skip ?_; refine St.skip ?_; refine St.skip ?_; refine St.skip ?_; refine St.skip ?_; refine St.skip ?_; refine St.skip ?_; refine St.skip ?_; refine St.skip ?_; refine St.skip ?_; refine St.skip ?_; refine St.skip ?_; refine St.skip ?_; refine St.skip ?_; refine St.skip ?_; refine St.skip ?_; refine St.skip ?_; refine St.skip ?_; refine St.skip ?_; refine St.skip ?_; refine St.skip ?_; refine St.skip ?_; refine St.skip ?_; refine St.skip ?_; refine St.skip ?_; refine St.pickF ?_; refine WO.nil ?_; refine WK.condF ?_; refine WK.exit ?_; refine WK.seq ?_)
    have hnil : ∀ {L : Ob}, ComesA h [] L .slice0 2 0 [] := .inl ⟨rfl, rfl, rfl, fun _ _ => rfl⟩
    refine WK.regionE (n := 1) [(p3, .cells [.int .i64 n.1, .int .i64 n.2] 89)] (by (repeat (first | exact List.Sublist.refl _ | exact List.nil_sublist _ | apply List.Sublist.cons_cons | apply List.Sublist.cons))) ?_
    refine WE.mkS 1 (fun j20 hj20 => ?_)
    refine WE.move ?_
    refine WE.move ?_
    refine WE.sliceP (u := .slice0) (v := .slice0) (fun h2 => rfl) rfl rfl ?_
    refine WE.appT 1 rfl (.inl ⟨rfl, rfl, rfl, _, rfl⟩) ⟨rfl, rfl, rfl, rfl, rfl, rfl, rfl, rfl⟩ hnil (by omega) rfl (fun _ o1 => ?_) (fun e => absurd e (by omega))
    refine WE.load 0 (v := .agg [.int .i64 n.1, .int .i64 n.2]) ?_
    refine WE.mkS 4 (fun j26 hj26 => ?_)
    refine WE.permT (List.Perm.swap _ _ _) ?_
    refine WE.appT 1 rfl o1 ⟨rfl, rfl, rfl, rfl, rfl, rfl, rfl, rfl⟩ (comesQ_one (j := j26) (n := n) (t := 89) (List.Mem.tail _ (List.Mem.head _))) (by omega) rfl (fun e => absurd e (by omega)) (fun _ j27 hj27 o2 => ?_)
    refine WE.move ?_
    refine WE.move ?_
    refine WE.sliceP (u := .slice0) (v := .slice0) (fun h2 => rfl) rfl rfl ?_
    refine WE.appT 3 rfl o2 ⟨rfl, rfl, rfl, rfl, rfl, rfl, rfl, rfl⟩ hnil (by omega) rfl (fun _ o3 => ?_) (fun e => absurd e (by omega))
    refine WE.assign ?_
    refine WE.subT (T2 := [_]) ((List.nil_sublist _).cons_cons _) ?_
    refine WE.nil ?_
    skip
    refine St.ret (by first | exact .tmp .nil | exact .cell .nil | exact .cell (.tmp .nil) | exact .tmp (.tmp .nil) | exact .cell (.cell .nil) | exact .tmp (.cell .nil) | exact .nil | exact .tmp (.cell (.tmp .nil)) | exact .cell (.tmp (.tmp .nil)) | exact .cell (.cell (.tmp .nil)) | exact .tmp (.tmp (.tmp .nil)) | exact .cell (.cell (.cell .nil))) ?_
    exact ⟨[(j27, .row (flP [n]) 89 2)], (List.nil_sublist _).cons_cons _, [n], j27, ⟨0, Nat.le_refl _, fun k hk => absurd hk (by omega), fun hk => absurd hk (by simp), rfl⟩, rfl, rfl⟩
  refine WK.inv (ι := Nat) (fun z => [(0, .slice j 0 xs.length (.m 0)), (3, .ptr p3 0), (5, .int .i64 z)]) (fun _ => [(p3, .cells [.int .i64 n.1, .int .i64 n.2] 89)]) (fun z => z ≤ xs.length ∧ ∀ k, k < z → ltQ (nthQ xs k) n = true) (fun z => xs.length - z) 0 ⟨by omega, fun k hk => absurd hk (by omega)⟩ ⟨rfl, rfl, rfl, trivial⟩ (by (repeat (first | exact List.Sublist.refl _ | exact List.nil_sublist _ | apply List.Sublist.cons_cons | apply List.Sublist.cons))) ?_
  rintro a ⟨ha, hlt⟩ ih
  have fin : (a < xs.length → ltQ (nthQ xs a) n = false) → ∀ (j' m : Nat) (row : List AV), m = xs.length + 1 → row = flP (xs.take a ++ [n] ++ xs.drop a) → ∃ L0, List.Sublist L0 [(j', AObj.row row 89 2), (p3, .cells [.int .i64 n.1, .int .i64 n.2] 89)] ∧ ∃ ys j, InsQ xs n ys ∧ AV.slice j' 0 m (.m 0) = AV.slice j 0 (xs.length + 1) (.m 0) ∧ L0 = [(j, AObj.row (flP ys) 89 2)] := fun hge j' m row e1 e2 => ⟨_, (List.nil_sublist _).cons_cons _, _, j', ⟨a, ha, hlt, hge, rfl⟩, by rw [e1], by rw [e2]⟩
  (refine WK.seq ?_; refine WK.seq ?_; refine WK.regionD ?_; refine St.move ?_; refine St.move ?_; refine St.len ?_; refine St.bin ?_; refine St.move ?_)
  refine St.split (fun c1 => ?_) (fun c1 => ?_)
  rotate_left
  · have hge : a < xs.length → ltQ (nthQ xs a) n = false := fun q => by simp at c1; omega
    (refine St.skip ?_; refine St.skip ?_; refine St.skip ?_; refine St.skip ?_; refine St.skip ?_; refine St.skip ?_; refine St.skip ?_; refine St.skip ?_; refine St.skip ?_; refine St.skip ?_; refine St.skip ?_; refine St.skip ?_; refine St.skip ?_; refine St.skip ?_; refine St.skip ?_; refine St.skip ?_; refine St.skip ?_; refine St.skip ?_; refine St.skip ?_; refine St.skip ?_; refine St.skip ?_; refine St.skip ?_; refine St.skip ?_; refine St.skip ?_; refine St.skip ?_; refine St.skip ?_; refine St.skip ?_; refine St.skip ?_; refine St.pickF ?_; refine WO.nil ?_; refine WK.condF ?_; refine WK.exit ?_; refine WK.seq ?_)
    refine WK.regionF (n := 2) [(p3, .cells [.int .i64 n.1, .int .i64 n.2] 89)] j hj rfl (by (repeat (first | exact List.Sublist.refl _ | exact List.nil_sublist _ | apply List.Sublist.cons_cons | apply List.Sublist.cons))) ?_
    refine WE.mkS 1 (fun j20 hj20 => ?_)
    refine WE.move ?_
    refine WE.move ?_
    refine WE.sliceM [] 1 (v := .slice j 0 a (.m 0)) (fun h2 hh => ?_) rfl rfl (fun _ q => by cases q) ?_
    · show plainV (evSlice Tryz.prog h2 39 (.slice j 0 xs.length (.m 0)) none (some (.int .i64 (a : Int))) none) h2 = _
      rw [slQ_to (kn_old hj hq hh) ha]
      rfl
    refine WE.appT 2 rfl (.inl ⟨rfl, rfl, rfl, _, rfl⟩) ⟨rfl, rfl, rfl, rfl, rfl, rfl, rfl, rfl⟩ (comesQ_to hk hn ha hl) (by omega) rfl (fun e1 o1 => ?_) (fun e1 j24 hj24 o1 => ?_)
    · refine WE.load 0 (v := .agg [.int .i64 n.1, .int .i64 n.2]) ?_
      refine WE.mkS 4 (fun j26 hj26 => ?_)
      refine WE.permT (List.Perm.swap _ _ _) ?_
      refine WE.appT 2 rfl o1 ⟨rfl, rfl, rfl, rfl, rfl, rfl, rfl, rfl⟩ (comesQ_one (j := j26) (n := n) (t := 89) (List.Mem.tail _ (List.Mem.head _))) (by omega) rfl (fun e => absurd e (by omega)) (fun _ j27 hj27 o2 => ?_)
      refine WE.move ?_
      refine WE.move ?_
      refine WE.sliceM [] 1 (v := fromQ j xs.length a) (fun h2 hh => ?_) rfl rfl (fun _ q => by cases q) ?_
      · show plainV (evSlice Tryz.prog h2 39 (.slice j 0 xs.length (.m 0)) (some (.int .i64 (a : Int))) none none) h2 = _
        rw [slQ_from (kn_old hj hq hh) ha]
        rfl
      refine WE.appT 4 rfl o2 ⟨rfl, rfl, rfl, rfl, rfl, rfl, rfl, rfl⟩ (comesQ_from hk hn ha hl) (by omega) rfl (fun e3 o3 => ?_) (fun e3 j31 hj31 o3 => ?_)
      · refine WE.assign ?_
        refine WE.subT (T2 := [_]) ((List.nil_sublist _).cons_cons _) ?_
        refine WE.nil ?_
        skip
        refine St.ret (by first | exact .tmp .nil | exact .cell .nil | exact .cell (.tmp .nil) | exact .tmp (.tmp .nil) | exact .cell (.cell .nil) | exact .tmp (.cell .nil) | exact .nil | exact .tmp (.cell (.tmp .nil)) | exact .cell (.tmp (.tmp .nil)) | exact .cell (.cell (.tmp .nil)) | exact .tmp (.tmp (.tmp .nil)) | exact .cell (.cell (.cell .nil))) ?_
        exact fin hge _ _ _ (by omega) (by rw [List.drop_eq_nil_of_le (show xs.length ≤ a by omega), List.append_nil, flP_app]; rfl)
      · refine WE.assign ?_
        refine WE.subT (T2 := [_]) ((List.nil_sublist _).cons_cons _) ?_
        refine WE.nil ?_
        skip
        refine St.ret (by first | exact .tmp .nil | exact .cell .nil | exact .cell (.tmp .nil) | exact .tmp (.tmp .nil) | exact .cell (.cell .nil) | exact .tmp (.cell .nil) | exact .nil | exact .tmp (.cell (.tmp .nil)) | exact .cell (.tmp (.tmp .nil)) | exact .cell (.cell (.tmp .nil)) | exact .tmp (.tmp (.tmp .nil)) | exact .cell (.cell (.cell .nil))) ?_
        exact fin hge _ _ _ (by omega) (by rw [flP_app, flP_app]; rfl)
    · refine WE.load 0 (v := .agg [.int .i64 n.1, .int .i64 n.2]) ?_
      refine WE.mkS 4 (fun j26 hj26 => ?_)
      refine WE.permT (List.Perm.swap _ _ _) ?_
      refine WE.appT 3 rfl o1 ⟨rfl, rfl, rfl, rfl, rfl, rfl, rfl, rfl⟩ (comesQ_one (j := j26) (n := n) (t := 89) (List.Mem.tail _ (List.Mem.head _))) (by omega) rfl (fun e => absurd e (by omega)) (fun _ j27 hj27 o2 => ?_)
      refine WE.move ?_
      refine WE.move ?_
      refine WE.sliceM [] 1 (v := fromQ j xs.length a) (fun h2 hh => ?_) rfl rfl (fun _ q => by cases q) ?_
      · show plainV (evSlice Tryz.prog h2 39 (.slice j 0 xs.length (.m 0)) (some (.int .i64 (a : Int))) none none) h2 = _
        rw [slQ_from (kn_old hj hq hh) ha]
        rfl
      refine WE.appT 5 rfl o2 ⟨rfl, rfl, rfl, rfl, rfl, rfl, rfl, rfl⟩ (comesQ_from hk hn ha hl) (by omega) rfl (fun e3 o3 => ?_) (fun e3 j31 hj31 o3 => ?_)
      · refine WE.assign ?_
        refine WE.subT (T2 := [_]) ((List.nil_sublist _).cons_cons _) ?_
        refine WE.nil ?_
        skip
        refine St.ret (by first | exact .tmp .nil | exact .cell .nil | exact .cell (.tmp .nil) | exact .tmp (.tmp .nil) | exact .cell (.cell .nil) | exact .tmp (.cell .nil) | exact .nil | exact .tmp (.cell (.tmp .nil)) | exact .cell (.tmp (.tmp .nil)) | exact .cell (.cell (.tmp .nil)) | exact .tmp (.tmp (.tmp .nil)) | exact .cell (.cell (.cell .nil))) ?_
        exact fin hge _ _ _ (by omega) (by rw [List.drop_eq_nil_of_le (show xs.length ≤ a by omega), List.append_nil, flP_app]; rfl)
      · refine WE.assign ?_
        refine WE.subT (T2 := [_]) ((List.nil_sublist _).cons_cons _) ?_
        refine WE.nil ?_
        skip
        refine St.ret (by first | exact .tmp .nil | exact .cell .nil | exact .cell (.tmp .nil) | exact .tmp (.tmp .nil) | exact .cell (.cell .nil) | exact .tmp (.cell .nil) | exact .nil | exact .tmp (.cell (.tmp .nil)) | exact .cell (.tmp (.tmp .nil)) | exact .cell (.cell (.tmp .nil)) | exact .tmp (.tmp (.tmp .nil)) | exact .cell (.cell (.cell .nil))) ?_
        exact fin hge _ _ _ (by omega) (by rw [flP_app, flP_app]; rfl)
  have hal : a < xs.length := by simp at c1; omega
  (refine St.move ?_; refine St.move ?_)
  refine St.at ?_
  (refine St.atA ?_)
  (try refine St.atA ?_)
  refine St.loadX (fun h2 hh => ((hk.vw hh).p1 (z := (a : Int)) (n := a) (by omega) hal).one rfl) ?_
  (refine St.atA ?_; refine St.load ?_; refine St.bin ?_; refine St.move ?_)
  (try refine St.atA ?_)
  skip
  refine St.split (fun c2 => ?_) (fun c2 => ?_)
  · (refine St.skip ?_; refine St.skip ?_; refine St.skip ?_; refine St.skip ?_; refine St.skip ?_; refine St.skip ?_; refine St.skip ?_; refine St.skip ?_; refine St.skip ?_; refine St.skip ?_; refine St.skip ?_; refine St.skip ?_; refine St.skip ?_; refine St.skip ?_; refine St.skip ?_; refine St.skip ?_; refine St.skip ?_; refine St.skip ?_; refine St.pickT ?_; refine St.pickT ?_; refine WO.nil ?_; refine WK.condT ?_; refine WK.skip ?_; refine WK.block ?_; refine WK.region ?_; refine St.move ?_; refine St.binI ?_; refine St.assign ?_; refine WO.nil ?_; refine WK.blk ?_)
    refine WK.le ?_ (by (repeat (first | exact List.Sublist.refl _ | exact List.nil_sublist _ | apply List.Sublist.cons_cons | apply List.Sublist.cons))) (ih (a + 1) ⟨hal, fun k hk => ?_⟩ (by omega))
    · exact ⟨rfl, rfl, rfl, trivial⟩
    · rcases Nat.lt_succ_iff_lt_or_eq.1 hk with h5 | rfl
      · exact hlt k h5
      · unfold ltQ; simp at c2; simp [c2]
  (refine St.move ?_; refine St.move ?_)
  refine St.at ?_
  (refine St.atA ?_)
  (try refine St.atA ?_)
  refine St.loadX (fun h2 hh => ((hk.vw hh).p1 (z := (a : Int)) (n := a) (by omega) hal).one rfl) ?_
  (refine St.atA ?_; refine St.load ?_; refine St.bin ?_; refine St.move ?_)
  (try refine St.atA ?_)
  skip
  refine St.split (fun c3 => ?_) (fun c3 => ?_)
  rotate_left
  · have hge : a < xs.length → ltQ (nthQ xs a) n = false := fun _ => by unfold ltQ; simp at c2 c3; simp [c3]; omega
    (refine St.skip ?_; refine St.skip ?_; refine St.skip ?_; refine St.skip ?_; refine St.skip ?_; refine St.skip ?_; refine St.skip ?_; refine St.skip ?_; refine St.pickF ?_; refine St.pickF ?_; refine St.pickT ?_; refine WO.nil ?_; refine WK.condF ?_; refine WK.exit ?_; refine WK.seq ?_)
    refine WK.regionF (n := 2) [(p3, .cells [.int .i64 n.1, .int .i64 n.2] 89)] j hj rfl (by (repeat (first | exact List.Sublist.refl _ | exact List.nil_sublist _ | apply List.Sublist.cons_cons | apply List.Sublist.cons))) ?_
    refine WE.mkS 1 (fun j20 hj20 => ?_)
    refine WE.move ?_
    refine WE.move ?_
    refine WE.sliceM [] 1 (v := .slice j 0 a (.m 0)) (fun h2 hh => ?_) rfl rfl (fun _ q => by cases q) ?_
    · show plainV (evSlice Tryz.prog h2 39 (.slice j 0 xs.length (.m 0)) none (some (.int .i64 (a : Int))) none) h2 = _
      rw [slQ_to (kn_old hj hq hh) ha]
      rfl
    refine WE.appT 2 rfl (.inl ⟨rfl, rfl, rfl, _, rfl⟩) ⟨rfl, rfl, rfl, rfl, rfl, rfl, rfl, rfl⟩ (comesQ_to hk hn ha hl) (by omega) rfl (fun e1 o1 => ?_) (fun e1 j24 hj24 o1 => ?_)
    · refine WE.load 0 (v := .agg [.int .i64 n.1, .int .i64 n.2]) ?_
      refine WE.mkS 4 (fun j26 hj26 => ?_)
      refine WE.permT (List.Perm.swap _ _ _) ?_
      refine WE.appT 2 rfl o1 ⟨rfl, rfl, rfl, rfl, rfl, rfl, rfl, rfl⟩ (comesQ_one (j := j26) (n := n) (t := 89) (List.Mem.tail _ (List.Mem.head _))) (by omega) rfl (fun e => absurd e (by omega)) (fun _ j27 hj27 o2 => ?_)
      refine WE.move ?_
      refine WE.move ?_
      refine WE.sliceM [] 1 (v := fromQ j xs.length a) (fun h2 hh => ?_) rfl rfl (fun _ q => by cases q) ?_
      · show plainV (evSlice Tryz.prog h2 39 (.slice j 0 xs.length (.m 0)) (some (.int .i64 (a : Int))) none none) h2 = _
        rw [slQ_from (kn_old hj hq hh) ha]
        rfl
      refine WE.appT 4 rfl o2 ⟨rfl, rfl, rfl, rfl, rfl, rfl, rfl, rfl⟩ (comesQ_from hk hn ha hl) (by omega) rfl (fun e3 o3 => ?_) (fun e3 j31 hj31 o3 => ?_)
      · refine WE.assign ?_
        refine WE.subT (T2 := [_]) ((List.nil_sublist _).cons_cons _) ?_
        refine WE.nil ?_
        skip
        refine St.ret (by first | exact .tmp .nil | exact .cell .nil | exact .cell (.tmp .nil) | exact .tmp (.tmp .nil) | exact .cell (.cell .nil) | exact .tmp (.cell .nil) | exact .nil | exact .tmp (.cell (.tmp .nil)) | exact .cell (.tmp (.tmp .nil)) | exact .cell (.cell (.tmp .nil)) | exact .tmp (.tmp (.tmp .nil)) | exact .cell (.cell (.cell .nil))) ?_
        exact fin hge _ _ _ (by omega) (by rw [List.drop_eq_nil_of_le (show xs.length ≤ a by omega), List.append_nil, flP_app]; rfl)
      · refine WE.assign ?_
        refine WE.subT (T2 := [_]) ((List.nil_sublist _).cons_cons _) ?_
        refine WE.nil ?_
        skip
        refine St.ret (by first | exact .tmp .nil | exact .cell .nil | exact .cell (.tmp .nil) | exact .tmp (.tmp .nil) | exact .cell (.cell .nil) | exact .tmp (.cell .nil) | exact .nil | exact .tmp (.cell (.tmp .nil)) | exact .cell (.tmp (.tmp .nil)) | exact .cell (.cell (.tmp .nil)) | exact .tmp (.tmp (.tmp .nil)) | exact .cell (.cell (.cell .nil))) ?_
        exact fin hge _ _ _ (by omega) (by rw [flP_app, flP_app]; rfl)
    · refine WE.load 0 (v := .agg [.int .i64 n.1, .int .i64 n.2]) ?_
      refine WE.mkS 4 (fun j26 hj26 => ?_)
      refine WE.permT (List.Perm.swap _ _ _) ?_
      refine WE.appT 3 rfl o1 ⟨rfl, rfl, rfl, rfl, rfl, rfl, rfl, rfl⟩ (comesQ_one (j := j26) (n := n) (t := 89) (List.Mem.tail _ (List.Mem.head _))) (by omega) rfl (fun e => absurd e (by omega)) (fun _ j27 hj27 o2 => ?_)
      refine WE.move ?_
      refine WE.move ?_
      refine WE.sliceM [] 1 (v := fromQ j xs.length a) (fun h2 hh => ?_) rfl rfl (fun _ q => by cases q) ?_
      · show plainV (evSlice Tryz.prog h2 39 (.slice j 0 xs.length (.m 0)) (some (.int .i64 (a : Int))) none none) h2 = _
        rw [slQ_from (kn_old hj hq hh) ha]
        rfl
      refine WE.appT 5 rfl o2 ⟨rfl, rfl, rfl, rfl, rfl, rfl, rfl, rfl⟩ (comesQ_from hk hn ha hl) (by omega) rfl (fun e3 o3 => ?_) (fun e3 j31 hj31 o3 => ?_)
      · refine WE.assign ?_
        refine WE.subT (T2 := [_]) ((List.nil_sublist _).cons_cons _) ?_
        refine WE.nil ?_
        skip
        refine St.ret (by first | exact .tmp .nil | exact .cell .nil | exact .cell (.tmp .nil) | exact .tmp (.tmp .nil) | exact .cell (.cell .nil) | exact .tmp (.cell .nil) | exact .nil | exact .tmp (.cell (.tmp .nil)) | exact .cell (.tmp (.tmp .nil)) | exact .cell (.cell (.tmp .nil)) | exact .tmp (.tmp (.tmp .nil)) | exact .cell (.cell (.cell .nil))) ?_
        exact fin hge _ _ _ (by omega) (by rw [List.drop_eq_nil_of_le (show xs.length ≤ a by omega), List.append_nil, flP_app]; rfl)
      · refine WE.assign ?_
        refine WE.subT (T2 := [_]) ((List.nil_sublist _).cons_cons _) ?_
        refine WE.nil ?_
        skip
        refine St.ret (by first | exact .tmp .nil | exact .cell .nil | exact .cell (.tmp .nil) | exact .tmp (.tmp .nil) | exact .cell (.cell .nil) | exact .tmp (.cell .nil) | exact .nil | exact .tmp (.cell (.tmp .nil)) | exact .cell (.tmp (.tmp .nil)) | exact .cell (.cell (.tmp .nil)) | exact .tmp (.tmp (.tmp .nil)) | exact .cell (.cell (.cell .nil))) ?_
        exact fin hge _ _ _ (by omega) (by rw [flP_app, flP_app]; rfl)
  (refine St.move ?_; refine St.move ?_)
  refine St.at ?_
  (refine St.atA ?_)
  (try refine St.atA ?_)
  refine St.loadX (fun h2 hh => ((hk.vw hh).p2 (z := (a : Int)) (n := a) (by omega) hal).one rfl) ?_
  (refine St.atA ?_; refine St.load ?_; refine St.bin ?_; refine St.pickT ?_; refine St.pickF ?_; refine St.pickT ?_; refine WO.nil ?_)
  (try refine St.atA ?_)
  skip
  refine St.splitC (fun c4 => ?_) (fun c4 => ?_)
  · (refine WK.skip ?_; refine WK.block ?_; refine WK.region ?_; refine St.move ?_; refine St.binI ?_; refine St.assign ?_; refine WO.nil ?_; refine WK.blk ?_)
    refine WK.le ?_ (by (repeat (first | exact List.Sublist.refl _ | exact List.nil_sublist _ | apply List.Sublist.cons_cons | apply List.Sublist.cons))) (ih (a + 1) ⟨hal, fun k hk => ?_⟩ (by omega))
    · exact ⟨rfl, rfl, rfl, trivial⟩
    · rcases Nat.lt_succ_iff_lt_or_eq.1 hk with h5 | rfl
      · exact hlt k h5
      · unfold ltQ; simp at c3 c4; simp [c3, c4]
  have hge : a < xs.length → ltQ (nthQ xs a) n = false := fun _ => by unfold ltQ; simp at c2 c3 c4; simp [c3]; omega
  (refine WK.exit ?_; refine WK.seq ?_)
  refine WK.regionF (n := 2) [(p3, .cells [.int .i64 n.1, .int .i64 n.2] 89)] j hj rfl (by (repeat (first | exact List.Sublist.refl _ | exact List.nil_sublist _ | apply List.Sublist.cons_cons | apply List.Sublist.cons))) ?_
  refine WE.mkS 1 (fun j20 hj20 => ?_)
  refine WE.move ?_
  refine WE.move ?_
  refine WE.sliceM [] 1 (v := .slice j 0 a (.m 0)) (fun h2 hh => ?_) rfl rfl (fun _ q => by cases q) ?_
  · show plainV (evSlice Tryz.prog h2 39 (.slice j 0 xs.length (.m 0)) none (some (.int .i64 (a : Int))) none) h2 = _
    rw [slQ_to (kn_old hj hq hh) ha]
    rfl
  refine WE.appT 2 rfl (.inl ⟨rfl, rfl, rfl, _, rfl⟩) ⟨rfl, rfl, rfl, rfl, rfl, rfl, rfl, rfl⟩ (comesQ_to hk hn ha hl) (by omega) rfl (fun e1 o1 => ?_) (fun e1 j24 hj24 o1 => ?_)
  · refine WE.load 0 (v := .agg [.int .i64 n.1, .int .i64 n.2]) ?_
    refine WE.mkS 4 (fun j26 hj26 => ?_)
    refine WE.permT (List.Perm.swap _ _ _) ?_
    refine WE.appT 2 rfl o1 ⟨rfl, rfl, rfl, rfl, rfl, rfl, rfl, rfl⟩ (comesQ_one (j := j26) (n := n) (t := 89) (List.Mem.tail _ (List.Mem.head _))) (by omega) rfl (fun e => absurd e (by omega)) (fun _ j27 hj27 o2 => ?_)
    refine WE.move ?_
    refine WE.move ?_
    refine WE.sliceM [] 1 (v := fromQ j xs.length a) (fun h2 hh => ?_) rfl rfl (fun _ q => by cases q) ?_
    · show plainV (evSlice Tryz.prog h2 39 (.slice j 0 xs.length (.m 0)) (some (.int .i64 (a : Int))) none none) h2 = _
      rw [slQ_from (kn_old hj hq hh) ha]
      rfl
    refine WE.appT 4 rfl o2 ⟨rfl, rfl, rfl, rfl, rfl, rfl, rfl, rfl⟩ (comesQ_from hk hn ha hl) (by omega) rfl (fun e3 o3 => ?_) (fun e3 j31 hj31 o3 => ?_)
    · refine WE.assign ?_
      refine WE.subT (T2 := [_]) ((List.nil_sublist _).cons_cons _) ?_
      refine WE.nil ?_
      skip
      refine St.ret (by first | exact .tmp .nil | exact .cell .nil | exact .cell (.tmp .nil) | exact .tmp (.tmp .nil) | exact .cell (.cell .nil) | exact .tmp (.cell .nil) | exact .nil | exact .tmp (.cell (.tmp .nil)) | exact .cell (.tmp (.tmp .nil)) | exact .cell (.cell (.tmp .nil)) | exact .tmp (.tmp (.tmp .nil)) | exact .cell (.cell (.cell .nil))) ?_
      exact fin hge _ _ _ (by omega) (by rw [List.drop_eq_nil_of_le (show xs.length ≤ a by omega), List.append_nil, flP_app]; rfl)
    · refine WE.assign ?_
      refine WE.subT (T2 := [_]) ((List.nil_sublist _).cons_cons _) ?_
      refine WE.nil ?_
      skip
      refine St.ret (by first | exact .tmp .nil | exact .cell .nil | exact .cell (.tmp .nil) | exact .tmp (.tmp .nil) | exact .cell (.cell .nil) | exact .tmp (.cell .nil) | exact .nil | exact .tmp (.cell (.tmp .nil)) | exact .cell (.tmp (.tmp .nil)) | exact .cell (.cell (.tmp .nil)) | exact .tmp (.tmp (.tmp .nil)) | exact .cell (.cell (.cell .nil))) ?_
      exact fin hge _ _ _ (by omega) (by rw [flP_app, flP_app]; rfl)
  · refine WE.load 0 (v := .agg [.int .i64 n.1, .int .i64 n.2]) ?_
    refine WE.mkS 4 (fun j26 hj26 => ?_)
    refine WE.permT (List.Perm.swap _ _ _) ?_
    refine WE.appT 3 rfl o1 ⟨rfl, rfl, rfl, rfl, rfl, rfl, rfl, rfl⟩ (comesQ_one (j := j26) (n := n) (t := 89) (List.Mem.tail _ (List.Mem.head _))) (by omega) rfl (fun e => absurd e (by omega)) (fun _ j27 hj27 o2 => ?_)
    refine WE.move ?_
    refine WE.move ?_
    refine WE.sliceM [] 1 (v := fromQ j xs.length a) (fun h2 hh => ?_) rfl rfl (fun _ q => by cases q) ?_
    · show plainV (evSlice Tryz.prog h2 39 (.slice j 0 xs.length (.m 0)) (some (.int .i64 (a : Int))) none none) h2 = _
      rw [slQ_from (kn_old hj hq hh) ha]
      rfl
    refine WE.appT 5 rfl o2 ⟨rfl, rfl, rfl, rfl, rfl, rfl, rfl, rfl⟩ (comesQ_from hk hn ha hl) (by omega) rfl (fun e3 o3 => ?_) (fun e3 j31 hj31 o3 => ?_)
    · refine WE.assign ?_
      refine WE.subT (T2 := [_]) ((List.nil_sublist _).cons_cons _) ?_
      refine WE.nil ?_
      skip
      refine St.ret (by first | exact .tmp .nil | exact .cell .nil | exact .cell (.tmp .nil) | exact .tmp (.tmp .nil) | exact .cell (.cell .nil) | exact .tmp (.cell .nil) | exact .nil | exact .tmp (.cell (.tmp .nil)) | exact .cell (.tmp (.tmp .nil)) | exact .cell (.cell (.tmp .nil)) | exact .tmp (.tmp (.tmp .nil)) | exact .cell (.cell (.cell .nil))) ?_
      exact fin hge _ _ _ (by omega) (by rw [List.drop_eq_nil_of_le (show xs.length ≤ a by omega), List.append_nil, flP_app]; rfl)
    · refine WE.assign ?_
      refine WE.subT (T2 := [_]) ((List.nil_sublist _).cons_cons _) ?_
      refine WE.nil ?_
      skip
      refine St.ret (by first | exact .tmp .nil | exact .cell .nil | exact .cell (.tmp .nil) | exact .tmp (.tmp .nil) | exact .cell (.cell .nil) | exact .tmp (.cell .nil) | exact .nil | exact .tmp (.cell (.tmp .nil)) | exact .cell (.tmp (.tmp .nil)) | exact .cell (.cell (.tmp .nil)) | exact .tmp (.tmp (.tmp .nil)) | exact .cell (.cell (.cell .nil))) ?_
      exact fin hge _ _ _ (by omega) (by rw [flP_app, flP_app]; rfl)
end Go.Proofs.YtgjkfmcjalcefaaGreat
