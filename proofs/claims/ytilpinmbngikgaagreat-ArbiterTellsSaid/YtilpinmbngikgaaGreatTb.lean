/- Layer 9: count, tallyOf. -/
import Derived.Test.YtilpinmbngikgaaGreatKe
import Derived.Test.YtilpinmbngikgaaGreatRq
import Derived.Test.YtilpinmbngikgaaGreatKb
/- Layer 9: a tally: what a vote adds to it, in memory. -/
namespace Go.Proofs.YtilpinmbngikgaaGreat
open Go.Proofs.YtilpinmbngikgaaGreat.Ev

/-- a tally with one vote more -/
def addT : List Te → Rl3 → Nat → List Te
  | [], r, a => [(r, 2 ^ a)]
  | e :: T, r, a => if e.1 = r then (r, e.2 ||| 2 ^ a) :: T else e :: addT T r a
theorem te_split (r : Rl3) : ∀ T : List Te, (∀ e ∈ T, e.1 ≠ r) ∨ ∃ A n B, T = A ++ (r, n) :: B ∧ ∀ e ∈ A, e.1 ≠ r
  | [] => .inl fun e h => by cases h
  | (k, n) :: T => by
    by_cases h : k = r
    · subst h
      exact .inr ⟨[], n, T, rfl, fun e h => by cases h⟩
    · rcases te_split r T with h2 | ⟨A, m, B, rfl, h2⟩
      · exact .inl fun e he => by
          rcases List.mem_cons.1 he with rfl | he
          · exact h
          · exact h2 e he
      · exact .inr ⟨(k, n) :: A, m, B, rfl, fun e he => by
          rcases List.mem_cons.1 he with rfl | he
          · exact h
          · exact h2 e he⟩
theorem addT_no {r : Rl3} {a : Nat} : ∀ {T : List Te}, (∀ e ∈ T, e.1 ≠ r) → addT T r a = T ++ [(r, 2 ^ a)]
  | [], _ => rfl
  | e :: T, h => by
    rw [addT, if_neg (h e (List.mem_cons_self ..)), addT_no fun x hx => h x (List.mem_cons_of_mem _ hx)]
    rfl
theorem addT_yes {r : Rl3} {a n : Nat} {B : List Te} : ∀ {A : List Te}, (∀ e ∈ A, e.1 ≠ r) → addT (A ++ (r, n) :: B) r a = A ++ (r, n ||| 2 ^ a) :: B
  | [], _ => by simp [addT]
  | e :: A, h => by
    rw [List.cons_append, addT, if_neg (h e (List.mem_cons_self ..)), addT_yes fun x hx => h x (List.mem_cons_of_mem _ hx)]
    rfl
theorem sameRl (r q : Rl3) : sameKey (.agg (rlC r)) (.agg (rlC q)) = some (decide (r = q)) := by
  obtain ⟨a, b, c⟩ := r
  obtain ⟨d, e, f⟩ := q
  simp only [sameKey, rlC, sameI]
  by_cases h1 : a = d <;> by_cases h2 : b = e <;> by_cases h3 : c = f <;> simp [h1, h2, h3]
theorem tlE_no {r : Rl3} : ∀ {T : List Te} {c i : Nat}, (∀ e ∈ T, e.1 ≠ r) → findE (.agg (rlC r)) (tlE T c) i = some none
  | [], _, _, _ => rfl
  | e :: T, c, i, h => by
    have h1 : decide (r = e.1) = false := by simpa using fun q : r = e.1 => h e (List.mem_cons_self ..) q.symm
    rw [tlE, findE]
    simp only [teE, sameRl, h1]
    exact tlE_no fun x hx => h x (List.mem_cons_of_mem _ hx)
theorem tlE_yes {r : Rl3} {n : Nat} {B : List Te} : ∀ {A : List Te} {c i : Nat}, (∀ e ∈ A, e.1 ≠ r) → findE (.agg (rlC r)) (tlE (A ++ (r, n) :: B) c) i = some (some (i + A.length, (.int .u64 n, c + A.length)))
  | [], c, i, _ => by
    rw [List.nil_append, tlE, findE]
    simp [teE, sameRl]
  | e :: A, c, i, h => by
    have h1 : decide (r = e.1) = false := by simpa using fun q : r = e.1 => h e (List.mem_cons_self ..) q.symm
    rw [List.cons_append, tlE, findE]
    simp only [teE, sameRl, h1]
    rw [tlE_yes fun x hx => h x (List.mem_cons_of_mem _ hx), List.length_cons]
    simp only [Option.some.injEq, Prod.mk.injEq, true_and]
    omega
theorem tlE_set {r : Rl3} {n n' : Nat} {B : List Te} : ∀ {A : List Te} {c : Nat}, setE A.length (.agg (rlC r)) (.int .u64 n') (tlE (A ++ (r, n) :: B) c) = tlE (A ++ (r, n') :: B) c
  | [], c => rfl
  | e :: A, c => by
    show teE e c :: setE A.length (.agg (rlC r)) (.int .u64 n') (tlE (A ++ (r, n) :: B) (c + 1)) = _
    rw [tlE_set]
    rfl
theorem tlE_snoc {e : Te} : ∀ {T : List Te} {c : Nat}, tlE (T ++ [e]) c = tlE T c ++ [teE e (c + T.length)]
  | [], c => rfl
  | x :: T, c => by
    show teE x c :: tlE (T ++ [e]) (c + 1) = _
    rw [tlE_snoc]
    simp only [tlE, List.cons_append, List.length_cons]
    rw [show c + 1 + T.length = c + (T.length + 1) by omega]
theorem keyR (r : Rl3) : keyFits Tryz.prog 52 (.agg (rlC r)) = true := by
  unfold keyFits
  rw [Tryz.underlying52]
  kernel_rfl
theorem lookT_yes {h2 : Heap} {pm : Nat} {r : Rl3} {k : Nat} {A B : List Te} {n : Nat} (hg : h2.get pm = some (.map (tlE (A ++ (r, k) :: B) 0) n)) (hno : ∀ e ∈ A, e.1 ≠ r) : evLookup Tryz.prog h2 60 (.map pm) (.agg (rlC r)) false = some (.int .u64 k) := by
  unfold evLookup
  rw [Tryz.underlying60]
  simp only [keyR, if_true, hg, tlE_yes hno]
  rfl
theorem lookT_no {h2 : Heap} {pm : Nat} {r : Rl3} {T : List Te} {n : Nat} (hg : h2.get pm = some (.map (tlE T 0) n)) (hno : ∀ e ∈ T, e.1 ≠ r) : evLookup Tryz.prog h2 60 (.map pm) (.agg (rlC r)) false = some (.int .u64 0) := by
  have hz : zeroT Tryz.prog 75 = some (.int .u64 0) := by kernel_rfl
  unfold evLookup
  rw [Tryz.underlying60]
  simp only [keyR, if_true, hg, tlE_no hno, hz]
  rfl
theorem updT_yes {h2 : Heap} {pm : Nat} {r : Rl3} {k k' : Nat} {A B : List Te} {n : Nat} (hg : h2.get pm = some (.map (tlE (A ++ (r, k) :: B) 0) n)) (hno : ∀ e ∈ A, e.1 ≠ r) : evUpdate Tryz.prog h2 60 (.map pm) (.agg (rlC r)) (.int .u64 k') = h2.set pm (.map (tlE (A ++ (r, k') :: B) 0) n) := by
  unfold evUpdate
  rw [Tryz.underlying60]
  simp only [keyR, if_true, hg, tlE_yes hno, Nat.zero_add, tlE_set]
theorem updT_no {h2 : Heap} {pm : Nat} {r : Rl3} {k : Nat} {T : List Te} (hg : h2.get pm = some (.map (tlE T 0) T.length)) (hno : ∀ e ∈ T, e.1 ≠ r) : evUpdate Tryz.prog h2 60 (.map pm) (.agg (rlC r)) (.int .u64 k) = h2.set pm (.map (tlE (T ++ [(r, k)]) 0) (T.length + 1)) := by
  unfold evUpdate
  rw [Tryz.underlying60]
  simp only [keyR, if_true, hg, tlE_no hno, tlE_snoc, Nat.zero_add]
  rfl
def rlOf (x : Le) : Rl3 := (x.cs, x.rd, x.fi)
set_option maxRecDepth 100000 in
theorem rulingOf_con (h : Heap) (g : Gd h) (x : Le) : Con Tryz.prog Bs 47 [.agg (leC x)] h [] (.agg (rlC (rlOf x))) [] := by
  refine Con.start rfl Tryz.func47 rfl rfl Tryz.ntmps47 rfl rfl g ?_
  (repeat (first | refine St.move ?_ | refine St.assign ?_ | refine St.binI ?_ | refine St.bin ?_ | refine St.load ?_ | refine St.fieldAddr ?_ | refine St.field ?_ | refine St.extract ?_ | refine St.pickT ?_ | refine St.pickF ?_ | refine St.pick ?_ | refine WO.nil ?_ | refine WK.seq ?_ | refine WK.region ?_ | refine St.len ?_ | refine St.unI ?_ | refine St.un ?_ | refine St.box fun _ _ => ?_ | refine St.alloc fun _ _ => ?_ | refine St.store0 ?_ | refine St.store1 ?_ | refine St.store2 ?_ | refine St.store3 ?_ | refine St.store4 ?_ | refine St.store5 ?_ | refine St.build ?_ | refine St.skip ?_ | refine St.skipN ?_ | refine WK.skip ?_ | refine WK.block ?_ | refine WK.blk ?_ | refine WK.scope ?_ | refine WK.label ?_ | refine WK.exit ?_ | refine WK.condT ?_ | refine WK.condF ?_ | refine St.conv ?_ | refine St.fn ?_ | refine St.nilF ?_ | refine St.nilP ?_ | refine St.len0 ?_ | refine St.maxI ?_ | refine St.minI ?_ | refine St.max ?_ | refine St.min ?_ | refine WK.regionD ?_ | refine StD.box fun _ _ => ?_ | refine StD.alloc fun _ _ => ?_ | refine StD.store0 ?_ | refine StD.store1 ?_ | refine WO.nil1 ?_ | refine WO.nil2 ?_ | refine WO.nil3 ?_ | refine St.mkS fun _ _ => ?_ | refine StD.mkS fun _ _ => ?_ | refine StD.store2 ?_ | refine StD.store3 ?_ | refine StD.store4 ?_ | refine StD.store5 ?_ | refine St.store6 ?_ | refine St.store7 ?_ | refine StD.storeT ?_ | refine St.atA ?_ | refine St.lenZ ?_))
  refine St.ret (by first | exact .tmp .nil | exact .cell .nil | exact .cell (.tmp .nil) | exact .tmp (.tmp .nil) | exact .cell (.cell .nil) | exact .tmp (.cell .nil) | exact .nil | exact .tmp (.cell (.tmp .nil)) | exact .cell (.tmp (.tmp .nil)) | exact .cell (.cell (.tmp .nil)) | exact .tmp (.tmp (.tmp .nil)) | exact .tmp (.tmp (.tmp (.tmp .nil))) | exact .cell (.cell (.cell .nil))) ?_
  rfl
end Go.Proofs.YtilpinmbngikgaaGreat

/- Layer 9: count, tallyOf. -/
namespace Go.Proofs.YtilpinmbngikgaaGreat
open Go.Proofs.YtilpinmbngikgaaGreat.Ev

theorem addT_len {r : Rl3} {a : Nat} : ∀ {T : List Te}, (addT T r a).length ≤ T.length + 1
  | [] => by simp [addT]
  | e :: T => by
    rw [addT]
    split
    · simp
    · have := addT_len (r := r) (a := a) (T := T)
      simp only [List.length_cons]; omega
theorem addT_lt {r : Rl3} {a : Nat} (ha : a < 7) : ∀ {T : List Te}, (∀ e ∈ T, e.2 < 128) → ∀ e ∈ addT T r a, e.2 < 128
  | [], _, e, he => by
    simp only [addT, List.mem_singleton] at he
    subst he
    have := or_lt (g := 0) (a := a) (by omega) ha
    simpa using this
  | x :: T, h, e, he => by
    rw [addT] at he
    split at he
    · rcases List.mem_cons.1 he with rfl | he
      · exact or_lt (h x (List.mem_cons_self ..)) ha
      · exact h e (List.mem_cons_of_mem _ he)
    · rcases List.mem_cons.1 he with rfl | he
      · exact h _ (List.mem_cons_self ..)
      · exact addT_lt ha (fun y hy => h y (List.mem_cons_of_mem _ hy)) e he
set_option maxRecDepth 100000 in
set_option maxHeartbeats 16000000 in
theorem count_con (h : Heap) (m : Nat) (T : List Te) (x : Le) (k : SS h [m] [(m, .map (tlE T 0) T.length)] h) (hT : ∀ e ∈ T, e.2 < 128) (a : Nat) (ha : a < 7) (hx : x.fr = a) :
    ∃ v L, Con Tryz.prog Bs 54 [.map m, .agg (leC x)] h [m] v L ∧ v = .tup [] ∧ ∃ L2, L = (m, .map (tlE (addT T (rlOf x) a) 0) (addT T (rlOf x) a).length) :: L2 := by
  have hWW := k.ltW
  refine Con.pick (Con.startR rfl Tryz.func54 rfl rfl Tryz.ntmps54 rfl rfl k ?_)
  (refine WK.seq ?_; refine WK.region ?_; refine St.box fun _ _ => ?_; refine WO.nil ?_; refine WK.seq ?_; refine WK.region ?_; refine St.load ?_)
  rename_i p3 hp3
  refine St.call (fun _ => rfl) (fun h2 hh => rulingOf_con h2 hh.gd x) ?_
  (refine St.alloc fun _ _ => ?_; refine St.store0 ?_; refine WO.nil ?_; refine WK.regionD ?_; refine St.move ?_; refine St.load ?_; refine St.move ?_; refine St.load ?_)
  rename_i p4 hp4
  have hb : ∀ n : Nat, n < 128 → n ||| 2 ^ a < 128 := fun n hn => or_lt hn ha
  rcases te_split (rlOf x) T with hno | ⟨A, n, B, rfl, hno⟩
  · refine St.lookupV (v := .int .u64 0) (fun h2 hh => ?_) ?_
    · show plainV (evLookup Tryz.prog h2 60 (.map m) (.agg (rlC (rlOf x))) false) h2 = _
      rw [lookT_no (hh.getO (j := m) (o := .map (tlE T 0) T.length) (by simp)) hno]
      rfl
    (refine St.fieldAddr ?_; refine St.load ?_)
    refine St.call (fun _ => rfl) (fun h2 hh => by have := with_con h2 hh.gd 0 a (by omega) ha; rw [hx]; exact this) ?_
    skip
    refine Ev.StD.mapUpd (A := [(p4, .cells (rlC (rlOf x)) 52), (p3, .cells (leC x) 50)]) (C := []) (r := m) (es := tlE T 0) (c := T.length) (es' := tlE (T ++ [(rlOf x, 2 ^ a)]) 0) (c' := T.length + 1) rfl (fun h3 g3 hg hs3 => ?_) ?_
    · show (evUpdate Tryz.prog h3 60 (.map m) (.agg (rlC (rlOf x))) (.int .u64 ((0 ||| 2 ^ a : Nat) : Int))).map (fun h => (ANext.skip, h)) = _
      rw [Nat.zero_or, updT_no hg hno, hs3]
      rfl
    (refine WO.nil ?_)
    refine WK.fin rfl ?_
    refine ⟨[(m, .map (tlE (addT T (rlOf x) a) 0) (addT T (rlOf x) a).length)], [(p4, .cells (rlC (rlOf x)) 52), (p3, .cells (leC x) 50)], ?_, rfl, [], rfl⟩
    rw [addT_no hno, List.length_append, List.length_singleton]
    (repeat (first | exact List.Perm.refl _ | refine perm_at 0 rfl ?_ | refine perm_at 1 rfl ?_ | refine perm_at 2 rfl ?_ | refine perm_at 3 rfl ?_ | refine perm_at 4 rfl ?_ | refine perm_at 5 rfl ?_ | refine perm_at 6 rfl ?_ | refine perm_at 7 rfl ?_ | refine perm_at 8 rfl ?_ | refine perm_at 9 rfl ?_))
  · refine St.lookupV (v := .int .u64 n) (fun h2 hh => ?_) ?_
    · show plainV (evLookup Tryz.prog h2 60 (.map m) (.agg (rlC (rlOf x))) false) h2 = _
      rw [lookT_yes (hh.getO (j := m) (o := .map (tlE (A ++ (rlOf x, n) :: B) 0) (A ++ (rlOf x, n) :: B).length) (by simp)) hno]
      rfl
    have hn : n < 128 := hT (rlOf x, n) (by simp)
    (refine St.fieldAddr ?_; refine St.load ?_)
    refine St.call (fun _ => rfl) (fun h2 hh => by have := with_con h2 hh.gd n a hn ha; rw [hx]; exact this) ?_
    skip
    refine Ev.StD.mapUpd (A := [(p4, .cells (rlC (rlOf x)) 52), (p3, .cells (leC x) 50)]) (C := []) (r := m) (es := tlE (A ++ (rlOf x, n) :: B) 0) (c := (A ++ (rlOf x, n) :: B).length) (es' := tlE (A ++ (rlOf x, n ||| 2 ^ a) :: B) 0) (c' := (A ++ (rlOf x, n) :: B).length) rfl (fun h3 g3 hg hs3 => ?_) ?_
    · show (evUpdate Tryz.prog h3 60 (.map m) (.agg (rlC (rlOf x))) (.int .u64 ((n ||| 2 ^ a : Nat) : Int))).map (fun h => (ANext.skip, h)) = _
      rw [updT_yes hg hno, hs3]
      rfl
    (refine WO.nil ?_)
    refine WK.fin rfl ?_
    refine ⟨[(m, .map (tlE (addT (A ++ (rlOf x, n) :: B) (rlOf x) a) 0) (addT (A ++ (rlOf x, n) :: B) (rlOf x) a).length)], [(p4, .cells (rlC (rlOf x)) 52), (p3, .cells (leC x) 50)], ?_, rfl, [], rfl⟩
    rw [addT_yes hno, show (A ++ (rlOf x, n ||| 2 ^ a) :: B).length = (A ++ (rlOf x, n) :: B).length by simp]
    (repeat (first | exact List.Perm.refl _ | refine perm_at 0 rfl ?_ | refine perm_at 1 rfl ?_ | refine perm_at 2 rfl ?_ | refine perm_at 3 rfl ?_ | refine perm_at 4 rfl ?_ | refine perm_at 5 rfl ?_ | refine perm_at 6 rfl ?_ | refine perm_at 7 rfl ?_ | refine perm_at 8 rfl ?_ | refine perm_at 9 rfl ?_))
theorem count_c {h : Heap} {m : Nat} {T : List Te} {x : Le} (k : SS h [m] [(m, .map (tlE T 0) T.length)] h) (hT : ∀ e ∈ T, e.2 < 128) (hx : 0 ≤ x.fr ∧ x.fr < 7) :
    Con Tryz.prog Bs 54 [.map m, .agg (leC x)] h [m] (.tup []) [(m, .map (tlE (addT T (rlOf x) x.fr.toNat) 0) (addT T (rlOf x) x.fr.toNat).length)] := by
  obtain ⟨v, L, hc, rfl, L2, rfl⟩ := count_con h m T x k hT x.fr.toNat (by omega) (by omega)
  exact hc.sub (by (repeat (first | exact List.Sublist.refl _ | exact List.nil_sublist _ | apply List.Sublist.cons_cons | apply List.Sublist.cons)))
/-- the tally of the first k letters -/
def tlN (l : List Le) : Nat → List Te
  | 0 => []
  | k + 1 => if (atL l k).kd = 4 then addT (tlN l k) (rlOf (atL l k)) (atL l k).fr.toNat else tlN l k
theorem tlN_len {l : List Le} : ∀ k, (tlN l k).length ≤ k
  | 0 => Nat.le_refl _
  | k + 1 => by
    have := tlN_len (l := l) k
    rw [tlN]
    split
    · have := addT_len (r := rlOf (atL l k)) (a := (atL l k).fr.toNat) (T := tlN l k)
      omega
    · omega
theorem tlN_lt {l : List Le} (h : ∀ x ∈ l, 0 ≤ x.fr ∧ x.fr < 7) : ∀ k, k ≤ l.length → ∀ e ∈ tlN l k, e.2 < 128
  | 0, _, e, he => by cases he
  | k + 1, hk, e, he => by
    have ih := tlN_lt h k (by omega)
    have hx := h (atL l k) (by unfold atL; simp [show k < l.length by omega])
    rw [tlN] at he
    split at he
    · exact addT_lt (by omega) ih e he
    · exact ih e he
set_option maxRecDepth 100000 in
set_option maxHeartbeats 32000000 in
theorem tallyOf_con (h : Heap) (g : Gd h) (v : AV) (l : List Le) (hv : LeV h v l) (hl : l.length ≤ 2000) (hfr : ∀ x ∈ l, 0 ≤ x.fr ∧ x.fr < 7) :
    ∃ u L, Con Tryz.prog Bs 23 [v] h [] u L ∧ ∃ m, u = .map m ∧ L = [(m, .map (tlE (tlN l l.length) 0) (tlN l l.length).length)] := by
  refine Con.subG (Con.startR rfl Tryz.func23 rfl rfl Tryz.ntmps23 rfl rfl (SS.init g) ?_)
  (refine WK.seq ?_; refine WK.region ?_; refine St.assign ?_; refine WO.nil ?_; refine WK.seq ?_; refine WK.region ?_)
  refine St.makeMap (fun pm hpm => ?_)
  (refine St.assign ?_; refine WO.nil ?_; refine WK.seq ?_; refine WK.seq ?_; refine WK.region ?_; refine St.move ?_)
  refine St.lenG rfl hv.llen ?_
  (refine St.move ?_; refine WO.nil ?_; refine WK.block ?_)
  refine WK.inv (ι := Nat) (fun i => [(3, .map pm), (7, v), (8, .int .i64 l.length), (9, .int .i64 i)]) (fun i => [(pm, .map (tlE (tlN l i) 0) (tlN l i).length)]) (fun i => i ≤ l.length) (fun i => l.length - i) 0 (Nat.zero_le _) ⟨rfl, rfl, rfl, rfl, trivial⟩ (by exact List.Sublist.refl _) ?_
  intro i hil ih
  (refine WK.seq ?_; refine WK.region ?_; refine St.bin ?_; refine WO.nil ?_; refine WK.seq ?_)
  refine St.splitC (fun hc => ?_) (fun hc => ?_)
  · have hlt : i < l.length := by simp at hc; omega
    have hv' := hv
    obtain ⟨b, off, m, rfl, hk⟩ := hv'.ne (by omega)
    have ea : atL l i = nthE l i := rfl
    (refine WK.skip ?_; refine WK.seq ?_; refine WK.block ?_; refine WK.seq ?_; refine WK.region ?_)
    refine St.at ?_
    refine St.loadX (fun h2 hh => ((hk.vw hh).at_ (z := (i : Int)) (n := i) (by omega) hlt).agg (by simp [leC]) rfl rfl rfl) ?_
    (refine St.alloc fun _ _ => ?_; refine St.store0 ?_; refine WO.nil ?_; refine WK.seq ?_; refine WK.region ?_; refine St.fieldAddr ?_; refine St.load ?_; refine St.bin ?_; refine WO.nil ?_)
    rename_i p5 hp5
    refine St.splitC (fun q => ?_) (fun q => ?_)
    · have hk4 : (atL l i).kd = 4 := by rw [ea]; simpa using q
      have hs : tlN l (i + 1) = addT (tlN l i) (rlOf (nthE l i)) (nthE l i).fr.toNat := by rw [tlN, if_pos hk4]; rfl
      (refine WK.region ?_; refine St.move ?_; refine St.load ?_)
      refine St.callW (v := .tup []) (Lw := [(pm, .map (tlE (tlN l i) 0) (tlN l i).length)]) (Lk := [(p5, .cells (leC (nthE l i)) 50)]) (L' := [(pm, .map (tlE (tlN l (i + 1)) 0) (tlN l (i + 1)).length)]) (W' := [pm]) (fun _ => rfl) (fun h8 hh => by rw [hs]; exact count_c (hh.sub (L' := [(pm, .map (tlE (tlN l i) 0) (tlN l i).length)]) (by (repeat (first | exact List.Sublist.refl _ | exact List.nil_sublist _ | apply List.Sublist.cons_cons | apply List.Sublist.cons)))).lend (tlN_lt hfr i hil) (hfr _ (nthE_mem hlt))) (by (repeat (first | exact List.Perm.refl _ | refine perm_at 0 rfl ?_ | refine perm_at 1 rfl ?_ | refine perm_at 2 rfl ?_ | refine perm_at 3 rfl ?_ | refine perm_at 4 rfl ?_ | refine perm_at 5 rfl ?_ | refine perm_at 6 rfl ?_ | refine perm_at 7 rfl ?_ | refine perm_at 8 rfl ?_ | refine perm_at 9 rfl ?_))) rfl ?_
      (refine WO.nil ?_; refine WK.blk ?_; refine WK.region ?_; refine St.binI ?_; refine St.move ?_; refine WO.nil ?_)
      refine WK.le ?_ (by (repeat (first | exact List.Sublist.refl _ | exact List.nil_sublist _ | apply List.Sublist.cons_cons | apply List.Sublist.cons))) (ih (i + 1) hlt (by omega))
      exact ⟨rfl, rfl, rfl, rfl, trivial⟩
    · have hk4 : ¬ (atL l i).kd = 4 := by rw [ea]; simpa using q
      have hs : tlN l (i + 1) = tlN l i := by rw [tlN, if_neg hk4]
      (refine WK.skip ?_; refine WK.blk ?_; refine WK.region ?_; refine St.binI ?_; refine St.move ?_; refine WO.nil ?_)
      refine WK.le ?_ ?_ (ih (i + 1) hlt (by omega))
      · exact ⟨rfl, rfl, rfl, rfl, trivial⟩
      · rw [hs]; (repeat (first | exact List.Sublist.refl _ | exact List.nil_sublist _ | apply List.Sublist.cons_cons | apply List.Sublist.cons))
  · have e : i = l.length := by simp at hc; omega
    subst e
    (refine WK.exit ?_; refine WK.seq ?_; refine WK.region ?_; refine St.move ?_; refine St.assign ?_; refine WO.nil ?_)
    refine St.ret (by first | exact .tmp .nil | exact .cell .nil | exact .cell (.tmp .nil) | exact .tmp (.tmp .nil) | exact .cell (.cell .nil) | exact .tmp (.cell .nil) | exact .nil | exact .tmp (.cell (.tmp .nil)) | exact .cell (.tmp (.tmp .nil)) | exact .cell (.cell (.tmp .nil)) | exact .tmp (.tmp (.tmp .nil)) | exact .tmp (.tmp (.tmp (.tmp .nil))) | exact .cell (.cell (.cell .nil))) ?_
    exact ⟨_, by exact List.Sublist.refl _, pm, rfl, rfl⟩
end Go.Proofs.YtilpinmbngikgaaGreat
