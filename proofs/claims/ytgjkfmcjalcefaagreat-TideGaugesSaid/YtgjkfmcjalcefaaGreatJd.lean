/- The reference's add: a number is put into a list of ints, in its order. -/
import Derived.Test.YtgjkfmcjalcefaaGreatTb
import Derived.Test.YtgjkfmcjalcefaaGreatEv8
namespace Go.Proofs.YtgjkfmcjalcefaaGreat
open Go.Proofs.YtgjkfmcjalcefaaGreat.Ev
namespace Ev
variable {P : Program} {B : Base} {Q : Post} {h0 : Heap} {W : List Nat} {N : Nat} {D : List Nat} {K : List Fr} {s : Sl} {L : Ob} {n : Nat} {ops : Array Oper} {rnd : Option Nat}
/-- a drawn region, where a block that was there before has the last label -/
theorem WK.regionF {i} (Ls : Ob) (j : Nat) (hj : j < h0.next) (hW0 : W = []) (hsub : Ls.Sublist L) (k : WE P B Q h0 W N D K ops ops.toList s L [] (Ls.map (·.1) ++ [j]) n []) (hn : (Ls.map (·.1) ++ [j]).length = n := by exact rfl) (hs : staticOk ops = true := by decide +kernel) : WK P B Q h0 W N D (.job (.code rnd (.region i ops true)) :: K) s L :=
  ⟨fun a h ha hh => KRun.regionT hs (k.run a h [] ha (DS.init hh) rfl rfl (by
    rw [List.nodup_append]
    refine ⟨hh.nodup.sublist (hsub.map _), by simp, fun x hx y hy e => ?_⟩
    obtain ⟨p, hp, rfl⟩ := List.mem_map.1 hx
    rw [List.mem_singleton.1 hy] at e
    have := (hh.own p (hsub.subset hp)).2.2.2
    subst hW0
    rcases this with h1 | h1
    · omega
    · cases h1) (fun i hi => by
    rcases List.mem_append.1 hi with hi | hi
    · obtain ⟨p, hp, rfl⟩ := List.mem_map.1 hi
      exact (hh.own p (hsub.subset hp)).2.2.1
    · rw [List.mem_singleton.1 hi]
      exact Nat.lt_of_lt_of_le hj hh.nx) hn (by subst hW0; exact fun _ h => by cases h))⟩
end Ev
/-- a number, put into a list -/
def InsAt (xs : List Int) (n : Int) (ys : List Int) : Prop := ∃ a, a ≤ xs.length ∧ (∀ k, k < a → nth xs k < n) ∧ (a < xs.length → n ≤ nth xs a) ∧ ys = xs.take a ++ [n] ++ xs.drop a
/-- ints that a caller has made: none, or a row -/
def OwI (h : Heap) (v : AV) (xs : List Int) : Prop := (v = .slice0 ∧ xs = []) ∨ ∃ j, v = .slice j 0 xs.length (.m 0) ∧ j < h.next ∧ CapQ h j 0 (.m 0) xs.length ∧ InH h j 0 xs ∧ 0 < xs.length
theorem in_none {h : Heap} {b off : Nat} {xs : List Int} (hk : InH h b off xs) (hn : 0 < xs.length) (off2 : Nat) : h.loadN b off2 0 = some [] := by
  have h1 := (hk 0 hn).at_
  unfold Heap.at1 at h1
  unfold Heap.loadN
  split at h1
  · simp [takeN]
  · simp [takeN]
  · rfl
  · cases h1
theorem comesI_to {h : Heap} {j a : Nat} {c : ACap} {xs : List Int} {L : Ob} (hk : InH h j 0 xs) (hn : 0 < xs.length) (h1 : a ≤ xs.length) (h2 : xs.length ≤ 1000) : ComesA h [] L (.slice j 0 a c) 1 a ((xs.take a).map (AV.int .i64)) := by
  rcases Nat.eq_zero_or_pos a with rfl | h3
  · exact .inl ⟨rfl, rfl, rfl, fun h2 hh => in_none (hk.vw ⟨hh.gd, hh.nx, hh.old, hh.own⟩) hn _⟩
  · have e : (xs.take a).length = a := by rw [List.length_take]; omega
    refine .inr ⟨h3, j, 0, c, rfl, by omega, by rw [List.length_map, e, Nat.mul_one], ints_ok _, fun h2 hh => ?_⟩
    have := (InH.tak (k := a) (hk.vw hh)).loadN (by omega)
    rwa [e] at this
theorem comesI_from {h : Heap} {j a : Nat} {xs : List Int} {L : Ob} (hk : InH h j 0 xs) (hn : 0 < xs.length) (h1 : a ≤ xs.length) (h2 : xs.length ≤ 1000) : ComesA h [] L (fromV j 0 (.m 0) xs.length a) 1 (xs.length - a) ((xs.drop a).map (AV.int .i64)) := by
  have e : (xs.drop a).length = xs.length - a := by rw [List.length_drop]
  rcases Nat.eq_zero_or_pos (xs.length - a) with h3 | h3
  · have hd : xs.drop a = [] := List.length_eq_zero_iff.1 (by omega)
    have hv : fromV j 0 (.m 0) xs.length a = .sliceZ := if_neg (by omega)
    rw [hv, hd, h3]
    exact .inl ⟨rfl, rfl, rfl, fun _ _ => rfl⟩
  · have hv : fromV j 0 (.m 0) xs.length a = .slice j (0 + a * 1) (xs.length - a) (.m (0 + a)) := if_pos (by omega)
    rw [hv]
    refine .inr ⟨h3, j, _, _, rfl, by omega, by rw [List.length_map, e, Nat.mul_one], ints_ok _, fun h2 hh => ?_⟩
    have := (InH.drp (k := a) (hk.vw hh)).loadN (by omega)
    rwa [e] at this
theorem comesI_one {h0 : Heap} {L : Ob} {j : Nat} {n : Int} {t : TypeId} (hm : (j, AObj.cells [.int .i64 n] t) ∈ L) : ComesA h0 [] L (.slice j 0 1 (.k 1)) 1 1 [.int .i64 n] :=
  .inr ⟨by omega, j, 0, _, rfl, by omega, rfl, rfl, fun h2 hh => readN_load (hh.own _ hm).1 rfl⟩
set_option maxRecDepth 100000 in
set_option maxHeartbeats 8000000 in
theorem add_con (h : Heap) (g : Gd h) (v : AV) (xs : List Int) (n : Int) (hv : OwI h v xs) (hl : xs.length ≤ 1000) :
    ∃ v' L', Con Tryz.prog Bs 50 [v, .int .i64 n] h [] v' L' ∧ ∃ ys j, InsAt xs n ys ∧ v' = .slice j 0 (xs.length + 1) (.m 0) ∧ L' = [(j, .row (ys.map (AV.int .i64)) 3 1)] := by
  refine Con.subR (Con.startR rfl Tryz.func50 rfl rfl Tryz.ntmps50 rfl rfl (SS.init g) ?_)
  (refine WK.seq ?_; refine WK.region ?_; refine St.assign ?_; refine WO.nil ?_; refine WK.seq ?_; refine WK.region ?_; refine St.assign ?_; refine WO.nil ?_; refine WK.seq ?_; refine WK.block ?_)
  rcases hv with ⟨rfl, rfl⟩ | ⟨j, rfl, hj, hq, hk, hn⟩
  · refine WK.unroll ?_
    (refine WK.seq ?_; refine WK.seq ?_; refine WK.region ?_; refine St.move ?_; refine St.move ?_; refine St.len0 ?_; refine St.bin ?_; refine St.move ?_; refine St.skip ?_; refine St.skip ?_; refine St.skip ?_; refine St.skip ?_; refine St.skip ?_; refine St.skip ?_; refine St.pickF ?_; refine WO.nil ?_; refine WK.condF ?_; refine WK.exit ?_; refine WK.seq ?_)
    have hnil : ∀ {L : Ob}, ComesA h [] L .slice0 1 0 [] := .inl ⟨rfl, rfl, rfl, fun _ _ => rfl⟩
    refine WK.regionE (n := 0) [] (List.nil_sublist _) ?_
    refine WE.mkS 1 (fun j20 hj20 => ?_)
    refine WE.move ?_
    refine WE.move ?_
    refine WE.sliceP (u := .slice0) (v := .slice0) (fun h2 => rfl) rfl rfl ?_
    refine WE.appT 0 rfl (.inl ⟨rfl, rfl, rfl, _, rfl⟩) ⟨rfl, rfl, rfl, rfl, rfl, rfl, rfl, rfl⟩ hnil (by omega) rfl (fun _ o1 => ?_) (fun e => absurd e (by omega))
    refine WE.move ?_
    refine WE.mkS 4 (fun j26 hj26 => ?_)
    refine WE.permT (List.Perm.swap _ _ _) ?_
    refine WE.appT 0 rfl o1 ⟨rfl, rfl, rfl, rfl, rfl, rfl, rfl, rfl⟩ (comesI_one (j := j26) (n := n) (t := 3) (List.Mem.tail _ (List.Mem.head _))) (by omega) rfl (fun e => absurd e (by omega)) (fun _ j27 hj27 o2 => ?_)
    refine WE.move ?_
    refine WE.move ?_
    refine WE.sliceP (u := .slice0) (v := .slice0) (fun h2 => rfl) rfl rfl ?_
    refine WE.appT 2 rfl o2 ⟨rfl, rfl, rfl, rfl, rfl, rfl, rfl, rfl⟩ hnil (by omega) rfl (fun _ o3 => ?_) (fun e => absurd e (by omega))
    refine WE.assign ?_
    refine WE.subT (T2 := [_]) ((List.nil_sublist _).cons_cons _) ?_
    refine WE.nil ?_
    skip
    refine St.ret (by first | exact .tmp .nil | exact .cell .nil | exact .cell (.tmp .nil) | exact .tmp (.tmp .nil) | exact .cell (.cell .nil) | exact .tmp (.cell .nil) | exact .nil | exact .tmp (.cell (.tmp .nil)) | exact .cell (.tmp (.tmp .nil)) | exact .cell (.cell (.tmp .nil)) | exact .tmp (.tmp (.tmp .nil)) | exact .cell (.cell (.cell .nil))) ?_
    exact ⟨_, List.Sublist.refl _, [n], _, ⟨0, Nat.le_refl _, fun k hk => absurd hk (by omega), fun hk => absurd hk (by simp), rfl⟩, rfl, rfl⟩
  refine WK.inv (ι := Nat) (fun z => [(0, .slice j 0 xs.length (.m 0)), (1, .int .i64 n), (5, .int .i64 z)]) (fun _ => []) (fun z => z ≤ xs.length ∧ ∀ k, k < z → nth xs k < n) (fun z => xs.length - z) 0 ⟨by omega, fun k hk => absurd hk (by omega)⟩ ⟨rfl, rfl, rfl, trivial⟩ (by (repeat (first | exact List.Sublist.refl _ | exact List.nil_sublist _ | apply List.Sublist.cons_cons | apply List.Sublist.cons))) ?_
  rintro a ⟨ha, hlt⟩ ih
  (refine WK.seq ?_; refine WK.seq ?_; refine WK.region ?_; refine St.move ?_; refine St.move ?_; refine St.len ?_; refine St.bin ?_; refine St.move ?_)
  have fin : (a < xs.length → n ≤ nth xs a) → ∀ (j' m : Nat) (row : List AV), m = xs.length + 1 → row = (xs.take a ++ [n] ++ xs.drop a).map (AV.int .i64) → ∃ L0, List.Sublist L0 [(j', AObj.row row 3 1)] ∧ ∃ ys j, InsAt xs n ys ∧ AV.slice j' 0 m (.m 0) = AV.slice j 0 (xs.length + 1) (.m 0) ∧ L0 = [(j, AObj.row (ys.map (AV.int .i64)) 3 1)] := fun hge j' m row e1 e2 => ⟨_, List.Sublist.refl _, _, j', ⟨a, ha, hlt, hge, rfl⟩, by rw [e1], by rw [e2]⟩
  refine St.split (fun c1 => ?_) (fun c1 => ?_)
  · have hal : a < xs.length := by simp at c1; omega
    (refine St.move ?_; refine St.move ?_)
    refine St.at ?_
    skip
    refine St.loadX (fun h2 hh => ((hk.vw hh).at_ (z := (a : Int)) (n := a) (by omega) hal).one rfl) ?_
    (refine St.move ?_; refine St.bin ?_; refine St.pickT ?_; refine WO.nil ?_)
    refine St.splitC (fun c2 => ?_) (fun c2 => ?_)
    · (refine WK.skip ?_; refine WK.block ?_; refine WK.region ?_; refine St.move ?_; refine St.binI ?_; refine St.assign ?_; refine WO.nil ?_; refine WK.blk ?_)
      refine WK.le ?_ (by (repeat (first | exact List.Sublist.refl _ | exact List.nil_sublist _ | apply List.Sublist.cons_cons | apply List.Sublist.cons))) (ih (a + 1) ⟨hal, fun k hk => ?_⟩ (by omega))
      · exact ⟨rfl, rfl, rfl, trivial⟩
      · rcases Nat.lt_succ_iff_lt_or_eq.1 hk with h5 | rfl
        · exact hlt k h5
        · simpa using c2
    have hge : a < xs.length → n ≤ nth xs a := fun _ => by simpa using c2
    (refine WK.exit ?_; refine WK.seq ?_)
    refine WK.regionF (n := 1) [] j hj rfl (List.nil_sublist _) ?_
    refine WE.mkS 1 (fun j20 hj20 => ?_)
    refine WE.move ?_
    refine WE.move ?_
    refine WE.sliceM [] 0 (v := .slice j 0 a (.m 0)) (fun h2 hh => ?_) rfl rfl (fun _ q => by cases q) ?_
    · show plainV (evSlice Tryz.prog h2 45 (.slice j 0 xs.length (.m 0)) none (some (.int .i64 (a : Int))) none) h2 = _
      rw [slI_to (hq.vw ⟨hh.gd, hh.nx, hh.old, hh.own⟩) ha]
      rfl
    refine WE.appT 1 rfl (.inl ⟨rfl, rfl, rfl, _, rfl⟩) ⟨rfl, rfl, rfl, rfl, rfl, rfl, rfl, rfl⟩ (comesI_to hk hn ha hl) (by omega) rfl (fun e1 o1 => ?_) (fun e1 j24 hj24 o1 => ?_)
    · refine WE.move ?_
      refine WE.mkS 4 (fun j26 hj26 => ?_)
      refine WE.permT (List.Perm.swap _ _ _) ?_
      refine WE.appT 1 rfl o1 ⟨rfl, rfl, rfl, rfl, rfl, rfl, rfl, rfl⟩ (comesI_one (j := j26) (n := n) (t := 3) (List.Mem.tail _ (List.Mem.head _))) (by omega) rfl (fun e => absurd e (by omega)) (fun _ j27 hj27 o2 => ?_)
      refine WE.move ?_
      refine WE.move ?_
      refine WE.sliceM [] 0 (v := fromV j 0 (.m 0) xs.length a) (fun h2 hh => ?_) rfl rfl (fun _ q => by cases q) ?_
      · show plainV (evSlice Tryz.prog h2 45 (.slice j 0 xs.length (.m 0)) (some (.int .i64 (a : Int))) none none) h2 = _
        rw [slI_from (hq.vw ⟨hh.gd, hh.nx, hh.old, hh.own⟩) ha]
        rfl
      refine WE.appT 3 rfl o2 ⟨rfl, rfl, rfl, rfl, rfl, rfl, rfl, rfl⟩ (comesI_from hk hn ha hl) (by omega) rfl (fun e3 o3 => ?_) (fun e3 j31 hj31 o3 => ?_)
      · refine WE.assign ?_
        refine WE.subT (T2 := [_]) ((List.nil_sublist _).cons_cons _) ?_
        refine WE.nil ?_
        skip
        refine St.ret (by first | exact .tmp .nil | exact .cell .nil | exact .cell (.tmp .nil) | exact .tmp (.tmp .nil) | exact .cell (.cell .nil) | exact .tmp (.cell .nil) | exact .nil | exact .tmp (.cell (.tmp .nil)) | exact .cell (.tmp (.tmp .nil)) | exact .cell (.cell (.tmp .nil)) | exact .tmp (.tmp (.tmp .nil)) | exact .cell (.cell (.cell .nil))) ?_
        exact fin hge _ _ _ (by omega) (by rw [List.drop_eq_nil_of_le (show xs.length ≤ a by omega)]; simp)
      · refine WE.assign ?_
        refine WE.subT (T2 := [_]) ((List.nil_sublist _).cons_cons _) ?_
        refine WE.nil ?_
        skip
        refine St.ret (by first | exact .tmp .nil | exact .cell .nil | exact .cell (.tmp .nil) | exact .tmp (.tmp .nil) | exact .cell (.cell .nil) | exact .tmp (.cell .nil) | exact .nil | exact .tmp (.cell (.tmp .nil)) | exact .cell (.tmp (.tmp .nil)) | exact .cell (.cell (.tmp .nil)) | exact .tmp (.tmp (.tmp .nil)) | exact .cell (.cell (.cell .nil))) ?_
        exact fin hge _ _ _ (by omega) (by simp)
    · refine WE.move ?_
      refine WE.mkS 4 (fun j26 hj26 => ?_)
      refine WE.permT (List.Perm.swap _ _ _) ?_
      refine WE.appT 2 rfl o1 ⟨rfl, rfl, rfl, rfl, rfl, rfl, rfl, rfl⟩ (comesI_one (j := j26) (n := n) (t := 3) (List.Mem.tail _ (List.Mem.head _))) (by omega) rfl (fun e => absurd e (by omega)) (fun _ j27 hj27 o2 => ?_)
      refine WE.move ?_
      refine WE.move ?_
      refine WE.sliceM [] 0 (v := fromV j 0 (.m 0) xs.length a) (fun h2 hh => ?_) rfl rfl (fun _ q => by cases q) ?_
      · show plainV (evSlice Tryz.prog h2 45 (.slice j 0 xs.length (.m 0)) (some (.int .i64 (a : Int))) none none) h2 = _
        rw [slI_from (hq.vw ⟨hh.gd, hh.nx, hh.old, hh.own⟩) ha]
        rfl
      refine WE.appT 4 rfl o2 ⟨rfl, rfl, rfl, rfl, rfl, rfl, rfl, rfl⟩ (comesI_from hk hn ha hl) (by omega) rfl (fun e3 o3 => ?_) (fun e3 j31 hj31 o3 => ?_)
      · refine WE.assign ?_
        refine WE.subT (T2 := [_]) ((List.nil_sublist _).cons_cons _) ?_
        refine WE.nil ?_
        skip
        refine St.ret (by first | exact .tmp .nil | exact .cell .nil | exact .cell (.tmp .nil) | exact .tmp (.tmp .nil) | exact .cell (.cell .nil) | exact .tmp (.cell .nil) | exact .nil | exact .tmp (.cell (.tmp .nil)) | exact .cell (.tmp (.tmp .nil)) | exact .cell (.cell (.tmp .nil)) | exact .tmp (.tmp (.tmp .nil)) | exact .cell (.cell (.cell .nil))) ?_
        exact fin hge _ _ _ (by omega) (by rw [List.drop_eq_nil_of_le (show xs.length ≤ a by omega)]; simp)
      · refine WE.assign ?_
        refine WE.subT (T2 := [_]) ((List.nil_sublist _).cons_cons _) ?_
        refine WE.nil ?_
        skip
        refine St.ret (by first | exact .tmp .nil | exact .cell .nil | exact .cell (.tmp .nil) | exact .tmp (.tmp .nil) | exact .cell (.cell .nil) | exact .tmp (.cell .nil) | exact .nil | exact .tmp (.cell (.tmp .nil)) | exact .cell (.tmp (.tmp .nil)) | exact .cell (.cell (.tmp .nil)) | exact .tmp (.tmp (.tmp .nil)) | exact .cell (.cell (.cell .nil))) ?_
        exact fin hge _ _ _ (by omega) (by simp)
  have hge : a < xs.length → n ≤ nth xs a := fun q => by simp at c1; omega
  (refine St.skip ?_; refine St.skip ?_; refine St.skip ?_; refine St.skip ?_; refine St.skip ?_; refine St.skip ?_; refine St.pickF ?_; refine WO.nil ?_; refine WK.condF ?_; refine WK.exit ?_; refine WK.seq ?_)
  refine WK.regionF (n := 1) [] j hj rfl (List.nil_sublist _) ?_
  refine WE.mkS 1 (fun j20 hj20 => ?_)
  refine WE.move ?_
  refine WE.move ?_
  refine WE.sliceM [] 0 (v := .slice j 0 a (.m 0)) (fun h2 hh => ?_) rfl rfl (fun _ q => by cases q) ?_
  · show plainV (evSlice Tryz.prog h2 45 (.slice j 0 xs.length (.m 0)) none (some (.int .i64 (a : Int))) none) h2 = _
    rw [slI_to (hq.vw ⟨hh.gd, hh.nx, hh.old, hh.own⟩) ha]
    rfl
  refine WE.appT 1 rfl (.inl ⟨rfl, rfl, rfl, _, rfl⟩) ⟨rfl, rfl, rfl, rfl, rfl, rfl, rfl, rfl⟩ (comesI_to hk hn ha hl) (by omega) rfl (fun e1 o1 => ?_) (fun e1 j24 hj24 o1 => ?_)
  · refine WE.move ?_
    refine WE.mkS 4 (fun j26 hj26 => ?_)
    refine WE.permT (List.Perm.swap _ _ _) ?_
    refine WE.appT 1 rfl o1 ⟨rfl, rfl, rfl, rfl, rfl, rfl, rfl, rfl⟩ (comesI_one (j := j26) (n := n) (t := 3) (List.Mem.tail _ (List.Mem.head _))) (by omega) rfl (fun e => absurd e (by omega)) (fun _ j27 hj27 o2 => ?_)
    refine WE.move ?_
    refine WE.move ?_
    refine WE.sliceM [] 0 (v := fromV j 0 (.m 0) xs.length a) (fun h2 hh => ?_) rfl rfl (fun _ q => by cases q) ?_
    · show plainV (evSlice Tryz.prog h2 45 (.slice j 0 xs.length (.m 0)) (some (.int .i64 (a : Int))) none none) h2 = _
      rw [slI_from (hq.vw ⟨hh.gd, hh.nx, hh.old, hh.own⟩) ha]
      rfl
    refine WE.appT 3 rfl o2 ⟨rfl, rfl, rfl, rfl, rfl, rfl, rfl, rfl⟩ (comesI_from hk hn ha hl) (by omega) rfl (fun e3 o3 => ?_) (fun e3 j31 hj31 o3 => ?_)
    · refine WE.assign ?_
      refine WE.subT (T2 := [_]) ((List.nil_sublist _).cons_cons _) ?_
      refine WE.nil ?_
      skip
      refine St.ret (by first | exact .tmp .nil | exact .cell .nil | exact .cell (.tmp .nil) | exact .tmp (.tmp .nil) | exact .cell (.cell .nil) | exact .tmp (.cell .nil) | exact .nil | exact .tmp (.cell (.tmp .nil)) | exact .cell (.tmp (.tmp .nil)) | exact .cell (.cell (.tmp .nil)) | exact .tmp (.tmp (.tmp .nil)) | exact .cell (.cell (.cell .nil))) ?_
      exact fin hge _ _ _ (by omega) (by rw [List.drop_eq_nil_of_le (show xs.length ≤ a by omega)]; simp)
    · refine WE.assign ?_
      refine WE.subT (T2 := [_]) ((List.nil_sublist _).cons_cons _) ?_
      refine WE.nil ?_
      skip
      refine St.ret (by first | exact .tmp .nil | exact .cell .nil | exact .cell (.tmp .nil) | exact .tmp (.tmp .nil) | exact .cell (.cell .nil) | exact .tmp (.cell .nil) | exact .nil | exact .tmp (.cell (.tmp .nil)) | exact .cell (.tmp (.tmp .nil)) | exact .cell (.cell (.tmp .nil)) | exact .tmp (.tmp (.tmp .nil)) | exact .cell (.cell (.cell .nil))) ?_
      exact fin hge _ _ _ (by omega) (by simp)
  · refine WE.move ?_
    refine WE.mkS 4 (fun j26 hj26 => ?_)
    refine WE.permT (List.Perm.swap _ _ _) ?_
    refine WE.appT 2 rfl o1 ⟨rfl, rfl, rfl, rfl, rfl, rfl, rfl, rfl⟩ (comesI_one (j := j26) (n := n) (t := 3) (List.Mem.tail _ (List.Mem.head _))) (by omega) rfl (fun e => absurd e (by omega)) (fun _ j27 hj27 o2 => ?_)
    refine WE.move ?_
    refine WE.move ?_
    refine WE.sliceM [] 0 (v := fromV j 0 (.m 0) xs.length a) (fun h2 hh => ?_) rfl rfl (fun _ q => by cases q) ?_
    · show plainV (evSlice Tryz.prog h2 45 (.slice j 0 xs.length (.m 0)) (some (.int .i64 (a : Int))) none none) h2 = _
      rw [slI_from (hq.vw ⟨hh.gd, hh.nx, hh.old, hh.own⟩) ha]
      rfl
    refine WE.appT 4 rfl o2 ⟨rfl, rfl, rfl, rfl, rfl, rfl, rfl, rfl⟩ (comesI_from hk hn ha hl) (by omega) rfl (fun e3 o3 => ?_) (fun e3 j31 hj31 o3 => ?_)
    · refine WE.assign ?_
      refine WE.subT (T2 := [_]) ((List.nil_sublist _).cons_cons _) ?_
      refine WE.nil ?_
      skip
      refine St.ret (by first | exact .tmp .nil | exact .cell .nil | exact .cell (.tmp .nil) | exact .tmp (.tmp .nil) | exact .cell (.cell .nil) | exact .tmp (.cell .nil) | exact .nil | exact .tmp (.cell (.tmp .nil)) | exact .cell (.tmp (.tmp .nil)) | exact .cell (.cell (.tmp .nil)) | exact .tmp (.tmp (.tmp .nil)) | exact .cell (.cell (.cell .nil))) ?_
      exact fin hge _ _ _ (by omega) (by rw [List.drop_eq_nil_of_le (show xs.length ≤ a by omega)]; simp)
    · refine WE.assign ?_
      refine WE.subT (T2 := [_]) ((List.nil_sublist _).cons_cons _) ?_
      refine WE.nil ?_
      skip
      refine St.ret (by first | exact .tmp .nil | exact .cell .nil | exact .cell (.tmp .nil) | exact .tmp (.tmp .nil) | exact .cell (.cell .nil) | exact .tmp (.cell .nil) | exact .nil | exact .tmp (.cell (.tmp .nil)) | exact .cell (.tmp (.tmp .nil)) | exact .cell (.cell (.tmp .nil)) | exact .tmp (.tmp (.tmp .nil)) | exact .cell (.cell (.cell .nil))) ?_
      exact fin hge _ _ _ (by omega) (by simp)
end Go.Proofs.YtgjkfmcjalcefaaGreat
