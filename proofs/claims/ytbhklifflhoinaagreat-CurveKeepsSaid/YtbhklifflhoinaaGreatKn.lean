/- One knot where a curve's value is an integer, over the calculator's memory: the program's knotAt, the reference's whole. -/
import Derived.Test.YtbhklifflhoinaaGreatKc
import Derived.Test.YtbhklifflhoinaaGreatAt
import Derived.Test.YtbhklifflhoinaaGreatSv
import Derived.Test.YtbhklifflhoinaaGreatOv
namespace Go.Proofs.YtbhklifflhoinaaGreat
open Go.Proofs.YtbhklifflhoinaaGreat.Ev

def hasKn (ks : List (Int × Int)) (x : Int) : Bool := inDom ks x x && valD ks x == 1
theorem chkAt_one {kv : AV} {ks : List (Int × Int)} {err x : Int} : chkOn ([(⟨kv, ks, err⟩ : Cv)].map Cv.c) x x = if inDom ks x x = true then 0 else 3 := by
  rw [show ([(⟨kv, ks, err⟩ : Cv)].map Cv.c) = [⟨none, 0, ks, err⟩] from rfl, chkOn_one, if_neg (by omega)]
namespace Ev
section
variable {P : Program} {B : Base} {Q : Post} {h0 : Heap} {W : List Nat} {N : Nat} {D : List Nat} {K : List Fr} {s : Sl} {L : Ob} {ops : Array Oper} {d : Nat} {ty : TypeId} {pos : String} {af : Array Edge} {gd : Option (Nat × Bool)} {l : List Oper}
/-- types of an append -/
structure App1 (P : Program) (s : Sl) (x y : Operand) (t tx : TypeId) (v u : AV) (e : TypeId) (sz : Nat) : Prop where
  hx : evS s x = some v
  hy : evS s y = some u
  ht : P.underlying t = some (.slice e)
  htx : P.underlying tx = some (.slice e)
  hs : sizeT P e = some sz
  hz : ((zeroT P e).bind fun z => some (z.cells.length == sz)) = some true
  hb : ((bytesT P e).bind fun b => some (Nat.ble b 1000000)) = some true
  h0 : Nat.blt 0 sz = true
/-- what comes: nothing, or cells that lie somewhere -/
def Comes (h0 : Heap) (W : List Nat) (L : Ob) (u : AV) (sz n : Nat) (new : List AV) : Prop := (n = 0 ∧ new = [] ∧ lenOfA u = some 0 ∧ ∀ h, Vw h0 W L h → firstA h sz 0 u = some []) ∨ (0 < n ∧ ∃ i2 off2 c2, u = .slice i2 off2 n c2 ∧ n ≤ 1000000 ∧ new.length = n * sz ∧ new.all okCell = true ∧ ∀ h, Vw h0 W L h → h.loadN i2 off2 (n * sz) = some new)
theorem St.appA {x y : Operand} {t tx e : TypeId} {u : AV} {sz n : Nat} {new : List AV} {Lv Lk : Ob} {v : AV} {len : Nat} {old : List AV} (hv : IsL e sz len old v Lv) (hp : (Lv ++ Lk).Perm L) (q : App1 P s x y t tx v u e sz) (hu : Comes h0 W L u sz n new) (h2 : len + n ≤ 1000000) (k : ∀ v' Lv', IsL e sz (len + n) (old ++ new) v' Lv' → WO P B Q h0 W N D K false ops l ((d, v') :: s) (Lv' ++ Lk) [])
    (hw : wantS ops s N ⟨some d, .call ⟨.builtin .append, #[x, y], #[t, tx]⟩, ty, pos, af, gd⟩ = some true := by exact rfl) (hd : Nat.blt d N = true := by exact rfl) : WO P B Q h0 W N D K false ops (⟨some d, .call ⟨.builtin .append, #[x, y], #[t, tx]⟩, ty, pos, af, gd⟩ :: l) s L [] := by
  rcases hu with ⟨rfl, rfl, h3, h4⟩ | ⟨h1, i2, off2, c2, rfl, h3, h4, h5, h6⟩
  · exact St.app0 hv hp (k v Lv (by rw [List.append_nil]; exact hv)) ⟨q.hx, q.hy, q.ht, q.htx, q.hs, q.hz, q.hb, q.h0, h3⟩ h4 hw hd
  · exact St.appLV hv hp k ⟨q.hx, q.hy, q.ht, q.htx, q.hs, q.hz, q.hb, q.h0, rfl, Nat.ble_eq_true_of_le h3, by simp [h4], h5⟩ h6 h1 h2 hw hd
end
end Ev
/-- a list of knots that may be sliced -/
def SlQ (h : Heap) (i : Nat) (c : ACap) (n : Nat) : Prop := i < h.next ∧ rowAt h i = true ∧ ((∃ m, c = .k m ∧ n ≤ m) ∨ (c = .m 0 ∧ knownN h i 2 = n))
theorem SlQ.vw {h0 h : Heap} {V : Ob} {i c n} (k : SlQ h0 i c n) (hh : Vw h0 [] V h) : SlQ h i c n := by
  obtain ⟨h1, h2, h3⟩ := k
  have e := hh.old i h1 (by simp)
  refine ⟨Nat.lt_of_lt_of_le h1 hh.nx, by unfold rowAt; rw [e]; exact h2, ?_⟩
  rcases h3 with h3 | ⟨h3, h4⟩
  · exact .inl h3
  · exact .inr ⟨h3, by unfold knownN; rw [e]; exact h4⟩
theorem load_none {h : Heap} {i off : Nat} (hr : rowAt h i = true) : h.loadN i off 0 = some [] := by
  unfold rowAt at hr
  unfold Heap.loadN
  split at hr
  · rename_i l t e; rw [e]; simp [takeN]
  · rename_i l t z e; rw [e]; simp [takeN]
  · rename_i f e; rw [e]; rfl
  · cases hr
theorem sl_to {h : Heap} {i k n : Nat} {c : ACap} (q : SlQ h i c n) (hk : k ≤ n) : evSlice Tryz.prog h 22 (.slice i 0 n c) none (some (.int .i64 k)) none = some (.slice i 0 k c) := by
  have e : sizeT Tryz.prog 81 = some 2 := by kernel_rfl
  obtain ⟨_, _, ⟨m, rfl, hm⟩ | ⟨rfl, hm⟩⟩ := q
  · unfold evSlice
    rw [if_neg (by simp), Tryz.underlying22]
    simp only [e, evSliceK, optB, boundIn, Option.bind_some]
    rw [if_pos (by omega)]
    simp
  · unfold evSlice
    rw [if_neg (by simp), Tryz.underlying22]
    simp only [e, evSliceM, optB, boundIn, hm]
    rw [if_pos (by omega)]
    simp
def slC (c : ACap) (k : Nat) : ACap := match c with
  | .k m => .k (m - k)
  | .m d => .m (d + k)
theorem sl_from {h : Heap} {i k n : Nat} {c : ACap} (q : SlQ h i c n) (hk : k < n) : ∃ c2, evSlice Tryz.prog h 22 (.slice i 0 n c) (some (.int .i64 k)) none none = some (.slice i (0 + k * 2) (n - k) c2) ∧ c2 = slC c k := by
  have e : sizeT Tryz.prog 81 = some 2 := by kernel_rfl
  obtain ⟨_, _, ⟨m, rfl, hm⟩ | ⟨rfl, hm⟩⟩ := q
  · refine ⟨_, ?_, rfl⟩
    unfold evSlice
    rw [if_neg (by simp), Tryz.underlying22]
    simp only [e, evSliceK, optB, boundIn, Option.bind_some]
    rw [if_pos (by omega)]
    simp [slC]
    omega
  · refine ⟨_, ?_, rfl⟩
    unfold evSlice
    rw [if_neg (by simp), Tryz.underlying22]
    simp only [e, evSliceM, optB, boundIn, hm]
    rw [if_pos (by omega)]
    simp [slC]
    omega
def slEnd (i : Nat) (c : ACap) (n : Nat) : AV := match c with
  | .k m => .slice i (if m = n then 0 else 0 + n * 2) 0 (.k (m - n))
  | .m d => if n = 0 then .slice i 0 0 (.m d) else .sliceZ
theorem sl_end {h : Heap} {i n : Nat} {c : ACap} (q : SlQ h i c n) : evSlice Tryz.prog h 22 (.slice i 0 n c) (some (.int .i64 n)) none none = some (slEnd i c n) ∧ lenOfA (slEnd i c n) = some 0 ∧ firstA h 2 0 (slEnd i c n) = some [] := by
  have e : sizeT Tryz.prog 81 = some 2 := by kernel_rfl
  obtain ⟨_, hr, ⟨m, rfl, hm⟩ | ⟨rfl, hm⟩⟩ := q
  · refine ⟨?_, rfl, load_none hr⟩
    unfold evSlice
    rw [if_neg (by simp), Tryz.underlying22]
    simp only [e, evSliceK, optB, boundIn, Option.bind_some]
    rw [if_pos (by omega)]
    simp [slEnd]
  · unfold slEnd
    simp only
    by_cases h0 : n = 0
    · rw [if_pos h0]
      refine ⟨?_, rfl, load_none hr⟩
      unfold evSlice
      rw [if_neg (by simp), Tryz.underlying22]
      simp only [e, evSliceM, optB, boundIn, hm]
      rw [if_pos (by omega)]
      simp [h0]
    · rw [if_neg h0]
      refine ⟨?_, rfl, rfl⟩
      unfold evSlice
      rw [if_neg (by simp), Tryz.underlying22]
      simp only [e, evSliceM, optB, boundIn, hm]
      rw [if_pos (by omega)]
      simp [h0]
/-- what put makes of a list -/
def PutIs (ps : List (Int × Int)) (x y : Int) (qs : List (Int × Int)) : Prop := ∃ k, k ≤ ps.length ∧ (∀ j, j < k → kx ps j < x) ∧ (k < ps.length → x ≤ kx ps k) ∧ ((k < ps.length ∧ kx ps k = x ∧ qs = ps) ∨ (¬ (k < ps.length ∧ kx ps k = x) ∧ qs = ps.take k ++ (x, y) :: ps.drop k))
/-- a list that put is handed -/
def PutV (h : Heap) (w : AV) (ps : List (Int × Int)) : Prop := (w = .slice0 ∧ ps = []) ∨ ∃ i c, w = .slice i 0 ps.length c ∧ KnH h i 0 ps ∧ SlQ h i c ps.length
theorem PutV.vw {h0 h : Heap} {V : Ob} {w ps} (k : PutV h0 w ps) (hh : Vw h0 [] V h) : PutV h w ps := by
  rcases k with h1 | ⟨i, c, h1, h2, h3⟩
  · exact .inl h1
  · exact .inr ⟨i, c, h1, h2.vw hh, h3.vw hh⟩
theorem Ev.Vw.putV {h0 h : Heap} {W : List Nat} {V Lv : Ob} {l : List (Int × Int)} {v : AV} (hh : Vw h0 W V h) (k : IsKn l v Lv) (hs : Lv.Sublist V) : PutV h v l := by
  have hp := hh.prv k hs
  unfold IsKn at k
  cases k with
  | nil h1 h2 => exact .inl ⟨rfl, List.eq_nil_of_length_eq_zero h1⟩
  | cells i c rest t h1 h2 h3 =>
    have hm : (i, AObj.cells (flatA l ++ rest) t) ∈ V := hs.subset (List.mem_singleton.2 rfl)
    have hg := (hh.own _ hm).1
    exact .inr ⟨i, .k c, rfl, hh.frs hm (.inl ⟨rest, t, rfl⟩), (hh.own _ hm).2, by unfold rowAt; rw [hg], .inl ⟨c, rfl, h3⟩⟩
  | row i h1 =>
    have hm : (i, AObj.row (flatA l) 81 2) ∈ V := hs.subset (List.mem_singleton.2 rfl)
    have hg := (hh.own _ hm).1
    exact .inr ⟨i, .m 0, rfl, hh.frs hm (AObj.has_row _ _ _), (hh.own _ hm).2, by unfold rowAt; rw [hg], .inr ⟨rfl, known_row hg⟩⟩
set_option maxRecDepth 100000 in
set_option maxHeartbeats 4000000 in
theorem knotAt_con (h : Heap) (g : Gd h) (b off : Nat) (c : ACap) (ks : List (Int × Int)) (err x : Int) (v : Vd ks err) (hk : KnH h b off ks) :
    Con Tryz.prog Bs 38 [.agg [.slice b off ks.length c, .int .i64 err], .int .i64 x] h [] (if hasKn ks x = true then .tup [.agg [.int .i64 x, .int .i64 (valN ks x)], .bool true] else .tup [.agg [.int .i64 0, .int .i64 0], .bool false]) [] := by
  have hlen : ks.length ≤ 40 := v.le
  refine Con.start rfl Tryz.func38 rfl rfl Tryz.ntmps38 rfl rfl g ?_
  (refine WK.seq ?_; refine WK.region ?_; refine St.box fun _ _ => ?_; refine St.alloc fun _ _ => ?_; refine St.assign ?_; refine WO.nil ?_; refine WK.seq ?_; refine WK.seq ?_; refine WK.region ?_; refine St.move ?_; refine St.load ?_; refine St.mkS fun _ _ => ?_)
  rename_i i1 hi1
  refine St.call (v := .int .i64 (if inDom ks x x = true then 0 else 3)) (fun _ => rfl) (fun h hh => by
    have := checkAt_con h hh.gd i1 0 (.k 1) [⟨.slice b off ks.length c, ks, err⟩] x (by simp) (hh.cv1 (List.Mem.head _) rfl ((hk.vw hh).v v.pos) (by omega)) (one_vd v)
    rw [chkAt_one] at this
    exact this) ?_
  by_cases hd : inDom ks x x = true
  · obtain ⟨d1, d2⟩ := v.dom hd
    rw [if_pos hd]
    (refine St.bin ?_; refine WO.nil ?_; refine WK.condF ?_; refine WK.skip ?_; refine WK.seq ?_; refine WK.region ?_; refine St.load ?_; refine St.move ?_)
    refine St.call (fun _ => rfl) (fun h hh => value_con h hh.gd b off c ks err x v (hk.vw hh) (by omega) (by omega)) ?_
    (refine St.alloc fun _ _ => ?_; refine St.store0 ?_; refine WO.nil ?_; refine WK.seq ?_; refine WK.seq ?_; refine WK.region ?_; refine St.fieldAddr ?_; refine St.load ?_; refine St.bin ?_; refine WO.nil ?_)
    refine St.splitC (fun hc => ?_) (fun hc => ?_)
    · have hn : hasKn ks x = false := by unfold hasKn; rw [hd]; simpa using hc
      (refine WK.seq ?_; refine WK.region ?_; refine St.build ?_; refine St.store2 ?_; refine St.assign ?_; refine WO.nil ?_)
      refine St.ret (by first | exact .tmp .nil | exact .cell .nil | exact .cell (.tmp .nil) | exact .tmp (.tmp .nil) | exact .cell (.cell .nil) | exact .tmp (.cell .nil) | exact .nil | exact .tmp (.cell (.tmp .nil)) | exact .cell (.tmp (.tmp .nil)) | exact .cell (.cell (.tmp .nil)) | exact .tmp (.tmp (.tmp .nil)) | exact .cell (.cell (.cell .nil))) ?_
      rw [hn]
      rfl
    · have hn : hasKn ks x = true := by unfold hasKn; rw [hd]; simpa using hc
      (refine WK.skip ?_; refine WK.seq ?_; refine WK.region ?_; refine St.move ?_; refine St.fieldAddr ?_; refine St.load ?_; refine St.build ?_; refine St.store2 ?_; refine St.assign ?_; refine WO.nil ?_)
      refine St.ret (by first | exact .tmp .nil | exact .cell .nil | exact .cell (.tmp .nil) | exact .tmp (.tmp .nil) | exact .cell (.cell .nil) | exact .tmp (.cell .nil) | exact .nil | exact .tmp (.cell (.tmp .nil)) | exact .cell (.tmp (.tmp .nil)) | exact .cell (.cell (.tmp .nil)) | exact .tmp (.tmp (.tmp .nil)) | exact .cell (.cell (.cell .nil))) ?_
      rw [hn]
      rfl
  · have hn : hasKn ks x = false := by unfold hasKn; rw [Bool.not_eq_true] at hd; rw [hd]; rfl
    rw [if_neg hd]
    (refine St.bin ?_; refine WO.nil ?_; refine WK.condT ?_; refine WK.seq ?_; refine WK.region ?_; refine St.build ?_; refine St.store1 ?_; refine St.assign ?_; refine WO.nil ?_)
    refine St.ret (by first | exact .tmp .nil | exact .cell .nil | exact .cell (.tmp .nil) | exact .tmp (.tmp .nil) | exact .cell (.cell .nil) | exact .tmp (.cell .nil) | exact .nil | exact .tmp (.cell (.tmp .nil)) | exact .cell (.tmp (.tmp .nil)) | exact .cell (.cell (.tmp .nil)) | exact .tmp (.tmp (.tmp .nil)) | exact .cell (.cell (.cell .nil))) ?_
    rw [hn]
    rfl
set_option maxRecDepth 100000 in
set_option maxHeartbeats 4000000 in
theorem whole_con (h : Heap) (g : Gd h) (b off : Nat) (c : ACap) (ks : List (Int × Int)) (err x : Int) (v : Vd ks err) (hk : KnH h b off ks) :
    Con Tryz.prog Bs 44 [.agg [.slice b off ks.length c, .int .i64 err], .int .i64 x] h [] (.tup [.int .i64 (if inDom ks x x = true then valN ks x else 0), .bool (hasKn ks x)]) [] := by
  have hlen : ks.length ≤ 40 := v.le
  have hp := v.pos
  refine Con.start rfl Tryz.func44 rfl rfl Tryz.ntmps44 rfl rfl g ?_
  (refine WK.seq ?_; refine WK.region ?_; refine St.box fun _ _ => ?_; refine St.assign ?_; refine St.assign ?_; refine WO.nil ?_; refine WK.seq ?_; refine WK.seq ?_; refine WK.region ?_; refine St.move ?_; refine St.load ?_)
  refine St.call (fun _ => rfl) (fun h hh => rdomain_con h hh.gd b off c ks err (hk.vw hh) v.ne (by omega)) ?_
  skip
  refine St.call (fun _ => rfl) (fun h hh => rin_con h hh.gd x (dLo ks) (dHi ks)) ?_
  (refine St.un ?_; refine WO.nil ?_)
  refine St.splitC (fun hc => ?_) (fun hc => ?_)
  · have hd : inDom ks x x = false := by
      unfold inDom
      simp at hc ⊢
      intro h1
      omega
    have hn : hasKn ks x = false := by unfold hasKn; rw [hd]; rfl
    (refine WK.seq ?_; refine WK.region ?_; refine St.assign ?_; refine St.assign ?_; refine WO.nil ?_)
    refine St.ret (by first | exact .tmp .nil | exact .cell .nil | exact .cell (.tmp .nil) | exact .tmp (.tmp .nil) | exact .cell (.cell .nil) | exact .tmp (.cell .nil) | exact .nil | exact .tmp (.cell (.tmp .nil)) | exact .cell (.tmp (.tmp .nil)) | exact .cell (.cell (.tmp .nil)) | exact .tmp (.tmp (.tmp .nil)) | exact .cell (.cell (.cell .nil))) ?_
    rw [hn, if_neg (by simp [hd])]
    rfl
  · have hd : inDom ks x x = true := by unfold inDom; simpa using hc
    (refine WK.skip ?_; refine WK.seq ?_; refine WK.region ?_; refine St.load ?_; refine St.move ?_)
    refine St.call (fun _ => rfl) (fun h hh => rat_con h hh.gd b off c ks err x (hk.vw hh) v hd) ?_
    (refine St.alloc fun _ _ => ?_; refine St.store0 ?_; refine WO.nil ?_; refine WK.seq ?_; refine WK.regionD ?_; refine St.fieldAddr ?_; refine St.load ?_; refine St.fieldAddr ?_; refine St.load ?_; refine St.bin ?_; refine St.assign ?_; refine St.assign ?_; refine WO.nil ?_)
    refine St.ret (by first | exact .tmp .nil | exact .cell .nil | exact .cell (.tmp .nil) | exact .tmp (.tmp .nil) | exact .cell (.cell .nil) | exact .tmp (.cell .nil) | exact .nil | exact .tmp (.cell (.tmp .nil)) | exact .cell (.tmp (.tmp .nil)) | exact .cell (.cell (.tmp .nil)) | exact .tmp (.tmp (.tmp .nil)) | exact .cell (.cell (.cell .nil))) ?_
    unfold hasKn
    rw [hd, if_pos rfl]
    rfl
end Go.Proofs.YtbhklifflhoinaaGreat
