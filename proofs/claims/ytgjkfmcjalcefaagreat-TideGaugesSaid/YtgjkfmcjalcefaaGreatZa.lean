/- Sightings: fit; without (slices.Concat). -/
import Derived.Test.YtgjkfmcjalcefaaGreatQg
import Derived.Test.YtgjkfmcjalcefaaGreatZq
import Derived.Test.YtgjkfmcjalcefaaGreatZp
namespace Go.Proofs.YtgjkfmcjalcefaaGreat
open Go.Proofs.YtgjkfmcjalcefaaGreat.Ev

namespace Ev
section
variable {P : Program} {B : Base} {Q : Post} {h0 : Heap} {W : List Nat} {N : Nat} {D : List Nat} {K : List Fr} {s : Sl} {L : Ob} {ops : Array Oper} {d : Nat} {ty : TypeId} {pos : String} {af : Array Edge} {gd : Option (Nat × Bool)} {l : List Oper}
/-- types of an append -/
structure App1z (P : Program) (s : Sl) (x y : Operand) (t tx : TypeId) (v u : AV) (e : TypeId) (sz : Nat) : Prop where
  hx : evS s x = some v
  hy : evS s y = some u
  ht : P.underlying t = some (.slice e)
  htx : P.underlying tx = some (.slice e)
  hs : sizeT P e = some sz
  hz : ((zeroT P e).bind fun z => some (z.cells.length == sz)) = some true
  hb : ((bytesT P e).bind fun b => some (Nat.ble b 1000000)) = some true
  h0 : Nat.blt 0 sz = true
/-- what comes: nothing, or cells that lie somewhere -/
def ComesS (h0 : Heap) (W : List Nat) (L : Ob) (u : AV) (sz n : Nat) (new : List AV) : Prop := (n = 0 ∧ new = [] ∧ lenOfA u = some 0 ∧ ∀ h, Vw h0 W L h → firstA h sz 0 u = some []) ∨ (0 < n ∧ ∃ i2 off2 c2, u = .slice i2 off2 n c2 ∧ n ≤ 1000000 ∧ new.length = n * sz ∧ new.all okCell = true ∧ ∀ h, Vw h0 W L h → h.loadN i2 off2 (n * sz) = some new)
theorem St.appA {x y : Operand} {t tx e : TypeId} {u : AV} {sz n : Nat} {new : List AV} {Lv Lk : Ob} {v : AV} {len : Nat} {old : List AV} (hv : IsL e sz len old v Lv) (hp : (Lv ++ Lk).Perm L) (q : App1z P s x y t tx v u e sz) (hu : ComesS h0 W L u sz n new) (h2 : len + n ≤ 1000000) (k : ∀ v' Lv', IsL e sz (len + n) (old ++ new) v' Lv' → WO P B Q h0 W N D K false ops l ((d, v') :: s) (Lv' ++ Lk) [])
    (hw : wantS ops s N ⟨some d, .call ⟨.builtin .append, #[x, y], #[t, tx]⟩, ty, pos, af, gd⟩ = some true := by exact rfl) (hd : Nat.blt d N = true := by exact rfl) : WO P B Q h0 W N D K false ops (⟨some d, .call ⟨.builtin .append, #[x, y], #[t, tx]⟩, ty, pos, af, gd⟩ :: l) s L [] := by
  rcases hu with ⟨rfl, rfl, h3, h4⟩ | ⟨h1, i2, off2, c2, rfl, h3, h4, h5, h6⟩
  · exact St.app0 hv hp (k v Lv (by rw [List.append_nil]; exact hv)) ⟨q.hx, q.hy, q.ht, q.htx, q.hs, q.hz, q.hb, q.h0, h3⟩ h4 hw hd
  · exact St.appLV hv hp k ⟨q.hx, q.hy, q.ht, q.htx, q.hs, q.hz, q.hb, q.h0, rfl, Nat.ble_eq_true_of_le h3, by simp [h4], h5⟩ h6 h1 h2 hw hd
end
end Ev
set_option maxRecDepth 100000 in
theorem fit_con (h : Heap) (g : Gd h) (v : AV) (cs : List Cy) (ss : List Sh) (l : List Ga) (hv : SeV h v cs ss l) (hl : l.length ≤ 1000000) :
    Con Tryz.prog Bs 46 [v] h [] (.bool (fitG cs ss l)) [] := by
  refine Con.start rfl Tryz.func46 rfl rfl Tryz.ntmps46 rfl rfl g ?_
  (refine WK.seq ?_; refine WK.region ?_; refine St.assign ?_; refine WO.nil ?_; refine WK.seq ?_; refine WK.region ?_; refine St.move ?_)
  refine St.call (fun _ => rfl) (fun h2 hh => commonG_con h2 hh.gd v cs ss l (hv.vw hh) hl) ?_
  skip
  refine St.call (fun _ => rfl) (fun h2 hh => isSpan_con h2 hh.gd (comG cs ss l).1 (comG cs ss l).2) ?_
  (refine St.assign ?_; refine WO.nil ?_)
  refine St.ret (by first | exact .tmp .nil | exact .cell .nil | exact .cell (.tmp .nil) | exact .tmp (.tmp .nil) | exact .cell (.cell .nil) | exact .tmp (.cell .nil) | exact .nil | exact .tmp (.cell (.tmp .nil)) | exact .cell (.tmp (.tmp .nil)) | exact .cell (.cell (.tmp .nil)) | exact .tmp (.tmp (.tmp .nil)) | exact .cell (.cell (.cell .nil))) ?_
  rfl
theorem seeA_app (cs : List Cy) (ss : List Sh) (a b : List Ga) : seeA cs ss (a ++ b) = seeA cs ss a ++ seeA cs ss b := by
  unfold seeA
  simp
theorem seeA_ok (cs : List Cy) (ss : List Sh) : ∀ l : List Ga, (seeA cs ss l).all okCell = true
  | [] => rfl
  | g :: r => by
    show (seeC cs ss g ++ seeA cs ss r).all okCell = true
    rw [List.all_append, seeA_ok cs ss r]
    rfl
theorem SeH.load {h : Heap} {b off : Nat} {cs ss} {l : List Ga} (k : SeH h b off cs ss l) (hp : 0 < l.length) : h.loadN b off (l.length * 6) = some (seeA cs ss l) := by
  rw [← seeA_len cs ss l]
  refine loadN_of (by rw [seeA_len]; omega) fun j hj => ?_
  rw [seeA_len] at hj
  have hi : j / 6 < l.length := by omega
  have hd := seeA_drop cs ss l (j / 6) hi
  obtain ⟨r0, r1, r2, r3, r4, r5, _⟩ := k (j / 6) hi
  have key : ∀ r v, j % 6 = r → (seeC cs ss (nthG l (j / 6)))[r]? = some v → Rd h b (off + j / 6 * 6 + r) v → h.at1 b (off + j) = some ((seeA cs ss l)[j]'(by rw [seeA_len]; exact hj)) := by
    intro r v e1 e2 e3
    have hr : r < (seeC cs ss (nthG l (j / 6))).length := (List.getElem?_eq_some_iff.1 e2).1
    have e4 : (seeA cs ss l)[j]? = some v := by
      have : ((seeA cs ss l).drop (j / 6 * 6))[r]? = some v := by rw [hd, List.getElem?_append_left hr, e2]
      rw [List.getElem?_drop] at this
      rw [← this]
      congr 1
      omega
    rw [List.getElem?_eq_getElem (by rw [seeA_len]; exact hj)] at e4
    rw [Option.some.inj e4, show off + j = off + j / 6 * 6 + r by omega]
    exact e3.at_
  rcases (show j % 6 = 0 ∨ j % 6 = 1 ∨ j % 6 = 2 ∨ j % 6 = 3 ∨ j % 6 = 4 ∨ j % 6 = 5 by omega) with e | e | e | e | e | e
  · exact key 0 _ e rfl r0
  · exact key 1 _ e rfl r1
  · exact key 2 _ e rfl r2
  · exact key 3 _ e rfl r3
  · exact key 4 _ e rfl r4
  · exact key 5 _ e rfl r5
theorem Ev.Vw.rdO {h0 h : Heap} {W : List Nat} {V : Ob} {j off : Nat} {l : List AV} {t : TypeId} {v : AV} (k : Vw h0 W V h) (hm : (j, .cells l t) ∈ V) (hv : nthN off l = some v) : Rd h j off v := ⟨(k.own _ hm).2, by unfold Heap.at1; rw [(k.own _ hm).1]; exact hv⟩
/-- nothing can be read from it -/
def OkZ (h : Heap) (v : AV) : Prop := v = .slice0 ∨ v = .sliceZ ∨ ∃ b off n c, v = .slice b off n c ∧ b < h.next ∧ h.loadN b off 0 = some []
theorem OkZ.first {h h2 : Heap} {V : Ob} {v : AV} (k : OkZ h v) (hh : Vw h [] V h2) : firstA h2 6 0 v = some [] := by
  rcases k with rfl | rfl | ⟨b, off, n, c, rfl, h1, h3⟩
  · rfl
  · rfl
  · have e := hh.old b h1 (by simp)
    unfold Heap.loadN at h3
    show h2.loadN b off (0 * 6) = some []
    unfold Heap.loadN
    rw [e]
    exact h3
/-- sightings in memory, as what an append takes -/
theorem SeV.comes {h : Heap} {W : List Nat} {L : Ob} {v : AV} {cs ss} {l : List Ga} (k : SeV h v cs ss l) (hl : l.length ≤ 1000000) (hW : W = []) (hz0 : l.length = 0 → OkZ h v) : ComesS h W L v 6 l.length (seeA cs ss l) := by
  subst hW
  by_cases hn : l.length = 0
  · have hz := hz0 hn
    clear hz0
    have e1 : l = [] := List.length_eq_zero_iff.1 hn
    subst e1
    refine .inl ⟨rfl, rfl, ?_, fun h2 hh => hz.first hh⟩
    rcases k with ⟨rfl | rfl, _⟩ | ⟨b, off, c, rfl, _⟩ <;> rfl
  · obtain ⟨b, off, c, rfl, hk⟩ := k.ne (by omega)
    exact .inr ⟨by omega, b, off, c, rfl, hl, seeA_len cs ss l, seeA_ok cs ss l, fun h2 hh => (hk.vw hh).load (by omega)⟩
theorem Bs_grow (n : Nat) (h : Heap) : Bs.ans 115 [.slice0, .int .i64 n] h = growA 115 6 87 115 [.slice0, .int .i64 n] h := (orB_right rfl).trans ((orB_right rfl).trans (orB_left rfl))
set_option maxRecDepth 100000 in
set_option maxHeartbeats 8000000 in
theorem concat_con (h : Heap) (g : Gd h) (x : Nat) (v1 v2 : AV) (cs : List Cy) (ss : List Sh) (l1 l2 : List Ga) (hx : Rds h x 0 [v1, v2]) (h1 : SeV h v1 cs ss l1) (h2 : SeV h v2 cs ss l2) (z1 : l1.length = 0 → OkZ h v1) (z2 : l2.length = 0 → OkZ h v2) (hp : 0 < l1.length + l2.length) (hl : l1.length + l2.length ≤ 1000) :
    ∃ u L, Con Tryz.prog Bs 83 [.slice x 0 2 (.k 2)] h [] u L ∧ IsL 87 6 (l1 ++ l2).length (seeA cs ss (l1 ++ l2)) u L := by
  refine Con.subR (Con.startR rfl Tryz.func83 rfl rfl Tryz.ntmps83 rfl rfl (SS.init g) ?_)
  (refine WK.seq ?_; refine WK.region ?_; refine St.assign ?_; refine WO.nil ?_; refine WK.seq ?_; refine WK.region ?_; refine St.assign ?_; refine WO.nil ?_; refine WK.seq ?_; refine WK.seq ?_; refine WK.region ?_; refine St.move ?_; refine St.len ?_; refine St.move ?_; refine WO.nil ?_; refine WK.block ?_)
  refine WK.unroll ?_
  (refine WK.seq ?_; refine WK.region ?_; refine St.bin ?_; refine WO.nil ?_; refine WK.seq ?_; refine WK.condT ?_; refine WK.skip ?_; refine WK.seq ?_; refine WK.block ?_; refine WK.seq ?_; refine WK.region ?_)
  refine St.at ?_
  skip
  refine St.loadX (fun h hh => (hh.rd (by simp) hx.1).one rfl) ?_
  (refine St.assign ?_; refine WO.nil ?_; refine WK.seq ?_; refine WK.region ?_; refine St.move ?_; refine St.move ?_)
  refine St.lenV rfl h1.len ?_
  (refine St.binI ?_; refine St.assign ?_; refine WO.nil ?_; refine WK.seq ?_; refine WK.region ?_; refine St.move ?_; refine St.bin ?_; refine WO.nil ?_; refine WK.condF ?_; refine WK.skip ?_; refine WK.blk ?_; refine WK.region ?_; refine St.binI ?_; refine St.move ?_; refine WO.nil ?_)
  refine WK.unroll ?_
  (refine WK.seq ?_; refine WK.region ?_; refine St.bin ?_; refine WO.nil ?_; refine WK.seq ?_; refine WK.condT ?_; refine WK.skip ?_; refine WK.seq ?_; refine WK.block ?_; refine WK.seq ?_; refine WK.region ?_)
  refine St.at ?_
  skip
  refine St.loadX (fun h hh => (hh.rd (by simp) hx.2.1).one rfl) ?_
  (refine St.assign ?_; refine WO.nil ?_; refine WK.seq ?_; refine WK.region ?_; refine St.move ?_; refine St.move ?_)
  refine St.lenV rfl h2.len ?_
  (refine St.binI ?_; refine St.assign ?_; refine WO.nil ?_; refine WK.seq ?_; refine WK.region ?_; refine St.move ?_; refine St.bin ?_; refine WO.nil ?_; refine WK.condF ?_; refine WK.skip ?_; refine WK.blk ?_; refine WK.region ?_; refine St.binI ?_; refine St.move ?_; refine WO.nil ?_)
  refine WK.unroll ?_
  (refine WK.seq ?_; refine WK.region ?_; refine St.bin ?_; refine WO.nil ?_; refine WK.seq ?_; refine WK.condF ?_; refine WK.exit ?_; refine WK.seq ?_; refine WK.region ?_; refine St.move ?_)
  refine St.call1 (v := fun j => .slice j 0 0 (.m 0)) (ob := fun _ => .row [] 87 6) (fun _ => rfl) (fun h2 hh => ⟨h2.next, by
    have := Con.grow (P := Tryz.prog) (B := Bs) hh.gd (Bs_grow (l1.length + l2.length) h2) hp (by omega)
    rw [show ((l1.length + l2.length : Nat) : Int) = 0 + (l1.length : Int) + (l2.length : Int) by omega] at this
    exact this⟩) (fun j hj => ?_)
  (refine St.assign ?_; refine WO.nil ?_; refine WK.seq ?_; refine WK.seq ?_; refine WK.region ?_; refine St.move ?_; refine St.len ?_; refine St.move ?_; refine WO.nil ?_; refine WK.block ?_)
  refine WK.unroll ?_
  (refine WK.seq ?_; refine WK.region ?_; refine St.bin ?_; refine WO.nil ?_; refine WK.seq ?_; refine WK.condT ?_; refine WK.skip ?_; refine WK.seq ?_; refine WK.block ?_; refine WK.seq ?_; refine WK.region ?_)
  refine St.at ?_
  skip
  refine St.loadX (fun h hh => (hh.rd (by simp) hx.1).one rfl) ?_
  (refine St.assign ?_; refine WO.nil ?_; refine WK.region ?_; refine St.move ?_; refine St.move ?_)
  refine St.appA (e := 87) (sz := 6) (n := l1.length) (new := seeA cs ss l1) (len := 0) (old := []) (Lv := [(j, .row [] 87 6)]) (Lk := []) (IsL.row j rfl) (List.Perm.refl _) ⟨rfl, rfl, rfl, rfl, rfl, rfl, rfl, rfl⟩ (h1.comes (by omega) rfl z1) (by omega) (fun v' Lv' hv' => ?_)
  (refine St.assign ?_; refine WO.nil ?_; refine WK.blk ?_; refine WK.region ?_; refine St.binI ?_; refine St.move ?_; refine WO.nil ?_)
  refine WK.unroll ?_
  (refine WK.seq ?_; refine WK.region ?_; refine St.bin ?_; refine WO.nil ?_; refine WK.seq ?_; refine WK.condT ?_; refine WK.skip ?_; refine WK.seq ?_; refine WK.block ?_; refine WK.seq ?_; refine WK.region ?_)
  refine St.at ?_
  skip
  refine St.loadX (fun h hh => (hh.rd (by simp) hx.2.1).one rfl) ?_
  (refine St.assign ?_; refine WO.nil ?_; refine WK.region ?_; refine St.move ?_; refine St.move ?_)
  refine St.appA (e := 87) (sz := 6) (n := l2.length) (new := seeA cs ss l2) (Lk := []) hv' (by rw [List.append_nil]) ⟨rfl, rfl, rfl, rfl, rfl, rfl, rfl, rfl⟩ (h2.comes (by omega) rfl z2) (by omega) (fun v2' Lv2 hv2 => ?_)
  (refine St.assign ?_; refine WO.nil ?_; refine WK.blk ?_; refine WK.region ?_; refine St.binI ?_; refine St.move ?_; refine WO.nil ?_)
  refine WK.unroll ?_
  (refine WK.seq ?_; refine WK.region ?_; refine St.bin ?_; refine WO.nil ?_; refine WK.seq ?_; refine WK.condF ?_; refine WK.exit ?_; refine WK.seq ?_; refine WK.region ?_; refine St.move ?_; refine St.assign ?_; refine WO.nil ?_)
  refine St.ret (by first | exact .tmp .nil | exact .cell .nil | exact .cell (.tmp .nil) | exact .tmp (.tmp .nil) | exact .cell (.cell .nil) | exact .tmp (.cell .nil) | exact .nil | exact .tmp (.cell (.tmp .nil)) | exact .cell (.tmp (.tmp .nil)) | exact .cell (.cell (.tmp .nil)) | exact .tmp (.tmp (.tmp .nil)) | exact .cell (.cell (.cell .nil))) ?_
  rw [seeA_app, List.length_append]
  rw [Nat.zero_add, List.nil_append] at hv2
  rw [List.append_nil]
  exact ⟨_, List.Sublist.refl _, hv2⟩
/-- slices of the row of all sightings -/
theorem sl_seeT {h : Heap} {j k n : Nat} (hn : knownN h j 6 = n) (hk : k ≤ n) : evSlice Tryz.prog h 79 (.slice j 0 n (.m 0)) none (some (.int .i64 k)) none = some (.slice j 0 k (.m 0)) := by
  have e : sizeT Tryz.prog 87 = some 6 := by kernel_rfl
  unfold evSlice
  rw [if_neg (by simp), Tryz.underlying79]
  simp only [e, evSliceM, optB, boundIn, hn]
  rw [if_pos (by omega)]
  simp
def frV (j n k : Nat) : AV := if k < n then .slice j (k * 6) (n - k) (.m k) else .sliceZ
theorem sl_seeF {h : Heap} {j k n : Nat} (hn : knownN h j 6 = n) (h0 : 0 < k) (hk : k ≤ n) : evSlice Tryz.prog h 79 (.slice j 0 n (.m 0)) (some (.int .i64 k)) none none = some (frV j n k) := by
  have e : sizeT Tryz.prog 87 = some 6 := by kernel_rfl
  unfold evSlice frV
  rw [if_neg (by simp), Tryz.underlying79]
  simp only [e, evSliceM, optB, boundIn, hn]
  rw [if_pos (by omega)]
  simp only [Int.toNat_natCast, Nat.zero_add, Nat.add_zero]
  by_cases hc : k < n
  · rw [if_pos hc, if_pos (.inr hc)]
  · rw [if_neg hc, if_neg (by omega), if_pos (by omega)]
theorem SeH.tak {h : Heap} {b off k : Nat} {cs ss} {l : List Ga} (q : SeH h b off cs ss l) : SeH h b off cs ss (l.take k) := fun i hi => by
  have hi2 : i < l.length := by rw [List.length_take] at hi; omega
  have := q i hi2
  rwa [nthG_eq hi, List.getElem_take, ← nthG_eq hi2]
theorem SeH.drp {h : Heap} {b off k : Nat} {cs ss} {l : List Ga} (q : SeH h b off cs ss l) : SeH h b (off + k * 6) cs ss (l.drop k) := fun i hi => by
  have hi2 : k + i < l.length := by rw [List.length_drop] at hi; omega
  have := q (k + i) hi2
  rw [nthG_eq hi, List.getElem_drop, ← nthG_eq hi2, show off + k * 6 + i * 6 = off + (k + i) * 6 by omega]
  exact this
theorem sl_seT {h : Heap} {j k : Nat} {cs ss} {l : List Ga} (q : SeH h j 0 cs ss l) (hk : k ≤ l.length) : SeV h (.slice j 0 k (.m 0)) cs ss (l.take k) := by
  have e : (l.take k).length = k := by rw [List.length_take]; omega
  exact .inr ⟨j, 0, .m 0, by rw [e], q.tak⟩
theorem sl_seF {h : Heap} {j k : Nat} {cs ss} {l : List Ga} (q : SeH h j 0 cs ss l) (hk : k ≤ l.length) : SeV h (frV j l.length k) cs ss (l.drop k) := by
  have e : (l.drop k).length = l.length - k := List.length_drop
  unfold frV
  by_cases hc : k < l.length
  · rw [if_pos hc]
    refine .inr ⟨j, k * 6, .m k, by rw [e], ?_⟩
    have := q.drp (k := k)
    rwa [Nat.zero_add] at this
  · rw [if_neg hc]
    exact .inl ⟨.inr rfl, List.length_eq_zero_iff.1 (by omega)⟩
set_option maxRecDepth 100000 in
set_option maxHeartbeats 8000000 in
theorem without_con (h : Heap) (g : Gd h) (j i : Nat) (cs : List Cy) (ss : List Sh) (l : List Ga) (hj : j < h.next) (hg : h.get j = some (.row (seeA cs ss l) 87 6)) (hs : SeH h j 0 cs ss l) (hi : i < l.length) (h1 : 1 < l.length) (hl : l.length ≤ 1000) :
    ∃ u L, Con Tryz.prog Bs 47 [.slice j 0 l.length (.m 0), .int .i64 i] h [] u L ∧ IsL 87 6 (l.eraseIdx i).length (seeA cs ss (l.eraseIdx i)) u L := by
  have hkn : ∀ (h2 : Heap) {V : Ob}, Vw h [] V h2 → knownN h2 j 6 = l.length := fun h2 V hh => by
    unfold knownN
    rw [hh.old j hj (by simp), hg]
    simp only [if_true, seeA_len]
    omega
  have hz : ∀ (h2 : Heap) {V : Ob}, Vw h [] V h2 → h2.loadN j 0 0 = some [] := fun h2 V hh => by
    unfold Heap.loadN
    rw [hh.old j hj (by simp), hg]
    rfl
  refine Con.subR (Con.startR rfl Tryz.func47 rfl rfl Tryz.ntmps47 rfl rfl (SS.init g) ?_)
  (refine WK.seq ?_; refine WK.region ?_; refine St.assign ?_; refine WO.nil ?_; refine WK.seq ?_; refine WK.regionD ?_; refine St.move ?_; refine St.move ?_)
  refine St.sliceV (v := .slice j 0 i (.m 0)) (fun h2 hh => ?_) ?_
  · show plainV (evSlice Tryz.prog h2 79 (.slice j 0 l.length (.m 0)) none (some (.int .i64 i)) none) h2 = _
    rw [sl_seeT (hkn h2 hh) (by omega)]
    rfl
  (refine St.move ?_; refine St.move ?_; refine St.binI ?_)
  by_cases hc : i + 1 < l.length
  · have hf : frV j l.length (i + 1) = .slice j ((i + 1) * 6) (l.length - (i + 1)) (.m (i + 1)) := if_pos hc
    refine St.sliceV (v := .slice j ((i + 1) * 6) (l.length - (i + 1)) (.m (i + 1))) (fun h2 hh => ?_) ?_
    · show plainV (evSlice Tryz.prog h2 79 (.slice j 0 l.length (.m 0)) (some (.int .i64 ((i : Int) + 1))) none none) h2 = _
      rw [show ((i : Int) + 1) = ((i + 1 : Nat) : Int) by omega, sl_seeF (hkn h2 hh) (by omega) (by omega), hf]
      rfl
    (refine StD.mkS fun _ _ => ?_)
    rename_i x hx
    refine StD.callRT (R := fun u L => IsL 87 6 (l.take i ++ l.drop (i + 1)).length (seeA cs ss (l.take i ++ l.drop (i + 1))) u L) [(7, (x, .cells [.slice j 0 i (.m 0), .slice j ((i + 1) * 6) (l.length - (i + 1)) (.m (i + 1))] 79))] (fun _ => rfl) (fun y hy => by cases List.mem_singleton.1 hy; exact ⟨List.Mem.head _, by show maskAt _ _ 7 = true; decide +kernel⟩) (fun h2 hh => ?_) (fun u L hu => ?_)
    · refine concat_con h2 hh.gd x (.slice j 0 i (.m 0)) (.slice j ((i + 1) * 6) (l.length - (i + 1)) (.m (i + 1))) cs ss (l.take i) (l.drop (i + 1)) ?_ ?_ ?_ ?_ ?_ (by rw [List.length_take, List.length_drop]; omega) (by rw [List.length_take, List.length_drop]; omega)
      · exact ⟨hh.rdO (List.Mem.head _) rfl, hh.rdO (List.Mem.head _) rfl, trivial⟩
      · exact sl_seT ((hs.vw hh)) (by omega)
      · have := sl_seF (hs.vw hh) (k := i + 1) (by omega)
        rwa [hf] at this
      · intro _
        exact .inr (.inr ⟨j, 0, i, _, rfl, Nat.lt_of_lt_of_le hj hh.nx, hz h2 hh⟩)
      · intro e; rw [List.length_drop] at e; omega
    (refine St.assign ?_)
    refine WO.nilG ?_
    skip
    refine St.ret (by first | exact .tmp .nil | exact .cell .nil | exact .cell (.tmp .nil) | exact .tmp (.tmp .nil) | exact .cell (.cell .nil) | exact .tmp (.cell .nil) | exact .nil | exact .tmp (.cell (.tmp .nil)) | exact .cell (.tmp (.tmp .nil)) | exact .cell (.cell (.tmp .nil)) | exact .tmp (.tmp (.tmp .nil)) | exact .cell (.cell (.cell .nil))) ?_
    rw [List.eraseIdx_eq_take_drop_succ]
    exact ⟨L, by simp only [List.map_append, List.map_map, Function.comp_def, List.map_id', List.append_assoc]; exact List.sublist_append_left _ _, hu⟩
  · have hf : frV j l.length (i + 1) = .sliceZ := if_neg hc
    refine St.sliceV (v := .sliceZ) (fun h2 hh => ?_) ?_
    · show plainV (evSlice Tryz.prog h2 79 (.slice j 0 l.length (.m 0)) (some (.int .i64 ((i : Int) + 1))) none none) h2 = _
      rw [show ((i : Int) + 1) = ((i + 1 : Nat) : Int) by omega, sl_seeF (hkn h2 hh) (by omega) (by omega), hf]
      rfl
    (refine StD.mkS fun _ _ => ?_)
    rename_i x hx
    refine StD.callRT (R := fun u L => IsL 87 6 (l.take i ++ l.drop (i + 1)).length (seeA cs ss (l.take i ++ l.drop (i + 1))) u L) [(7, (x, .cells [.slice j 0 i (.m 0), .sliceZ] 79))] (fun _ => rfl) (fun y hy => by cases List.mem_singleton.1 hy; exact ⟨List.Mem.head _, by show maskAt _ _ 7 = true; decide +kernel⟩) (fun h2 hh => ?_) (fun u L hu => ?_)
    · refine concat_con h2 hh.gd x (.slice j 0 i (.m 0)) .sliceZ cs ss (l.take i) (l.drop (i + 1)) ?_ ?_ ?_ ?_ ?_ (by rw [List.length_take, List.length_drop]; omega) (by rw [List.length_take, List.length_drop]; omega)
      · exact ⟨hh.rdO (List.Mem.head _) rfl, hh.rdO (List.Mem.head _) rfl, trivial⟩
      · exact sl_seT ((hs.vw hh)) (by omega)
      · have := sl_seF (hs.vw hh) (k := i + 1) (by omega)
        rwa [hf] at this
      · intro _
        exact .inr (.inr ⟨j, 0, i, _, rfl, Nat.lt_of_lt_of_le hj hh.nx, hz h2 hh⟩)
      · exact fun _ => .inr (.inl rfl)
    (refine St.assign ?_)
    refine WO.nilG ?_
    skip
    refine St.ret (by first | exact .tmp .nil | exact .cell .nil | exact .cell (.tmp .nil) | exact .tmp (.tmp .nil) | exact .cell (.cell .nil) | exact .tmp (.cell .nil) | exact .nil | exact .tmp (.cell (.tmp .nil)) | exact .cell (.tmp (.tmp .nil)) | exact .cell (.cell (.tmp .nil)) | exact .tmp (.tmp (.tmp .nil)) | exact .cell (.cell (.cell .nil))) ?_
    rw [List.eraseIdx_eq_take_drop_succ]
    exact ⟨L, by simp only [List.map_append, List.map_map, Function.comp_def, List.map_id', List.append_assoc]; exact List.sublist_append_left _ _, hu⟩
end Go.Proofs.YtgjkfmcjalcefaaGreat
