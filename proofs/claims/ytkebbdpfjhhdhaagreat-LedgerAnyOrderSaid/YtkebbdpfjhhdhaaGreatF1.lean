/- Layer 8: what a bill has; Final. -/
import Derived.Test.YtkebbdpfjhhdhaaGreatF6
import Derived.Test.YtkebbdpfjhhdhaaGreatFy
import Derived.Test.YtkebbdpfjhhdhaaGreatFk
import Derived.Test.YtkebbdpfjhhdhaaGreatFo
import Derived.Test.YtkebbdpfjhhdhaaGreatFv
/- Layer 8: Merge of both, the law of LedgerItems. -/
namespace Go.Proofs.YtkebbdpfjhhdhaaGreat
open Go.Proofs.YtkebbdpfjhhdhaaGreat.Ev

theorem Bs_grow (n : Nat) (h : Heap) : Bs.ans 122 [.slice0, .int .i64 n] h = growA 122 7 114 122 [.slice0, .int .i64 n] h := (orB_right rfl).trans ((orB_right rfl).trans ((orB_right rfl).trans ((orB_right rfl).trans (orB_left rfl))))
set_option maxRecDepth 100000 in
set_option maxHeartbeats 8000000 in
theorem grow0_con (h : Heap) (g : Gd h) : Con Tryz.prog Bs 122 [.slice0, .int .i64 0] h [] .slice0 [] := by
  refine Con.start rfl Tryz.func122 rfl rfl Tryz.ntmps122 rfl rfl g ?_
  (refine WK.seq ?_; refine WK.region ?_; refine St.assign ?_; refine WO.nil ?_; refine WK.seq ?_; refine WK.seq ?_; refine WK.region ?_; refine St.move ?_; refine St.bin ?_; refine WO.nil ?_; refine WK.condF ?_; refine WK.skip ?_; refine WK.seq ?_; refine WK.seq ?_; refine WK.region ?_; refine St.move ?_; refine St.move ?_)
  refine St.any (v := .int .i64 0) ?_
  (refine St.move ?_; refine St.len0 ?_; refine St.binI ?_; refine St.binI ?_; refine St.assign ?_; refine WO.nil ?_; refine WK.seq ?_; refine WK.region ?_; refine St.move ?_; refine St.bin ?_; refine WO.nil ?_; refine WK.condF ?_; refine WK.skip ?_; refine WK.seq ?_; refine WK.region ?_; refine St.move ?_; refine St.assign ?_; refine WO.nil ?_)
  refine St.ret (by first | exact .tmp .nil | exact .cell .nil | exact .cell (.tmp .nil) | exact .tmp (.tmp .nil) | exact .cell (.cell .nil) | exact .tmp (.cell .nil) | exact .nil | exact .tmp (.cell (.tmp .nil)) | exact .cell (.tmp (.tmp .nil)) | exact .cell (.cell (.tmp .nil)) | exact .tmp (.tmp (.tmp .nil)) | exact .tmp (.tmp (.tmp (.tmp .nil))) | exact .cell (.cell (.cell .nil))) ?_
  rfl
def ItL (v : AV) (n : Nat) : Prop := ∀ h2, lenA Tryz.prog 22 h2 v = some (.int .i64 (n : Int))
set_option maxRecDepth 100000 in
set_option maxHeartbeats 8000000 in
theorem concat0_con (h : Heap) (g : Gd h) (x : Nat) (v1 v2 : AV) (hx : Rds h x 0 [v1, v2]) (e1 : ItL v1 0) (e2 : ItL v2 0) (c1 : ∀ L, ComesA h [] L v1 7 0 []) (c2 : ∀ L, ComesA h [] L v2 7 0 []) :
    Con Tryz.prog Bs 70 [.slice x 0 2 (.k 2)] h [] .slice0 [] := by
  have q1 : ∀ L, lenOfA v1 = some 0 ∧ ∀ h2, Vw h [] L h2 → firstA h2 7 0 v1 = some [] := fun L => by
    rcases c1 L with ⟨_, _, a, b⟩ | ⟨a, _⟩
    · exact ⟨a, b⟩
    · omega
  have q2 : ∀ L, lenOfA v2 = some 0 ∧ ∀ h2, Vw h [] L h2 → firstA h2 7 0 v2 = some [] := fun L => by
    rcases c2 L with ⟨_, _, a, b⟩ | ⟨a, _⟩
    · exact ⟨a, b⟩
    · omega
  refine Con.start rfl Tryz.func70 rfl rfl Tryz.ntmps70 rfl rfl g ?_
  (refine WK.seq ?_; refine WK.region ?_; refine St.assign ?_; refine WO.nil ?_; refine WK.seq ?_; refine WK.region ?_; refine St.assign ?_; refine WO.nil ?_; refine WK.seq ?_; refine WK.seq ?_; refine WK.region ?_; refine St.move ?_; refine St.len ?_; refine St.move ?_; refine WO.nil ?_; refine WK.block ?_)
  refine WK.unroll ?_
  (refine WK.seq ?_; refine WK.region ?_; refine St.bin ?_; refine WO.nil ?_; refine WK.seq ?_; refine WK.condT ?_; refine WK.skip ?_; refine WK.seq ?_; refine WK.block ?_; refine WK.seq ?_; refine WK.region ?_)
  refine St.at ?_
  skip
  refine St.loadX (fun h hh => (hh.rd (by simp) hx.1).one rfl) ?_
  (refine St.assign ?_; refine WO.nil ?_; refine WK.seq ?_; refine WK.region ?_; refine St.move ?_; refine St.move ?_)
  refine St.lenG rfl e1 ?_
  (refine St.binI ?_; refine St.assign ?_; refine WO.nil ?_; refine WK.seq ?_; refine WK.region ?_; refine St.move ?_; refine St.bin ?_; refine WO.nil ?_; refine WK.condF ?_; refine WK.skip ?_; refine WK.blk ?_; refine WK.region ?_; refine St.binI ?_; refine St.move ?_; refine WO.nil ?_)
  refine WK.unroll ?_
  (refine WK.seq ?_; refine WK.region ?_; refine St.bin ?_; refine WO.nil ?_; refine WK.seq ?_; refine WK.condT ?_; refine WK.skip ?_; refine WK.seq ?_; refine WK.block ?_; refine WK.seq ?_; refine WK.region ?_)
  refine St.at ?_
  skip
  refine St.loadX (fun h hh => (hh.rd (by simp) hx.2.1).one rfl) ?_
  (refine St.assign ?_; refine WO.nil ?_; refine WK.seq ?_; refine WK.region ?_; refine St.move ?_; refine St.move ?_)
  refine St.lenG rfl e2 ?_
  (refine St.binI ?_; refine St.assign ?_; refine WO.nil ?_; refine WK.seq ?_; refine WK.region ?_; refine St.move ?_; refine St.bin ?_; refine WO.nil ?_; refine WK.condF ?_; refine WK.skip ?_; refine WK.blk ?_; refine WK.region ?_; refine St.binI ?_; refine St.move ?_; refine WO.nil ?_)
  refine WK.unroll ?_
  (refine WK.seq ?_; refine WK.region ?_; refine St.bin ?_; refine WO.nil ?_; refine WK.seq ?_; refine WK.condF ?_; refine WK.exit ?_; refine WK.seq ?_; refine WK.region ?_; refine St.move ?_)
  refine St.call (fun _ => rfl) (fun h2 hh => grow0_con h2 hh.gd) ?_
  (refine St.assign ?_; refine WO.nil ?_; refine WK.seq ?_; refine WK.seq ?_; refine WK.region ?_; refine St.move ?_; refine St.len ?_; refine St.move ?_; refine WO.nil ?_; refine WK.block ?_)
  refine WK.unroll ?_
  (refine WK.seq ?_; refine WK.region ?_; refine St.bin ?_; refine WO.nil ?_; refine WK.seq ?_; refine WK.condT ?_; refine WK.skip ?_; refine WK.seq ?_; refine WK.block ?_; refine WK.seq ?_; refine WK.region ?_)
  refine St.at ?_
  skip
  refine St.loadX (fun h hh => (hh.rd (by simp) hx.1).one rfl) ?_
  (refine St.assign ?_; refine WO.nil ?_; refine WK.region ?_; refine St.move ?_; refine St.move ?_)
  refine St.app0 (e := 114) (sz := 7) (len := 0) (old := []) (Lv := []) (Lk := []) (v := .slice0) (IsL.nil rfl rfl) (List.Perm.refl _) ?_ ⟨rfl, rfl, rfl, rfl, rfl, rfl, rfl, rfl, (q1 []).1⟩ (fun h2 hh => (q1 _).2 h2 hh)
  (refine St.assign ?_; refine WO.nil ?_; refine WK.blk ?_; refine WK.region ?_; refine St.binI ?_; refine St.move ?_; refine WO.nil ?_)
  refine WK.unroll ?_
  (refine WK.seq ?_; refine WK.region ?_; refine St.bin ?_; refine WO.nil ?_; refine WK.seq ?_; refine WK.condT ?_; refine WK.skip ?_; refine WK.seq ?_; refine WK.block ?_; refine WK.seq ?_; refine WK.region ?_)
  refine St.at ?_
  skip
  refine St.loadX (fun h hh => (hh.rd (by simp) hx.2.1).one rfl) ?_
  (refine St.assign ?_; refine WO.nil ?_; refine WK.region ?_; refine St.move ?_; refine St.move ?_)
  refine St.app0 (e := 114) (sz := 7) (len := 0) (old := []) (Lv := []) (Lk := []) (v := .slice0) (IsL.nil rfl rfl) (List.Perm.refl _) ?_ ⟨rfl, rfl, rfl, rfl, rfl, rfl, rfl, rfl, (q2 []).1⟩ (fun h2 hh => (q2 _).2 h2 hh)
  (refine St.assign ?_; refine WO.nil ?_; refine WK.blk ?_; refine WK.region ?_; refine St.binI ?_; refine St.move ?_; refine WO.nil ?_)
  refine WK.unroll ?_
  (refine WK.seq ?_; refine WK.region ?_; refine St.bin ?_; refine WO.nil ?_; refine WK.seq ?_; refine WK.condF ?_; refine WK.exit ?_; refine WK.seq ?_; refine WK.region ?_; refine St.move ?_; refine St.assign ?_; refine WO.nil ?_)
  refine St.ret (by first | exact .tmp .nil | exact .cell .nil | exact .cell (.tmp .nil) | exact .tmp (.tmp .nil) | exact .cell (.cell .nil) | exact .tmp (.cell .nil) | exact .nil | exact .tmp (.cell (.tmp .nil)) | exact .cell (.tmp (.tmp .nil)) | exact .cell (.cell (.tmp .nil)) | exact .tmp (.tmp (.tmp .nil)) | exact .tmp (.tmp (.tmp (.tmp .nil))) | exact .cell (.cell (.cell .nil))) ?_
  rfl
set_option maxRecDepth 100000 in
set_option maxHeartbeats 8000000 in
theorem concat1_con (h : Heap) (g : Gd h) (x : Nat) (v1 v2 : AV) (n1 n2 : Nat) (l1 l2 : List AV) (hx : Rds h x 0 [v1, v2]) (e1 : ItL v1 n1) (e2 : ItL v2 n2) (c1 : ∀ L, ComesA h [] L v1 7 n1 l1) (c2 : ∀ L, ComesA h [] L v2 7 n2 l2) (hp : 0 < n1 + n2) (hl : n1 + n2 ≤ 1000) :
    ∃ u L, Con Tryz.prog Bs 70 [.slice x 0 2 (.k 2)] h [] u L ∧ IsL 114 7 (n1 + n2) (l1 ++ l2) u L := by
  refine Con.subG (Con.startR rfl Tryz.func70 rfl rfl Tryz.ntmps70 rfl rfl (SS.init g) ?_)
  (refine WK.seq ?_; refine WK.region ?_; refine St.assign ?_; refine WO.nil ?_; refine WK.seq ?_; refine WK.region ?_; refine St.assign ?_; refine WO.nil ?_; refine WK.seq ?_; refine WK.seq ?_; refine WK.region ?_; refine St.move ?_; refine St.len ?_; refine St.move ?_; refine WO.nil ?_; refine WK.block ?_)
  refine WK.unroll ?_
  (refine WK.seq ?_; refine WK.region ?_; refine St.bin ?_; refine WO.nil ?_; refine WK.seq ?_; refine WK.condT ?_; refine WK.skip ?_; refine WK.seq ?_; refine WK.block ?_; refine WK.seq ?_; refine WK.region ?_)
  refine St.at ?_
  skip
  refine St.loadX (fun h hh => (hh.rd (by simp) hx.1).one rfl) ?_
  (refine St.assign ?_; refine WO.nil ?_; refine WK.seq ?_; refine WK.region ?_; refine St.move ?_; refine St.move ?_)
  refine St.lenG rfl e1 ?_
  (refine St.binI ?_; refine St.assign ?_; refine WO.nil ?_; refine WK.seq ?_; refine WK.region ?_; refine St.move ?_; refine St.bin ?_; refine WO.nil ?_; refine WK.condF ?_; refine WK.skip ?_; refine WK.blk ?_; refine WK.region ?_; refine St.binI ?_; refine St.move ?_; refine WO.nil ?_)
  refine WK.unroll ?_
  (refine WK.seq ?_; refine WK.region ?_; refine St.bin ?_; refine WO.nil ?_; refine WK.seq ?_; refine WK.condT ?_; refine WK.skip ?_; refine WK.seq ?_; refine WK.block ?_; refine WK.seq ?_; refine WK.region ?_)
  refine St.at ?_
  skip
  refine St.loadX (fun h hh => (hh.rd (by simp) hx.2.1).one rfl) ?_
  (refine St.assign ?_; refine WO.nil ?_; refine WK.seq ?_; refine WK.region ?_; refine St.move ?_; refine St.move ?_)
  refine St.lenG rfl e2 ?_
  (refine St.binI ?_; refine St.assign ?_; refine WO.nil ?_; refine WK.seq ?_; refine WK.region ?_; refine St.move ?_; refine St.bin ?_; refine WO.nil ?_; refine WK.condF ?_; refine WK.skip ?_; refine WK.blk ?_; refine WK.region ?_; refine St.binI ?_; refine St.move ?_; refine WO.nil ?_)
  refine WK.unroll ?_
  (refine WK.seq ?_; refine WK.region ?_; refine St.bin ?_; refine WO.nil ?_; refine WK.seq ?_; refine WK.condF ?_; refine WK.exit ?_; refine WK.seq ?_; refine WK.region ?_; refine St.move ?_)
  refine St.call1 (v := fun j => .slice j 0 0 (.m 0)) (ob := fun _ => .row [] 114 7) (fun _ => rfl) (fun h2 hh => ⟨h2.next, by
    have := Con.grow (P := Tryz.prog) (B := Bs) hh.gd (Bs_grow (n1 + n2) h2) hp (by omega)
    rw [show ((n1 + n2 : Nat) : Int) = 0 + (n1 : Int) + (n2 : Int) by omega] at this
    exact this⟩) (fun j hj => ?_)
  (refine St.assign ?_; refine WO.nil ?_; refine WK.seq ?_; refine WK.seq ?_; refine WK.region ?_; refine St.move ?_; refine St.len ?_; refine St.move ?_; refine WO.nil ?_; refine WK.block ?_)
  refine WK.unroll ?_
  (refine WK.seq ?_; refine WK.region ?_; refine St.bin ?_; refine WO.nil ?_; refine WK.seq ?_; refine WK.condT ?_; refine WK.skip ?_; refine WK.seq ?_; refine WK.block ?_; refine WK.seq ?_; refine WK.region ?_)
  refine St.at ?_
  skip
  refine St.loadX (fun h hh => (hh.rd (by simp) hx.1).one rfl) ?_
  (refine St.assign ?_; refine WO.nil ?_; refine WK.region ?_; refine St.move ?_; refine St.move ?_)
  refine St.appG (e := 114) (sz := 7) (n := n1) (new := l1) (len := 0) (old := []) (Lv := [(j, .row [] 114 7)]) (Lk := []) (IsL.row j rfl) (List.Perm.refl _) ⟨rfl, rfl, rfl, rfl, rfl, rfl, rfl, rfl⟩ (c1 _) (by omega) (fun v' Lv' hv' => ?_)
  (refine St.assign ?_; refine WO.nil ?_; refine WK.blk ?_; refine WK.region ?_; refine St.binI ?_; refine St.move ?_; refine WO.nil ?_)
  refine WK.unroll ?_
  (refine WK.seq ?_; refine WK.region ?_; refine St.bin ?_; refine WO.nil ?_; refine WK.seq ?_; refine WK.condT ?_; refine WK.skip ?_; refine WK.seq ?_; refine WK.block ?_; refine WK.seq ?_; refine WK.region ?_)
  refine St.at ?_
  skip
  refine St.loadX (fun h hh => (hh.rd (by simp) hx.2.1).one rfl) ?_
  (refine St.assign ?_; refine WO.nil ?_; refine WK.region ?_; refine St.move ?_; refine St.move ?_)
  refine St.appG (e := 114) (sz := 7) (n := n2) (new := l2) (Lk := []) hv' (by rw [List.append_nil]) ⟨rfl, rfl, rfl, rfl, rfl, rfl, rfl, rfl⟩ (c2 _) (by omega) (fun v2' Lv2 hv2 => ?_)
  (refine St.assign ?_; refine WO.nil ?_; refine WK.blk ?_; refine WK.region ?_; refine St.binI ?_; refine St.move ?_; refine WO.nil ?_)
  refine WK.unroll ?_
  (refine WK.seq ?_; refine WK.region ?_; refine St.bin ?_; refine WO.nil ?_; refine WK.seq ?_; refine WK.condF ?_; refine WK.exit ?_; refine WK.seq ?_; refine WK.region ?_; refine St.move ?_; refine St.assign ?_; refine WO.nil ?_)
  refine St.ret (by first | exact .tmp .nil | exact .cell .nil | exact .cell (.tmp .nil) | exact .tmp (.tmp .nil) | exact .cell (.cell .nil) | exact .tmp (.cell .nil) | exact .nil | exact .tmp (.cell (.tmp .nil)) | exact .cell (.tmp (.tmp .nil)) | exact .cell (.cell (.tmp .nil)) | exact .tmp (.tmp (.tmp .nil)) | exact .tmp (.tmp (.tmp (.tmp .nil))) | exact .cell (.cell (.cell .nil))) ?_
  rw [Nat.zero_add, List.nil_append] at hv2
  rw [List.append_nil]
  exact ⟨_, List.Sublist.refl _, hv2⟩
theorem IsL.g {h0 h : Heap} {W : List Nat} {V : Ob} {l : List Im} {w : AV} {Lw : Ob} {n : Nat} (k : IsL 114 7 n (enF imC l) w Lw) (hn : l.length = n) (hh : Vw h0 W V h) (hm : ∀ x ∈ Lw, x ∈ V) : ImG h w l := by
  subst hn
  cases k with
  | nil h1 h2 => exact IsR.g (IsR.nil (e := 114) (sz := 7) h1 h2) rfl hh (fun x hx => by cases hx)
  | row i h1 => exact IsR.g (IsR.row (e := 114) (sz := 7) i h1) rfl hh hm
  | cells i c rest t h1 h2 h3 =>
    have hs : sizeT Tryz.prog 114 = some 7 := by kernel_rfl
    have ho := hh.own _ (hm _ (List.mem_cons_self ..))
    have he : ImH h i 0 l := fun j hj => by
      rw [Nat.zero_add]
      exact hh.rdsEn (hm _ (List.mem_cons_self ..)) (AObj.has_cells _ _).left _ _ _ (enF_drop imC_len l j hj)
    refine ⟨?_, fun q hq => ⟨.slice i 0 q (.k c), he.takV (by omega), fun h2 V2 hh2 => slK_to Tryz.underlying22 hs (by omega) h3⟩⟩
    rcases Nat.eq_zero_or_pos l.length with h0 | h0
    · have : l = [] := List.length_eq_zero_iff.1 h0
      subst this
      refine .emp i 0 (.k c) ho.2 ?_
      unfold Heap.loadN
      rw [ho.1]
      simp [takeN]
    · exact .some i 0 (.k c) l h0 he
/-- both lists, one behind the other -/
theorem concat_con (h : Heap) (g : Gd h) (x : Nat) (v1 v2 : AV) (a b : List Im) (hx : Rds h x 0 [v1, v2]) (h1 : ImG h v1 a) (h2 : ImG h v2 b) (hl : a.length + b.length ≤ 1000) : ∃ u L, Con Tryz.prog Bs 70 [.slice x 0 2 (.k 2)] h [] u L ∧ IsL 114 7 (a ++ b).length (enF imC (a ++ b)) u L := by
  have c1 : ∀ L, ComesA h [] L v1 7 a.length (enF imC a) := fun L => h1.z.comes (by omega)
  have c2 : ∀ L, ComesA h [] L v2 7 b.length (enF imC b) := fun L => h2.z.comes (by omega)
  have e1 : ItL v1 a.length := h1.z.eV.llen
  have e2 : ItL v2 b.length := h2.z.eV.llen
  rw [enF_app, List.length_append]
  rcases Nat.eq_zero_or_pos (a.length + b.length) with h0 | h0
  · have ea : a = [] := List.length_eq_zero_iff.1 (by omega)
    have eb : b = [] := List.length_eq_zero_iff.1 (by omega)
    subst ea eb
    exact ⟨_, _, concat0_con h g x v1 v2 hx e1 e2 c1 c2, .nil rfl rfl⟩
  · exact concat1_con h g x v1 v2 _ _ _ _ hx e1 e2 c1 c2 h0 hl
theorem ImZ.form {h : Heap} {v : AV} {l : List Im} (k : ImZ h v l) : v = .slice0 ∨ ∃ b off n c, v = .slice b off n c := by
  cases k with
  | nil => exact .inl rfl
  | emp b off m _ _ => exact .inr ⟨b, off, 0, m, rfl⟩
  | some b off c l _ _ => exact .inr ⟨b, off, _, c, rfl⟩
set_option maxRecDepth 100000 in
theorem mk2 {va vb : AV} (ha : va = .slice0 ∨ ∃ b off n c, va = .slice b off n c) (hb : vb = .slice0 ∨ ∃ b off n c, vb = .slice b off n c) : evBuildSlice Tryz.prog 176 2 [(0, va), (1, vb)] = some ([va, vb], 22) := by
  rcases ha with rfl | ⟨_, _, _, _, rfl⟩ <;> rcases hb with rfl | ⟨_, _, _, _, rfl⟩ <;> rfl
def mrgE (a b : List Im) : Int := if chkI a = 0 then (if chkI b = 0 then chkI (a ++ b) else chkI b) else chkI a
theorem chk_len {l : List Im} (h : chkI l = 0) : l.length ≤ 60 := (chk_ok h).1
/-- what both Sorted return, whatever the way -/
def SrtV (er : Int) (l : List Im) (u : AV) (L : Ob) : Prop := (er ≠ 0 ∧ u = .slice0 ∧ L = []) ∨ (er = 0 ∧ ClnR l u L)
set_option maxRecDepth 100000 in
set_option maxHeartbeats 8000000 in
theorem merge_con (h : Heap) (g : Gd h) (va vb : AV) (a b : List Im) (ha : ImG h va a) (hb : ImG h vb b) : ∃ w L, Con Tryz.prog Bs 21 [va, vb] h [] w L ∧ ∃ u, w = .tup [u, .int .i64 (mrgE a b)] ∧ SrtV (mrgE a b) (a ++ b) u L := by
  refine Con.subG (Con.startR rfl Tryz.func21 rfl rfl Tryz.ntmps21 rfl rfl (SS.init g) ?_)
  (refine WK.seq ?_; refine WK.region ?_; refine St.assign ?_; refine St.assign ?_; refine WO.nil ?_; refine WK.seq ?_; refine WK.seq ?_; refine WK.region ?_; refine St.move ?_)
  refine St.call (fun _ => rfl) (fun h2 hh => check_con h2 hh.gd va a (ha.z.eV.vw hh) (ha.c.vw hh)) ?_
  (refine St.assign ?_; refine WO.nil ?_; refine WK.seq ?_; refine WK.region ?_; refine St.move ?_; refine St.bin ?_; refine WO.nil ?_)
  refine St.splitC (fun q => ?_) (fun q => ?_)
  · have e : ¬ chkI a = 0 := by simpa using q
    have em : mrgE a b = chkI a := by unfold mrgE; rw [if_neg e]
    (refine WK.seq ?_; refine WK.region ?_; refine St.move ?_; refine St.assign ?_; refine St.assign ?_; refine WO.nil ?_)
    refine St.ret (by first | exact .tmp .nil | exact .cell .nil | exact .cell (.tmp .nil) | exact .tmp (.tmp .nil) | exact .cell (.cell .nil) | exact .tmp (.cell .nil) | exact .nil | exact .tmp (.cell (.tmp .nil)) | exact .cell (.tmp (.tmp .nil)) | exact .cell (.cell (.tmp .nil)) | exact .tmp (.tmp (.tmp .nil)) | exact .tmp (.tmp (.tmp (.tmp .nil))) | exact .cell (.cell (.cell .nil))) ?_
    exact ⟨[], List.nil_sublist _, _, by rw [em]; rfl, .inl ⟨by rw [em]; exact e, rfl, rfl⟩⟩
  have ea : chkI a = 0 := by simpa using q
  (refine WK.skip ?_; refine WK.seq ?_; refine WK.seq ?_; refine WK.region ?_; refine St.move ?_)
  refine St.call (fun _ => rfl) (fun h2 hh => check_con h2 hh.gd vb b (hb.z.eV.vw hh) (hb.c.vw hh)) ?_
  (refine St.assign ?_; refine WO.nil ?_; refine WK.seq ?_; refine WK.region ?_; refine St.move ?_; refine St.bin ?_; refine WO.nil ?_)
  refine St.splitC (fun q => ?_) (fun q => ?_)
  · have e : ¬ chkI b = 0 := by simpa using q
    have em : mrgE a b = chkI b := by unfold mrgE; rw [if_pos ea, if_neg e]
    (refine WK.seq ?_; refine WK.region ?_; refine St.move ?_; refine St.assign ?_; refine St.assign ?_; refine WO.nil ?_)
    refine St.ret (by first | exact .tmp .nil | exact .cell .nil | exact .cell (.tmp .nil) | exact .tmp (.tmp .nil) | exact .cell (.cell .nil) | exact .tmp (.cell .nil) | exact .nil | exact .tmp (.cell (.tmp .nil)) | exact .cell (.tmp (.tmp .nil)) | exact .cell (.cell (.tmp .nil)) | exact .tmp (.tmp (.tmp .nil)) | exact .tmp (.tmp (.tmp (.tmp .nil))) | exact .cell (.cell (.cell .nil))) ?_
    exact ⟨[], List.nil_sublist _, _, by rw [em]; rfl, .inl ⟨by rw [em]; exact e, rfl, rfl⟩⟩
  have eb : chkI b = 0 := by simpa using q
  have em : mrgE a b = chkI (a ++ b) := by unfold mrgE; rw [if_pos ea, if_pos eb]
  rw [em]
  have la := chk_len ea
  have lb := chk_len eb
  (refine WK.skip ?_; refine WK.seq ?_; refine WK.region ?_; refine St.move ?_; refine St.move ?_)
  refine St.mkS (lv := [(0, va), (1, vb)]) (c := [va, vb]) (e := 22) (fun x hx => ?_) (hx := by rfl) (hb := mk2 (ha.z.form) (hb.z.form))
  skip
  refine St.callR (fun _ => rfl) (fun h2 hh => concat_con h2 hh.gd x va vb a b (hh.rdsEn (List.Mem.head _) (.inl ⟨[], _, by rw [List.append_nil]⟩) [va, vb] [] 0 (by rw [List.append_nil]; rfl)) (ha.vw hh) (hb.vw hh) (by omega)) ?_
  intro u1 L1 h1
  skip
  refine St.callR (fun _ => rfl) (fun h2 hh => psorted_con h2 hh.gd u1 (a ++ b) (IsL.g h1 rfl hh (fun x hx => by simp [hx])).z (IsL.g h1 rfl hh (fun x hx => by simp [hx])).c) ?_
  rintro _ L2 ⟨u, rfl, hu⟩
  (refine St.extract ?_; refine St.extract ?_; refine St.assign ?_; refine St.assign ?_; refine WO.nil ?_)
  refine St.ret (by first | exact .tmp .nil | exact .cell .nil | exact .cell (.tmp .nil) | exact .tmp (.tmp .nil) | exact .cell (.cell .nil) | exact .tmp (.cell .nil) | exact .nil | exact .tmp (.cell (.tmp .nil)) | exact .cell (.tmp (.tmp .nil)) | exact .cell (.cell (.tmp .nil)) | exact .tmp (.tmp (.tmp .nil)) | exact .tmp (.tmp (.tmp (.tmp .nil))) | exact .cell (.cell (.cell .nil))) ?_
  exact ⟨L2, List.sublist_append_left _ _, u, rfl, hu⟩
end Go.Proofs.YtkebbdpfjhhdhaaGreat

/- Layer 8: what a bill has; Final. -/
namespace Go.Proofs.YtkebbdpfjhhdhaaGreat
open Go.Proofs.YtkebbdpfjhhdhaaGreat.Ev

/-- the amount that a bill has, and whether there is one -/
def amB (l : List Im) (n : Int) : Int × Bool := if (amtL l n).length = 0 then (0, false) else ((lastE (amtL l n)).am, true)
set_option maxRecDepth 100000 in
set_option maxHeartbeats 4000000 in
theorem amount_con (h : Heap) (g : Gd h) (j : Nat) (n : Int) (vt : AV) (l : List Im) (hj : Rd h j 2 vt) (hv : ImV h vt l) (hl : l.length ≤ 1000) : Con Tryz.prog Bs 100 [.ptr j 0, .int .i64 n] h [] (.tup [.int .i64 (amB l n).1, .bool (amB l n).2]) [] := by
  refine Con.start rfl Tryz.func100 rfl rfl Tryz.ntmps100 rfl rfl g ?_
  (refine WK.seq ?_; refine WK.region ?_; refine St.assign ?_; refine St.assign ?_; refine WO.nil ?_; refine WK.seq ?_; refine WK.region ?_; refine St.move ?_; refine St.move ?_)
  refine St.callR (fun _ => rfl) (fun h2 hh => amounts_con h2 hh.gd j n vt l (hh.rd (by simp) hj) (hv.vw hh) hl) ?_
  intro u Lu hu
  have hnl : (amtL l n).length ≤ 1000 := Nat.le_trans (List.length_filter_le _ _) hl
  (refine St.assign ?_; refine WO.nil ?_; refine WK.seq ?_; refine WK.seq ?_; refine WK.region ?_; refine St.move ?_)
  refine St.lenG rfl (hu.isL.lenG Tryz.underlying22) ?_
  (refine St.bin ?_; refine WO.nil ?_)
  refine St.splitC (fun q => ?_) (fun q => ?_)
  · have h1 : (amtL l n).length = 0 := by simpa using q
    (refine WK.seq ?_; refine WK.region ?_; refine St.assign ?_; refine St.assign ?_; refine WO.nil ?_)
    refine St.ret (by first | exact .tmp .nil | exact .cell .nil | exact .cell (.tmp .nil) | exact .tmp (.tmp .nil) | exact .cell (.cell .nil) | exact .tmp (.cell .nil) | exact .nil | exact .tmp (.cell (.tmp .nil)) | exact .cell (.tmp (.tmp .nil)) | exact .cell (.cell (.tmp .nil)) | exact .tmp (.tmp (.tmp .nil)) | exact .tmp (.tmp (.tmp (.tmp .nil))) | exact .cell (.cell (.cell .nil))) ?_
    simp [oneOf, amB, h1]
  have h1 : ¬ (amtL l n).length = 0 := by simpa using q
  rcases hu.rowN with ⟨_, _, h2, _⟩ | ⟨ju, rfl, rfl, hlu⟩
  · exact absurd h2 h1
  (refine WK.skip ?_; refine WK.seq ?_; refine WK.region ?_; refine St.move ?_; refine St.move ?_; refine St.len ?_; refine St.binI ?_)
  refine St.at ?_
  (refine St.fieldAddr ?_)
  refine St.loadX (v := .int .i64 (lastE (amtL l n)).am) (fun h2 hh => by
    have := ((eh_row (l := amtL l n) (i := ju) (e := 114) hh (by simp)).at_ (z := ((amtL l n).length : Int) - 1) (n := (amtL l n).length - 1) (by omega) (by omega))
    exact this.2.2.2.2.2.2.1.one rfl) ?_
  (refine St.assign ?_; refine St.assign ?_; refine WO.nil ?_)
  refine St.ret (by first | exact .tmp .nil | exact .cell .nil | exact .cell (.tmp .nil) | exact .tmp (.tmp .nil) | exact .cell (.cell .nil) | exact .tmp (.cell .nil) | exact .nil | exact .tmp (.cell (.tmp .nil)) | exact .cell (.tmp (.tmp .nil)) | exact .cell (.cell (.tmp .nil)) | exact .tmp (.tmp (.tmp .nil)) | exact .tmp (.tmp (.tmp (.tmp .nil))) | exact .cell (.cell (.cell .nil))) ?_
  simp [oneOf, amB, h1]
/-- an item with what its bill has at last -/
def finI (tk : List Im) (x : Im) : Im := if x.kd = 1 then { x with am := (amB tk x.bl).1 } else x
def finL (tk : List Im) : List Im := (tk.filter fun x => decide (x.kd ≠ 2)).map (finI tk)
theorem over_am (l : List Im) (k : Nat) (h : k < l.length) (a : Int) : overN (0 + (k : Int).toNat * 7 + 6) [.int .i64 a] (enF imC l) = some (enF imC (l.set k { nthE l k with am := a })) := by
  have e0 : 0 + (k : Int).toNat * 7 + 6 = k * 7 + 6 := by omega
  rw [e0, overN_mk (by rw [enJ_len]; simp; omega)]
  have e1 := enF_drop imC_len l k h
  obtain ⟨e2, _⟩ := enJ_take l k (by omega)
  obtain ⟨_, e3⟩ := enJ_take l (k + 1) (by omega)
  have e4 : (enF imC l).take (k * 7 + 6) = enF imC (l.take k) ++ (imC (nthE l k)).take 6 := by
    have : (enF imC l) = (enF imC l).take (k * 7) ++ (enF imC l).drop (k * 7) := (List.take_append_drop _ _).symm
    rw [this, e1, e2, List.take_append, List.take_of_length_le (by rw [enJ_len, List.length_take]; omega), enJ_len, List.length_take, Nat.min_eq_left (by omega), show k * 7 + 6 - k * 7 = 6 by omega, List.take_append_of_le_length (by rw [imC_len]; omega)]
  rw [e4, show k * 7 + 6 + [AV.int .i64 a].length = (k + 1) * 7 by simp; omega, e3, List.set_eq_take_append_cons_drop, if_pos h, enF_app]
  simp [enF, imC]
set_option maxRecDepth 100000 in
theorem store_am {l l' : List AV} {e : TypeId} {sz off : Nat} {a : Int} (h : overN off [.int .i64 a] l = some l') : (AObj.row l e sz).store Tryz.prog 3 off (.int .i64 a) = some (.row l' e sz) := by
  have hs : sizeT Tryz.prog 3 = some 1 := by kernel_rfl
  simp [AObj.store, hs, AV.cells, okCell, AObj.put, h]
set_option maxRecDepth 100000 in
theorem final1_con (h : Heap) (g : Gd h) (x : Im) : Con Tryz.prog Bs 108 [.agg (imC x)] h [] (.bool (decide (x.kd ≠ 2))) [] := by
  refine Con.start rfl Tryz.func108 rfl rfl Tryz.ntmps108 rfl rfl g ?_
  (refine WK.seq ?_; refine WK.region ?_; refine St.box fun _ _ => ?_; refine St.assign ?_; refine WO.nil ?_; refine WK.seq ?_; refine WK.region ?_; refine St.fieldAddr ?_; refine St.load ?_; refine St.bin ?_; refine St.assign ?_; refine WO.nil ?_)
  refine St.ret (by first | exact .tmp .nil | exact .cell .nil | exact .cell (.tmp .nil) | exact .tmp (.tmp .nil) | exact .cell (.cell .nil) | exact .tmp (.cell .nil) | exact .nil | exact .tmp (.cell (.tmp .nil)) | exact .cell (.tmp (.tmp .nil)) | exact .cell (.cell (.tmp .nil)) | exact .tmp (.tmp (.tmp .nil)) | exact .tmp (.tmp (.tmp (.tmp .nil))) | exact .cell (.cell (.cell .nil))) ?_
  simp [oneOf]
  rw [Bool.eq_iff_iff]
  simp
set_option maxRecDepth 100000 in
set_option maxHeartbeats 8000000 in
theorem Final_con (h : Heap) (g : Gd h) (v : AV) (l : List Im) (known : Int) (hv : ImG h v l) : ∃ u L, Con Tryz.prog Bs 53 [v, .int .i64 known] h [] u L ∧ LstR 114 7 imC (askE l [dyB known]) (finL (bookB l known).tk) u L := by
  refine Con.subG (Con.startR rfl Tryz.func53 rfl rfl Tryz.ntmps53 rfl rfl (SS.init g) ?_)
  (refine WK.seq ?_; refine WK.region ?_; refine St.assign ?_; refine St.assign ?_; refine WO.nil ?_; refine WK.seq ?_; refine WK.seq ?_; refine WK.region ?_; refine St.move ?_; refine St.move ?_)
  refine St.call (fun _ => rfl) (fun h2 hh => isDay_con h2 hh.gd known) ?_
  (refine St.mkS fun _ _ => ?_)
  rename_i p10 hp10
  refine St.call (fun _ => rfl) (fun h2 hh => asked_con h2 hh.gd v _ l [dyB known] (hv.z.eV.vw hh) (hv.c.vw hh) (boV_of (bs := [dyB known]) (n := 1) hh (List.Mem.head _) rfl _) (by simp)) ?_
  (refine St.assign ?_; refine WO.nil ?_; refine WK.seq ?_; refine WK.region ?_; refine St.move ?_; refine St.bin ?_; refine WO.nil ?_)
  refine St.splitC (fun q => ?_) (fun q => ?_)
  · have e : ¬ askE l [dyB known] = 0 := by simpa using q
    (refine WK.seq ?_; refine WK.region ?_; refine St.move ?_; refine St.assign ?_; refine St.assign ?_; refine WO.nil ?_)
    refine St.ret (by first | exact .tmp .nil | exact .cell .nil | exact .cell (.tmp .nil) | exact .tmp (.tmp .nil) | exact .cell (.cell .nil) | exact .tmp (.cell .nil) | exact .nil | exact .tmp (.cell (.tmp .nil)) | exact .cell (.tmp (.tmp .nil)) | exact .cell (.cell (.tmp .nil)) | exact .tmp (.tmp (.tmp .nil)) | exact .tmp (.tmp (.tmp (.tmp .nil))) | exact .cell (.cell (.cell .nil))) ?_
    exact ⟨[], List.nil_sublist _, _, rfl, .inl ⟨e, rfl, rfl⟩⟩
  have e : askE l [dyB known] = 0 := by simpa using q
  have hc := (askE_ok e).1
  have hO := book_o hc known
  rw [e]
  (refine WK.skip ?_; refine WK.seq ?_; refine WK.region ?_; refine St.move ?_; refine St.move ?_)
  refine St.callR (fun _ => rfl) (fun h2 hh => bookOf_g hh.gd (known := known) (hv.vw hh) hc) ?_
  rintro _ _ ⟨j, rfl, vp, vt, vr, Lp, Lt, Lr, hp, ht, hr, rfl⟩
  have htl := hO.tl
  generalize (bookB l known).tk = tk at *
  (refine St.assign ?_; refine WO.nil ?_; refine WK.seq ?_; refine WK.region ?_; refine St.move ?_; refine St.nilP ?_; refine St.fieldAddr ?_; refine St.load ?_)
  refine St.callR (fun _ => rfl) (fun h2 hh => onlyI_con h2 hh.gd vt tk 108 [] (fun x => decide (x.kd ≠ 2)) (IsR.eVI ht rfl hh (fun y hy => List.mem_append_left _ (List.mem_cons_of_mem _ (List.mem_append_right _ (List.mem_append_left _ hy))))) (by omega) (fun h3 V hh3 x _ => final1_con h3 hh3.gd x)) ?_
  intro u Lu hu
  have hfl : (tk.filter fun x => decide (x.kd ≠ 2)).length ≤ 1000 := Nat.le_trans (List.length_filter_le _ _) htl
  have hfin : finL tk = (tk.filter fun x => decide (x.kd ≠ 2)).map (finI tk) := rfl
  generalize tk.filter (fun x => decide (x.kd ≠ 2)) = fl at *
  (refine St.assign ?_; refine WO.nil ?_; refine WK.seq ?_; refine WK.seq ?_; refine WK.region ?_; refine St.move ?_)
  refine St.lenG rfl (hu.isL.lenG Tryz.underlying22) ?_
  (refine St.move ?_; refine WO.nil ?_; refine WK.block ?_)
  rcases hu.rowN with ⟨rfl, rfl, h0, _⟩ | ⟨ju, rfl, rfl, hlu⟩
  · have : fl = [] := List.length_eq_zero_iff.1 h0
    subst this
    refine WK.unroll ?_
    (refine WK.seq ?_; refine WK.region ?_; refine St.bin ?_; refine WO.nil ?_; refine WK.seq ?_; refine WK.condF ?_; refine WK.exit ?_; refine WK.seq ?_; refine WK.region ?_; refine St.move ?_; refine St.assign ?_; refine St.assign ?_; refine WO.nil ?_)
    refine St.ret (by first | exact .tmp .nil | exact .cell .nil | exact .cell (.tmp .nil) | exact .tmp (.tmp .nil) | exact .cell (.cell .nil) | exact .tmp (.cell .nil) | exact .nil | exact .tmp (.cell (.tmp .nil)) | exact .cell (.tmp (.tmp .nil)) | exact .cell (.cell (.tmp .nil)) | exact .tmp (.tmp (.tmp .nil)) | exact .tmp (.tmp (.tmp (.tmp .nil))) | exact .cell (.cell (.cell .nil))) ?_
    exact ⟨[], List.nil_sublist _, _, rfl, .inr ⟨rfl, by rw [hfin]; exact .nil rfl rfl⟩⟩
  have hcl : ∀ k, ((fl.take k).map (finI tk) ++ fl.drop k).length = fl.length := fun k => by simp; omega
  refine WK.le (s' := [(7, .ptr j 0), (8, .slice ju 0 fl.length (.m 0)), (27, .slice ju 0 fl.length (.m 0)), (28, .int .i64 fl.length), (29, .int .i64 0)]) (L' := (ju, .row (enF imC fl) 114 7) :: (j, BkC (bookB l known).cl vp vt vr) :: (Lp ++ (Lt ++ Lr))) ⟨rfl, rfl, rfl, rfl, rfl, trivial⟩ ((List.sublist_append_left _ _).cons_cons _) ?_
  refine WK.inv (ι := Nat) (fun z => [(7, .ptr j 0), (8, .slice ju 0 fl.length (.m 0)), (27, .slice ju 0 fl.length (.m 0)), (28, .int .i64 fl.length), (29, .int .i64 z)]) (fun z => (ju, .row (enF imC ((fl.take z).map (finI tk) ++ fl.drop z)) 114 7) :: (j, BkC (bookB l known).cl vp vt vr) :: (Lp ++ (Lt ++ Lr))) (fun z => z ≤ fl.length) (fun z => fl.length - z) 0 (Nat.zero_le _) ⟨rfl, rfl, rfl, rfl, rfl, trivial⟩ (List.Sublist.refl _) ?_
  intro k hkl ih
  (refine WK.seq ?_; refine WK.region ?_; refine St.bin ?_; refine WO.nil ?_; refine WK.seq ?_)
  refine St.splitC (fun hc => ?_) (fun hc => ?_)
  · have hlt : k < fl.length := by simp at hc; omega
    have hlt2 : k < ((fl.take k).map (finI tk) ++ fl.drop k).length := by rw [hcl]; exact hlt
    have hnx : nthE ((fl.take k).map (finI tk) ++ fl.drop k) k = nthE fl k := by
      unfold nthE
      rw [List.getElem?_append_right (by simp; omega)]
      simp
      congr 1
      rw [Nat.min_eq_left (by omega), Nat.sub_self, Nat.add_zero]
    have hnext : ∀ a, finI tk (nthE fl k) = a → ((fl.take k).map (finI tk) ++ fl.drop k).set k a = (fl.take (k + 1)).map (finI tk) ++ fl.drop (k + 1) := fun a ha => by
      rw [List.set_append_right _ _ (by simp; omega), drop_consE hlt, take_succE hlt, List.map_append, List.append_assoc, ← ha]
      simp
      rw [Nat.min_eq_left (by omega), Nat.sub_self]
      rfl
    (refine WK.skip ?_; refine WK.seq ?_; refine WK.block ?_; refine WK.seq ?_; refine WK.region ?_; refine St.move ?_)
    refine St.at ?_
    refine St.loadX (v := .agg (imC (nthE fl k))) (fun h2 hh => by
      have := ((eh_row (l := (fl.take k).map (finI tk) ++ fl.drop k) (i := ju) (e := 114) hh (by simp)).at_ (z := (k : Int)) (n := k) (by omega) hlt2)
      rw [hnx] at this
      exact this.agg (by simp [imC]) rfl rfl rfl) ?_
    (refine St.alloc fun _ _ => ?_; refine St.assign ?_; refine St.store0 ?_; refine WO.nil ?_; refine WK.seq ?_; refine WK.region ?_; refine St.fieldAddr ?_; refine St.load ?_; refine St.bin ?_; refine WO.nil ?_)
    rename_i p10 hp10
    refine St.splitC (fun q => ?_) (fun q => ?_)
    · have h1 : (nthE fl k).kd = 1 := by simpa using q
      (refine WK.region ?_; refine St.move ?_; refine St.move ?_; refine St.move ?_; refine St.fieldAddr ?_; refine St.load ?_)
      refine St.call (fun _ => rfl) (fun h2 hh => amount_con h2 hh.gd j (nthE fl k).bl vt tk (hh.rdG (List.mem_cons_of_mem _ (List.mem_cons_of_mem _ (List.Mem.head _))) rfl) (IsR.eVI ht rfl hh (fun y hy => List.mem_cons_of_mem _ (List.mem_cons_of_mem _ (List.mem_cons_of_mem _ (List.mem_append_right _ (List.mem_append_left _ hy)))))) htl) ?_
      (refine St.move ?_; refine St.extract ?_; refine St.extract ?_)
      refine St.at ?_
      (refine St.fieldAddr ?_)
      have hst := store_am (e := 114) (sz := 7) (over_am ((fl.take k).map (finI tk) ++ fl.drop k) k hlt2 (amB tk (nthE fl k).bl).1)
      rw [hnx, hnext _ (by unfold finI; rw [if_pos h1])] at hst
      refine St.store1 (hv := hst) ?_
      (refine WO.nil ?_; refine WK.blk ?_; refine WK.region ?_; refine St.binI ?_; refine St.move ?_; refine WO.nil ?_)
      refine WK.le ?_ (List.sublist_cons_self _ _) (ih (k + 1) (by omega) (by omega))
      exact ⟨rfl, rfl, rfl, rfl, rfl, trivial⟩
    · have h1 : ¬ (nthE fl k).kd = 1 := by simpa using q
      have he : (fl.take k).map (finI tk) ++ fl.drop k = (fl.take (k + 1)).map (finI tk) ++ fl.drop (k + 1) := by
        rw [drop_consE hlt, take_succE hlt, List.map_append, List.append_assoc]
        simp [finI, h1]
      (refine WK.skip ?_; refine WK.blk ?_; refine WK.region ?_; refine St.binI ?_; refine St.move ?_; refine WO.nil ?_)
      refine WK.le ?_ ?_ (ih (k + 1) (by omega) (by omega))
      · exact ⟨rfl, rfl, rfl, rfl, rfl, trivial⟩
      · rw [he]
        exact List.sublist_cons_self _ _
  · have hkl2 : k = fl.length := by simp at hc; omega
    subst hkl2
    rw [List.take_length, List.drop_length, List.append_nil, ← hfin]
    (refine WK.exit ?_; refine WK.seq ?_; refine WK.region ?_; refine St.move ?_; refine St.assign ?_; refine St.assign ?_; refine WO.nil ?_)
    refine St.ret (by first | exact .tmp .nil | exact .cell .nil | exact .cell (.tmp .nil) | exact .tmp (.tmp .nil) | exact .cell (.cell .nil) | exact .tmp (.cell .nil) | exact .nil | exact .tmp (.cell (.tmp .nil)) | exact .cell (.tmp (.tmp .nil)) | exact .cell (.cell (.tmp .nil)) | exact .tmp (.tmp (.tmp .nil)) | exact .tmp (.tmp (.tmp (.tmp .nil))) | exact .cell (.cell (.cell .nil))) ?_
    refine ⟨_, (List.nil_sublist _).cons_cons _, _, rfl, .inr ⟨rfl, ?_⟩⟩
    have := IsR.row (e := 114) (sz := 7) (len := (finL tk).length) (l := enF imC (finL tk)) ju (enF_len imC_len _)
    rw [show fl.length = (finL tk).length by rw [hfin, List.length_map]]
    exact this
end Go.Proofs.YtkebbdpfjhhdhaaGreat
