/- Layer 8: the reference's Sorted and Merge; the law of LedgerItems. -/
import Derived.Test.YtkebbdpfjhhdhaaGreatF6
import Derived.Test.YtkebbdpfjhhdhaaGreatFy
import Derived.Test.YtkebbdpfjhhdhaaGreatFk
/- Layer 8: Merge of both, the law of LedgerItems. -/
namespace Go.Proofs.YtkebbdpfjhhdhaaGreat
open Go.Proofs.YtkebbdpfjhhdhaaGreat.Ev

theorem Bs_grow (n : Nat) (h : Heap) : Bs.ans 122 [.slice0, .int .i64 n] h = growA 122 7 114 122 [.slice0, .int .i64 n] h := (orB_right rfl).trans ((orB_right rfl).trans ((orB_right rfl).trans ((orB_right rfl).trans (orB_left rfl))))
set_option maxRecDepth 100000 in
set_option maxHeartbeats 8000000 in
theorem grow0_con (h : Heap) (g : Gd h) : Con Tryz.prog Bs 122 [.slice0, .int .i64 0] h [] .slice0 [] := by
  refine Con.start rfl Tryz.func122 rfl rfl Tryz.ntmps122 rfl rfl g ?_
  (refine WK.seq ?_; refine WK.region ?_; refine St.assign ?_; refine WO.nil ?_; refine WK.seq ?_; refine WK.seq ?_; refine WK.region ?_; refine St.move ?_; refine St.bin ?_; refine WO.nil ?_; refine WK.condF ?_; refine WK.skip ?_; refine WK.seq ?_; refine WK.seq ?_; refine WK.region ?_; refine St.move ?_; refine St.move ?_)
  refine St.any (v := .int .i64 0) ?_
  (refine St.move ?_; refine St.len0 ?_; refine St.binI ?_; refine St.binI ?_; refine St.assign ?_; refine WO.nil ?_; refine WK.seq ?_; refine WK.region ?_; refine St.move ?_; refine St.bin ?_; refine WO.nil ?_; refine WK.condF ?_; refine WK.skip ?_; refine WK.seq ?_; refine WK.region ?_; refine St.move ?_; refine St.assign ?_; refine WO.nil ?_)
  refine St.ret (by first | exact .tmp .nil | exact .cell .nil | exact .cell (.tmp .nil) | exact .tmp (.tmp .nil) | exact .cell (.cell .nil) | exact .tmp (.cell .nil) | exact .nil | exact .tmp (.cell (.tmp .nil)) | exact .cell (.tmp (.tmp .nil)) | exact .cell (.cell (.tmp .nil)) | exact .tmp (.tmp (.tmp .nil)) | exact .tmp (.tmp (.tmp (.tmp .nil))) | exact .cell (.cell (.cell .nil))) ?_
  rfl
def ItL (v : AV) (n : Nat) : Prop := ∀ h2, lenA Tryz.prog 22 h2 v = some (.int .i64 (n : Int))
set_option maxRecDepth 100000 in
set_option maxHeartbeats 8000000 in
theorem concat0_con (h : Heap) (g : Gd h) (x : Nat) (v1 v2 : AV) (hx : Rds h x 0 [v1, v2]) (e1 : ItL v1 0) (e2 : ItL v2 0) (c1 : ∀ L, ComesA h [] L v1 7 0 []) (c2 : ∀ L, ComesA h [] L v2 7 0 []) :
    Con Tryz.prog Bs 70 [.slice x 0 2 (.k 2)] h [] .slice0 [] := by
  have q1 : ∀ L, lenOfA v1 = some 0 ∧ ∀ h2, Vw h [] L h2 → firstA h2 7 0 v1 = some [] := fun L => by
    rcases c1 L with ⟨_, _, a, b⟩ | ⟨a, _⟩
    · exact ⟨a, b⟩
    · omega
  have q2 : ∀ L, lenOfA v2 = some 0 ∧ ∀ h2, Vw h [] L h2 → firstA h2 7 0 v2 = some [] := fun L => by
    rcases c2 L with ⟨_, _, a, b⟩ | ⟨a, _⟩
    · exact ⟨a, b⟩
    · omega
  refine Con.start rfl Tryz.func70 rfl rfl Tryz.ntmps70 rfl rfl g ?_
  (refine WK.seq ?_; refine WK.region ?_; refine St.assign ?_; refine WO.nil ?_; refine WK.seq ?_; refine WK.region ?_; refine St.assign ?_; refine WO.nil ?_; refine WK.seq ?_; refine WK.seq ?_; refine WK.region ?_; refine St.move ?_; refine St.len ?_; refine St.move ?_; refine WO.nil ?_; refine WK.block ?_)
  refine WK.unroll ?_
  (refine WK.seq ?_; refine WK.region ?_; refine St.bin ?_; refine WO.nil ?_; refine WK.seq ?_; refine WK.condT ?_; refine WK.skip ?_; refine WK.seq ?_; refine WK.block ?_; refine WK.seq ?_; refine WK.region ?_)
  refine St.at ?_
  skip
  refine St.loadX (fun h hh => (hh.rd (by simp) hx.1).one rfl) ?_
  (refine St.assign ?_; refine WO.nil ?_; refine WK.seq ?_; refine WK.region ?_; refine St.move ?_; refine St.move ?_)
  refine St.lenG rfl e1 ?_
  (refine St.binI ?_; refine St.assign ?_; refine WO.nil ?_; refine WK.seq ?_; refine WK.region ?_; refine St.move ?_; refine St.bin ?_; refine WO.nil ?_; refine WK.condF ?_; refine WK.skip ?_; refine WK.blk ?_; refine WK.region ?_; refine St.binI ?_; refine St.move ?_; refine WO.nil ?_)
  refine WK.unroll ?_
  (refine WK.seq ?_; refine WK.region ?_; refine St.bin ?_; refine WO.nil ?_; refine WK.seq ?_; refine WK.condT ?_; refine WK.skip ?_; refine WK.seq ?_; refine WK.block ?_; refine WK.seq ?_; refine WK.region ?_)
  refine St.at ?_
  skip
  refine St.loadX (fun h hh => (hh.rd (by simp) hx.2.1).one rfl) ?_
  (refine St.assign ?_; refine WO.nil ?_; refine WK.seq ?_; refine WK.region ?_; refine St.move ?_; refine St.move ?_)
  refine St.lenG rfl e2 ?_
  (refine St.binI ?_; refine St.assign ?_; refine WO.nil ?_; refine WK.seq ?_; refine WK.region ?_; refine St.move ?_; refine St.bin ?_; refine WO.nil ?_; refine WK.condF ?_; refine WK.skip ?_; refine WK.blk ?_; refine WK.region ?_; refine St.binI ?_; refine St.move ?_; refine WO.nil ?_)
  refine WK.unroll ?_
  (refine WK.seq ?_; refine WK.region ?_; refine St.bin ?_; refine WO.nil ?_; refine WK.seq ?_; refine WK.condF ?_; refine WK.exit ?_; refine WK.seq ?_; refine WK.region ?_; refine St.move ?_)
  refine St.call (fun _ => rfl) (fun h2 hh => grow0_con h2 hh.gd) ?_
  (refine St.assign ?_; refine WO.nil ?_; refine WK.seq ?_; refine WK.seq ?_; refine WK.region ?_; refine St.move ?_; refine St.len ?_; refine St.move ?_; refine WO.nil ?_; refine WK.block ?_)
  refine WK.unroll ?_
  (refine WK.seq ?_; refine WK.region ?_; refine St.bin ?_; refine WO.nil ?_; refine WK.seq ?_; refine WK.condT ?_; refine WK.skip ?_; refine WK.seq ?_; refine WK.block ?_; refine WK.seq ?_; refine WK.region ?_)
  refine St.at ?_
  skip
  refine St.loadX (fun h hh => (hh.rd (by simp) hx.1).one rfl) ?_
  (refine St.assign ?_; refine WO.nil ?_; refine WK.region ?_; refine St.move ?_; refine St.move ?_)
  refine St.app0 (e := 114) (sz := 7) (len := 0) (old := []) (Lv := []) (Lk := []) (v := .slice0) (IsL.nil rfl rfl) (List.Perm.refl _) ?_ ⟨rfl, rfl, rfl, rfl, rfl, rfl, rfl, rfl, (q1 []).1⟩ (fun h2 hh => (q1 _).2 h2 hh)
  (refine St.assign ?_; refine WO.nil ?_; refine WK.blk ?_; refine WK.region ?_; refine St.binI ?_; refine St.move ?_; refine WO.nil ?_)
  refine WK.unroll ?_
  (refine WK.seq ?_; refine WK.region ?_; refine St.bin ?_; refine WO.nil ?_; refine WK.seq ?_; refine WK.condT ?_; refine WK.skip ?_; refine WK.seq ?_; refine WK.block ?_; refine WK.seq ?_; refine WK.region ?_)
  refine St.at ?_
  skip
  refine St.loadX (fun h hh => (hh.rd (by simp) hx.2.1).one rfl) ?_
  (refine St.assign ?_; refine WO.nil ?_; refine WK.region ?_; refine St.move ?_; refine St.move ?_)
  refine St.app0 (e := 114) (sz := 7) (len := 0) (old := []) (Lv := []) (Lk := []) (v := .slice0) (IsL.nil rfl rfl) (List.Perm.refl _) ?_ ⟨rfl, rfl, rfl, rfl, rfl, rfl, rfl, rfl, (q2 []).1⟩ (fun h2 hh => (q2 _).2 h2 hh)
  (refine St.assign ?_; refine WO.nil ?_; refine WK.blk ?_; refine WK.region ?_; refine St.binI ?_; refine St.move ?_; refine WO.nil ?_)
  refine WK.unroll ?_
  (refine WK.seq ?_; refine WK.region ?_; refine St.bin ?_; refine WO.nil ?_; refine WK.seq ?_; refine WK.condF ?_; refine WK.exit ?_; refine WK.seq ?_; refine WK.region ?_; refine St.move ?_; refine St.assign ?_; refine WO.nil ?_)
  refine St.ret (by first | exact .tmp .nil | exact .cell .nil | exact .cell (.tmp .nil) | exact .tmp (.tmp .nil) | exact .cell (.cell .nil) | exact .tmp (.cell .nil) | exact .nil | exact .tmp (.cell (.tmp .nil)) | exact .cell (.tmp (.tmp .nil)) | exact .cell (.cell (.tmp .nil)) | exact .tmp (.tmp (.tmp .nil)) | exact .tmp (.tmp (.tmp (.tmp .nil))) | exact .cell (.cell (.cell .nil))) ?_
  rfl
set_option maxRecDepth 100000 in
set_option maxHeartbeats 8000000 in
theorem concat1_con (h : Heap) (g : Gd h) (x : Nat) (v1 v2 : AV) (n1 n2 : Nat) (l1 l2 : List AV) (hx : Rds h x 0 [v1, v2]) (e1 : ItL v1 n1) (e2 : ItL v2 n2) (c1 : ∀ L, ComesA h [] L v1 7 n1 l1) (c2 : ∀ L, ComesA h [] L v2 7 n2 l2) (hp : 0 < n1 + n2) (hl : n1 + n2 ≤ 1000) :
    ∃ u L, Con Tryz.prog Bs 70 [.slice x 0 2 (.k 2)] h [] u L ∧ IsL 114 7 (n1 + n2) (l1 ++ l2) u L := by
  refine Con.subG (Con.startR rfl Tryz.func70 rfl rfl Tryz.ntmps70 rfl rfl (SS.init g) ?_)
  (refine WK.seq ?_; refine WK.region ?_; refine St.assign ?_; refine WO.nil ?_; refine WK.seq ?_; refine WK.region ?_; refine St.assign ?_; refine WO.nil ?_; refine WK.seq ?_; refine WK.seq ?_; refine WK.region ?_; refine St.move ?_; refine St.len ?_; refine St.move ?_; refine WO.nil ?_; refine WK.block ?_)
  refine WK.unroll ?_
  (refine WK.seq ?_; refine WK.region ?_; refine St.bin ?_; refine WO.nil ?_; refine WK.seq ?_; refine WK.condT ?_; refine WK.skip ?_; refine WK.seq ?_; refine WK.block ?_; refine WK.seq ?_; refine WK.region ?_)
  refine St.at ?_
  skip
  refine St.loadX (fun h hh => (hh.rd (by simp) hx.1).one rfl) ?_
  (refine St.assign ?_; refine WO.nil ?_; refine WK.seq ?_; refine WK.region ?_; refine St.move ?_; refine St.move ?_)
  refine St.lenG rfl e1 ?_
  (refine St.binI ?_; refine St.assign ?_; refine WO.nil ?_; refine WK.seq ?_; refine WK.region ?_; refine St.move ?_; refine St.bin ?_; refine WO.nil ?_; refine WK.condF ?_; refine WK.skip ?_; refine WK.blk ?_; refine WK.region ?_; refine St.binI ?_; refine St.move ?_; refine WO.nil ?_)
  refine WK.unroll ?_
  (refine WK.seq ?_; refine WK.region ?_; refine St.bin ?_; refine WO.nil ?_; refine WK.seq ?_; refine WK.condT ?_; refine WK.skip ?_; refine WK.seq ?_; refine WK.block ?_; refine WK.seq ?_; refine WK.region ?_)
  refine St.at ?_
  skip
  refine St.loadX (fun h hh => (hh.rd (by simp) hx.2.1).one rfl) ?_
  (refine St.assign ?_; refine WO.nil ?_; refine WK.seq ?_; refine WK.region ?_; refine St.move ?_; refine St.move ?_)
  refine St.lenG rfl e2 ?_
  (refine St.binI ?_; refine St.assign ?_; refine WO.nil ?_; refine WK.seq ?_; refine WK.region ?_; refine St.move ?_; refine St.bin ?_; refine WO.nil ?_; refine WK.condF ?_; refine WK.skip ?_; refine WK.blk ?_; refine WK.region ?_; refine St.binI ?_; refine St.move ?_; refine WO.nil ?_)
  refine WK.unroll ?_
  (refine WK.seq ?_; refine WK.region ?_; refine St.bin ?_; refine WO.nil ?_; refine WK.seq ?_; refine WK.condF ?_; refine WK.exit ?_; refine WK.seq ?_; refine WK.region ?_; refine St.move ?_)
  refine St.call1 (v := fun j => .slice j 0 0 (.m 0)) (ob := fun _ => .row [] 114 7) (fun _ => rfl) (fun h2 hh => ⟨h2.next, by
    have := Con.grow (P := Tryz.prog) (B := Bs) hh.gd (Bs_grow (n1 + n2) h2) hp (by omega)
    rw [show ((n1 + n2 : Nat) : Int) = 0 + (n1 : Int) + (n2 : Int) by omega] at this
    exact this⟩) (fun j hj => ?_)
  (refine St.assign ?_; refine WO.nil ?_; refine WK.seq ?_; refine WK.seq ?_; refine WK.region ?_; refine St.move ?_; refine St.len ?_; refine St.move ?_; refine WO.nil ?_; refine WK.block ?_)
  refine WK.unroll ?_
  (refine WK.seq ?_; refine WK.region ?_; refine St.bin ?_; refine WO.nil ?_; refine WK.seq ?_; refine WK.condT ?_; refine WK.skip ?_; refine WK.seq ?_; refine WK.block ?_; refine WK.seq ?_; refine WK.region ?_)
  refine St.at ?_
  skip
  refine St.loadX (fun h hh => (hh.rd (by simp) hx.1).one rfl) ?_
  (refine St.assign ?_; refine WO.nil ?_; refine WK.region ?_; refine St.move ?_; refine St.move ?_)
  refine St.appG (e := 114) (sz := 7) (n := n1) (new := l1) (len := 0) (old := []) (Lv := [(j, .row [] 114 7)]) (Lk := []) (IsL.row j rfl) (List.Perm.refl _) ⟨rfl, rfl, rfl, rfl, rfl, rfl, rfl, rfl⟩ (c1 _) (by omega) (fun v' Lv' hv' => ?_)
  (refine St.assign ?_; refine WO.nil ?_; refine WK.blk ?_; refine WK.region ?_; refine St.binI ?_; refine St.move ?_; refine WO.nil ?_)
  refine WK.unroll ?_
  (refine WK.seq ?_; refine WK.region ?_; refine St.bin ?_; refine WO.nil ?_; refine WK.seq ?_; refine WK.condT ?_; refine WK.skip ?_; refine WK.seq ?_; refine WK.block ?_; refine WK.seq ?_; refine WK.region ?_)
  refine St.at ?_
  skip
  refine St.loadX (fun h hh => (hh.rd (by simp) hx.2.1).one rfl) ?_
  (refine St.assign ?_; refine WO.nil ?_; refine WK.region ?_; refine St.move ?_; refine St.move ?_)
  refine St.appG (e := 114) (sz := 7) (n := n2) (new := l2) (Lk := []) hv' (by rw [List.append_nil]) ⟨rfl, rfl, rfl, rfl, rfl, rfl, rfl, rfl⟩ (c2 _) (by omega) (fun v2' Lv2 hv2 => ?_)
  (refine St.assign ?_; refine WO.nil ?_; refine WK.blk ?_; refine WK.region ?_; refine St.binI ?_; refine St.move ?_; refine WO.nil ?_)
  refine WK.unroll ?_
  (refine WK.seq ?_; refine WK.region ?_; refine St.bin ?_; refine WO.nil ?_; refine WK.seq ?_; refine WK.condF ?_; refine WK.exit ?_; refine WK.seq ?_; refine WK.region ?_; refine St.move ?_; refine St.assign ?_; refine WO.nil ?_)
  refine St.ret (by first | exact .tmp .nil | exact .cell .nil | exact .cell (.tmp .nil) | exact .tmp (.tmp .nil) | exact .cell (.cell .nil) | exact .tmp (.cell .nil) | exact .nil | exact .tmp (.cell (.tmp .nil)) | exact .cell (.tmp (.tmp .nil)) | exact .cell (.cell (.tmp .nil)) | exact .tmp (.tmp (.tmp .nil)) | exact .tmp (.tmp (.tmp (.tmp .nil))) | exact .cell (.cell (.cell .nil))) ?_
  rw [Nat.zero_add, List.nil_append] at hv2
  rw [List.append_nil]
  exact ⟨_, List.Sublist.refl _, hv2⟩
theorem IsL.g {h0 h : Heap} {W : List Nat} {V : Ob} {l : List Im} {w : AV} {Lw : Ob} {n : Nat} (k : IsL 114 7 n (enF imC l) w Lw) (hn : l.length = n) (hh : Vw h0 W V h) (hm : ∀ x ∈ Lw, x ∈ V) : ImG h w l := by
  subst hn
  cases k with
  | nil h1 h2 => exact IsR.g (IsR.nil (e := 114) (sz := 7) h1 h2) rfl hh (fun x hx => by cases hx)
  | row i h1 => exact IsR.g (IsR.row (e := 114) (sz := 7) i h1) rfl hh hm
  | cells i c rest t h1 h2 h3 =>
    have hs : sizeT Tryz.prog 114 = some 7 := by kernel_rfl
    have ho := hh.own _ (hm _ (List.mem_cons_self ..))
    have he : ImH h i 0 l := fun j hj => by
      rw [Nat.zero_add]
      exact hh.rdsEn (hm _ (List.mem_cons_self ..)) (AObj.has_cells _ _).left _ _ _ (enF_drop imC_len l j hj)
    refine ⟨?_, fun q hq => ⟨.slice i 0 q (.k c), he.takV (by omega), fun h2 V2 hh2 => slK_to Tryz.underlying22 hs (by omega) h3⟩⟩
    rcases Nat.eq_zero_or_pos l.length with h0 | h0
    · have : l = [] := List.length_eq_zero_iff.1 h0
      subst this
      refine .emp i 0 (.k c) ho.2 ?_
      unfold Heap.loadN
      rw [ho.1]
      simp [takeN]
    · exact .some i 0 (.k c) l h0 he
/-- both lists, one behind the other -/
theorem concat_con (h : Heap) (g : Gd h) (x : Nat) (v1 v2 : AV) (a b : List Im) (hx : Rds h x 0 [v1, v2]) (h1 : ImG h v1 a) (h2 : ImG h v2 b) (hl : a.length + b.length ≤ 1000) : ∃ u L, Con Tryz.prog Bs 70 [.slice x 0 2 (.k 2)] h [] u L ∧ IsL 114 7 (a ++ b).length (enF imC (a ++ b)) u L := by
  have c1 : ∀ L, ComesA h [] L v1 7 a.length (enF imC a) := fun L => h1.z.comes (by omega)
  have c2 : ∀ L, ComesA h [] L v2 7 b.length (enF imC b) := fun L => h2.z.comes (by omega)
  have e1 : ItL v1 a.length := h1.z.eV.llen
  have e2 : ItL v2 b.length := h2.z.eV.llen
  rw [enF_app, List.length_append]
  rcases Nat.eq_zero_or_pos (a.length + b.length) with h0 | h0
  · have ea : a = [] := List.length_eq_zero_iff.1 (by omega)
    have eb : b = [] := List.length_eq_zero_iff.1 (by omega)
    subst ea eb
    exact ⟨_, _, concat0_con h g x v1 v2 hx e1 e2 c1 c2, .nil rfl rfl⟩
  · exact concat1_con h g x v1 v2 _ _ _ _ hx e1 e2 c1 c2 h0 hl
theorem ImZ.form {h : Heap} {v : AV} {l : List Im} (k : ImZ h v l) : v = .slice0 ∨ ∃ b off n c, v = .slice b off n c := by
  cases k with
  | nil => exact .inl rfl
  | emp b off m _ _ => exact .inr ⟨b, off, 0, m, rfl⟩
  | some b off c l _ _ => exact .inr ⟨b, off, _, c, rfl⟩
set_option maxRecDepth 100000 in
theorem mk2 {va vb : AV} (ha : va = .slice0 ∨ ∃ b off n c, va = .slice b off n c) (hb : vb = .slice0 ∨ ∃ b off n c, vb = .slice b off n c) : evBuildSlice Tryz.prog 176 2 [(0, va), (1, vb)] = some ([va, vb], 22) := by
  rcases ha with rfl | ⟨_, _, _, _, rfl⟩ <;> rcases hb with rfl | ⟨_, _, _, _, rfl⟩ <;> rfl
def mrgE (a b : List Im) : Int := if chkI a = 0 then (if chkI b = 0 then chkI (a ++ b) else chkI b) else chkI a
theorem chk_len {l : List Im} (h : chkI l = 0) : l.length ≤ 60 := (chk_ok h).1
/-- what both Sorted return, whatever the way -/
def SrtV (er : Int) (l : List Im) (u : AV) (L : Ob) : Prop := (er ≠ 0 ∧ u = .slice0 ∧ L = []) ∨ (er = 0 ∧ ClnR l u L)
set_option maxRecDepth 100000 in
set_option maxHeartbeats 8000000 in
theorem merge_con (h : Heap) (g : Gd h) (va vb : AV) (a b : List Im) (ha : ImG h va a) (hb : ImG h vb b) : ∃ w L, Con Tryz.prog Bs 21 [va, vb] h [] w L ∧ ∃ u, w = .tup [u, .int .i64 (mrgE a b)] ∧ SrtV (mrgE a b) (a ++ b) u L := by
  refine Con.subG (Con.startR rfl Tryz.func21 rfl rfl Tryz.ntmps21 rfl rfl (SS.init g) ?_)
  (refine WK.seq ?_; refine WK.region ?_; refine St.assign ?_; refine St.assign ?_; refine WO.nil ?_; refine WK.seq ?_; refine WK.seq ?_; refine WK.region ?_; refine St.move ?_)
  refine St.call (fun _ => rfl) (fun h2 hh => check_con h2 hh.gd va a (ha.z.eV.vw hh) (ha.c.vw hh)) ?_
  (refine St.assign ?_; refine WO.nil ?_; refine WK.seq ?_; refine WK.region ?_; refine St.move ?_; refine St.bin ?_; refine WO.nil ?_)
  refine St.splitC (fun q => ?_) (fun q => ?_)
  · have e : ¬ chkI a = 0 := by simpa using q
    have em : mrgE a b = chkI a := by unfold mrgE; rw [if_neg e]
    (refine WK.seq ?_; refine WK.region ?_; refine St.move ?_; refine St.assign ?_; refine St.assign ?_; refine WO.nil ?_)
    refine St.ret (by first | exact .tmp .nil | exact .cell .nil | exact .cell (.tmp .nil) | exact .tmp (.tmp .nil) | exact .cell (.cell .nil) | exact .tmp (.cell .nil) | exact .nil | exact .tmp (.cell (.tmp .nil)) | exact .cell (.tmp (.tmp .nil)) | exact .cell (.cell (.tmp .nil)) | exact .tmp (.tmp (.tmp .nil)) | exact .tmp (.tmp (.tmp (.tmp .nil))) | exact .cell (.cell (.cell .nil))) ?_
    exact ⟨[], List.nil_sublist _, _, by rw [em]; rfl, .inl ⟨by rw [em]; exact e, rfl, rfl⟩⟩
  have ea : chkI a = 0 := by simpa using q
  (refine WK.skip ?_; refine WK.seq ?_; refine WK.seq ?_; refine WK.region ?_; refine St.move ?_)
  refine St.call (fun _ => rfl) (fun h2 hh => check_con h2 hh.gd vb b (hb.z.eV.vw hh) (hb.c.vw hh)) ?_
  (refine St.assign ?_; refine WO.nil ?_; refine WK.seq ?_; refine WK.region ?_; refine St.move ?_; refine St.bin ?_; refine WO.nil ?_)
  refine St.splitC (fun q => ?_) (fun q => ?_)
  · have e : ¬ chkI b = 0 := by simpa using q
    have em : mrgE a b = chkI b := by unfold mrgE; rw [if_pos ea, if_neg e]
    (refine WK.seq ?_; refine WK.region ?_; refine St.move ?_; refine St.assign ?_; refine St.assign ?_; refine WO.nil ?_)
    refine St.ret (by first | exact .tmp .nil | exact .cell .nil | exact .cell (.tmp .nil) | exact .tmp (.tmp .nil) | exact .cell (.cell .nil) | exact .tmp (.cell .nil) | exact .nil | exact .tmp (.cell (.tmp .nil)) | exact .cell (.tmp (.tmp .nil)) | exact .cell (.cell (.tmp .nil)) | exact .tmp (.tmp (.tmp .nil)) | exact .tmp (.tmp (.tmp (.tmp .nil))) | exact .cell (.cell (.cell .nil))) ?_
    exact ⟨[], List.nil_sublist _, _, by rw [em]; rfl, .inl ⟨by rw [em]; exact e, rfl, rfl⟩⟩
  have eb : chkI b = 0 := by simpa using q
  have em : mrgE a b = chkI (a ++ b) := by unfold mrgE; rw [if_pos ea, if_pos eb]
  rw [em]
  have la := chk_len ea
  have lb := chk_len eb
  (refine WK.skip ?_; refine WK.seq ?_; refine WK.region ?_; refine St.move ?_; refine St.move ?_)
  refine St.mkS (lv := [(0, va), (1, vb)]) (c := [va, vb]) (e := 22) (fun x hx => ?_) (hx := by rfl) (hb := mk2 (ha.z.form) (hb.z.form))
  skip
  refine St.callR (fun _ => rfl) (fun h2 hh => concat_con h2 hh.gd x va vb a b (hh.rdsEn (List.Mem.head _) (.inl ⟨[], _, by rw [List.append_nil]⟩) [va, vb] [] 0 (by rw [List.append_nil]; rfl)) (ha.vw hh) (hb.vw hh) (by omega)) ?_
  intro u1 L1 h1
  skip
  refine St.callR (fun _ => rfl) (fun h2 hh => psorted_con h2 hh.gd u1 (a ++ b) (IsL.g h1 rfl hh (fun x hx => by simp [hx])).z (IsL.g h1 rfl hh (fun x hx => by simp [hx])).c) ?_
  rintro _ L2 ⟨u, rfl, hu⟩
  (refine St.extract ?_; refine St.extract ?_; refine St.assign ?_; refine St.assign ?_; refine WO.nil ?_)
  refine St.ret (by first | exact .tmp .nil | exact .cell .nil | exact .cell (.tmp .nil) | exact .tmp (.tmp .nil) | exact .cell (.cell .nil) | exact .tmp (.cell .nil) | exact .nil | exact .tmp (.cell (.tmp .nil)) | exact .cell (.tmp (.tmp .nil)) | exact .cell (.cell (.tmp .nil)) | exact .tmp (.tmp (.tmp .nil)) | exact .tmp (.tmp (.tmp (.tmp .nil))) | exact .cell (.cell (.cell .nil))) ?_
  exact ⟨L2, List.sublist_append_left _ _, u, rfl, hu⟩
end Go.Proofs.YtkebbdpfjhhdhaaGreat

/- Layer 8: the reference's Sorted and Merge; the law of LedgerItems. -/
namespace Go.Proofs.YtkebbdpfjhhdhaaGreat
open Go.Proofs.YtkebbdpfjhhdhaaGreat.Ev

/-- what the reference's Sorted and Merge return -/
def RSrt (er : Int) (l : List Im) (u : AV) (L : Ob) : Prop := ∃ w, u = .agg [w, .int .i64 er] ∧ ((er ≠ 0 ∧ w = .slice0 ∧ L = []) ∨ (er = 0 ∧ IsR 114 7 (insJ [] l).length (enF imC (insJ [] l)) w L))
set_option maxRecDepth 100000 in
set_option maxHeartbeats 8000000 in
theorem rSorted_con (h : Heap) (g : Gd h) (v : AV) (l : List Im) (hv : ImV h v l) : ∃ u L, Con Tryz.prog Bs 20 [v] h [] u L ∧ RSrt (chkI l) l u L := by
  refine Con.subG (Con.startR rfl Tryz.func20 rfl rfl Tryz.ntmps20 rfl rfl (SS.init g) ?_)
  (refine WK.seq ?_; refine WK.region ?_; refine St.alloc fun _ _ => ?_; refine WO.nil ?_; refine WK.seq ?_; refine WK.region ?_; refine St.move ?_)
  rename_i p2 hp2
  refine St.call (fun _ => rfl) (fun h2 hh => rcheck_con h2 hh.gd v l (hv.vw ⟨hh.gd, hh.nx, hh.old, hh.own⟩)) ?_
  (refine St.assign ?_; refine WO.nil ?_; refine WK.seq ?_; refine WK.seq ?_; refine WK.region ?_; refine St.move ?_; refine St.bin ?_; refine WO.nil ?_)
  refine St.splitC (fun q => ?_) (fun q => ?_)
  · have e : ¬ chkI l = 0 := by simpa using q
    (refine WK.seq ?_; refine WK.region ?_; refine St.move ?_; refine St.build ?_; refine St.store0 ?_; refine WO.nil ?_)
    refine St.ret (by first | exact .tmp .nil | exact .cell .nil | exact .cell (.tmp .nil) | exact .tmp (.tmp .nil) | exact .cell (.cell .nil) | exact .tmp (.cell .nil) | exact .nil | exact .tmp (.cell (.tmp .nil)) | exact .cell (.tmp (.tmp .nil)) | exact .cell (.cell (.tmp .nil)) | exact .tmp (.tmp (.tmp .nil)) | exact .tmp (.tmp (.tmp (.tmp .nil))) | exact .cell (.cell (.cell .nil))) ?_
    exact ⟨[], List.nil_sublist _, _, rfl, .inl ⟨e, rfl, rfl⟩⟩
  have e : chkI l = 0 := by simpa using q
  rw [e]
  (refine WK.skip ?_; refine WK.seq ?_; refine WK.region ?_; refine St.move ?_)
  refine St.callR (fun _ => rfl) (fun h2 hh => rsorted_con h2 hh.gd v l (hv.vw ⟨hh.gd, hh.nx, hh.old, hh.own⟩) (by have := chk_len e; omega)) ?_
  intro u Lu hu
  rcases hu.rowN with ⟨rfl, rfl, h0, h1⟩ | ⟨j, rfl, rfl, h1⟩
  · (refine St.build ?_; refine St.store0 ?_; refine WO.nil ?_)
    refine St.ret (by first | exact .tmp .nil | exact .cell .nil | exact .cell (.tmp .nil) | exact .tmp (.tmp .nil) | exact .cell (.cell .nil) | exact .tmp (.cell .nil) | exact .nil | exact .tmp (.cell (.tmp .nil)) | exact .cell (.tmp (.tmp .nil)) | exact .cell (.cell (.tmp .nil)) | exact .tmp (.tmp (.tmp .nil)) | exact .tmp (.tmp (.tmp (.tmp .nil))) | exact .cell (.cell (.cell .nil))) ?_
    exact ⟨[], List.nil_sublist _, _, rfl, .inr ⟨rfl, hu⟩⟩
  · (refine St.build ?_; refine St.store1 ?_; refine WO.nil ?_)
    refine St.ret (by first | exact .tmp .nil | exact .cell .nil | exact .cell (.tmp .nil) | exact .tmp (.tmp .nil) | exact .cell (.cell .nil) | exact .tmp (.cell .nil) | exact .nil | exact .tmp (.cell (.tmp .nil)) | exact .cell (.tmp (.tmp .nil)) | exact .cell (.cell (.tmp .nil)) | exact .tmp (.tmp (.tmp .nil)) | exact .tmp (.tmp (.tmp (.tmp .nil))) | exact .cell (.cell (.cell .nil))) ?_
    exact ⟨_, (List.nil_sublist _).cons_cons _, _, rfl, .inr ⟨rfl, hu⟩⟩
set_option maxRecDepth 100000 in
set_option maxHeartbeats 8000000 in
theorem rMerge_con (h : Heap) (g : Gd h) (va vb : AV) (a b : List Im) (ha : ImG h va a) (hb : ImG h vb b) : ∃ u L, Con Tryz.prog Bs 22 [va, vb] h [] u L ∧ RSrt (mrgE a b) (a ++ b) u L := by
  refine Con.subG (Con.startR rfl Tryz.func22 rfl rfl Tryz.ntmps22 rfl rfl (SS.init g) ?_)
  (refine WK.seq ?_; refine WK.region ?_; refine St.alloc fun _ _ => ?_; refine WO.nil ?_; refine WK.seq ?_; refine WK.region ?_; refine St.move ?_)
  rename_i p4 hp4
  refine St.call (fun _ => rfl) (fun h2 hh => rcheck_con h2 hh.gd va a (ha.z.eV.vw hh)) ?_
  (refine St.assign ?_; refine WO.nil ?_; refine WK.seq ?_; refine WK.seq ?_; refine WK.region ?_; refine St.move ?_; refine St.bin ?_; refine WO.nil ?_)
  refine St.splitC (fun q => ?_) (fun q => ?_)
  · have e : ¬ chkI a = 0 := by simpa using q
    have em : mrgE a b = chkI a := by unfold mrgE; rw [if_neg e]
    (refine WK.seq ?_; refine WK.region ?_; refine St.move ?_; refine St.build ?_; refine St.store0 ?_; refine WO.nil ?_)
    refine St.ret (by first | exact .tmp .nil | exact .cell .nil | exact .cell (.tmp .nil) | exact .tmp (.tmp .nil) | exact .cell (.cell .nil) | exact .tmp (.cell .nil) | exact .nil | exact .tmp (.cell (.tmp .nil)) | exact .cell (.tmp (.tmp .nil)) | exact .cell (.cell (.tmp .nil)) | exact .tmp (.tmp (.tmp .nil)) | exact .tmp (.tmp (.tmp (.tmp .nil))) | exact .cell (.cell (.cell .nil))) ?_
    exact ⟨[], List.nil_sublist _, _, by rw [em]; rfl, .inl ⟨by rw [em]; exact e, rfl, rfl⟩⟩
  have ea : chkI a = 0 := by simpa using q
  (refine WK.skip ?_; refine WK.seq ?_; refine WK.region ?_; refine St.move ?_)
  refine St.call (fun _ => rfl) (fun h2 hh => rcheck_con h2 hh.gd vb b (hb.z.eV.vw hh)) ?_
  (refine St.assign ?_; refine WO.nil ?_; refine WK.seq ?_; refine WK.seq ?_; refine WK.region ?_; refine St.move ?_; refine St.bin ?_; refine WO.nil ?_)
  refine St.splitC (fun q => ?_) (fun q => ?_)
  · have e : ¬ chkI b = 0 := by simpa using q
    have em : mrgE a b = chkI b := by unfold mrgE; rw [if_pos ea, if_neg e]
    (refine WK.seq ?_; refine WK.region ?_; refine St.move ?_; refine St.build ?_; refine St.store0 ?_; refine WO.nil ?_)
    refine St.ret (by first | exact .tmp .nil | exact .cell .nil | exact .cell (.tmp .nil) | exact .tmp (.tmp .nil) | exact .cell (.cell .nil) | exact .tmp (.cell .nil) | exact .nil | exact .tmp (.cell (.tmp .nil)) | exact .cell (.tmp (.tmp .nil)) | exact .cell (.cell (.tmp .nil)) | exact .tmp (.tmp (.tmp .nil)) | exact .tmp (.tmp (.tmp (.tmp .nil))) | exact .cell (.cell (.cell .nil))) ?_
    exact ⟨[], List.nil_sublist _, _, by rw [em]; rfl, .inl ⟨by rw [em]; exact e, rfl, rfl⟩⟩
  have eb : chkI b = 0 := by simpa using q
  have em : mrgE a b = chkI (a ++ b) := by unfold mrgE; rw [if_pos ea, if_pos eb]
  rw [em]
  have la := chk_len ea
  have lb := chk_len eb
  (refine WK.skip ?_; refine WK.seq ?_; refine WK.region ?_; refine St.mkS fun _ _ => ?_; refine St.move ?_)
  rename_i x hx
  refine St.appG (e := 114) (sz := 7) (len := 0) (n := a.length) (old := []) (new := enF imC a) (Lv := [(x, .cells [] 114)]) (Lk := [(p4, .cells [.slice0, .int .i64 0] 29)]) (.cells x 0 [] 114 rfl rfl (Nat.le_refl _)) (List.Perm.refl _) ⟨rfl, rfl, rfl, rfl, rfl, rfl, rfl, rfl⟩ (ha.z.comes (by omega)) (by omega) (fun v1 L1 h1 => ?_)
  (refine St.move ?_)
  refine St.appG (e := 114) (sz := 7) (n := b.length) (new := enF imC b) (Lk := [(p4, .cells [.slice0, .int .i64 0] 29)]) h1 (List.Perm.refl _) ⟨rfl, rfl, rfl, rfl, rfl, rfl, rfl, rfl⟩ (hb.z.comes (by omega)) (by omega) (fun v2 L2 h2 => ?_)
  have h3 : IsL 114 7 (a ++ b).length (enF imC (a ++ b)) v2 L2 := by
    rw [List.length_append, enF_app]
    rw [Nat.zero_add, List.nil_append] at h2
    exact h2
  refine WO.permF (L' := (p4, .cells [.slice0, .int .i64 0] 29) :: L2) (List.perm_append_comm (l₁ := [_]) (l₂ := L2)) ?_
  skip
  refine St.callR (fun _ => rfl) (fun h2 hh => rSorted_con h2 hh.gd v2 (a ++ b) (en_v imC_len h3 rfl hh (fun x hx => List.mem_cons_of_mem _ hx))) ?_
  rintro _ Lu ⟨w, rfl, hu⟩
  have hwf : w = .slice0 ∨ ∃ j n, w = .slice j 0 n (.m 0) := by
    rcases hu with ⟨_, rfl, _⟩ | ⟨_, hu⟩
    · exact .inl rfl
    · rcases hu.rowN with ⟨rfl, _⟩ | ⟨j, rfl, _⟩
      · exact .inl rfl
      · exact .inr ⟨j, _, rfl⟩
  refine WO.permF (L' := (p4, .cells [.slice0, .int .i64 0] 29) :: (Lu ++ L2)) (List.perm_middle.symm) ?_
  rcases hwf with rfl | ⟨j, n, rfl⟩
  · (refine St.store0 ?_; refine WO.nil ?_)
    refine St.ret (by first | exact .tmp .nil | exact .cell .nil | exact .cell (.tmp .nil) | exact .tmp (.tmp .nil) | exact .cell (.cell .nil) | exact .tmp (.cell .nil) | exact .nil | exact .tmp (.cell (.tmp .nil)) | exact .cell (.tmp (.tmp .nil)) | exact .cell (.cell (.tmp .nil)) | exact .tmp (.tmp (.tmp .nil)) | exact .tmp (.tmp (.tmp (.tmp .nil))) | exact .cell (.cell (.cell .nil))) ?_
    exact ⟨Lu, (List.sublist_append_left _ _).cons _, _, rfl, hu⟩
  · (refine St.store0 ?_; refine WO.nil ?_)
    refine St.ret (by first | exact .tmp .nil | exact .cell .nil | exact .cell (.tmp .nil) | exact .tmp (.tmp .nil) | exact .cell (.cell .nil) | exact .tmp (.cell .nil) | exact .nil | exact .tmp (.cell (.tmp .nil)) | exact .cell (.tmp (.tmp .nil)) | exact .cell (.cell (.tmp .nil)) | exact .tmp (.tmp (.tmp .nil)) | exact .tmp (.tmp (.tmp (.tmp .nil))) | exact .cell (.cell (.cell .nil))) ?_
    exact ⟨Lu, (List.sublist_append_left _ _).cons _, _, rfl, hu⟩
/-- both lists are the same -/
theorem sameS_con (h2 : Heap) (g : Gd h2) {h : Heap} {W : List Nat} {V : Ob} {er : Int} {l : List Im} {u w : AV} {L1 L2 : Ob} (hh : Vw h W V h2) (hl : er = 0 → chkI l = 0) (h1 : SrtV er l u L1) (h3 : (er ≠ 0 ∧ w = .slice0 ∧ L2 = []) ∨ (er = 0 ∧ IsR 114 7 (insJ [] l).length (enF imC (insJ [] l)) w L2)) (m1 : ∀ x ∈ L1, x ∈ V) (m2 : ∀ x ∈ L2, x ∈ V) : Con Tryz.prog Bs 25 [u, w] h2 [] (.bool true) [] := by
  rcases h1 with ⟨e1, rfl, rfl⟩ | ⟨e1, h1⟩
  · rcases h3 with ⟨_, rfl, rfl⟩ | ⟨e3, _⟩
    · exact same_con h2 g _ _ [] (.inl ⟨.inl rfl, rfl⟩) (.inl ⟨.inl rfl, rfl⟩) (by simp)
    · exact absurd e3 e1
  · rcases h3 with ⟨e3, _⟩ | ⟨_, h3⟩
    · exact absurd e1 e3
    · have hc := hl e1
      have e : insJ [] l = cleanJ l := ins_comp (one_of_chk hc)
      rw [e] at h3
      exact same_con h2 g _ _ (cleanJ l) (ClnR.eV h1 hh m1) (IsR.eVI h3 rfl hh m2) (by have := cleanJ_len l; have := chk_len hc; omega)
set_option maxRecDepth 100000 in
set_option maxHeartbeats 16000000 in
theorem itemsLaw_con (h : Heap) (g : Gd h) (va vb : AV) (a b : List Im) (ha : ImG h va a) (hb : ImG h vb b) : Con Tryz.prog Bs 3 [va, vb] h [] (.bool true) [] := by
  refine Con.start rfl Tryz.func3 rfl rfl Tryz.ntmps3 rfl rfl g ?_
  (refine WK.seq ?_; refine WK.region ?_; refine St.assign ?_; refine WO.nil ?_; refine WK.seq ?_; refine WK.seq ?_; refine WK.region ?_; refine St.move ?_)
  refine St.call (fun _ => rfl) (fun h2 hh => few_con h2 hh.gd va a (ha.z.eV.vw hh)) ?_
  (refine St.un ?_; refine St.move ?_)
  refine St.split (fun q => ?_) (fun q => ?_)
  · (refine St.skip ?_; refine St.skip ?_; refine St.skip ?_; refine St.pickT ?_; refine WO.nil ?_; refine WK.condT ?_; refine WK.seq ?_; refine WK.region ?_)
    refine St.call (fun _ => rfl) (fun h2 hh => sanity_con h2 hh.gd) ?_
    (refine St.assign ?_; refine WO.nil ?_)
    refine St.ret (by first | exact .tmp .nil | exact .cell .nil | exact .cell (.tmp .nil) | exact .tmp (.tmp .nil) | exact .cell (.cell .nil) | exact .tmp (.cell .nil) | exact .nil | exact .tmp (.cell (.tmp .nil)) | exact .cell (.tmp (.tmp .nil)) | exact .cell (.cell (.tmp .nil)) | exact .tmp (.tmp (.tmp .nil)) | exact .tmp (.tmp (.tmp (.tmp .nil))) | exact .cell (.cell (.cell .nil))) ?_
    rfl
  clear q
  (refine St.move ?_)
  refine St.call (fun _ => rfl) (fun h2 hh => few_con h2 hh.gd vb b (hb.z.eV.vw hh)) ?_
  (refine St.un ?_; refine St.pickF ?_; refine WO.nil ?_)
  refine St.splitC (fun q => ?_) (fun q => ?_)
  · (refine WK.seq ?_; refine WK.region ?_)
    refine St.call (fun _ => rfl) (fun h2 hh => sanity_con h2 hh.gd) ?_
    (refine St.assign ?_; refine WO.nil ?_)
    refine St.ret (by first | exact .tmp .nil | exact .cell .nil | exact .cell (.tmp .nil) | exact .tmp (.tmp .nil) | exact .cell (.cell .nil) | exact .tmp (.cell .nil) | exact .nil | exact .tmp (.cell (.tmp .nil)) | exact .cell (.tmp (.tmp .nil)) | exact .cell (.cell (.tmp .nil)) | exact .tmp (.tmp (.tmp .nil)) | exact .tmp (.tmp (.tmp (.tmp .nil))) | exact .cell (.cell (.cell .nil))) ?_
    rfl
  clear q
  (refine WK.skip ?_; refine WK.seq ?_; refine WK.region ?_; refine St.move ?_)
  refine St.callR (fun _ => rfl) (fun h2 hh => psorted_con h2 hh.gd va a (ha.z.vw hh) (ha.c.vw hh)) ?_
  rintro _ L1 ⟨u1, rfl, h1⟩
  have h1 : SrtV (chkI a) a u1 L1 := h1
  (refine St.move ?_; refine St.extract ?_; refine St.extract ?_; refine St.assign ?_; refine St.assign ?_; refine WO.nil ?_; refine WK.seq ?_; refine WK.region ?_; refine St.move ?_)
  refine St.callR (fun _ => rfl) (fun h2 hh => rSorted_con h2 hh.gd va a (ha.z.eV.vw hh)) ?_
  rintro _ L2 ⟨w1, rfl, h2⟩
  have hw1 : ∃ z, zeroT Tryz.prog 29 = some z ∧ z.cells = [.slice0, .int .i64 0] := ⟨_, rfl, rfl⟩
  have hf1 : w1 = .slice0 ∨ ∃ j n, w1 = .slice j 0 n (.m 0) := by
    rcases h2 with ⟨_, rfl, _⟩ | ⟨_, h2⟩
    · exact .inl rfl
    · rcases h2.rowN with ⟨rfl, _⟩ | ⟨j, rfl, _⟩
      · exact .inl rfl
      · exact .inr ⟨j, _, rfl⟩
  have hst1 : ∀ {K0 : Ob}, (AObj.cells [.slice0, .int .i64 0] 29).store Tryz.prog 29 0 (.agg [w1, .int .i64 (chkI a)]) = some (.cells [w1, .int .i64 (chkI a)] 29) := fun {K0} => by
    rcases hf1 with rfl | ⟨j, n, rfl⟩ <;> rfl
  (refine St.alloc fun _ _ => ?_)
  rename_i p7 hp7
  refine St.store0 (hv := hst1 (K0 := [])) ?_
  (refine WO.nil ?_; refine WK.seq ?_; refine WK.region ?_; refine St.move ?_; refine St.move ?_)
  refine St.callR (fun _ => rfl) (fun h2 hh => merge_con h2 hh.gd va vb a b (ha.vw hh) (hb.vw hh)) ?_
  rintro _ L3 ⟨u2, rfl, h3⟩
  (refine St.move ?_; refine St.extract ?_; refine St.extract ?_; refine St.assign ?_; refine St.assign ?_; refine WO.nil ?_; refine WK.seq ?_; refine WK.region ?_; refine St.move ?_; refine St.move ?_)
  refine St.callR (fun _ => rfl) (fun h2 hh => rMerge_con h2 hh.gd va vb a b (ha.vw hh) (hb.vw hh)) ?_
  rintro _ L4 ⟨w2, rfl, h4⟩
  have hf2 : w2 = .slice0 ∨ ∃ j n, w2 = .slice j 0 n (.m 0) := by
    rcases h4 with ⟨_, rfl, _⟩ | ⟨_, h4⟩
    · exact .inl rfl
    · rcases h4.rowN with ⟨rfl, _⟩ | ⟨j, rfl, _⟩
      · exact .inl rfl
      · exact .inr ⟨j, _, rfl⟩
  have hst2 : ∀ {K0 : Ob}, (AObj.cells [.slice0, .int .i64 0] 29).store Tryz.prog 29 0 (.agg [w2, .int .i64 (mrgE a b)]) = some (.cells [w2, .int .i64 (mrgE a b)] 29) := fun {K0} => by
    rcases hf2 with rfl | ⟨j, n, rfl⟩ <;> rfl
  (refine St.alloc fun _ _ => ?_)
  rename_i p10 hp10
  refine St.store0 (hv := hst2 (K0 := [])) ?_
  refine WO.permF (L' := (p10, .cells [w2, .int .i64 (mrgE a b)] 29) :: (p7, .cells [w1, .int .i64 (chkI a)] 29) :: (L1 ++ (L2 ++ (L3 ++ L4)))) (by (refine perm_cnt fun _ _ => ?_; simp only [List.append_eq, List.cons_append, List.nil_append, List.count_append, List.count_cons, List.count_nil, Nat.add_zero, Nat.zero_add]; try ac_rfl)) ?_
  (refine WO.nil ?_; refine WK.seq ?_; refine WK.region ?_)
  refine St.call (fun _ => rfl) (fun h2 hh => sanity_con h2 hh.gd) ?_
  (refine St.move ?_; refine St.move ?_)
  refine St.call (fun _ => rfl) (fun h2 hh => check_con h2 hh.gd va a (ha.z.eV.vw hh) (ha.c.vw hh)) ?_
  (refine St.move ?_)
  refine St.call (fun _ => rfl) (fun h2 hh => rcheck_con h2 hh.gd va a (ha.z.eV.vw hh)) ?_
  have hr : ∀ n : Int, (n == n) = true := fun n => by simp
  (refine St.bin ?_; refine St.pickT ?_; refine St.move ?_)
  refine St.split (fun q => ?_) (fun q => ?_)
  rotate_left
  · exact absurd q (by simp)
  clear q
  (refine St.move ?_; refine St.fieldAddr ?_; refine St.load ?_)
  refine St.call (fun _ => rfl) (fun h3 hh => sameS_con h3 hh.gd hh (fun e => e) h1 h2 (fun x hx => by simp [hx]) (fun x hx => by simp [hx])) ?_
  (refine St.pickT ?_; refine St.move ?_; refine St.move ?_; refine St.fieldAddr ?_; refine St.load ?_; refine St.bin ?_; refine St.pickT ?_; refine St.move ?_)
  refine St.split (fun q => ?_) (fun q => ?_)
  rotate_left
  · exact absurd q (by simp)
  clear q
  (refine St.move ?_; refine St.fieldAddr ?_; refine St.load ?_)
  have hm : mrgE a b = 0 → chkI (a ++ b) = 0 := fun e => by
    unfold mrgE at e
    split at e
    · split at e
      · exact e
      · rename_i h; exact absurd e h
    · rename_i h; exact absurd e h
  refine St.call (fun _ => rfl) (fun h2 hh => sameS_con h2 hh.gd hh hm h3 h4 (fun x hx => by simp [hx]) (fun x hx => by simp [hx])) ?_
  (refine St.pickT ?_; refine St.move ?_; refine St.move ?_; refine St.fieldAddr ?_; refine St.load ?_; refine St.bin ?_; refine St.pickT ?_; refine St.assign ?_; refine WO.nil ?_)
  refine St.ret (by first | exact .tmp .nil | exact .cell .nil | exact .cell (.tmp .nil) | exact .tmp (.tmp .nil) | exact .cell (.cell .nil) | exact .tmp (.cell .nil) | exact .nil | exact .tmp (.cell (.tmp .nil)) | exact .cell (.tmp (.tmp .nil)) | exact .cell (.cell (.tmp .nil)) | exact .tmp (.tmp (.tmp .nil)) | exact .tmp (.tmp (.tmp (.tmp .nil))) | exact .cell (.cell (.cell .nil))) ?_
  simp [oneOf]
end Go.Proofs.YtkebbdpfjhhdhaaGreat
