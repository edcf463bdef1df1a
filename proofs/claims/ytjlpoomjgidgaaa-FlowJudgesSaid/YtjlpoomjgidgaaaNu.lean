/- Layer 5: slices.Concat of three lists of ints. -/
import Derived.Test.YtjlpoomjgidgaaaGa
import Derived.Test.YtjlpoomjgidgaaaGd
namespace Go.Proofs.Ytjlpoomjgidgaaa
open Go.Proofs.Ytjlpoomjgidgaaa.Ev

theorem inC_ok (n : Int) : (inC n).all okCell = true := rfl
/-- ints that are an argument; nothing can be read of an empty one -/
def InZ (h : Heap) (v : AV) (l : List Int) : Prop := (v = .slice0 ∧ l = []) ∨ ∃ b off m, v = .slice b off l.length (.k m) ∧ l.length ≤ m ∧ EH inC 1 h b off l ∧ b < h.next ∧ h.loadN b off 0 = some []
theorem InZ.inV {h : Heap} {v : AV} {l : List Int} (k : InZ h v l) : InV h v l := by
  rcases k with ⟨rfl, rfl⟩ | ⟨b, off, m, rfl, hm, k, _, _⟩
  · exact .inl ⟨.inl rfl, rfl⟩
  · exact .inr ⟨b, off, _, rfl, k⟩
theorem InZ.vw {h0 h : Heap} {V : Ob} {v : AV} {l : List Int} (k : InZ h0 v l) (hh : Vw h0 [] V h) : InZ h v l := by
  rcases k with k | ⟨b, off, m, rfl, hm, k, hb, hz⟩
  · exact .inl k
  · exact .inr ⟨b, off, m, rfl, hm, k.vw hh, Nat.lt_of_lt_of_le hb hh.nx, by rw [loadN_old hh hb]; exact hz⟩
theorem InZ.comes {h : Heap} {v : AV} {l : List Int} {L : Ob} (k : InZ h v l) (hl : l.length ≤ 1000000) : ComesA h [] L v 1 l.length (enF inC l) := by
  rcases k with ⟨rfl, rfl⟩ | ⟨b, off, m, rfl, hm, hk, hb, hz⟩
  · exact .inl ⟨rfl, rfl, rfl, fun _ _ => rfl⟩
  · exact comesE (enc := inC) (sz := 1) (fun _ => rfl) Nat.one_pos hk (fun x _ => inC_ok x) (fun _ h2 hh => by rw [loadN_old hh hb]; exact hz) hl
theorem Bs_grow (n : Nat) (h : Heap) : Bs.ans 77 [.slice0, .int .i64 n] h = growA 77 1 3 77 [.slice0, .int .i64 n] h := orB_right rfl
set_option maxRecDepth 100000 in
theorem grow0_con (h : Heap) (g : Gd h) : Con Try.prog Bs 77 [.slice0, .int .i64 0] h [] .slice0 [] := by
  refine Con.start rfl Try.func77 rfl rfl Try.ntmps77 rfl rfl g ?_
  (refine WK.seq ?_; refine WK.region ?_; refine St.assign ?_; refine WO.nil ?_; refine WK.seq ?_; refine WK.seq ?_; refine WK.region ?_; refine St.move ?_; refine St.bin ?_; refine WO.nil ?_; refine WK.condF ?_; refine WK.skip ?_; refine WK.seq ?_; refine WK.seq ?_; refine WK.region ?_; refine St.move ?_; refine St.move ?_)
  refine WO.pure (v := .int .i64 0) rfl rfl (fun h => rfl) ?_
  (refine St.move ?_; refine St.len0 ?_; refine St.binI ?_; refine St.binI ?_; refine St.assign ?_; refine WO.nil ?_; refine WK.seq ?_; refine WK.region ?_; refine St.move ?_; refine St.bin ?_; refine WO.nil ?_; refine WK.condF ?_; refine WK.skip ?_; refine WK.seq ?_; refine WK.region ?_; refine St.move ?_; refine St.assign ?_; refine WO.nil ?_)
  refine St.ret (by first | exact .tmp .nil | exact .cell .nil | exact .cell (.tmp .nil) | exact .tmp (.tmp .nil) | exact .cell (.cell .nil) | exact .tmp (.cell .nil) | exact .nil | exact .tmp (.cell (.tmp .nil)) | exact .cell (.tmp (.tmp .nil)) | exact .cell (.cell (.tmp .nil)) | exact .tmp (.tmp (.tmp .nil)) | exact .cell (.cell (.cell .nil))) ?_
  rfl
set_option maxRecDepth 100000 in
set_option maxHeartbeats 8000000 in
theorem concat_con (h : Heap) (g : Gd h) (x : Nat) (v1 v2 v3 : AV) (l1 l2 l3 : List Int) (hx : Rds h x 0 [v1, v2, v3]) (h1 : InZ h v1 l1) (h2 : InZ h v2 l2) (h3 : InZ h v3 l3) (hl : l1.length + l2.length + l3.length ≤ 1000) :
    ∃ u L, Con Try.prog Bs 55 [.slice x 0 3 (.k 3)] h [] u L ∧ IsL 3 1 (l1 ++ l2 ++ l3).length (enF inC (l1 ++ l2 ++ l3)) u L := by
  refine Con.subG (Con.startR rfl Try.func55 rfl rfl Try.ntmps55 rfl rfl (SS.init g) ?_)
  (refine WK.seq ?_; refine WK.region ?_; refine St.assign ?_; refine WO.nil ?_; refine WK.seq ?_; refine WK.region ?_; refine St.assign ?_; refine WO.nil ?_; refine WK.seq ?_; refine WK.seq ?_; refine WK.region ?_; refine St.move ?_; refine St.len ?_; refine St.move ?_; refine WO.nil ?_; refine WK.block ?_)
  refine WK.unroll ?_
  (refine WK.seq ?_; refine WK.region ?_; refine St.bin ?_; refine WO.nil ?_; refine WK.seq ?_; refine WK.condT ?_; refine WK.skip ?_; refine WK.seq ?_; refine WK.block ?_; refine WK.seq ?_; refine WK.region ?_)
  refine St.at ?_
  skip
  refine St.loadX (fun h hh => (hh.rd (by simp) hx.1).one rfl) ?_
  (refine St.assign ?_; refine WO.nil ?_; refine WK.seq ?_; refine WK.region ?_; refine St.move ?_; refine St.move ?_)
  refine St.lenG rfl h1.inV.ilen ?_
  (refine St.binI ?_; refine St.assign ?_; refine WO.nil ?_; refine WK.seq ?_; refine WK.region ?_; refine St.move ?_; refine St.bin ?_; refine WO.nil ?_; refine WK.condF ?_; refine WK.skip ?_; refine WK.blk ?_; refine WK.region ?_; refine St.binI ?_; refine St.move ?_; refine WO.nil ?_)
  refine WK.unroll ?_
  (refine WK.seq ?_; refine WK.region ?_; refine St.bin ?_; refine WO.nil ?_; refine WK.seq ?_; refine WK.condT ?_; refine WK.skip ?_; refine WK.seq ?_; refine WK.block ?_; refine WK.seq ?_; refine WK.region ?_)
  refine St.at ?_
  skip
  refine St.loadX (fun h hh => (hh.rd (by simp) hx.2.1).one rfl) ?_
  (refine St.assign ?_; refine WO.nil ?_; refine WK.seq ?_; refine WK.region ?_; refine St.move ?_; refine St.move ?_)
  refine St.lenG rfl h2.inV.ilen ?_
  (refine St.binI ?_; refine St.assign ?_; refine WO.nil ?_; refine WK.seq ?_; refine WK.region ?_; refine St.move ?_; refine St.bin ?_; refine WO.nil ?_; refine WK.condF ?_; refine WK.skip ?_; refine WK.blk ?_; refine WK.region ?_; refine St.binI ?_; refine St.move ?_; refine WO.nil ?_)
  refine WK.unroll ?_
  (refine WK.seq ?_; refine WK.region ?_; refine St.bin ?_; refine WO.nil ?_; refine WK.seq ?_; refine WK.condT ?_; refine WK.skip ?_; refine WK.seq ?_; refine WK.block ?_; refine WK.seq ?_; refine WK.region ?_)
  refine St.at ?_
  skip
  refine St.loadX (fun h hh => (hh.rd (by simp) hx.2.2.1).one rfl) ?_
  (refine St.assign ?_; refine WO.nil ?_; refine WK.seq ?_; refine WK.region ?_; refine St.move ?_; refine St.move ?_)
  refine St.lenG rfl h3.inV.ilen ?_
  (refine St.binI ?_; refine St.assign ?_; refine WO.nil ?_; refine WK.seq ?_; refine WK.region ?_; refine St.move ?_; refine St.bin ?_; refine WO.nil ?_; refine WK.condF ?_; refine WK.skip ?_; refine WK.blk ?_; refine WK.region ?_; refine St.binI ?_; refine St.move ?_; refine WO.nil ?_)
  refine WK.unroll ?_
  (refine WK.seq ?_; refine WK.region ?_; refine St.bin ?_; refine WO.nil ?_; refine WK.seq ?_; refine WK.condF ?_; refine WK.exit ?_; refine WK.seq ?_; refine WK.region ?_; refine St.move ?_)
  by_cases hp : 0 < l1.length + l2.length + l3.length
  · refine St.call1 (v := fun j => .slice j 0 0 (.m 0)) (ob := fun _ => .row [] 3 1) (fun _ => rfl) (fun h2 hh => ⟨h2.next, by
      have := Con.grow (P := Try.prog) (B := Bs) hh.gd (Bs_grow (l1.length + l2.length + l3.length) h2) hp (by omega)
      rw [show ((l1.length + l2.length + l3.length : Nat) : Int) = 0 + (l1.length : Int) + (l2.length : Int) + (l3.length : Int) by omega] at this
      exact this⟩) (fun j hj => ?_)
    (refine St.assign ?_; refine WO.nil ?_; refine WK.seq ?_; refine WK.seq ?_; refine WK.region ?_; refine St.move ?_; refine St.len ?_; refine St.move ?_; refine WO.nil ?_; refine WK.block ?_)
    refine WK.unroll ?_
    (refine WK.seq ?_; refine WK.region ?_; refine St.bin ?_; refine WO.nil ?_; refine WK.seq ?_; refine WK.condT ?_; refine WK.skip ?_; refine WK.seq ?_; refine WK.block ?_; refine WK.seq ?_; refine WK.region ?_)
    refine St.at ?_
    skip
    refine St.loadX (fun h hh => (hh.rd (by simp) hx.1).one rfl) ?_
    (refine St.assign ?_; refine WO.nil ?_; refine WK.region ?_; refine St.move ?_; refine St.move ?_)
    refine St.appG (e := 3) (sz := 1) (n := l1.length) (new := enF inC l1) (len := 0) (old := []) (Lv := [(j, .row [] 3 1)]) (Lk := []) (IsL.row j rfl) (List.Perm.refl _) ⟨rfl, rfl, rfl, rfl, rfl, rfl, rfl, rfl⟩ (h1.comes (by omega)) (by omega) (fun a La ha => ?_)
    (refine St.assign ?_; refine WO.nil ?_; refine WK.blk ?_; refine WK.region ?_; refine St.binI ?_; refine St.move ?_; refine WO.nil ?_)
    refine WK.unroll ?_
    (refine WK.seq ?_; refine WK.region ?_; refine St.bin ?_; refine WO.nil ?_; refine WK.seq ?_; refine WK.condT ?_; refine WK.skip ?_; refine WK.seq ?_; refine WK.block ?_; refine WK.seq ?_; refine WK.region ?_)
    refine St.at ?_
    skip
    refine St.loadX (fun h hh => (hh.rd (by simp) hx.2.1).one rfl) ?_
    (refine St.assign ?_; refine WO.nil ?_; refine WK.region ?_; refine St.move ?_; refine St.move ?_)
    refine St.appG (e := 3) (sz := 1) (n := l2.length) (new := enF inC l2) (Lk := []) ha (by rw [List.append_nil]) ⟨rfl, rfl, rfl, rfl, rfl, rfl, rfl, rfl⟩ (h2.comes (by omega)) (by omega) (fun b Lb hb => ?_)
    (refine St.assign ?_; refine WO.nil ?_; refine WK.blk ?_; refine WK.region ?_; refine St.binI ?_; refine St.move ?_; refine WO.nil ?_)
    refine WK.unroll ?_
    (refine WK.seq ?_; refine WK.region ?_; refine St.bin ?_; refine WO.nil ?_; refine WK.seq ?_; refine WK.condT ?_; refine WK.skip ?_; refine WK.seq ?_; refine WK.block ?_; refine WK.seq ?_; refine WK.region ?_)
    refine St.at ?_
    skip
    refine St.loadX (fun h hh => (hh.rd (by simp) hx.2.2.1).one rfl) ?_
    (refine St.assign ?_; refine WO.nil ?_; refine WK.region ?_; refine St.move ?_; refine St.move ?_)
    refine St.appG (e := 3) (sz := 1) (n := l3.length) (new := enF inC l3) (Lk := []) hb (by rw [List.append_nil]) ⟨rfl, rfl, rfl, rfl, rfl, rfl, rfl, rfl⟩ (h3.comes (by omega)) (by omega) (fun c Lc hc => ?_)
    (refine St.assign ?_; refine WO.nil ?_; refine WK.blk ?_; refine WK.region ?_; refine St.binI ?_; refine St.move ?_; refine WO.nil ?_)
    refine WK.unroll ?_
    (refine WK.seq ?_; refine WK.region ?_; refine St.bin ?_; refine WO.nil ?_; refine WK.seq ?_; refine WK.condF ?_; refine WK.exit ?_; refine WK.seq ?_; refine WK.region ?_; refine St.move ?_; refine St.assign ?_; refine WO.nil ?_)
    refine St.ret (by first | exact .tmp .nil | exact .cell .nil | exact .cell (.tmp .nil) | exact .tmp (.tmp .nil) | exact .cell (.cell .nil) | exact .tmp (.cell .nil) | exact .nil | exact .tmp (.cell (.tmp .nil)) | exact .cell (.tmp (.tmp .nil)) | exact .cell (.cell (.tmp .nil)) | exact .tmp (.tmp (.tmp .nil)) | exact .cell (.cell (.cell .nil))) ?_
    rw [enF_app, enF_app, List.length_append, List.length_append]
    rw [Nat.zero_add, List.nil_append] at hc
    exact ⟨_, by rw [List.append_nil]; exact List.Sublist.refl _, hc⟩
  · rw [show 0 + (l1.length : Int) + (l2.length : Int) + (l3.length : Int) = 0 by omega]
    refine St.call (fun _ => rfl) (fun h2 hh => grow0_con h2 hh.gd) ?_
    (refine St.assign ?_; refine WO.nil ?_; refine WK.seq ?_; refine WK.seq ?_; refine WK.region ?_; refine St.move ?_; refine St.len ?_; refine St.move ?_; refine WO.nil ?_; refine WK.block ?_)
    refine WK.unroll ?_
    (refine WK.seq ?_; refine WK.region ?_; refine St.bin ?_; refine WO.nil ?_; refine WK.seq ?_; refine WK.condT ?_; refine WK.skip ?_; refine WK.seq ?_; refine WK.block ?_; refine WK.seq ?_; refine WK.region ?_)
    refine St.at ?_
    skip
    refine St.loadX (fun h hh => (hh.rd (by simp) hx.1).one rfl) ?_
    (refine St.assign ?_; refine WO.nil ?_; refine WK.region ?_; refine St.move ?_; refine St.move ?_)
    refine St.appG (e := 3) (sz := 1) (n := l1.length) (new := enF inC l1) (len := 0) (old := []) (Lv := []) (Lk := []) (.nil rfl rfl) (List.Perm.refl _) ⟨rfl, rfl, rfl, rfl, rfl, rfl, rfl, rfl⟩ (h1.comes (by omega)) (by omega) (fun a La ha => ?_)
    (refine St.assign ?_; refine WO.nil ?_; refine WK.blk ?_; refine WK.region ?_; refine St.binI ?_; refine St.move ?_; refine WO.nil ?_)
    refine WK.unroll ?_
    (refine WK.seq ?_; refine WK.region ?_; refine St.bin ?_; refine WO.nil ?_; refine WK.seq ?_; refine WK.condT ?_; refine WK.skip ?_; refine WK.seq ?_; refine WK.block ?_; refine WK.seq ?_; refine WK.region ?_)
    refine St.at ?_
    skip
    refine St.loadX (fun h hh => (hh.rd (by simp) hx.2.1).one rfl) ?_
    (refine St.assign ?_; refine WO.nil ?_; refine WK.region ?_; refine St.move ?_; refine St.move ?_)
    refine St.appG (e := 3) (sz := 1) (n := l2.length) (new := enF inC l2) (Lk := []) ha (by rw [List.append_nil]) ⟨rfl, rfl, rfl, rfl, rfl, rfl, rfl, rfl⟩ (h2.comes (by omega)) (by omega) (fun b Lb hb => ?_)
    (refine St.assign ?_; refine WO.nil ?_; refine WK.blk ?_; refine WK.region ?_; refine St.binI ?_; refine St.move ?_; refine WO.nil ?_)
    refine WK.unroll ?_
    (refine WK.seq ?_; refine WK.region ?_; refine St.bin ?_; refine WO.nil ?_; refine WK.seq ?_; refine WK.condT ?_; refine WK.skip ?_; refine WK.seq ?_; refine WK.block ?_; refine WK.seq ?_; refine WK.region ?_)
    refine St.at ?_
    skip
    refine St.loadX (fun h hh => (hh.rd (by simp) hx.2.2.1).one rfl) ?_
    (refine St.assign ?_; refine WO.nil ?_; refine WK.region ?_; refine St.move ?_; refine St.move ?_)
    refine St.appG (e := 3) (sz := 1) (n := l3.length) (new := enF inC l3) (Lk := []) hb (by rw [List.append_nil]) ⟨rfl, rfl, rfl, rfl, rfl, rfl, rfl, rfl⟩ (h3.comes (by omega)) (by omega) (fun c Lc hc => ?_)
    (refine St.assign ?_; refine WO.nil ?_; refine WK.blk ?_; refine WK.region ?_; refine St.binI ?_; refine St.move ?_; refine WO.nil ?_)
    refine WK.unroll ?_
    (refine WK.seq ?_; refine WK.region ?_; refine St.bin ?_; refine WO.nil ?_; refine WK.seq ?_; refine WK.condF ?_; refine WK.exit ?_; refine WK.seq ?_; refine WK.region ?_; refine St.move ?_; refine St.assign ?_; refine WO.nil ?_)
    refine St.ret (by first | exact .tmp .nil | exact .cell .nil | exact .cell (.tmp .nil) | exact .tmp (.tmp .nil) | exact .cell (.cell .nil) | exact .tmp (.cell .nil) | exact .nil | exact .tmp (.cell (.tmp .nil)) | exact .cell (.tmp (.tmp .nil)) | exact .cell (.cell (.tmp .nil)) | exact .tmp (.tmp (.tmp .nil)) | exact .cell (.cell (.cell .nil))) ?_
    rw [enF_app, enF_app, List.length_append, List.length_append]
    rw [Nat.zero_add, List.nil_append] at hc
    exact ⟨_, by rw [List.append_nil]; exact List.Sublist.refl _, hc⟩
end Go.Proofs.Ytjlpoomjgidgaaa
