/- Lists of pairs of ints compared, over the calculator's memory. -/
import Derived.Test.YtbhklifflhoinaaGreatSu
namespace Go.Proofs.YtbhklifflhoinaaGreat
open Go.Proofs.YtbhklifflhoinaaGreat.Ev

/-- v is a list of pairs -/
def PrV (h : Heap) (v : AV) (l : List (Int × Int)) : Prop := (v = .slice0 ∧ l = []) ∨ ∃ b off c, v = .slice b off l.length c ∧ KnH h b off l
theorem PrV.vw {h0 h : Heap} {V : Ob} {v l} (k : PrV h0 v l) (hh : Vw h0 [] V h) : PrV h v l := by
  rcases k with h1 | ⟨b, off, c, h1, h2⟩
  · exact .inl h1
  · exact .inr ⟨b, off, c, h1, h2.vw hh⟩
theorem Ev.Vw.prv {h0 h : Heap} {W : List Nat} {V Lv : Ob} {e : TypeId} {l : List (Int × Int)} {v : AV} (hh : Vw h0 W V h) (k : IsL e 2 l.length (flatA l) v Lv) (hs : Lv.Sublist V) : PrV h v l := by
  rcases k.open_ with ⟨rfl, rfl, h1, _⟩ | ⟨i, c, o, rfl, rfl, ho, _⟩
  · exact .inl ⟨rfl, List.eq_nil_of_length_eq_zero h1⟩
  · exact .inr ⟨i, 0, c, rfl, hh.frs (hs.subset (List.mem_singleton.2 rfl)) ho⟩
theorem pairs_ext {la lb : List (Int × Int)} (hn : la.length = lb.length) (hE : ∀ j, j < la.length → kx la j = kx lb j ∧ ky la j = ky lb j) : la = lb := by
  apply List.ext_getElem hn
  intro j h1 h2
  obtain ⟨e1, e2⟩ := hE j h1
  rw [kx_eq h1, kx_eq h2] at e1
  rw [ky_eq h1, ky_eq h2] at e2
  exact Prod.ext e1 e2
set_option maxRecDepth 100000 in
theorem kn_neq (a b c d : Int) : evBin Tryz.prog .neq 81 (.agg [.int .i64 a, .int .i64 b]) (.agg [.int .i64 c, .int .i64 d]) = some (.bool (!((a == c) && (b == d)))) := by
  simp [evBin, evEq, guardOk, eqT, eqFs, partE, isAggT, takeN, dropN, nthN]
  cases a == c <;> cases b == d <;> rfl
set_option maxRecDepth 100000 in
theorem sp_neq (a b c d : Int) : evBin Tryz.prog .neq 27 (.agg [.int .i64 a, .int .i64 b]) (.agg [.int .i64 c, .int .i64 d]) = some (.bool (!((a == c) && (b == d)))) := by
  simp [evBin, evEq, guardOk, eqT, eqFs, partE, isAggT, takeN, dropN, nthN]
  cases a == c <;> cases b == d <;> rfl
set_option maxRecDepth 100000 in
set_option maxHeartbeats 4000000 in
theorem sameKnG_con (h : Heap) (g : Gd h) (v1 v2 : AV) (la lb : List (Int × Int)) (k1 : PrV h v1 la) (k2 : PrV h v2 lb) (hl : la.length ≤ 1000000) : Con Tryz.prog Bs 52 [v1, v2] h [] (.bool (decide (la = lb))) [] := by
  rcases k1 with ⟨rfl, rfl⟩ | ⟨b, off, c, rfl, hk⟩
  · rcases k2 with ⟨rfl, rfl⟩ | ⟨b2, off2, c2, rfl, hk2⟩
    · refine Con.start rfl Tryz.func52 rfl rfl Tryz.ntmps52 rfl rfl g ?_
      (refine WK.seq ?_; refine WK.region ?_; refine St.assign ?_; refine WO.nil ?_; refine WK.seq ?_; refine WK.seq ?_; refine WK.region ?_; refine St.move ?_; refine St.len0 ?_; refine St.move ?_; refine St.len0 ?_; refine St.bin ?_; refine WO.nil ?_; refine WK.condF ?_; refine WK.skip ?_; refine WK.seq ?_; refine WK.seq ?_; refine WK.region ?_; refine St.assign ?_; refine WO.nil ?_; refine WK.block ?_)
      refine WK.unroll ?_
      (refine WK.seq ?_; refine WK.seq ?_; refine WK.region ?_; refine St.move ?_; refine St.move ?_; refine St.len0 ?_; refine St.bin ?_; refine WO.nil ?_; refine WK.condF ?_; refine WK.exit ?_; refine WK.seq ?_; refine WK.region ?_; refine St.assign ?_; refine WO.nil ?_)
      refine St.ret (by first | exact .tmp .nil | exact .cell .nil | exact .cell (.tmp .nil) | exact .tmp (.tmp .nil) | exact .cell (.cell .nil) | exact .tmp (.cell .nil) | exact .nil | exact .tmp (.cell (.tmp .nil)) | exact .cell (.tmp (.tmp .nil)) | exact .cell (.cell (.tmp .nil)) | exact .tmp (.tmp (.tmp .nil)) | exact .cell (.cell (.cell .nil))) ?_
      rfl
    · refine Con.start rfl Tryz.func52 rfl rfl Tryz.ntmps52 rfl rfl g ?_
      (refine WK.seq ?_; refine WK.region ?_; refine St.assign ?_; refine WO.nil ?_; refine WK.seq ?_; refine WK.seq ?_; refine WK.region ?_; refine St.move ?_; refine St.len0 ?_; refine St.move ?_; refine St.len ?_; refine St.bin ?_; refine WO.nil ?_)
      refine St.splitC (fun hc => ?_) (fun hc => ?_)
      · (refine WK.seq ?_; refine WK.region ?_; refine St.assign ?_; refine WO.nil ?_)
        refine St.ret (by first | exact .tmp .nil | exact .cell .nil | exact .cell (.tmp .nil) | exact .tmp (.tmp .nil) | exact .cell (.cell .nil) | exact .tmp (.cell .nil) | exact .nil | exact .tmp (.cell (.tmp .nil)) | exact .cell (.tmp (.tmp .nil)) | exact .cell (.cell (.tmp .nil)) | exact .tmp (.tmp (.tmp .nil)) | exact .cell (.cell (.cell .nil))) ?_
        rw [decide_eq_false (fun e => by rw [← e] at hc; simp at hc)]
        rfl
      · have hn : lb = [] := by
          have : lb.length = 0 := by simp at hc; omega
          exact List.eq_nil_of_length_eq_zero this
        subst hn
        (refine WK.skip ?_; refine WK.seq ?_; refine WK.seq ?_; refine WK.region ?_; refine St.assign ?_; refine WO.nil ?_; refine WK.block ?_)
        refine WK.unroll ?_
        (refine WK.seq ?_; refine WK.seq ?_; refine WK.region ?_; refine St.move ?_; refine St.move ?_; refine St.len0 ?_; refine St.bin ?_; refine WO.nil ?_; refine WK.condF ?_; refine WK.exit ?_; refine WK.seq ?_; refine WK.region ?_; refine St.assign ?_; refine WO.nil ?_)
        refine St.ret (by first | exact .tmp .nil | exact .cell .nil | exact .cell (.tmp .nil) | exact .tmp (.tmp .nil) | exact .cell (.cell .nil) | exact .tmp (.cell .nil) | exact .nil | exact .tmp (.cell (.tmp .nil)) | exact .cell (.tmp (.tmp .nil)) | exact .cell (.cell (.tmp .nil)) | exact .tmp (.tmp (.tmp .nil)) | exact .cell (.cell (.cell .nil))) ?_
        rfl
  · rcases k2 with ⟨rfl, rfl⟩ | ⟨b2, off2, c2, rfl, hk2⟩
    · refine Con.start rfl Tryz.func52 rfl rfl Tryz.ntmps52 rfl rfl g ?_
      (refine WK.seq ?_; refine WK.region ?_; refine St.assign ?_; refine WO.nil ?_; refine WK.seq ?_; refine WK.seq ?_; refine WK.region ?_; refine St.move ?_; refine St.len ?_; refine St.move ?_; refine St.len0 ?_; refine St.bin ?_; refine WO.nil ?_)
      refine St.splitC (fun hc => ?_) (fun hc => ?_)
      · (refine WK.seq ?_; refine WK.region ?_; refine St.assign ?_; refine WO.nil ?_)
        refine St.ret (by first | exact .tmp .nil | exact .cell .nil | exact .cell (.tmp .nil) | exact .tmp (.tmp .nil) | exact .cell (.cell .nil) | exact .tmp (.cell .nil) | exact .nil | exact .tmp (.cell (.tmp .nil)) | exact .cell (.tmp (.tmp .nil)) | exact .cell (.cell (.tmp .nil)) | exact .tmp (.tmp (.tmp .nil)) | exact .cell (.cell (.cell .nil))) ?_
        rw [decide_eq_false (fun e => by rw [e] at hc; simp at hc)]
        rfl
      · have hn : la = [] := by simpa using hc
        subst hn
        (refine WK.skip ?_; refine WK.seq ?_; refine WK.seq ?_; refine WK.region ?_; refine St.assign ?_; refine WO.nil ?_; refine WK.block ?_)
        refine WK.unroll ?_
        (refine WK.seq ?_; refine WK.seq ?_; refine WK.region ?_; refine St.move ?_; refine St.move ?_; refine St.len ?_; refine St.bin ?_; refine WO.nil ?_; refine WK.condF ?_; refine WK.exit ?_; refine WK.seq ?_; refine WK.region ?_; refine St.assign ?_; refine WO.nil ?_)
        refine St.ret (by first | exact .tmp .nil | exact .cell .nil | exact .cell (.tmp .nil) | exact .tmp (.tmp .nil) | exact .cell (.cell .nil) | exact .tmp (.cell .nil) | exact .nil | exact .tmp (.cell (.tmp .nil)) | exact .cell (.tmp (.tmp .nil)) | exact .cell (.cell (.tmp .nil)) | exact .tmp (.tmp (.tmp .nil)) | exact .cell (.cell (.cell .nil))) ?_
        rfl
    · refine Con.start rfl Tryz.func52 rfl rfl Tryz.ntmps52 rfl rfl g ?_
      (refine WK.seq ?_; refine WK.region ?_; refine St.assign ?_; refine WO.nil ?_; refine WK.seq ?_; refine WK.seq ?_; refine WK.region ?_; refine St.move ?_; refine St.len ?_; refine St.move ?_; refine St.len ?_; refine St.bin ?_; refine WO.nil ?_)
      refine St.splitC (fun hc => ?_) (fun hc => ?_)
      · (refine WK.seq ?_; refine WK.region ?_; refine St.assign ?_; refine WO.nil ?_)
        refine St.ret (by first | exact .tmp .nil | exact .cell .nil | exact .cell (.tmp .nil) | exact .tmp (.tmp .nil) | exact .cell (.cell .nil) | exact .tmp (.cell .nil) | exact .nil | exact .tmp (.cell (.tmp .nil)) | exact .cell (.tmp (.tmp .nil)) | exact .cell (.cell (.tmp .nil)) | exact .tmp (.tmp (.tmp .nil)) | exact .cell (.cell (.cell .nil))) ?_
        rw [decide_eq_false (fun e => by rw [e] at hc; simp at hc)]
        rfl
      have hn : la.length = lb.length := by simp at hc; omega
      (refine WK.skip ?_; refine WK.seq ?_; refine WK.seq ?_; refine WK.region ?_; refine St.assign ?_; refine WO.nil ?_; refine WK.block ?_)
      refine WK.inv (ι := Nat) (fun k => [(0, .slice b off la.length c), (1, .slice b2 off2 lb.length c2), (5, .int .i64 k)]) (fun _ => []) (fun k => k ≤ la.length ∧ ∀ j, j < k → kx la j = kx lb j ∧ ky la j = ky lb j) (fun k => la.length - k) 0 ⟨by omega, fun j hj => by omega⟩ ⟨rfl, rfl, rfl, trivial⟩ (by (repeat (first | exact List.Sublist.refl _ | exact List.nil_sublist _ | apply List.Sublist.cons_cons | apply List.Sublist.cons))) ?_
      rintro k ⟨hkl, hE⟩ ih
      (refine WK.seq ?_; refine WK.seq ?_; refine WK.region ?_; refine St.move ?_; refine St.move ?_; refine St.len ?_; refine St.bin ?_; refine WO.nil ?_)
      refine St.splitC (fun hc => ?_) (fun hc => ?_)
      · have hlt : k < la.length := by simp at hc; omega
        (refine WK.skip ?_; refine WK.seq ?_; refine WK.block ?_; refine WK.seq ?_; refine WK.regionD ?_; refine St.move ?_; refine St.move ?_)
        refine St.at ?_
        skip
        refine St.loadX (fun h hh => ((hk.vw hh).knot hlt).agg (by simp) rfl rfl rfl) ?_
        (refine St.move ?_; refine St.move ?_)
        refine St.at ?_
        skip
        refine St.loadX (fun h hh => ((hk2.vw hh).knot (i := k) (by omega)).agg (by simp) rfl rfl rfl) ?_
        skip
        refine St.binX (kn_neq _ _ _ _) rfl rfl ?_
        (refine WO.nil ?_)
        refine St.splitC (fun hc2 => ?_) (fun hc2 => ?_)
        · (refine WK.seq ?_; refine WK.region ?_; refine St.assign ?_; refine WO.nil ?_)
          refine St.ret (by first | exact .tmp .nil | exact .cell .nil | exact .cell (.tmp .nil) | exact .tmp (.tmp .nil) | exact .cell (.cell .nil) | exact .tmp (.cell .nil) | exact .nil | exact .tmp (.cell (.tmp .nil)) | exact .cell (.tmp (.tmp .nil)) | exact .cell (.cell (.tmp .nil)) | exact .tmp (.tmp (.tmp .nil)) | exact .cell (.cell (.cell .nil))) ?_
          rw [decide_eq_false (fun e => by rw [e] at hc2; simp at hc2)]
          rfl
        · have he : kx la k = kx lb k ∧ ky la k = ky lb k := by simpa using hc2
          (refine WK.skip ?_; refine WK.blk ?_; refine WK.region ?_; refine St.move ?_; refine St.binI ?_; refine St.assign ?_; refine WO.nil ?_)
          refine WK.le ?_ (by (repeat (first | exact List.Sublist.refl _ | exact List.nil_sublist _ | apply List.Sublist.cons_cons | apply List.Sublist.cons))) (ih (k + 1) ⟨hlt, fun j hj => ?_⟩ (by omega))
          · exact ⟨rfl, rfl, rfl, trivial⟩
          · by_cases e : j = k
            · rw [e]; exact he
            · exact hE j (by omega)
      · have hk' : k = la.length := by simp at hc; omega
        subst hk'
        (refine WK.exit ?_; refine WK.seq ?_; refine WK.region ?_; refine St.assign ?_; refine WO.nil ?_)
        refine St.ret (by first | exact .tmp .nil | exact .cell .nil | exact .cell (.tmp .nil) | exact .tmp (.tmp .nil) | exact .cell (.cell .nil) | exact .tmp (.cell .nil) | exact .nil | exact .tmp (.cell (.tmp .nil)) | exact .cell (.tmp (.tmp .nil)) | exact .cell (.cell (.tmp .nil)) | exact .tmp (.tmp (.tmp .nil)) | exact .cell (.cell (.cell .nil))) ?_
        rw [decide_eq_true (pairs_ext hn hE)]
        rfl
set_option maxRecDepth 100000 in
set_option maxHeartbeats 4000000 in
theorem sameSpG_con (h : Heap) (g : Gd h) (v1 v2 : AV) (la lb : List (Int × Int)) (k1 : PrV h v1 la) (k2 : PrV h v2 lb) (hl : la.length ≤ 1000000) : Con Tryz.prog Bs 23 [v1, v2] h [] (.bool (decide (la = lb))) [] := by
  rcases k1 with ⟨rfl, rfl⟩ | ⟨b, off, c, rfl, hk⟩
  · rcases k2 with ⟨rfl, rfl⟩ | ⟨b2, off2, c2, rfl, hk2⟩
    · refine Con.start rfl Tryz.func23 rfl rfl Tryz.ntmps23 rfl rfl g ?_
      (refine WK.seq ?_; refine WK.region ?_; refine St.assign ?_; refine WO.nil ?_; refine WK.seq ?_; refine WK.seq ?_; refine WK.region ?_; refine St.move ?_; refine St.len0 ?_; refine St.move ?_; refine St.len0 ?_; refine St.bin ?_; refine WO.nil ?_; refine WK.condF ?_; refine WK.skip ?_; refine WK.seq ?_; refine WK.seq ?_; refine WK.region ?_; refine St.assign ?_; refine WO.nil ?_; refine WK.block ?_)
      refine WK.unroll ?_
      (refine WK.seq ?_; refine WK.seq ?_; refine WK.region ?_; refine St.move ?_; refine St.move ?_; refine St.len0 ?_; refine St.bin ?_; refine WO.nil ?_; refine WK.condF ?_; refine WK.exit ?_; refine WK.seq ?_; refine WK.region ?_; refine St.assign ?_; refine WO.nil ?_)
      refine St.ret (by first | exact .tmp .nil | exact .cell .nil | exact .cell (.tmp .nil) | exact .tmp (.tmp .nil) | exact .cell (.cell .nil) | exact .tmp (.cell .nil) | exact .nil | exact .tmp (.cell (.tmp .nil)) | exact .cell (.tmp (.tmp .nil)) | exact .cell (.cell (.tmp .nil)) | exact .tmp (.tmp (.tmp .nil)) | exact .cell (.cell (.cell .nil))) ?_
      rfl
    · refine Con.start rfl Tryz.func23 rfl rfl Tryz.ntmps23 rfl rfl g ?_
      (refine WK.seq ?_; refine WK.region ?_; refine St.assign ?_; refine WO.nil ?_; refine WK.seq ?_; refine WK.seq ?_; refine WK.region ?_; refine St.move ?_; refine St.len0 ?_; refine St.move ?_; refine St.len ?_; refine St.bin ?_; refine WO.nil ?_)
      refine St.splitC (fun hc => ?_) (fun hc => ?_)
      · (refine WK.seq ?_; refine WK.region ?_; refine St.assign ?_; refine WO.nil ?_)
        refine St.ret (by first | exact .tmp .nil | exact .cell .nil | exact .cell (.tmp .nil) | exact .tmp (.tmp .nil) | exact .cell (.cell .nil) | exact .tmp (.cell .nil) | exact .nil | exact .tmp (.cell (.tmp .nil)) | exact .cell (.tmp (.tmp .nil)) | exact .cell (.cell (.tmp .nil)) | exact .tmp (.tmp (.tmp .nil)) | exact .cell (.cell (.cell .nil))) ?_
        rw [decide_eq_false (fun e => by rw [← e] at hc; simp at hc)]
        rfl
      · have hn : lb = [] := by
          have : lb.length = 0 := by simp at hc; omega
          exact List.eq_nil_of_length_eq_zero this
        subst hn
        (refine WK.skip ?_; refine WK.seq ?_; refine WK.seq ?_; refine WK.region ?_; refine St.assign ?_; refine WO.nil ?_; refine WK.block ?_)
        refine WK.unroll ?_
        (refine WK.seq ?_; refine WK.seq ?_; refine WK.region ?_; refine St.move ?_; refine St.move ?_; refine St.len0 ?_; refine St.bin ?_; refine WO.nil ?_; refine WK.condF ?_; refine WK.exit ?_; refine WK.seq ?_; refine WK.region ?_; refine St.assign ?_; refine WO.nil ?_)
        refine St.ret (by first | exact .tmp .nil | exact .cell .nil | exact .cell (.tmp .nil) | exact .tmp (.tmp .nil) | exact .cell (.cell .nil) | exact .tmp (.cell .nil) | exact .nil | exact .tmp (.cell (.tmp .nil)) | exact .cell (.tmp (.tmp .nil)) | exact .cell (.cell (.tmp .nil)) | exact .tmp (.tmp (.tmp .nil)) | exact .cell (.cell (.cell .nil))) ?_
        rfl
  · rcases k2 with ⟨rfl, rfl⟩ | ⟨b2, off2, c2, rfl, hk2⟩
    · refine Con.start rfl Tryz.func23 rfl rfl Tryz.ntmps23 rfl rfl g ?_
      (refine WK.seq ?_; refine WK.region ?_; refine St.assign ?_; refine WO.nil ?_; refine WK.seq ?_; refine WK.seq ?_; refine WK.region ?_; refine St.move ?_; refine St.len ?_; refine St.move ?_; refine St.len0 ?_; refine St.bin ?_; refine WO.nil ?_)
      refine St.splitC (fun hc => ?_) (fun hc => ?_)
      · (refine WK.seq ?_; refine WK.region ?_; refine St.assign ?_; refine WO.nil ?_)
        refine St.ret (by first | exact .tmp .nil | exact .cell .nil | exact .cell (.tmp .nil) | exact .tmp (.tmp .nil) | exact .cell (.cell .nil) | exact .tmp (.cell .nil) | exact .nil | exact .tmp (.cell (.tmp .nil)) | exact .cell (.tmp (.tmp .nil)) | exact .cell (.cell (.tmp .nil)) | exact .tmp (.tmp (.tmp .nil)) | exact .cell (.cell (.cell .nil))) ?_
        rw [decide_eq_false (fun e => by rw [e] at hc; simp at hc)]
        rfl
      · have hn : la = [] := by simpa using hc
        subst hn
        (refine WK.skip ?_; refine WK.seq ?_; refine WK.seq ?_; refine WK.region ?_; refine St.assign ?_; refine WO.nil ?_; refine WK.block ?_)
        refine WK.unroll ?_
        (refine WK.seq ?_; refine WK.seq ?_; refine WK.region ?_; refine St.move ?_; refine St.move ?_; refine St.len ?_; refine St.bin ?_; refine WO.nil ?_; refine WK.condF ?_; refine WK.exit ?_; refine WK.seq ?_; refine WK.region ?_; refine St.assign ?_; refine WO.nil ?_)
        refine St.ret (by first | exact .tmp .nil | exact .cell .nil | exact .cell (.tmp .nil) | exact .tmp (.tmp .nil) | exact .cell (.cell .nil) | exact .tmp (.cell .nil) | exact .nil | exact .tmp (.cell (.tmp .nil)) | exact .cell (.tmp (.tmp .nil)) | exact .cell (.cell (.tmp .nil)) | exact .tmp (.tmp (.tmp .nil)) | exact .cell (.cell (.cell .nil))) ?_
        rfl
    · refine Con.start rfl Tryz.func23 rfl rfl Tryz.ntmps23 rfl rfl g ?_
      (refine WK.seq ?_; refine WK.region ?_; refine St.assign ?_; refine WO.nil ?_; refine WK.seq ?_; refine WK.seq ?_; refine WK.region ?_; refine St.move ?_; refine St.len ?_; refine St.move ?_; refine St.len ?_; refine St.bin ?_; refine WO.nil ?_)
      refine St.splitC (fun hc => ?_) (fun hc => ?_)
      · (refine WK.seq ?_; refine WK.region ?_; refine St.assign ?_; refine WO.nil ?_)
        refine St.ret (by first | exact .tmp .nil | exact .cell .nil | exact .cell (.tmp .nil) | exact .tmp (.tmp .nil) | exact .cell (.cell .nil) | exact .tmp (.cell .nil) | exact .nil | exact .tmp (.cell (.tmp .nil)) | exact .cell (.tmp (.tmp .nil)) | exact .cell (.cell (.tmp .nil)) | exact .tmp (.tmp (.tmp .nil)) | exact .cell (.cell (.cell .nil))) ?_
        rw [decide_eq_false (fun e => by rw [e] at hc; simp at hc)]
        rfl
      have hn : la.length = lb.length := by simp at hc; omega
      (refine WK.skip ?_; refine WK.seq ?_; refine WK.seq ?_; refine WK.region ?_; refine St.assign ?_; refine WO.nil ?_; refine WK.block ?_)
      refine WK.inv (ι := Nat) (fun k => [(0, .slice b off la.length c), (1, .slice b2 off2 lb.length c2), (5, .int .i64 k)]) (fun _ => []) (fun k => k ≤ la.length ∧ ∀ j, j < k → kx la j = kx lb j ∧ ky la j = ky lb j) (fun k => la.length - k) 0 ⟨by omega, fun j hj => by omega⟩ ⟨rfl, rfl, rfl, trivial⟩ (by (repeat (first | exact List.Sublist.refl _ | exact List.nil_sublist _ | apply List.Sublist.cons_cons | apply List.Sublist.cons))) ?_
      rintro k ⟨hkl, hE⟩ ih
      (refine WK.seq ?_; refine WK.seq ?_; refine WK.region ?_; refine St.move ?_; refine St.move ?_; refine St.len ?_; refine St.bin ?_; refine WO.nil ?_)
      refine St.splitC (fun hc => ?_) (fun hc => ?_)
      · have hlt : k < la.length := by simp at hc; omega
        (refine WK.skip ?_; refine WK.seq ?_; refine WK.block ?_; refine WK.seq ?_; refine WK.regionD ?_; refine St.move ?_; refine St.move ?_)
        refine St.at ?_
        skip
        refine St.loadX (fun h hh => ((hk.vw hh).knot hlt).agg (by simp) rfl rfl rfl) ?_
        (refine St.move ?_; refine St.move ?_)
        refine St.at ?_
        skip
        refine St.loadX (fun h hh => ((hk2.vw hh).knot (i := k) (by omega)).agg (by simp) rfl rfl rfl) ?_
        skip
        refine St.binX (sp_neq _ _ _ _) rfl rfl ?_
        (refine WO.nil ?_)
        refine St.splitC (fun hc2 => ?_) (fun hc2 => ?_)
        · (refine WK.seq ?_; refine WK.region ?_; refine St.assign ?_; refine WO.nil ?_)
          refine St.ret (by first | exact .tmp .nil | exact .cell .nil | exact .cell (.tmp .nil) | exact .tmp (.tmp .nil) | exact .cell (.cell .nil) | exact .tmp (.cell .nil) | exact .nil | exact .tmp (.cell (.tmp .nil)) | exact .cell (.tmp (.tmp .nil)) | exact .cell (.cell (.tmp .nil)) | exact .tmp (.tmp (.tmp .nil)) | exact .cell (.cell (.cell .nil))) ?_
          rw [decide_eq_false (fun e => by rw [e] at hc2; simp at hc2)]
          rfl
        · have he : kx la k = kx lb k ∧ ky la k = ky lb k := by simpa using hc2
          (refine WK.skip ?_; refine WK.blk ?_; refine WK.region ?_; refine St.move ?_; refine St.binI ?_; refine St.assign ?_; refine WO.nil ?_)
          refine WK.le ?_ (by (repeat (first | exact List.Sublist.refl _ | exact List.nil_sublist _ | apply List.Sublist.cons_cons | apply List.Sublist.cons))) (ih (k + 1) ⟨hlt, fun j hj => ?_⟩ (by omega))
          · exact ⟨rfl, rfl, rfl, trivial⟩
          · by_cases e : j = k
            · rw [e]; exact he
            · exact hE j (by omega)
      · have hk' : k = la.length := by simp at hc; omega
        subst hk'
        (refine WK.exit ?_; refine WK.seq ?_; refine WK.region ?_; refine St.assign ?_; refine WO.nil ?_)
        refine St.ret (by first | exact .tmp .nil | exact .cell .nil | exact .cell (.tmp .nil) | exact .tmp (.tmp .nil) | exact .cell (.cell .nil) | exact .tmp (.cell .nil) | exact .nil | exact .tmp (.cell (.tmp .nil)) | exact .cell (.tmp (.tmp .nil)) | exact .cell (.cell (.tmp .nil)) | exact .tmp (.tmp (.tmp .nil)) | exact .cell (.cell (.cell .nil))) ?_
        rw [decide_eq_true (pairs_ext hn hE)]
        rfl
set_option maxRecDepth 100000 in
set_option maxHeartbeats 4000000 in
theorem equalKn_con (h : Heap) (g : Gd h) (v1 v2 : AV) (la lb : List (Int × Int)) (k1 : PrV h v1 la) (k2 : PrV h v2 lb) (hl : la.length ≤ 1000000) : Con Tryz.prog Bs 69 [v1, v2] h [] (.bool (decide (la = lb))) [] := by
  rcases k1 with ⟨rfl, rfl⟩ | ⟨b, off, c, rfl, hk⟩
  · rcases k2 with ⟨rfl, rfl⟩ | ⟨b2, off2, c2, rfl, hk2⟩
    · refine Con.start rfl Tryz.func69 rfl rfl Tryz.ntmps69 rfl rfl g ?_
      (refine WK.seq ?_; refine WK.region ?_; refine St.assign ?_; refine WO.nil ?_; refine WK.seq ?_; refine WK.seq ?_; refine WK.region ?_; refine St.move ?_; refine St.len0 ?_; refine St.move ?_; refine St.len0 ?_; refine St.bin ?_; refine WO.nil ?_; refine WK.condF ?_; refine WK.skip ?_; refine WK.seq ?_; refine WK.seq ?_; refine WK.region ?_; refine St.move ?_; refine St.len0 ?_; refine St.move ?_; refine WO.nil ?_; refine WK.block ?_)
      refine WK.unroll ?_
      (refine WK.seq ?_; refine WK.region ?_; refine St.bin ?_; refine WO.nil ?_; refine WK.seq ?_; refine WK.condF ?_; refine WK.exit ?_; refine WK.seq ?_; refine WK.region ?_; refine St.assign ?_; refine WO.nil ?_)
      refine St.ret (by first | exact .tmp .nil | exact .cell .nil | exact .cell (.tmp .nil) | exact .tmp (.tmp .nil) | exact .cell (.cell .nil) | exact .tmp (.cell .nil) | exact .nil | exact .tmp (.cell (.tmp .nil)) | exact .cell (.tmp (.tmp .nil)) | exact .cell (.cell (.tmp .nil)) | exact .tmp (.tmp (.tmp .nil)) | exact .cell (.cell (.cell .nil))) ?_
      rfl
    · refine Con.start rfl Tryz.func69 rfl rfl Tryz.ntmps69 rfl rfl g ?_
      (refine WK.seq ?_; refine WK.region ?_; refine St.assign ?_; refine WO.nil ?_; refine WK.seq ?_; refine WK.seq ?_; refine WK.region ?_; refine St.move ?_; refine St.len0 ?_; refine St.move ?_; refine St.len ?_; refine St.bin ?_; refine WO.nil ?_)
      refine St.splitC (fun hc => ?_) (fun hc => ?_)
      · (refine WK.seq ?_; refine WK.region ?_; refine St.assign ?_; refine WO.nil ?_)
        refine St.ret (by first | exact .tmp .nil | exact .cell .nil | exact .cell (.tmp .nil) | exact .tmp (.tmp .nil) | exact .cell (.cell .nil) | exact .tmp (.cell .nil) | exact .nil | exact .tmp (.cell (.tmp .nil)) | exact .cell (.tmp (.tmp .nil)) | exact .cell (.cell (.tmp .nil)) | exact .tmp (.tmp (.tmp .nil)) | exact .cell (.cell (.cell .nil))) ?_
        rw [decide_eq_false (fun e => by rw [← e] at hc; simp at hc)]
        rfl
      · have hn : lb = [] := by
          have : lb.length = 0 := by simp at hc; omega
          exact List.eq_nil_of_length_eq_zero this
        subst hn
        (refine WK.skip ?_; refine WK.seq ?_; refine WK.seq ?_; refine WK.region ?_; refine St.move ?_; refine St.len0 ?_; refine St.move ?_; refine WO.nil ?_; refine WK.block ?_)
        refine WK.unroll ?_
        (refine WK.seq ?_; refine WK.region ?_; refine St.bin ?_; refine WO.nil ?_; refine WK.seq ?_; refine WK.condF ?_; refine WK.exit ?_; refine WK.seq ?_; refine WK.region ?_; refine St.assign ?_; refine WO.nil ?_)
        refine St.ret (by first | exact .tmp .nil | exact .cell .nil | exact .cell (.tmp .nil) | exact .tmp (.tmp .nil) | exact .cell (.cell .nil) | exact .tmp (.cell .nil) | exact .nil | exact .tmp (.cell (.tmp .nil)) | exact .cell (.tmp (.tmp .nil)) | exact .cell (.cell (.tmp .nil)) | exact .tmp (.tmp (.tmp .nil)) | exact .cell (.cell (.cell .nil))) ?_
        rfl
  · rcases k2 with ⟨rfl, rfl⟩ | ⟨b2, off2, c2, rfl, hk2⟩
    · refine Con.start rfl Tryz.func69 rfl rfl Tryz.ntmps69 rfl rfl g ?_
      (refine WK.seq ?_; refine WK.region ?_; refine St.assign ?_; refine WO.nil ?_; refine WK.seq ?_; refine WK.seq ?_; refine WK.region ?_; refine St.move ?_; refine St.len ?_; refine St.move ?_; refine St.len0 ?_; refine St.bin ?_; refine WO.nil ?_)
      refine St.splitC (fun hc => ?_) (fun hc => ?_)
      · (refine WK.seq ?_; refine WK.region ?_; refine St.assign ?_; refine WO.nil ?_)
        refine St.ret (by first | exact .tmp .nil | exact .cell .nil | exact .cell (.tmp .nil) | exact .tmp (.tmp .nil) | exact .cell (.cell .nil) | exact .tmp (.cell .nil) | exact .nil | exact .tmp (.cell (.tmp .nil)) | exact .cell (.tmp (.tmp .nil)) | exact .cell (.cell (.tmp .nil)) | exact .tmp (.tmp (.tmp .nil)) | exact .cell (.cell (.cell .nil))) ?_
        rw [decide_eq_false (fun e => by rw [e] at hc; simp at hc)]
        rfl
      · have hn : la = [] := by simpa using hc
        subst hn
        (refine WK.skip ?_; refine WK.seq ?_; refine WK.seq ?_; refine WK.region ?_; refine St.move ?_; refine St.len ?_; refine St.move ?_; refine WO.nil ?_; refine WK.block ?_)
        refine WK.unroll ?_
        (refine WK.seq ?_; refine WK.region ?_; refine St.bin ?_; refine WO.nil ?_; refine WK.seq ?_; refine WK.condF ?_; refine WK.exit ?_; refine WK.seq ?_; refine WK.region ?_; refine St.assign ?_; refine WO.nil ?_)
        refine St.ret (by first | exact .tmp .nil | exact .cell .nil | exact .cell (.tmp .nil) | exact .tmp (.tmp .nil) | exact .cell (.cell .nil) | exact .tmp (.cell .nil) | exact .nil | exact .tmp (.cell (.tmp .nil)) | exact .cell (.tmp (.tmp .nil)) | exact .cell (.cell (.tmp .nil)) | exact .tmp (.tmp (.tmp .nil)) | exact .cell (.cell (.cell .nil))) ?_
        rfl
    · refine Con.start rfl Tryz.func69 rfl rfl Tryz.ntmps69 rfl rfl g ?_
      (refine WK.seq ?_; refine WK.region ?_; refine St.assign ?_; refine WO.nil ?_; refine WK.seq ?_; refine WK.seq ?_; refine WK.region ?_; refine St.move ?_; refine St.len ?_; refine St.move ?_; refine St.len ?_; refine St.bin ?_; refine WO.nil ?_)
      refine St.splitC (fun hc => ?_) (fun hc => ?_)
      · (refine WK.seq ?_; refine WK.region ?_; refine St.assign ?_; refine WO.nil ?_)
        refine St.ret (by first | exact .tmp .nil | exact .cell .nil | exact .cell (.tmp .nil) | exact .tmp (.tmp .nil) | exact .cell (.cell .nil) | exact .tmp (.cell .nil) | exact .nil | exact .tmp (.cell (.tmp .nil)) | exact .cell (.tmp (.tmp .nil)) | exact .cell (.cell (.tmp .nil)) | exact .tmp (.tmp (.tmp .nil)) | exact .cell (.cell (.cell .nil))) ?_
        rw [decide_eq_false (fun e => by rw [e] at hc; simp at hc)]
        rfl
      have hn : la.length = lb.length := by simp at hc; omega
      (refine WK.skip ?_; refine WK.seq ?_; refine WK.seq ?_; refine WK.region ?_; refine St.move ?_; refine St.len ?_; refine St.move ?_; refine WO.nil ?_; refine WK.block ?_)
      refine WK.inv (ι := Nat) (fun k => [(0, .slice b off la.length c), (1, .slice b2 off2 lb.length c2), (12, .int .i64 la.length), (13, .int .i64 k)]) (fun _ => []) (fun k => k ≤ la.length ∧ ∀ j, j < k → kx la j = kx lb j ∧ ky la j = ky lb j) (fun k => la.length - k) 0 ⟨by omega, fun j hj => by omega⟩ ⟨rfl, rfl, rfl, rfl, trivial⟩ (by (repeat (first | exact List.Sublist.refl _ | exact List.nil_sublist _ | apply List.Sublist.cons_cons | apply List.Sublist.cons))) ?_
      rintro k ⟨hkl, hE⟩ ih
      (refine WK.seq ?_; refine WK.region ?_; refine St.bin ?_; refine WO.nil ?_; refine WK.seq ?_)
      refine St.splitC (fun hc => ?_) (fun hc => ?_)
      · have hlt : k < la.length := by simp at hc; omega
        (refine WK.skip ?_; refine WK.seq ?_; refine WK.block ?_; refine WK.seq ?_; refine WK.region ?_; refine St.move ?_; refine St.assign ?_; refine WO.nil ?_; refine WK.seq ?_; refine WK.regionD ?_; refine St.move ?_; refine St.move ?_)
        refine St.at ?_
        skip
        refine St.loadX (fun h hh => ((hk.vw hh).knot hlt).agg (by simp) rfl rfl rfl) ?_
        (refine St.move ?_; refine St.move ?_)
        refine St.at ?_
        skip
        refine St.loadX (fun h hh => ((hk2.vw hh).knot (i := k) (by omega)).agg (by simp) rfl rfl rfl) ?_
        skip
        refine St.binX (kn_neq _ _ _ _) rfl rfl ?_
        (refine WO.nil ?_)
        refine St.splitC (fun hc2 => ?_) (fun hc2 => ?_)
        · (refine WK.seq ?_; refine WK.region ?_; refine St.assign ?_; refine WO.nil ?_)
          refine St.ret (by first | exact .tmp .nil | exact .cell .nil | exact .cell (.tmp .nil) | exact .tmp (.tmp .nil) | exact .cell (.cell .nil) | exact .tmp (.cell .nil) | exact .nil | exact .tmp (.cell (.tmp .nil)) | exact .cell (.tmp (.tmp .nil)) | exact .cell (.cell (.tmp .nil)) | exact .tmp (.tmp (.tmp .nil)) | exact .cell (.cell (.cell .nil))) ?_
          rw [decide_eq_false (fun e => by rw [e] at hc2; simp at hc2)]
          rfl
        · have he : kx la k = kx lb k ∧ ky la k = ky lb k := by simpa using hc2
          (refine WK.skip ?_; refine WK.blk ?_; refine WK.region ?_; refine St.binI ?_; refine St.move ?_; refine WO.nil ?_)
          refine WK.le ?_ (by (repeat (first | exact List.Sublist.refl _ | exact List.nil_sublist _ | apply List.Sublist.cons_cons | apply List.Sublist.cons))) (ih (k + 1) ⟨hlt, fun j hj => ?_⟩ (by omega))
          · exact ⟨rfl, rfl, rfl, rfl, trivial⟩
          · by_cases e : j = k
            · rw [e]; exact he
            · exact hE j (by omega)
      · have hk' : k = la.length := by simp at hc; omega
        subst hk'
        (refine WK.exit ?_; refine WK.seq ?_; refine WK.region ?_; refine St.assign ?_; refine WO.nil ?_)
        refine St.ret (by first | exact .tmp .nil | exact .cell .nil | exact .cell (.tmp .nil) | exact .tmp (.tmp .nil) | exact .cell (.cell .nil) | exact .tmp (.cell .nil) | exact .nil | exact .tmp (.cell (.tmp .nil)) | exact .cell (.tmp (.tmp .nil)) | exact .cell (.cell (.tmp .nil)) | exact .tmp (.tmp (.tmp .nil)) | exact .cell (.cell (.cell .nil))) ?_
        rw [decide_eq_true (pairs_ext hn hE)]
        rfl
end Go.Proofs.YtbhklifflhoinaaGreat
