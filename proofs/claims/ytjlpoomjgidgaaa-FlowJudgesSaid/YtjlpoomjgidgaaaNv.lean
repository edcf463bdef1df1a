/- Layer 5: the program's isCourse. -/
import Derived.Test.YtjlpoomjgidgaaaNa
import Derived.Test.YtjlpoomjgidgaaaNg
import Derived.Test.YtjlpoomjgidgaaaNt
import Derived.Test.YtjlpoomjgidgaaaNu
namespace Go.Proofs.Ytjlpoomjgidgaaa
open Go.Proofs.Ytjlpoomjgidgaaa.Ev

/-- ints as the cells of an array -/
def aC (l : List Int) : List AV := l.map fun n => .int .i64 n
theorem aC_at {l : List Int} {i : Nat} (h : i < l.length) : nthN i (aC l) = some (.int .i64 (atI l i)) := by
  rw [nthN_eq, aC, List.getElem?_map]
  simp [atI, h]
theorem aC_set {l : List Int} {i : Nat} {x : Int} (h : i < l.length) : overN i [AV.int .i64 x] (aC l) = some (aC (l.set i x)) := by
  rw [overN_mk (by simp [aC]; omega)]
  unfold aC
  rw [List.map_set, List.set_eq_take_append_cons_drop, if_pos (by simpa using h)]
  simp
theorem aC_at1 {l : List Int} {i : Nat} (h : i < l.length) : nthN (0 + i * 1) (aC l) = some (.int .i64 (atI l i)) := by rw [show 0 + i * 1 = i by omega]; exact aC_at h
theorem aC_set1 {l : List Int} {i : Nat} {x : Int} (h : i < l.length) : overN (0 + i * 1) [AV.int .i64 x] (aC l) = some (aC (l.set i x)) := by rw [show 0 + i * 1 = i by omega]; exact aC_set h
theorem sameI_aC : ∀ {l m : List Int}, l.length = m.length → sameI (aC l) (aC m) = some (decide (l = m))
  | [], [], _ => rfl
  | x :: l, y :: m, h => by
    have ih := sameI_aC (l := l) (m := m) (by simpa using h)
    unfold aC at ih ⊢
    simp only [List.map_cons, sameI, if_true, ih]
    congr 1
    by_cases e1 : x = y <;> by_cases e2 : l = m <;> simp [e1, e2]
theorem arr_eq {l : List Int} (h : l.length = 10) : evBin Try.prog .eql 108 (.agg (aC l)) (.agg (aC (List.replicate 10 0))) = some (.bool (decide (l = List.replicate 10 0))) := by
  have h1 : Try.prog.underlying 108 = some (.array 10 3) := by kernel_rfl
  have h2 : Try.prog.underlying 3 = some (.int .i64) := by kernel_rfl
  have h3 : sizeT Try.prog 3 = some 1 := by kernel_rfl
  have hg : guardOk Try.prog 108 (.agg (aC l)) = true := by show (!(Try.prog.eqGuardType Try.prog.depth 108)) = true; kernel_rfl
  have he : eqT Try.prog 40 108 (.agg (aC l)) (.agg (aC (List.replicate 10 0))) = some (decide (l = List.replicate 10 0)) := by
    unfold eqT
    rw [h1]
    simp only [h2, h3]
    rw [if_neg (by decide), if_pos ⟨by simp [aC, h], by simp [aC]⟩]
    exact sameI_aC (by simp [h])
  show evEq Try.prog .eql 108 (.agg (aC l)) (.agg (aC (List.replicate 10 0))) = _
  unfold evEq
  rw [if_pos hg, he]
  rfl
theorem InZ.form {h : Heap} {v : AV} {l : List Int} (k : InZ h v l) : v = .slice0 ∨ ∃ b off n c, v = .slice b off n c := by
  rcases k with ⟨rfl, _⟩ | ⟨b, off, m, rfl, _⟩
  · exact .inl rfl
  · exact .inr ⟨_, _, _, _, rfl⟩
theorem build3 {a b c : AV} (ha : a = .slice0 ∨ ∃ b off n c, a = .slice b off n c) (hb : b = .slice0 ∨ ∃ p off n c, b = .slice p off n c) (hc : c = .slice0 ∨ ∃ b off n d, c = .slice b off n d) : evBuildSlice Try.prog 131 3 [(0, a), (1, b), (2, c)] = some ([a, b, c], 26) := by
  rcases ha with rfl | ⟨_, _, _, _, rfl⟩ <;> rcases hb with rfl | ⟨_, _, _, _, rfl⟩ <;> rcases hc with rfl | ⟨_, _, _, _, rfl⟩ <;> kernel_rfl
/-- what an edge may carry -/
def edB (e : Ed) : Prop := 0 ≤ e.lo ∧ e.lo ≤ e.hi ∧ e.hi ≤ 65536
set_option maxRecDepth 100000 in
set_option maxHeartbeats 16000000 in
theorem isCourse_con (h : Heap) (g : Gd h) (p : Nat) (vi ve sv ev xv : AV) (hs : List Ho) (ms : List Mv) (ss es xs : List Int) (hp0 : Rd h p 0 vi) (hp1 : Rd h p 1 ve) (hi : InV h vi (hids hs)) (he : EV edC 8 h ve (edges hs ms)) (z1 : InZ h sv ss) (z2 : InZ h ev es) (z3 : InZ h xv xs) (l1 : hs.length ≤ 9) (l2 : ms.length ≤ 24) (hE : ∀ k, k < hs.length + hs.length + ms.length → edB (atE (edges hs ms) k)) (hd : (hids hs).Nodup) (hm : ∀ x ∈ ms, x.fr ∈ hids hs ∧ x.to ∈ hids hs) :
    Con Try.prog Bs 32 [.ptr p 0, .agg [sv, ev, xv]] h [] (.bool (fits hs ms ss es xs)) [] := by
  have hli : ∀ h2, lenA Try.prog 26 h2 vi = some (.int .i64 (hs.length : Int)) := by have := hi.ilen; rwa [hids_len] at this
  have hle := edges_len hs ms
  have hln : ∀ h2, lenA Try.prog 89 h2 ve = some (.int .i64 ((edges hs ms).length : Int)) := EV.len he Try.underlying89
  rw [hle] at hln
  refine Con.start rfl Try.func32 rfl rfl Try.ntmps32 rfl rfl g ?_
  (refine WK.seq ?_; refine WK.region ?_; refine St.box fun _ _ => ?_; refine St.assign ?_; refine WO.nil ?_; refine WK.seq ?_; refine WK.region ?_; refine St.move ?_; refine St.nilP ?_; refine St.fieldAddr ?_)
  rename_i p3 hp3
  refine St.loadX (fun h2 hh => (hh.rd (by simp) hp0).one rfl) ?_
  skip
  refine St.lenG rfl hli ?_
  (refine St.assign ?_; refine WO.nil ?_; refine WK.seq ?_; refine WK.seq ?_; refine WK.regionD ?_; refine St.fieldAddr ?_; refine St.load ?_)
  refine St.lenG rfl z1.inV.ilen ?_
  (refine St.move ?_; refine St.bin ?_; refine St.move ?_)
  refine St.split (fun q1 => ?_) (fun q1 => ?_)
  · (refine St.skip ?_; refine St.skip ?_; refine St.skip ?_; refine St.skip ?_; refine St.skip ?_; refine St.pickT ?_; refine St.move ?_; refine St.skip ?_; refine St.skip ?_; refine St.skip ?_; refine St.skip ?_; refine St.skip ?_; refine St.skip ?_; refine St.skip ?_; refine St.skip ?_; refine St.skip ?_; refine St.skip ?_; refine St.skip ?_; refine St.skip ?_; refine St.pickT ?_; refine WO.nil ?_; refine WK.condT ?_; refine WK.seq ?_; refine WK.region ?_; refine St.assign ?_; refine WO.nil ?_)
    refine St.ret (by first | exact .tmp .nil | exact .cell .nil | exact .cell (.tmp .nil) | exact .tmp (.tmp .nil) | exact .cell (.cell .nil) | exact .tmp (.cell .nil) | exact .nil | exact .tmp (.cell (.tmp .nil)) | exact .cell (.tmp (.tmp .nil)) | exact .cell (.cell (.tmp .nil)) | exact .tmp (.tmp (.tmp .nil)) | exact .cell (.cell (.cell .nil))) ?_
    have : ¬ ss.length = hs.length := by simp at q1; omega
    rw [fits_lens (by unfold lensB; rw [decide_eq_false this]; rfl)]
    rfl
  have a1 : ss.length = hs.length := by simp at q1; omega
  (refine St.fieldAddr ?_; refine St.load ?_)
  refine St.lenG rfl z2.inV.ilen ?_
  (refine St.move ?_; refine St.bin ?_; refine St.pickF ?_; refine St.move ?_)
  refine St.split (fun q2 => ?_) (fun q2 => ?_)
  · (refine St.skip ?_; refine St.skip ?_; refine St.skip ?_; refine St.skip ?_; refine St.skip ?_; refine St.skip ?_; refine St.skip ?_; refine St.skip ?_; refine St.skip ?_; refine St.skip ?_; refine St.skip ?_; refine St.skip ?_; refine St.pickT ?_; refine WO.nil ?_; refine WK.condT ?_; refine WK.seq ?_; refine WK.region ?_; refine St.assign ?_; refine WO.nil ?_)
    refine St.ret (by first | exact .tmp .nil | exact .cell .nil | exact .cell (.tmp .nil) | exact .tmp (.tmp .nil) | exact .cell (.cell .nil) | exact .tmp (.cell .nil) | exact .nil | exact .tmp (.cell (.tmp .nil)) | exact .cell (.tmp (.tmp .nil)) | exact .cell (.cell (.tmp .nil)) | exact .tmp (.tmp (.tmp .nil)) | exact .cell (.cell (.cell .nil))) ?_
    have : ¬ es.length = hs.length := by simp at q2; omega
    rw [fits_lens (by unfold lensB; rw [decide_eq_false this]; simp)]
    rfl
  have a2 : es.length = hs.length := by simp at q2; omega
  (refine St.fieldAddr ?_; refine St.load ?_)
  refine St.lenG rfl z3.inV.ilen ?_
  (refine St.move ?_; refine St.nilP ?_; refine St.fieldAddr ?_)
  refine St.loadX (fun h2 hh => (hh.rd (by simp) hp1).one rfl) ?_
  skip
  refine St.lenG rfl hln ?_
  (refine St.move ?_; refine St.binI ?_; refine St.binI ?_; refine St.bin ?_; refine St.pickF ?_; refine WO.nil ?_)
  refine St.splitC (fun q3 => ?_) (fun q3 => ?_)
  · (refine WK.seq ?_; refine WK.region ?_; refine St.assign ?_; refine WO.nil ?_)
    refine St.ret (by first | exact .tmp .nil | exact .cell .nil | exact .cell (.tmp .nil) | exact .tmp (.tmp .nil) | exact .cell (.cell .nil) | exact .tmp (.cell .nil) | exact .nil | exact .tmp (.cell (.tmp .nil)) | exact .cell (.tmp (.tmp .nil)) | exact .cell (.cell (.tmp .nil)) | exact .tmp (.tmp (.tmp .nil)) | exact .cell (.cell (.cell .nil))) ?_
    have : ¬ xs.length = ms.length := by simp at q3; omega
    rw [fits_lens (by unfold lensB; rw [decide_eq_false this]; simp)]
    rfl
  have a3 : xs.length = ms.length := by simp at q3; omega
  clear q1 q2 q3
  (refine WK.skip ?_; refine WK.seq ?_; refine WK.region ?_; refine St.alloc fun _ _ => ?_; refine WO.nil ?_; refine WK.seq ?_; refine WK.seq ?_; refine WK.region ?_; refine St.fieldAddr ?_; refine St.load ?_; refine St.fieldAddr ?_; refine St.load ?_; refine St.fieldAddr ?_; refine St.load ?_)
  rename_i x6 hx6
  refine St.mkS (hb := build3 z1.form z2.form z3.form) (fun j hj => ?_)
  have hal : (ss ++ es ++ xs).length = hs.length + hs.length + ms.length := by rw [List.length_append, List.length_append]; omega
  refine St.callR (R := fun u L => IsL 3 1 (ss ++ es ++ xs).length (enF inC (ss ++ es ++ xs)) u L) (fun _ => rfl) (fun h2 hh => concat_con h2 hh.gd j sv ev xv ss es xs ⟨hh.rdG (List.Mem.head _) rfl, hh.rdG (List.Mem.head _) rfl, hh.rdG (List.Mem.head _) rfl, trivial⟩ (z1.vw hh) (z2.vw hh) (z3.vw hh) (by omega)) (fun u Lu hu => ?_)
  generalize hall : ss ++ es ++ xs = all at hu hal
  skip
  refine St.lenG rfl (hu.lenG Try.underlying26) ?_
  (refine St.move ?_; refine WO.nil ?_; refine WK.block ?_)
  refine WK.perm (L' := (x6, .cells (aC (List.replicate 10 0)) 108) :: (Lu ++ [(j, .cells [sv, ev, xv] 26), (p3, .cells [sv, ev, xv] 28)])) ?_ ?_
  · show List.Perm ((x6, .cells (aC (List.replicate 10 0)) 108) :: (Lu ++ [(j, .cells [sv, ev, xv] 26), (p3, .cells [sv, ev, xv] 28)]) : Ob) (Lu ++ [(j, .cells [sv, ev, xv] 26), (x6, .cells (aC (List.replicate 10 0)) 108), (p3, .cells [sv, ev, xv] 28)])
    (refine perm_cnt fun _ _ => ?_; simp only [List.append_eq, List.cons_append, List.nil_append, List.count_append, List.count_cons, List.count_nil, Nat.add_zero, Nat.zero_add]; try ac_rfl)
  refine WK.inv (ι := Nat) (fun z => [(0, .ptr p 0), (6, .ptr x6 0), (48, u), (49, .int .i64 all.length), (50, .int .i64 z)]) (fun z => (x6, .cells (aC (nodes (edges hs ms) all z)) 108) :: Lu) (fun z => z ≤ all.length ∧ inAll hs ms all z) (fun z => all.length - z) 0 ⟨Nat.zero_le _, fun i hi => absurd hi (by omega)⟩ ⟨rfl, rfl, rfl, rfl, rfl, trivial⟩ (by exact List.Sublist.cons_cons _ (List.sublist_append_left _ _)) ?_
  rintro k ⟨hkl, hgood⟩ ih
  (refine WK.seq ?_; refine WK.region ?_; refine St.bin ?_; refine WO.nil ?_; refine WK.seq ?_)
  refine St.splitC (fun hc => ?_) (fun hc => ?_)
  · have hlt : k < all.length := by simp at hc; omega
    have he' := he
    obtain ⟨b, off, c, rfl, hk⟩ := he'.ne (by omega)
    have hu' := hu
    rcases hu'.open_ with ⟨_, _, h1, _⟩ | ⟨i, c2, o, rfl, _⟩
    · omega
    have hrd : ∀ {h2 : Heap} {V : Ob}, Vw h [] V h2 → (∀ x ∈ Lu, x ∈ V) → EH inC 1 h2 i 0 all := fun hh hm => by
      obtain ⟨b', off', c', e, hk'⟩ := (en_v inC_len hu rfl hh hm).ne (by omega)
      cases e
      exact hk'
    (refine WK.skip ?_; refine WK.seq ?_; refine WK.block ?_; refine WK.seq ?_; refine WK.region ?_; refine St.move ?_)
    refine St.at ?_
    skip
    refine St.loadX (fun h2 hh2 => (Rds.headG ((hrd hh2 (fun x hx => List.mem_cons_of_mem _ hx)).at_ (z := (k : Int)) (n := k) (by omega) hlt)).one rfl) ?_
    (refine St.assign ?_; refine St.assign ?_; refine WO.nil ?_; refine WK.seq ?_; refine WK.region ?_; refine St.move ?_; refine St.nilP ?_; refine St.fieldAddr ?_)
    refine St.loadX (fun h2 hh => (hh.rd (by simp) hp1).one rfl) ?_
    (refine St.move ?_)
    refine St.at ?_
    refine St.loadX (fun h2 hh2 => ((hk.vw hh2).at_ (z := (k : Int)) (n := k) (by omega) (by omega)).agg (by simp [edC]) rfl rfl rfl) ?_
    (refine St.alloc fun _ _ => ?_; refine St.store0 ?_; refine WO.nil ?_; refine WK.seq ?_; refine WK.seq ?_; refine WK.region ?_; refine St.move ?_; refine St.fieldAddr ?_; refine St.fieldAddr ?_; refine St.fieldAddr ?_; refine St.load ?_; refine St.fieldAddr ?_; refine St.fieldAddr ?_; refine St.fieldAddr ?_; refine St.load ?_)
    rename_i p9 hp9
    have hEk := hE k (by omega)
    have hnd : ∀ j, j < k → ndB (atE (edges hs ms) j) := fun j hj => edges_nd l1 hm (by omega)
    obtain ⟨⟨n1, n2⟩, n3, n4⟩ := edges_nd l1 hm (n := k) (by omega)
    have hxb : ∀ j, j < k → 0 ≤ atI all j ∧ atI all j ≤ 65536 := fun j hj => by
      have h1 := hgood j hj
      have h2 := hE j (by omega)
      unfold inB at h1
      simp at h1
      unfold edB at h2
      omega
    have hbd := nodes_bd hnd hxb
    have hnl := nodes_len (ed := edges hs ms) (xs := all) k
    have ih' := ih (k + 1)
    rw [nodes_succ] at ih'
    have hq : inB (atI all k) (atE (edges hs ms) k).lo (atE (edges hs ms) k).hi = (decide ((nthE (edges hs ms) k).lo ≤ nthE all k) && decide (nthE all k ≤ (nthE (edges hs ms) k).hi)) := rfl
    change edB (nthE (edges hs ms) k) at hEk
    change 0 ≤ (nthE (edges hs ms) k).a at n1
    change (nthE (edges hs ms) k).a ≤ 9 at n2
    change 0 ≤ (nthE (edges hs ms) k).b at n3
    change (nthE (edges hs ms) k).b ≤ 9 at n4
    refine St.call (fun _ => rfl) (fun h2 hh => within_con h2 hh.gd (nthE all k) (nthE (edges hs ms) k).lo (nthE (edges hs ms) k).hi hEk.2.1) ?_
    cases hw : (decide ((nthE (edges hs ms) k).lo ≤ nthE all k) && decide (nthE all k ≤ (nthE (edges hs ms) k).hi))
    · (refine St.un ?_; refine WO.nil ?_; refine WK.condT ?_; refine WK.seq ?_; refine WK.region ?_; refine St.assign ?_; refine WO.nil ?_)
      refine St.ret (by first | exact .tmp .nil | exact .cell .nil | exact .cell (.tmp .nil) | exact .tmp (.tmp .nil) | exact .cell (.cell .nil) | exact .tmp (.cell .nil) | exact .nil | exact .tmp (.cell (.tmp .nil)) | exact .cell (.tmp (.tmp .nil)) | exact .cell (.cell (.tmp .nil)) | exact .tmp (.tmp (.tmp .nil)) | exact .cell (.cell (.cell .nil))) ?_
      rw [hw] at hq
      subst hall
      rw [fits_out a1 a2 (k := k) (by omega) hq]
      rfl
    rw [hw] at hq
    have hxk : 0 ≤ nthE all k ∧ nthE all k ≤ 65536 := by
      simp at hw
      unfold edB at hEk
      omega
    have hba := hbd (nthE (edges hs ms) k).a.toNat
    have hb2 : -(65536 * ((k : Int) + 1)) ≤ atI ((nodes (edges hs ms) all k).set (nthE (edges hs ms) k).a.toNat (atI (nodes (edges hs ms) all k) (nthE (edges hs ms) k).a.toNat - nthE all k)) (nthE (edges hs ms) k).b.toNat ∧ atI ((nodes (edges hs ms) all k).set (nthE (edges hs ms) k).a.toNat (atI (nodes (edges hs ms) all k) (nthE (edges hs ms) k).a.toNat - nthE all k)) (nthE (edges hs ms) k).b.toNat ≤ 65536 * ((k : Int) + 1) := by
      rw [atI_set (by omega)]
      have := hbd (nthE (edges hs ms) k).b.toNat
      split <;> omega
    replace ih' := ih' ⟨hlt, less_succ hgood hq⟩ (by omega)
    change WK Try.prog Bs _ h [] 93 [] _ _ ((x6, .cells (aC (((nodes (edges hs ms) all k).set (nthE (edges hs ms) k).a.toNat (atI (nodes (edges hs ms) all k) (nthE (edges hs ms) k).a.toNat - nthE all k)).set (nthE (edges hs ms) k).b.toNat (atI ((nodes (edges hs ms) all k).set (nthE (edges hs ms) k).a.toNat (atI (nodes (edges hs ms) all k) (nthE (edges hs ms) k).a.toNat - nthE all k)) (nthE (edges hs ms) k).b.toNat + nthE all k))) 108) :: Lu) at ih'
    clear hq hw hbd hnd hxb hgood ih
    generalize nodes (edges hs ms) all k = S at hnl ih' hba hb2 ⊢
    (refine St.un ?_; refine WO.nil ?_; refine WK.condF ?_; refine WK.skip ?_; refine WK.seq ?_; refine WK.region ?_; refine St.fieldAddr ?_; refine St.atA ?_; refine St.load ?_; refine St.atA ?_)
    refine St.loadX (fun h2 hh2 => (hh2.rdG (List.mem_cons_of_mem _ (List.Mem.head _)) (aC_at1 (l := S) (i := (nthE (edges hs ms) k).a.toNat) (by omega))).one rfl) ?_
    (refine St.move ?_; refine St.binI ?_; refine St.atA ?_)
    refine St.store1 (hv := store_cell (by kernel_rfl) rfl (aC_set1 (l := S) (i := (nthE (edges hs ms) k).a.toNat) (by omega))) ?_
    (refine WO.nil ?_; refine WK.region ?_; refine St.fieldAddr ?_; refine St.atA ?_; refine St.load ?_; refine St.atA ?_)
    refine St.loadX (fun h2 hh2 => (hh2.rdG (List.mem_cons_of_mem _ (List.Mem.head _)) (aC_at1 (l := S.set (nthE (edges hs ms) k).a.toNat (atI S (nthE (edges hs ms) k).a.toNat - nthE all k)) (i := (nthE (edges hs ms) k).b.toNat) (by rw [List.length_set]; omega))).one rfl) ?_
    (refine St.move ?_; refine St.binI ?_; refine St.atA ?_)
    refine St.store1 (hv := store_cell (by kernel_rfl) rfl (aC_set1 (l := S.set (nthE (edges hs ms) k).a.toNat (atI S (nthE (edges hs ms) k).a.toNat - nthE all k)) (i := (nthE (edges hs ms) k).b.toNat) (by rw [List.length_set]; omega))) ?_
    (refine WO.nil ?_; refine WK.blk ?_; refine WK.region ?_; refine St.binI ?_; refine St.move ?_; refine WO.nil ?_)
    refine WK.le ?_ (by (repeat (first | exact List.Sublist.refl _ | exact List.nil_sublist _ | apply List.Sublist.cons_cons | apply List.Sublist.cons))) ih'
    exact ⟨rfl, rfl, rfl, rfl, rfl, trivial⟩
  · have : k = all.length := by simp at hc; omega
    subst this
    clear ih hc hkl
    (refine WK.exit ?_; refine WK.seq ?_; refine WK.region ?_)
    refine St.loadX (fun h2 hh2 => (hh2.rdsEn (List.Mem.head _) (.inl ⟨[], _, by rw [List.append_nil]⟩) (aC (nodes (edges hs ms) all all.length)) [] 0 (by simp)).agg (by intro e; have := congrArg List.length e; simp [aC, nodes_len] at this) rfl rfl (by simp [aC, nodes_len]; kernel_rfl)) ?_
    (refine St.build ?_)
    refine St.binX (arr_eq (nodes_len _)) rfl rfl ?_
    (refine St.assign ?_; refine WO.nil ?_)
    refine St.ret (by first | exact .tmp .nil | exact .cell .nil | exact .cell (.tmp .nil) | exact .tmp (.tmp .nil) | exact .cell (.cell .nil) | exact .tmp (.cell .nil) | exact .nil | exact .tmp (.cell (.tmp .nil)) | exact .cell (.tmp (.tmp .nil)) | exact .cell (.cell (.tmp .nil)) | exact .tmp (.tmp (.tmp .nil)) | exact .cell (.cell (.cell .nil))) ?_
    subst hall
    rw [fits_of_nodes hd l1 hm a1 a2 a3 (by rw [← hal]; exact hgood), ← hal]
    rfl
end Go.Proofs.Ytjlpoomjgidgaaa
