/- Layer 9: the program's firstUnlawful (a map of lists), Lawful. -/
import Derived.Test.YtilpinmbngikgaaKd
import Derived.Test.YtilpinmbngikgaaKt
namespace Go.Proofs.Ytilpinmbngikgaa
open Go.Proofs.Ytilpinmbngikgaa.Ev

/-- the entries of the map of what was said, and the lists that it holds -/
def entE : CT → Nat → List (AV × AV × Nat)
  | [], _ => []
  | (k, j, ls) :: r, c => (.int .i64 k, .slice j 0 ls.length (.m 0), c) :: entE r (c + 1)
def rowsE (T : CT) : Ob := T.map fun e => (e.2.1, .row (enF leC e.2.2) 38 8)
theorem entE_no {cs : Int} : ∀ {T : CT} {c i : Nat}, (∀ e ∈ T, e.1 ≠ cs) → findE (.int .i64 cs) (entE T c) i = some none
  | [], _, _, _ => rfl
  | (k, j, ls) :: r, c, i, h => by
    have h1 : (cs == k) = false := by
      have := h (k, j, ls) (List.mem_cons_self ..)
      simp only at this
      simp
      exact fun e => this e.symm
    show (match sameKey (AV.int .i64 cs) (AV.int .i64 k) with
      | some true => some (some (i, (AV.slice j 0 ls.length (.m 0), c)))
      | some false => findE (.int .i64 cs) (entE r (c + 1)) (i + 1)
      | none => none) = _
    simp only [sameKey, if_true, h1]
    exact entE_no fun e he => h e (List.mem_cons_of_mem _ he)
theorem entE_yes {cs : Int} {j : Nat} {ls : List Le} {B : CT} : ∀ {A : CT} {c i : Nat}, (∀ e ∈ A, e.1 ≠ cs) → findE (.int .i64 cs) (entE (A ++ (cs, j, ls) :: B) c) i = some (some (i + A.length, .slice j 0 ls.length (.m 0), c + A.length))
  | [], c, i, _ => by
    show (match sameKey (AV.int .i64 cs) (AV.int .i64 cs) with
      | some true => some (some (i, (AV.slice j 0 ls.length (.m 0), c)))
      | some false => findE (.int .i64 cs) (entE B (c + 1)) (i + 1)
      | none => none) = _
    simp [sameKey]
  | (k, j2, ls2) :: A, c, i, h => by
    have h1 : (cs == k) = false := by
      have := h (k, j2, ls2) (List.mem_cons_self ..)
      simp only at this
      simp
      exact fun e => this e.symm
    show (match sameKey (AV.int .i64 cs) (AV.int .i64 k) with
      | some true => some (some (i, (AV.slice j2 0 ls2.length (.m 0), c)))
      | some false => findE (.int .i64 cs) (entE (A ++ (cs, j, ls) :: B) (c + 1)) (i + 1)
      | none => none) = _
    simp only [sameKey, if_true, h1]
    rw [entE_yes fun e he => h e (List.mem_cons_of_mem _ he), List.length_cons]
    simp only [Option.some.injEq, Prod.mk.injEq, true_and]
    omega
theorem entE_set {cs : Int} {j j' : Nat} {ls ls' : List Le} {B : CT} : ∀ {A : CT} {c : Nat}, setE A.length (.int .i64 cs) (.slice j' 0 ls'.length (.m 0)) (entE (A ++ (cs, j, ls) :: B) c) = entE (A ++ (cs, j', ls') :: B) c
  | [], c => rfl
  | (k, j2, ls2) :: A, c => by
    show (AV.int .i64 k, AV.slice j2 0 ls2.length (.m 0), c) :: setE A.length (.int .i64 cs) (.slice j' 0 ls'.length (.m 0)) (entE (A ++ (cs, j, ls) :: B) (c + 1)) = _
    rw [entE_set]
    rfl
theorem entE_snoc {cs : Int} {j : Nat} {ls : List Le} : ∀ {T : CT} {c : Nat}, entE (T ++ [(cs, j, ls)]) c = entE T c ++ [(.int .i64 cs, .slice j 0 ls.length (.m 0), c + T.length)]
  | [], c => rfl
  | (k, j2, ls2) :: T, c => by
    show (AV.int .i64 k, AV.slice j2 0 ls2.length (.m 0), c) :: entE (T ++ [(cs, j, ls)]) (c + 1) = _
    rw [entE_snoc]
    simp only [entE, List.cons_append, List.length_cons]
    rw [show c + 1 + T.length = c + (T.length + 1) by omega]
theorem keyI (cs : Int) : keyFits Try.prog 3 (.int .i64 cs) = true := by
  unfold keyFits
  rw [Try.underlying3]
  rfl
theorem look_yes {h2 : Heap} {pm : Nat} {cs : Int} {j : Nat} {ls : List Le} {A B : CT} {n : Nat} (hg : h2.get pm = some (.map (entE (A ++ (cs, j, ls) :: B) 0) n)) (hno : ∀ e ∈ A, e.1 ≠ cs) : evLookup Try.prog h2 82 (.map pm) (.int .i64 cs) false = some (.slice j 0 ls.length (.m 0)) := by
  unfold evLookup
  rw [Try.underlying82]
  simp only [keyI, if_true, hg, entE_yes hno]
  rfl
theorem look_no {h2 : Heap} {pm : Nat} {cs : Int} {T : CT} {n : Nat} (hg : h2.get pm = some (.map (entE T 0) n)) (hno : ∀ e ∈ T, e.1 ≠ cs) : evLookup Try.prog h2 82 (.map pm) (.int .i64 cs) false = some .slice0 := by
  have hz : zeroT Try.prog 24 = some .slice0 := by kernel_rfl
  unfold evLookup
  rw [Try.underlying82]
  simp only [keyI, if_true, hg, entE_no hno, hz]
  rfl
theorem upd_yes {h2 : Heap} {pm : Nat} {cs : Int} {j j' : Nat} {ls ls' : List Le} {A B : CT} {n : Nat} (hg : h2.get pm = some (.map (entE (A ++ (cs, j, ls) :: B) 0) n)) (hno : ∀ e ∈ A, e.1 ≠ cs) : evUpdate Try.prog h2 82 (.map pm) (.int .i64 cs) (.slice j' 0 ls'.length (.m 0)) = h2.set pm (.map (entE (A ++ (cs, j', ls') :: B) 0) n) := by
  unfold evUpdate
  rw [Try.underlying82]
  simp only [keyI, if_true, hg, entE_yes hno, Nat.zero_add, entE_set]
theorem upd_no {h2 : Heap} {pm : Nat} {cs : Int} {j' : Nat} {ls' : List Le} {T : CT} (hg : h2.get pm = some (.map (entE T 0) T.length)) (hno : ∀ e ∈ T, e.1 ≠ cs) : evUpdate Try.prog h2 82 (.map pm) (.int .i64 cs) (.slice j' 0 ls'.length (.m 0)) = h2.set pm (.map (entE (T ++ [(cs, j', ls')]) 0) (T.length + 1)) := by
  unfold evUpdate
  rw [Try.underlying82]
  simp only [keyI, if_true, hg, entE_no hno, entE_snoc, Nat.zero_add]
/-- letter i is not lawful behind those before it -/
def badN (c : Int) (l : List Le) (i : Nat) : Bool := !(Bool.or ((dedT l (atL l i).cs i).any (alikeB (atL l i))) (sayC c (dedT l (atL l i).cs i) (atL l i)))
theorem Ev.Vw.getO {h0 h : Heap} {W : List Nat} {V : Ob} {j : Nat} {o : AObj} (k : Vw h0 W V h) (hm : (j, o) ∈ V) : h.get j = some o := (k.own _ hm).1
set_option maxRecDepth 100000 in
theorem alike1_con (h : Heap) (g : Gd h) (x y : Le) (p : Nat) (hp : Rds h p 0 (leC x)) : Con Try.prog Bs 50 [.agg (leC y), .ptr p 0] h [] (.bool (alikeB x y)) [] := by
  refine Con.start rfl Try.func50 rfl rfl Try.ntmps50 rfl rfl g ?_
  (refine WK.seq ?_; refine WK.region ?_; refine St.box fun _ _ => ?_; refine St.assign ?_; refine WO.nil ?_; refine WK.seq ?_; refine WK.region ?_)
  refine St.loadX (fun h2 hh => (hh.rds (by simp) hp).agg (by simp [leC]) rfl rfl rfl) ?_
  (refine St.load ?_)
  refine St.call (fun _ => rfl) (fun h2 hh => alike_con h2 hh.gd x y) ?_
  (refine St.assign ?_; refine WO.nil ?_)
  refine St.ret (by first | exact .tmp .nil | exact .cell .nil | exact .cell (.tmp .nil) | exact .tmp (.tmp .nil) | exact .cell (.cell .nil) | exact .tmp (.cell .nil) | exact .nil | exact .tmp (.cell (.tmp .nil)) | exact .cell (.tmp (.tmp .nil)) | exact .cell (.cell (.tmp .nil)) | exact .tmp (.tmp (.tmp .nil)) | exact .cell (.cell (.cell .nil))) ?_
  rfl
set_option maxRecDepth 100000 in
set_option maxHeartbeats 32000000 in
theorem firstUnlawful_con (h : Heap) (g : Gd h) (c : Int) (v : AV) (l : List Le) (hv : LeV h v l) (hl : l.length ≤ 2000) (hcr : crt c = true) (hfm : ∀ x ∈ l, frmB c x = true) : Con Try.prog Bs 24 [.agg [.int .i64 c], v] h [] (.int .i64 (fstN (badN c l) l.length 0)) [] := by
  have hcb := crt_bd hcr
  have hfr : ∀ x ∈ l, 0 ≤ x.fr ∧ x.fr < 7 := fun x hx => by
    have := hfm x hx
    unfold frmB headB at this
    simp only [Bool.and_eq_true] at this
    have h2 := arB_yes this.1.2.2.2.2.1
    omega
  refine Con.start rfl Try.func24 rfl rfl Try.ntmps24 rfl rfl g ?_
  (refine WK.seq ?_; refine WK.region ?_; refine St.box fun _ _ => ?_; refine St.assign ?_; refine WO.nil ?_; refine WK.scope ?_; refine WK.seq ?_; refine WK.region ?_; refine St.assign ?_; refine WO.nil ?_; refine WK.seq ?_; refine WK.region ?_)
  rename_i p2 hp2
  refine St.makeMap (fun pm hpm => ?_)
  (refine St.assign ?_; refine WO.nil ?_; refine WK.seq ?_; refine WK.label ?_; refine WK.seq ?_; refine WK.seq ?_; refine WK.region ?_; refine St.move ?_)
  refine St.lenG rfl hv.llen ?_
  (refine St.move ?_; refine WO.nil ?_; refine WK.block ?_)
  refine WK.inv (ι := Nat × CT) (fun z => [(2, .ptr p2 0), (5, .int .i64 (-1)), (6, .map pm), (11, v), (12, .int .i64 l.length), (13, .int .i64 z.1)]) (fun z => (pm, .map (entE z.2 0) z.2.length) :: (p2, .cells [.int .i64 c] 23) :: rowsE z.2) (fun z => z.1 ≤ l.length ∧ CtOk l z.1 z.2 ∧ ∀ i, i < z.1 → badN c l i = false) (fun z => l.length - z.1) (0, []) ⟨Nat.zero_le _, ctOk_nil l, fun i hi => absurd hi (by omega)⟩ ⟨rfl, rfl, rfl, rfl, rfl, rfl, trivial⟩ (by exact List.Sublist.refl _) ?_
  rintro ⟨i, T⟩ ⟨hil, hT, hgood⟩ ih
  simp only at hil hT hgood ih ⊢
  (refine WK.seq ?_; refine WK.region ?_; refine St.bin ?_; refine WO.nil ?_; refine WK.seq ?_)
  refine St.splitC (fun hc => ?_) (fun hc => ?_)
  rotate_left
  · have : i = l.length := by simp at hc; omega
    subst this
    (refine WK.exit ?_; refine WK.seq ?_; refine WK.region ?_; refine St.move ?_; refine St.assign ?_; refine WO.nil ?_)
    refine St.ret (by first | exact .tmp .nil | exact .cell .nil | exact .cell (.tmp .nil) | exact .tmp (.tmp .nil) | exact .cell (.cell .nil) | exact .tmp (.cell .nil) | exact .nil | exact .tmp (.cell (.tmp .nil)) | exact .cell (.tmp (.tmp .nil)) | exact .cell (.cell (.tmp .nil)) | exact .tmp (.tmp (.tmp .nil)) | exact .cell (.cell (.cell .nil))) ?_
    rw [fstN_no hgood]
    rfl
  have hlt : i < l.length := by simp at hc; omega
  have hv' := hv
  obtain ⟨b, off, m, rfl, hk⟩ := hv'.ne (by omega)
  (refine WK.skip ?_; refine WK.seq ?_; refine WK.block ?_; refine WK.seq ?_; refine WK.region ?_; refine St.move ?_)
  refine St.at ?_
  refine St.loadX (fun h2 hh => ((hk.vw hh).at_ (z := (i : Int)) (n := i) (by omega) hlt).agg (by simp [leC]) rfl rfl rfl) ?_
  (refine St.alloc fun _ _ => ?_; refine St.assign ?_; refine St.store0 ?_; refine WO.nil ?_; refine WK.seq ?_; refine WK.region ?_; refine St.move ?_; refine St.fieldAddr ?_; refine St.load ?_)
  rename_i p8 hp8
  have hbad : badN c l i = !(Bool.or ((dedT l (nthE l i).cs i).any (alikeB (nthE l i))) (sayC c (dedT l (nthE l i).cs i) (nthE l i))) := rfl
  have hmem : ∀ y ∈ dedT l (nthE l i).cs i, y ∈ l ∧ y.cs = (nthE l i).cs := fun y hy => by
    obtain ⟨k, h1, rfl, h3⟩ := ded_mem hy
    exact ⟨nthE_mem (by omega), h3⟩
  have hdl := ded_len (l := l) (cs := (nthE l i).cs) (k := i)
  rcases ct_split (nthE l i).cs T with hno | ⟨A, j, ls, B, rfl, hno⟩
  · have hd := hT.no _ hno
    rw [hd] at hbad hmem hdl
    refine St.lookupV (v := .slice0) (fun h2 hh => ?_) ?_
    · show plainV (evLookup Try.prog h2 82 (.map pm) (.int .i64 (nthE l i).cs) false) h2 = _
      rw [look_no (hh.getO (List.mem_cons_of_mem _ (List.Mem.head _))) hno]
      rfl
    (refine St.assign ?_; refine WO.nil ?_; refine WK.block ?_; refine WK.seq ?_; refine WK.region ?_; refine St.move ?_; refine St.fn ?_)
    refine St.call (fun _ => rfl) (fun h2 hh => contF_con h2 hh.gd .slice0 [] 50 [.ptr p8 0] (alikeB (nthE l i)) (.inl ⟨.inl rfl, rfl⟩) (Nat.zero_le _) (fun h3 V hh3 y hy => by cases hy)) ?_
    rw [show ([] : List Le).any (alikeB (nthE l i)) = false from rfl]
    (refine St.assign ?_; refine WO.nil ?_; refine WK.condF ?_; refine WK.seq ?_; refine WK.region ?_; refine St.load ?_; refine St.move ?_; refine St.load ?_)
    refine St.call (fun _ => rfl) (fun h2 hh => canSay_con h2 hh.gd c .slice0 [] (nthE l i) (.inl ⟨.inl rfl, rfl⟩) (Nat.zero_le _) (fun y hy => by cases hy) (fun y hy => by cases hy)) ?_
    cases hs : sayC c [] (nthE l i)
    · rw [hs] at hbad
      (refine St.assign ?_; refine WO.nil ?_; refine WK.condF ?_; refine WK.seq ?_; refine WK.region ?_; refine St.move ?_; refine St.assign ?_; refine WO.nil ?_; refine WK.exit ?_; refine WK.seq ?_; refine WK.region ?_; refine St.move ?_; refine St.assign ?_; refine WO.nil ?_)
      refine St.ret (by first | exact .tmp .nil | exact .cell .nil | exact .cell (.tmp .nil) | exact .tmp (.tmp .nil) | exact .cell (.cell .nil) | exact .tmp (.cell .nil) | exact .nil | exact .tmp (.cell (.tmp .nil)) | exact .cell (.tmp (.tmp .nil)) | exact .cell (.cell (.tmp .nil)) | exact .tmp (.tmp (.tmp .nil)) | exact .cell (.cell (.cell .nil))) ?_
      rw [fstN_yes hlt hgood hbad]
      rfl
    · rw [hs] at hbad
      (refine St.assign ?_; refine WO.nil ?_; refine WK.condT ?_)
      refine WK.regionE (n := 2) [(p8, .cells (leC (nthE l i)) 38), (pm, .map (entE T 0) T.length)] (by exact .cons_cons _ (.cons_cons _ (List.nil_sublist _))) ?_
      refine WE.move ?_
      refine WE.fieldAddr ?_
      refine WE.load 0 ?_
      refine WE.move ?_
      refine WE.load 0 ?_
      refine WE.mkS 1 (fun i2 hi2 => ?_)
      refine WE.appNil (new := leC (nthE l i)) (fun j' hj' => ?_) ⟨rfl, rfl, rfl, rfl, rfl, rfl, rfl, rfl, rfl, rfl, rfl, rfl⟩ (List.Mem.head _) rfl rfl
      refine Ev.WE.mapUpd (A := [_]) (r := pm) (es := entE T 0) (c := T.length) (es' := entE (T ++ [((nthE l i).cs, j', [nthE l i])]) 0) (c' := T.length + 1) rfl (fun h3 g3 hg hs3 => ?_) ?_
      · show (evUpdate Try.prog h3 82 (.map pm) (.int .i64 (nthE l i).cs) (.slice j' 0 [nthE l i].length (.m 0))).map (fun h => (ANext.skip, h)) = _
        rw [upd_no hg hno, hs3]
        rfl
      refine WE.nil ?_
      have hT2 := hT.new (j' := j') hno
      refine WK.perm (L' := (pm, .map (entE (T ++ [((nthE l i).cs, j', [nthE l i])]) 0) (T.length + 1)) :: (p2, .cells [.int .i64 c] 23) :: (rowsE T ++ [(j', .row (leC (nthE l i)) 38 8), (i2, .cells (leC (nthE l i)) 38), (p8, .cells (leC (nthE l i)) 38)])) ?_ ?_
      · show List.Perm ((pm, .map (entE (T ++ [((nthE l i).cs, j', [nthE l i])]) 0) (T.length + 1)) :: (p2, .cells [.int .i64 c] 23) :: (rowsE T ++ [(j', .row (leC (nthE l i)) 38 8), (i2, .cells (leC (nthE l i)) 38), (p8, .cells (leC (nthE l i)) 38)]) : Ob) ((j', .row (leC (nthE l i)) 38 8) :: (i2, .cells (leC (nthE l i)) 38) :: (p8, .cells (leC (nthE l i)) 38) :: (pm, .map (entE (T ++ [((nthE l i).cs, j', [nthE l i])]) 0) (T.length + 1)) :: (p2, .cells [.int .i64 c] 23) :: rowsE T)
        (refine perm_cnt fun _ _ => ?_; simp only [List.append_eq, List.cons_append, List.nil_append, List.count_append, List.count_cons, List.count_nil, Nat.add_zero, Nat.zero_add]; try ac_rfl)
      (refine WK.blk ?_; refine WK.blk ?_; refine WK.region ?_; refine St.binI ?_; refine St.move ?_; refine WO.nil ?_)
      refine WK.le ?_ ?_ (ih (i + 1, T ++ [((nthE l i).cs, j', [nthE l i])]) ⟨hlt, hT2, less_succ' hgood hbad⟩ (by simp only; omega))
      · exact ⟨rfl, rfl, rfl, rfl, rfl, rfl, trivial⟩
      · simp only
        rw [List.length_append, List.length_singleton]
        refine .cons_cons _ (.cons_cons _ ?_)
        have er : rowsE (T ++ [((nthE l i).cs, j', [nthE l i])]) = rowsE T ++ [(j', .row (leC (nthE l i)) 38 8)] := by
          unfold rowsE
          rw [List.map_append]
          congr 1
        rw [er]
        exact List.Sublist.append_left (.cons_cons _ (List.nil_sublist _)) _
  · obtain ⟨hls, hln⟩ := hT.is ((nthE l i).cs, j, ls) (by simp)
    simp only at hls hln
    rw [← hls] at hbad hmem hdl
    have hrow : (j, AObj.row (enF leC ls) 38 8) ∈ rowsE (A ++ ((nthE l i).cs, j, ls) :: B) := List.mem_map.2 ⟨((nthE l i).cs, j, ls), by simp, rfl⟩
    have hisl : IsL 38 8 ls.length (enF leC ls) (.slice j 0 ls.length (.m 0)) [(j, .row (enF leC ls) 38 8)] := .row j (enF_len leC_len ls)
    have hrd : ∀ {h2 : Heap}, Vw h [] ((p8, .cells (leC (nthE l i)) 38) :: (pm, .map (entE (A ++ ((nthE l i).cs, j, ls) :: B) 0) (A ++ ((nthE l i).cs, j, ls) :: B).length) :: (p2, .cells [.int .i64 c] 23) :: rowsE (A ++ ((nthE l i).cs, j, ls) :: B)) h2 → LeV h2 (.slice j 0 ls.length (.m 0)) ls := fun hh => en_v leC_len hisl rfl hh (fun x hx => by rw [List.mem_singleton.1 hx]; exact List.mem_cons_of_mem _ (List.mem_cons_of_mem _ (List.mem_cons_of_mem _ hrow)))
    refine St.lookupV (v := .slice j 0 ls.length (.m 0)) (fun h2 hh => ?_) ?_
    · show plainV (evLookup Try.prog h2 82 (.map pm) (.int .i64 (nthE l i).cs) false) h2 = _
      rw [look_yes (hh.getO (List.mem_cons_of_mem _ (List.Mem.head _))) hno]
      rfl
    (refine St.assign ?_; refine WO.nil ?_; refine WK.block ?_; refine WK.seq ?_; refine WK.region ?_; refine St.move ?_; refine St.fn ?_)
    refine St.call (fun _ => rfl) (fun h2 hh => contF_con h2 hh.gd (.slice j 0 ls.length (.m 0)) ls 50 [.ptr p8 0] (alikeB (nthE l i)) (hrd hh) (by omega) (fun h3 V hh3 y _ => alike1_con h3 hh3.gd (nthE l i) y p8 (hh3.rds (by simp) (hh.rdsEn (List.Mem.head _) (.inl ⟨[], _, by rw [List.append_nil]⟩) (leC (nthE l i)) [] 0 (by rw [List.append_nil]; rfl))))) ?_
    cases ha : ls.any (alikeB (nthE l i))
    rotate_left
    · rw [ha] at hbad
      have hT2 := hT.same (show (dedT l (nthE l i).cs i).any (alikeB (nthE l i)) = true by rw [← hls]; exact ha)
      (refine St.assign ?_; refine WO.nil ?_; refine WK.condT ?_; refine WK.exit ?_; refine WK.region ?_; refine St.binI ?_; refine St.move ?_; refine WO.nil ?_)
      refine WK.le ?_ (by exact List.sublist_cons_self _ _) (ih (i + 1, A ++ ((nthE l i).cs, j, ls) :: B) ⟨hlt, hT2, less_succ' hgood hbad⟩ (by simp only; omega))
      exact ⟨rfl, rfl, rfl, rfl, rfl, rfl, trivial⟩
    rw [ha] at hbad
    (refine St.assign ?_; refine WO.nil ?_; refine WK.condF ?_; refine WK.seq ?_; refine WK.region ?_; refine St.load ?_; refine St.move ?_; refine St.load ?_)
    refine St.call (fun _ => rfl) (fun h2 hh => canSay_con h2 hh.gd c (.slice j 0 ls.length (.m 0)) ls (nthE l i) (hrd hh) (by omega) (fun y hy => hfr y (hmem y hy).1) (fun y hy => (hmem y hy).2)) ?_
    cases hs : sayC c ls (nthE l i)
    · rw [hs] at hbad
      (refine St.assign ?_; refine WO.nil ?_; refine WK.condF ?_; refine WK.seq ?_; refine WK.region ?_; refine St.move ?_; refine St.assign ?_; refine WO.nil ?_; refine WK.exit ?_; refine WK.seq ?_; refine WK.region ?_; refine St.move ?_; refine St.assign ?_; refine WO.nil ?_)
      refine St.ret (by first | exact .tmp .nil | exact .cell .nil | exact .cell (.tmp .nil) | exact .tmp (.tmp .nil) | exact .cell (.cell .nil) | exact .tmp (.cell .nil) | exact .nil | exact .tmp (.cell (.tmp .nil)) | exact .cell (.tmp (.tmp .nil)) | exact .cell (.cell (.tmp .nil)) | exact .tmp (.tmp (.tmp .nil)) | exact .cell (.cell (.cell .nil))) ?_
      rw [fstN_yes hlt hgood hbad]
      rfl
    · rw [hs] at hbad
      have hT2 := fun j' => CtOk.upd (j' := j') hT (show (dedT l (nthE l i).cs i).any (alikeB (nthE l i)) = false by rw [← hls]; exact ha)
      have er : ∀ j' (ls' : List Le), rowsE (A ++ ((nthE l i).cs, j', ls') :: B) = rowsE A ++ (j', .row (enF leC ls') 38 8) :: rowsE B := fun j' ls' => by
        unfold rowsE
        rw [List.map_append, List.map_cons]
      have el : ∀ j' (ls' : List Le), (A ++ ((nthE l i).cs, j', ls') :: B).length = (A ++ ((nthE l i).cs, j, ls) :: B).length := fun j' ls' => by simp
      (refine St.assign ?_; refine WO.nil ?_; refine WK.condT ?_)
      rw [er]
      refine WK.perm (L' := (p8, .cells (leC (nthE l i)) 38) :: (pm, .map (entE (A ++ ((nthE l i).cs, j, ls) :: B) 0) (A ++ ((nthE l i).cs, j, ls) :: B).length) :: (j, .row (enF leC ls) 38 8) :: (p2, .cells [.int .i64 c] 23) :: (rowsE A ++ rowsE B)) ?_ ?_
      · show List.Perm ((p8, .cells (leC (nthE l i)) 38) :: (pm, .map (entE (A ++ ((nthE l i).cs, j, ls) :: B) 0) (A ++ ((nthE l i).cs, j, ls) :: B).length) :: (j, .row (enF leC ls) 38 8) :: (p2, .cells [.int .i64 c] 23) :: (rowsE A ++ rowsE B) : Ob) ((p8, .cells (leC (nthE l i)) 38) :: (pm, .map (entE (A ++ ((nthE l i).cs, j, ls) :: B) 0) (A ++ ((nthE l i).cs, j, ls) :: B).length) :: (p2, .cells [.int .i64 c] 23) :: (rowsE A ++ (j, .row (enF leC ls) 38 8) :: rowsE B))
        (refine perm_cnt fun _ _ => ?_; simp only [List.append_eq, List.cons_append, List.nil_append, List.count_append, List.count_cons, List.count_nil, Nat.add_zero, Nat.zero_add]; try ac_rfl)
      refine WK.regionE (n := 3) [(p8, .cells (leC (nthE l i)) 38), (pm, .map (entE (A ++ ((nthE l i).cs, j, ls) :: B) 0) (A ++ ((nthE l i).cs, j, ls) :: B).length), (j, .row (enF leC ls) 38 8)] (by exact .cons_cons _ (.cons_cons _ (.cons_cons _ (List.nil_sublist _)))) ?_
      refine WE.move ?_
      refine WE.fieldAddr ?_
      refine WE.load 0 ?_
      refine WE.move ?_
      refine WE.load 0 ?_
      refine WE.mkS 1 (fun i2 hi2 => ?_)
      refine WE.appRow (A := [_, _]) (lb := 2) (new := leC (nthE l i)) rfl rfl (fun j' hj' => ?_) ⟨rfl, rfl, rfl, rfl, rfl, rfl, rfl, rfl, rfl, rfl, rfl, rfl⟩ (List.Mem.head _) rfl (enF_len leC_len ls) (by omega) (by omega)
      have hls1 : (ls ++ [nthE l i]).length = ls.length + 1 := by simp
      have hrw : enF leC ls ++ leC (nthE l i) = enF leC (ls ++ [nthE l i]) := by rw [enF_app, enF_one]
      refine Ev.WE.mapUpd (A := [_]) (r := pm) (es := entE (A ++ ((nthE l i).cs, j, ls) :: B) 0) (c := (A ++ ((nthE l i).cs, j, ls) :: B).length) (es' := entE (A ++ ((nthE l i).cs, j', ls ++ [nthE l i]) :: B) 0) (c' := (A ++ ((nthE l i).cs, j, ls) :: B).length) rfl (fun h3 g3 hg hs3 => ?_) ?_
      · show (evUpdate Try.prog h3 82 (.map pm) (.int .i64 (nthE l i).cs) (.slice j' 0 (ls.length + 1) (.m 0))).map (fun h => (ANext.skip, h)) = _
        rw [← hls1, upd_yes hg hno, hs3]
        rfl
      rw [hrw]
      refine WE.nil ?_
      refine WK.perm (L' := (pm, .map (entE (A ++ ((nthE l i).cs, j', ls ++ [nthE l i]) :: B) 0) (A ++ ((nthE l i).cs, j, ls) :: B).length) :: (p2, .cells [.int .i64 c] 23) :: ((rowsE A ++ (j', .row (enF leC (ls ++ [nthE l i])) 38 8) :: rowsE B) ++ [(i2, .cells (leC (nthE l i)) 38), (p8, .cells (leC (nthE l i)) 38)])) ?_ ?_
      · show List.Perm ((pm, .map (entE (A ++ ((nthE l i).cs, j', ls ++ [nthE l i]) :: B) 0) (A ++ ((nthE l i).cs, j, ls) :: B).length) :: (p2, .cells [.int .i64 c] 23) :: ((rowsE A ++ (j', .row (enF leC (ls ++ [nthE l i])) 38 8) :: rowsE B) ++ [(i2, .cells (leC (nthE l i)) 38), (p8, .cells (leC (nthE l i)) 38)]) : Ob) ((j', .row (enF leC (ls ++ [nthE l i])) 38 8) :: (i2, .cells (leC (nthE l i)) 38) :: (p8, .cells (leC (nthE l i)) 38) :: (pm, .map (entE (A ++ ((nthE l i).cs, j', ls ++ [nthE l i]) :: B) 0) (A ++ ((nthE l i).cs, j, ls) :: B).length) :: (p2, .cells [.int .i64 c] 23) :: (rowsE A ++ rowsE B))
        (refine perm_cnt fun _ _ => ?_; simp only [List.append_eq, List.cons_append, List.nil_append, List.count_append, List.count_cons, List.count_nil, Nat.add_zero, Nat.zero_add]; try ac_rfl)
      (refine WK.blk ?_; refine WK.blk ?_; refine WK.region ?_; refine St.binI ?_; refine St.move ?_; refine WO.nil ?_)
      refine WK.le ?_ ?_ (ih (i + 1, A ++ ((nthE l i).cs, j', ls ++ [nthE l i]) :: B) ⟨hlt, hT2 j', less_succ' hgood hbad⟩ (by simp only; omega))
      · exact ⟨rfl, rfl, rfl, rfl, rfl, rfl, trivial⟩
      · simp only
        rw [el, er]
        exact .cons_cons _ (.cons_cons _ (List.sublist_append_left _ _))
set_option maxRecDepth 100000 in
set_option maxHeartbeats 8000000 in
theorem lawful_con (h : Heap) (g : Gd h) (c : Int) (v : AV) (l : List Le) (hv : LeV h v l) : Con Try.prog Bs 11 [.agg [.int .i64 c], v] h [] (.tup [.int .i64 (if errL c l ≠ 0 then 0 else fstN (badN c l) l.length 0), .bool (if errL c l ≠ 0 then false else decide (fstN (badN c l) l.length 0 < 0)), .int .i64 (errL c l)]) [] := by
  refine Con.start rfl Try.func11 rfl rfl Try.ntmps11 rfl rfl g ?_
  (refine WK.seq ?_; refine WK.region ?_; refine St.box fun _ _ => ?_; refine St.assign ?_; refine St.assign ?_; refine St.assign ?_; refine WO.nil ?_; refine WK.seq ?_; refine WK.seq ?_; refine WK.region ?_; refine St.load ?_; refine St.move ?_)
  refine St.call (fun _ => rfl) (fun h2 hh => checkLetters_con h2 hh.gd c v l (hv.vw hh)) ?_
  (refine St.assign ?_; refine WO.nil ?_; refine WK.seq ?_; refine WK.region ?_; refine St.move ?_; refine St.bin ?_; refine WO.nil ?_)
  refine St.splitC (fun q => ?_) (fun q => ?_)
  · have hne : errL c l ≠ 0 := by simpa using q
    (refine WK.seq ?_; refine WK.region ?_; refine St.move ?_; refine St.assign ?_; refine St.assign ?_; refine St.assign ?_; refine WO.nil ?_)
    refine St.ret (by first | exact .tmp .nil | exact .cell .nil | exact .cell (.tmp .nil) | exact .tmp (.tmp .nil) | exact .cell (.cell .nil) | exact .tmp (.cell .nil) | exact .nil | exact .tmp (.cell (.tmp .nil)) | exact .cell (.tmp (.tmp .nil)) | exact .cell (.cell (.tmp .nil)) | exact .tmp (.tmp (.tmp .nil)) | exact .cell (.cell (.cell .nil))) ?_
    rw [if_pos hne, if_pos hne]
    rfl
  have he : errL c l = 0 := by simpa using q
  obtain ⟨hc, hl, hfm⟩ := errL_ok he
  rw [if_neg (by simp [he]), if_neg (by simp [he]), he]
  (refine WK.skip ?_; refine WK.seq ?_; refine WK.region ?_; refine St.load ?_; refine St.move ?_)
  refine St.call (fun _ => rfl) (fun h2 hh => firstUnlawful_con h2 hh.gd c v l (hv.vw hh) hl hc hfm) ?_
  (refine St.assign ?_; refine WO.nil ?_; refine WK.seq ?_; refine WK.region ?_; refine St.move ?_; refine St.move ?_; refine St.bin ?_; refine St.assign ?_; refine St.assign ?_; refine St.assign ?_; refine WO.nil ?_)
  refine St.ret (by first | exact .tmp .nil | exact .cell .nil | exact .cell (.tmp .nil) | exact .tmp (.tmp .nil) | exact .cell (.cell .nil) | exact .tmp (.cell .nil) | exact .nil | exact .tmp (.cell (.tmp .nil)) | exact .cell (.tmp (.tmp .nil)) | exact .cell (.cell (.tmp .nil)) | exact .tmp (.tmp (.tmp .nil)) | exact .cell (.cell (.cell .nil))) ?_
  rfl
end Go.Proofs.Ytilpinmbngikgaa
