/- Layer 8: bookOf. -/
import Derived.Test.YtkebbdpfjhhdhaaGreatFf
/- Layer 8: the book of items, over the calculator's memory. -/
namespace Go.Proofs.YtkebbdpfjhhdhaaGreat
open Go.Proofs.YtkebbdpfjhhdhaaGreat.Ev

/-- the list that sorting made can be read -/
theorem ClnR.eV {h0 h : Heap} {W : List Nat} {V : Ob} {l : List Im} {u : AV} {L : Ob} (k : ClnR l u L) (hh : Vw h0 W V h) (hm : ∀ x ∈ L, x ∈ V) : ImV h u (cleanJ l) := by
  rcases k with ⟨rfl, rfl, rfl⟩ | ⟨rfl, j, t, rfl, rfl⟩ | ⟨hn, j, rest, rfl, rfl⟩
  · exact .inl ⟨.inl rfl, cleanJ_nil⟩
  · rw [cleanJ_nil]
    exact .inr ⟨j, 0, .k 0, rfl, fun i hi => by simp at hi⟩
  · refine .inr ⟨j, 0, .m 0, rfl, fun i hi => ?_⟩
    rw [Nat.zero_add]
    have := enF_drop imC_len (cleanJ l ++ rest) i (by rw [List.length_append]; omega)
    rw [show nthE (cleanJ l ++ rest) i = nthE (cleanJ l) i by unfold nthE; rw [List.getElem?_append_left hi]] at this
    exact hh.rdsEn (hm _ (List.mem_cons_self ..)) (AObj.has_row _ _ _) _ _ _ this
/-- the methods by kinds -/
def takE (j : Nat) : List (AV × AV × Nat) := [(.int .i64 1, .fn (.func 127) [.ptr j 0] [], 0), (.int .i64 2, .fn (.func 128) [.ptr j 0] [], 1), (.int .i64 3, .fn (.func 129) [.ptr j 0] [], 2), (.int .i64 4, .fn (.func 130) [.ptr j 0] [], 3), (.int .i64 5, .fn (.func 131) [.ptr j 0] [], 4), (.int .i64 6, .fn (.func 132) [.ptr j 0] [], 5), (.int .i64 7, .fn (.func 133) [.ptr j 0] [], 6)]
set_option maxRecDepth 100000 in
theorem insK {h g : Heap} {j c : Nat} {k : Int} {es : List (AV × AV × Nat)} {v : AV} {s : Sl} {x y z : Operand} {ty : TypeId} {pos : String} {af : Array Edge} {gd : Option (Nat × Bool)} (hm : h.get j = some (.map es c)) (hs : h.set j (.map (es ++ [(.int .i64 k, v, c)]) (c + 1)) = some g) (hf : findE (.int .i64 k) es 0 = some none := by exact rfl) (hx : evS s x = some (.map j) := by exact rfl) (hy : evS s y = some (.int .i64 k) := by exact rfl) (hz : evS s z = some v := by exact rfl) : evOp Tryz.prog h (evS s) ⟨none, .insert 183 x y z, ty, pos, af, gd⟩ = some (.skip, g) := by
  have hk : keyFits Tryz.prog 3 (.int .i64 k) = true := by simp [keyFits, Tryz.underlying3]
  unfold evOp
  simp only [oUpdate, hx, hy, hz]
  unfold evUpdate
  rw [Tryz.underlying183]
  simp only [hk, if_true, hm, hf, hs]
  rfl
set_option maxRecDepth 100000 in
theorem takeF (j : Nat) (x : Im) (hf : frmI x = true) : ∃ F, (∀ (h : Heap) (n : Nat) (s : Sl) (a b : Operand) (d : Nat) (ty : TypeId) (pos : String) (af : Array Edge) (gd : Option (Nat × Bool)), h.get n = some (.map (takE j) 7) → evS s a = some (.map n) → evS s b = some (.int .i64 x.kd) → evOp Tryz.prog h (evS s) ⟨some d, .lookup 183 a b false, ty, pos, af, gd⟩ = some (.value (.fn (.func F) [.ptr j 0] []), h)) ∧ MethC F fun y => y.kd = x.kd := by
  have key : ∀ (F : Nat) (i c : Nat), findE (.int .i64 x.kd) (takE j) 0 = some (some (i, .fn (.func F) [.ptr j 0] [], c)) → ∀ (h : Heap) (n : Nat) (s : Sl) (a b : Operand) (d : Nat) (ty : TypeId) (pos : String) (af : Array Edge) (gd : Option (Nat × Bool)), h.get n = some (.map (takE j) 7) → evS s a = some (.map n) → evS s b = some (.int .i64 x.kd) → evOp Tryz.prog h (evS s) ⟨some d, .lookup 183 a b false, ty, pos, af, gd⟩ = some (.value (.fn (.func F) [.ptr j 0] []), h) := fun F i c hfe h n s a b d ty pos af gd hm ha hb => by
    have hk : keyFits Tryz.prog 3 (.int .i64 x.kd) = true := by simp [keyFits, Tryz.underlying3]
    unfold evOp
    simp only [oLookup, ha, hb]
    unfold evLookup
    rw [Tryz.underlying183]
    simp only [hk, if_true, hm, hfe]
    rfl
  rcases frm_kd hf with e | e | e | e | e | e | e
  · exact ⟨_, key _ 0 0 (by rw [e]; rfl), by rw [e]; exact bill_con⟩
  · exact ⟨_, key _ 1 1 (by rw [e]; rfl), by rw [e]; exact mend_con⟩
  · exact ⟨_, key _ 2 2 (by rw [e]; rfl), by rw [e]; exact pay_con⟩
  · exact ⟨_, key _ 3 3 (by rw [e]; rfl), by rw [e]; exact refund_con⟩
  · exact ⟨_, key _ 4 4 (by rw [e]; rfl), by rw [e]; exact bond_con⟩
  · exact ⟨_, key _ 5 5 (by rw [e]; rfl), by rw [e]; exact free_con⟩
  · exact ⟨_, key _ 6 6 (by rw [e]; rfl), by rw [e]; exact close_con⟩
/-! plain: how a book grows -/
theorem doB_ok {b c : Bk} {x : Im} (hb : -1 ≤ b.cl ∧ b.cl ≤ 728) (hx : frmI x = true) (h : doB b x = some c) : (-1 ≤ c.cl ∧ c.cl ≤ 728) ∧ c.tk = b.tk ∧ c.rf = b.rf ∧ c.ps.length ≤ b.ps.length + 2 := by
  have hd := frm_dy hx
  have ht := doB_tk h
  refine ⟨?_, ht.1, ht.2, ?_⟩
  · unfold doB at h
    repeat' split at h
    all_goals first | (cases h; done) | (cases h; simp only; omega) | (have := trB_tk h; omega)
  · unfold doB at h
    repeat' split at h
    all_goals first | (cases h; done) | (cases h; simp only; omega) | (have := (trB_tk h).2.2.2.2; rw [this]; simp)
/-- a book of so many items -/
structure BkN (b : Bk) (n : Nat) : Prop where
  cl : -1 ≤ b.cl ∧ b.cl ≤ 728
  fr : ∀ x ∈ b.tk, frmI x = true
  tl : b.tk.length + b.rf.length = n
  pl : b.ps.length ≤ 2 * n
theorem BkN.ok {b : Bk} {n : Nat} (k : BkN b n) (hn : n ≤ 1000) : BkOk b := ⟨k.cl, k.fr, by have := k.tl; omega, by have := k.pl; omega, by have := k.tl; omega⟩
theorem BkN.step {b : Bk} {n : Nat} {x : Im} (k : BkN b n) (hx : frmI x = true) : BkN (stepB b x) (n + 1) := by
  have h1 := k.tl
  have h2 := k.pl
  unfold stepB
  cases h : doB b x with
  | none => exact ⟨k.cl, k.fr, by simp; omega, by simp only; omega⟩
  | some c =>
    obtain ⟨g1, g2, g3, g4⟩ := doB_ok k.cl hx h
    refine ⟨g1, fun y hy => ?_, by simp [g2, g3]; omega, by simp only; omega⟩
    simp only [g2, List.mem_append, List.mem_singleton] at hy
    rcases hy with hy | rfl
    · exact k.fr y hy
    · exact hx
theorem BkN.list : ∀ {l : List Im} {b : Bk} {n : Nat}, BkN b n → (∀ x ∈ l, frmI x = true) → BkN (bookL b l) (n + l.length)
  | [], _, _, k, _ => k
  | x :: l, b, n, k, h => by
    have := BkN.list (l := l) (k.step (h x (List.mem_cons_self ..))) fun y hy => h y (List.mem_cons_of_mem _ hy)
    rw [List.length_cons, show n + (l.length + 1) = n + 1 + l.length by omega]
    exact this
theorem bk0_n : BkN bk0 0 := ⟨by simp [bk0], fun x hx => by simp [bk0] at hx, rfl, by simp [bk0]⟩
theorem bookL_snoc (b : Bk) (l : List Im) (x : Im) : bookL b (l ++ [x]) = stepB (bookL b l) x := by simp [bookL]
/-- those that are known stand first -/
theorem kn_take {m : List Im} {k : Nat} {z : Int} (hm : m.Pairwise LtJ) (h1 : ∀ x ∈ m.take k, x.kn ≤ z) (h2 : k = m.length ∨ ∃ h : k < m.length, z < m[k].kn) : m.filter (fun x => decide (x.kn ≤ z)) = m.take k := by
  have e : m = m.take k ++ m.drop k := (List.take_append_drop k m).symm
  have e1 : (m.take k).filter (fun x => decide (x.kn ≤ z)) = m.take k := List.filter_eq_self.2 fun x hx => by simpa using h1 x hx
  have e2 : (m.drop k).filter (fun x => decide (x.kn ≤ z)) = [] := by
    rw [List.filter_eq_nil_iff]
    intro x hx
    rcases h2 with rfl | ⟨hk, h2⟩
    · rw [List.drop_length] at hx
      cases hx
    · rw [List.drop_eq_getElem_cons hk] at hx
      have hp : (m.drop k).Pairwise LtJ := hm.drop
      rw [List.drop_eq_getElem_cons hk, List.pairwise_cons] at hp
      rcases List.mem_cons.1 hx with rfl | hx
      · simp; omega
      · have := hp.1 x hx
        unfold LtJ at this
        simp
        omega
  conv => lhs; rw [e]
  rw [List.filter_append, e1, e2, List.append_nil]
theorem cleanJ_mem {l : List Im} (h1 : OneJ l) {x : Im} : x ∈ cleanJ l ↔ x ∈ l := (comp_ok h1).2 x
theorem cleanJ_len (l : List Im) : (cleanJ l).length ≤ l.length := by
  unfold cleanJ compP
  have := cmpTo_len (srtJ l) (srtJ l).length
  rw [srtJ_len] at this
  rwa [srtJ_len]
end Go.Proofs.YtkebbdpfjhhdhaaGreat

/- Layer 8: bookOf. -/
namespace Go.Proofs.YtkebbdpfjhhdhaaGreat
open Go.Proofs.YtkebbdpfjhhdhaaGreat.Ev

set_option maxRecDepth 100000 in
set_option maxHeartbeats 16000000 in
theorem bookOf_con (h : Heap) (g : Gd h) (v : AV) (l : List Im) (known : Int) (hv : ImZ h v l) (hl : l.length ≤ 60) (h1 : OneJ l) (hf : ∀ x ∈ l, frmI x = true) :
    ∃ u L, Con Tryz.prog Bs 79 [v, .int .i64 known] h [] u L ∧ ∃ j, u = .ptr j 0 ∧ BkM j (bookB l known) L := by
  refine Con.permG (Con.startR rfl Tryz.func79 rfl rfl Tryz.ntmps79 rfl rfl (SS.init g) ?_)
  (refine WK.seq ?_; refine WK.region ?_; refine St.assign ?_; refine WO.nil ?_; refine WK.seq ?_; refine WK.region ?_; refine St.build ?_; refine St.box fun _ _ => ?_; refine St.assign ?_; refine WO.nil ?_; refine WK.seq ?_; refine WK.region ?_)
  rename_i j hj
  refine St.makeMap (fun jm hjm => ?_)
  (refine St.move ?_; refine St.fn ?_)
  refine St.insM (A := []) (C := [(j, .cells [.int .i64 (-1), .slice0, .slice0, .slice0] 129)]) rfl (fun h2 g2 h3 h4 => insK (k := 1) h3 h4) ?_
  (refine St.move ?_; refine St.fn ?_)
  refine St.insM (A := []) (C := [(j, .cells [.int .i64 (-1), .slice0, .slice0, .slice0] 129)]) rfl (fun h2 g2 h3 h4 => insK (k := 2) h3 h4) ?_
  (refine St.move ?_; refine St.fn ?_)
  refine St.insM (A := []) (C := [(j, .cells [.int .i64 (-1), .slice0, .slice0, .slice0] 129)]) rfl (fun h2 g2 h3 h4 => insK (k := 3) h3 h4) ?_
  (refine St.move ?_; refine St.fn ?_)
  refine St.insM (A := []) (C := [(j, .cells [.int .i64 (-1), .slice0, .slice0, .slice0] 129)]) rfl (fun h2 g2 h3 h4 => insK (k := 4) h3 h4) ?_
  (refine St.move ?_; refine St.fn ?_)
  refine St.insM (A := []) (C := [(j, .cells [.int .i64 (-1), .slice0, .slice0, .slice0] 129)]) rfl (fun h2 g2 h3 h4 => insK (k := 5) h3 h4) ?_
  (refine St.move ?_; refine St.fn ?_)
  refine St.insM (A := []) (C := [(j, .cells [.int .i64 (-1), .slice0, .slice0, .slice0] 129)]) rfl (fun h2 g2 h3 h4 => insK (k := 6) h3 h4) ?_
  (refine St.move ?_; refine St.fn ?_)
  refine St.insM (A := []) (C := [(j, .cells [.int .i64 (-1), .slice0, .slice0, .slice0] 129)]) rfl (fun h2 g2 h3 h4 => insK (k := 7) h3 h4) ?_
  (refine St.move ?_; refine St.assign ?_; refine WO.nil ?_; refine WK.seq ?_; refine WK.seq ?_; refine WK.region ?_; refine St.move ?_)
  refine St.callR (fun _ => rfl) (fun h2 hh => sorted_con h2 hh.gd v l (by
exact hv.vw ⟨hh.gd, hh.nx, hh.old, hh.own⟩) (by omega) h1) ?_
  intro u Ls hs
  have hpw := (comp_ok h1).1
  have hcl := cleanJ_len l
  have hcf : ∀ x ∈ cleanJ l, frmI x = true := fun x hx => hf x ((cleanJ_mem h1).1 hx)
  skip
  refine St.lenG rfl hs.lenG ?_
  (refine St.move ?_; refine WO.nil ?_; refine WK.block ?_)
  refine WK.perm (L' := (jm, .map (takE j) 7) :: (Ls ++ [(j, BkC (-1) .slice0 .slice0 .slice0)])) (by
    refine (List.Perm.trans ?_ List.perm_append_comm)
    show ((jm, AObj.map (takE j) 7) :: (Ls ++ [(j, BkC (-1) .slice0 .slice0 .slice0)])).Perm ((jm, AObj.map (takE j) 7) :: (j, BkC (-1) .slice0 .slice0 .slice0) :: Ls)
    exact List.perm_append_comm.cons _) ?_
  refine WK.inv (ι := Nat × Ob) (fun z => [(1, .int .i64 known), (5, .ptr j 0), (6, .map jm), (28, u), (29, .int .i64 (cleanJ l).length), (30, .int .i64 z.1)]) (fun z => (jm, .map (takE j) 7) :: (Ls ++ z.2)) (fun z => z.1 ≤ (cleanJ l).length ∧ BkM j (bookL bk0 ((cleanJ l).take z.1)) z.2 ∧ ∀ x ∈ (cleanJ l).take z.1, x.kn ≤ known) (fun z => (cleanJ l).length - z.1) (0, [(j, BkC (-1) .slice0 .slice0 .slice0)]) ⟨Nat.zero_le _, ⟨.slice0, .slice0, .slice0, [], [], [], .nil rfl rfl, .nil rfl rfl, .nil rfl rfl, rfl⟩, fun x hx => by simp at hx⟩ ⟨rfl, rfl, rfl, rfl, rfl, rfl, trivial⟩ (List.Sublist.refl _) ?_
  rintro ⟨k, Lb⟩ ⟨hkl, hb, hkn⟩ ih
  simp only at hkl hb hkn ih ⊢
  have hN : BkN (bookL bk0 ((cleanJ l).take k)) (0 + ((cleanJ l).take k).length) := bk0_n.list fun x hx => hcf x (List.mem_of_mem_take hx)
  have hln : ((cleanJ l).take k).length = k := by rw [List.length_take]; omega
  rw [hln, Nat.zero_add] at hN
  have hO := hN.ok (by omega)
  have fin : k = (cleanJ l).length ∨ (∃ h : k < (cleanJ l).length, known < (cleanJ l)[k].kn) → bookB l known = bookL bk0 ((cleanJ l).take k) := fun q => by
    unfold bookB knB
    congr 1
    exact kn_take hpw hkn q
  (refine WK.seq ?_; refine WK.region ?_; refine St.bin ?_; refine WO.nil ?_; refine WK.seq ?_)
  refine St.splitC (fun hc => ?_) (fun hc => ?_)
  rotate_left
  · have : k = (cleanJ l).length := by simp at hc; omega
    (refine WK.exit ?_; refine WK.seq ?_; refine WK.region ?_; refine St.move ?_; refine St.assign ?_; refine WO.nil ?_)
    refine St.ret (by first | exact .tmp .nil | exact .cell .nil | exact .cell (.tmp .nil) | exact .tmp (.tmp .nil) | exact .cell (.cell .nil) | exact .tmp (.cell .nil) | exact .nil | exact .tmp (.cell (.tmp .nil)) | exact .cell (.tmp (.tmp .nil)) | exact .cell (.cell (.tmp .nil)) | exact .tmp (.tmp (.tmp .nil)) | exact .tmp (.tmp (.tmp (.tmp .nil))) | exact .cell (.cell (.cell .nil))) ?_
    refine ⟨Lb, Lb, (List.sublist_append_right _ _).cons _, List.Perm.refl _, j, rfl, ?_⟩
    rw [fin (.inl this)]
    exact hb
  have hlt : k < (cleanJ l).length := by simp at hc; omega
  have hxf := hcf _ (nthE_mem hlt)
  have htk := take_succE hlt
  obtain ⟨vp, vt, vr, Lp, Lt, Lr, hp, ht, hr, rfl⟩ := hb
  obtain ⟨q, rest, rfl, rfl⟩ : ∃ q rest, u = .slice q 0 (cleanJ l).length (.m 0) ∧ Ls = [(q, .row (enF imC (cleanJ l ++ rest)) 114 7)] := by
    rcases hs with ⟨rfl, rfl, rfl⟩ | ⟨rfl, _⟩ | ⟨_, q, rest, h3, h4⟩
    · simp [cleanJ_nil] at hlt
    · simp [cleanJ_nil] at hlt
    · exact ⟨q, rest, h3, h4⟩
  (refine WK.skip ?_; refine WK.seq ?_; refine WK.block ?_; refine WK.seq ?_; refine WK.region ?_)
  refine St.at ?_
  refine St.loadX (v := .agg (imC (nthE (cleanJ l) k))) (fun h2 hh => by
    have hiv := ClnR.eV hs hh (fun x hx => by rw [List.mem_singleton.1 hx]; exact List.mem_cons_of_mem _ (List.mem_append_left _ (List.Mem.head _)))
    obtain ⟨b, off, cc, e, hk⟩ := hiv.ne (by omega)
    cases e
    exact (hk.at_ (z := (k : Int)) (n := k) (by omega) hlt).agg (by simp [imC]) rfl rfl rfl) ?_
  (refine St.alloc fun _ _ => ?_; refine St.store0 ?_; refine WO.nil ?_; refine WK.seq ?_; refine WK.seq ?_; refine WK.region ?_; refine St.fieldAddr ?_; refine St.load ?_; refine St.move ?_; refine St.bin ?_; refine WO.nil ?_)
  rename_i p8 hp8
  refine St.splitC (fun hc2 => ?_) (fun hc2 => ?_)
  · have h2 : known < (nthE (cleanJ l) k).kn := by simp at hc2; omega
    (refine WK.exit ?_; refine WK.seq ?_; refine WK.region ?_; refine St.move ?_; refine St.assign ?_; refine WO.nil ?_)
    refine St.ret (by first | exact .tmp .nil | exact .cell .nil | exact .cell (.tmp .nil) | exact .tmp (.tmp .nil) | exact .cell (.cell .nil) | exact .tmp (.cell .nil) | exact .nil | exact .tmp (.cell (.tmp .nil)) | exact .cell (.tmp (.tmp .nil)) | exact .cell (.cell (.tmp .nil)) | exact .tmp (.tmp (.tmp .nil)) | exact .tmp (.tmp (.tmp (.tmp .nil))) | exact .cell (.cell (.cell .nil))) ?_
    refine ⟨_, (j, BkC (bookL bk0 ((cleanJ l).take k)).cl vp vt vr) :: (Lp ++ (Lt ++ Lr)), ((List.sublist_append_right _ _).cons _).cons _, List.Perm.refl _, j, rfl, ?_⟩
    rw [fin (.inr ⟨hlt, by rw [← nthE_eq hlt]; exact h2⟩)]
    exact ⟨vp, vt, vr, Lp, Lt, Lr, hp, ht, hr, rfl⟩
  have h2 : (nthE (cleanJ l) k).kn ≤ known := by simpa using hc2
  have hkn' : ∀ x ∈ (cleanJ l).take (k + 1), x.kn ≤ known := fun x hx => by
    rw [htk, List.mem_append, List.mem_singleton] at hx
    rcases hx with hx | rfl
    · exact hkn x hx
    · exact h2
  obtain ⟨F, hF1, hF2⟩ := takeF j _ hxf
  (refine WK.skip ?_; refine WK.seq ?_; refine WK.region ?_; refine St.move ?_; refine St.fieldAddr ?_; refine St.load ?_)
  refine St.lookupV (v := .fn (.func F) [.ptr j 0] []) (fun h3 hh => hF1 h3 jm _ _ _ _ _ _ _ _ (hh.own (jm, .map (takE j) 7) (List.mem_cons_of_mem _ (List.Mem.head _))).1 rfl rfl) ?_
  (refine St.load ?_)
  refine St.callWR (Lw := (j, BkC (bookL bk0 ((cleanJ l).take k)).cl vp vt vr) :: (Lp ++ (Lt ++ Lr))) (Lk := [(p8, .cells (imC (nthE (cleanJ l) k)) 114), (jm, .map (takE j) 7), (q, .row (enF imC (cleanJ l ++ rest)) 114 7)]) (fun _ => rfl) (fun h3 hh => hF2 h3 j _ _ (nthE (cleanJ l) k) rfl hxf hO ⟨vp, vt, vr, Lp, Lt, Lr, hp, ht, hr, rfl⟩ (hh.sub (L' := (j, BkC (bookL bk0 ((cleanJ l).take k)).cl vp vt vr) :: (Lp ++ (Lt ++ Lr))) (((List.sublist_append_right _ _).cons _).cons _)).lend) (by (refine perm_cnt fun _ _ => ?_; simp only [List.append_eq, List.cons_append, List.nil_append, List.count_append, List.count_cons, List.count_nil, Nat.add_zero, Nat.zero_add]; try ac_rfl)) rfl ?_
  clear hp ht hr
  rintro w L' (⟨hd, rfl, vp, vt, vr, Lp, Lt, Lr, hp, ht, hr, rfl⟩ | ⟨c, hd, rfl, vp, vt, vr, Lp, Lt, Lr, hp, ht, hr, rfl⟩)
  · have hst : bookL bk0 ((cleanJ l).take (k + 1)) = { bookL bk0 ((cleanJ l).take k) with rf := (bookL bk0 ((cleanJ l).take k)).rf ++ [(nthE (cleanJ l) k).id] } := by
      rw [htk, bookL_snoc]
      simp [stepB, hd]
    refine WO.permF (L' := (j, BkC (bookL bk0 ((cleanJ l).take k)).cl vp vt vr) :: (p8, .cells (imC (nthE (cleanJ l) k)) 114) :: (jm, .map (takE j) 7) :: (q, .row (enF imC (cleanJ l ++ rest)) 114 7) :: (Lp ++ (Lt ++ Lr))) (by (refine perm_cnt fun _ _ => ?_; simp only [List.append_eq, List.cons_append, List.nil_append, List.count_append, List.count_cons, List.count_nil, Nat.add_zero, Nat.zero_add]; try ac_rfl)) ?_
    (refine WO.nil ?_; refine WK.condF ?_; refine WK.regionD ?_; refine St.move ?_; refine St.move ?_; refine St.nilP ?_; refine St.fieldAddr ?_; refine St.load ?_; refine St.fieldAddr ?_; refine St.load ?_; refine StD.mkS fun _ _ => ?_)
    rename_i p61 hp61
    refine StD.appL (e := 3) (sz := 1) (n := 1) (new := [.int .i64 (nthE (cleanJ l) k).id]) (Lk := (j, BkC (bookL bk0 ((cleanJ l).take k)).cl vp vt vr) :: (p8, .cells (imC (nthE (cleanJ l) k)) 114) :: (jm, .map (takE j) 7) :: (q, .row (enF imC (cleanJ l ++ rest)) 114 7) :: (Lp ++ Lt)) hr (by (refine perm_cnt fun _ _ => ?_; simp only [List.append_eq, List.cons_append, List.nil_append, List.count_append, List.count_cons, List.count_nil, Nat.add_zero, Nat.zero_add]; try ac_rfl)) (fun jn hjn => ?_) ⟨rfl, rfl, rfl, rfl, rfl, rfl, rfl, rfl, rfl, rfl, rfl, rfl⟩ (List.Mem.head _) rfl (by decide) (by have := hO.rl; omega)
    (refine St.nilP ?_; refine St.fieldAddr ?_; refine StD.store0 ?_; refine WO.nil2 ?_; refine WK.blk ?_; refine WK.region ?_; refine St.binI ?_; refine St.move ?_; refine WO.nil ?_)
    refine WK.perm (L' := (p61, .cells [.int .i64 (nthE (cleanJ l) k).id] 3) :: (p8, .cells (imC (nthE (cleanJ l) k)) 114) :: (jm, .map (takE j) 7) :: ([(q, .row (enF imC (cleanJ l ++ rest)) 114 7)] ++ ((j, BkC (bookL bk0 ((cleanJ l).take k)).cl vp vt (.slice jn 0 ((bookL bk0 ((cleanJ l).take k)).rf.length + 1) (.m 0))) :: (Lp ++ (Lt ++ [(jn, .row ((bookL bk0 ((cleanJ l).take k)).rf.map (AV.int .i64) ++ [.int .i64 (nthE (cleanJ l) k).id]) 3 1)]))))) (by (refine perm_cnt fun _ _ => ?_; simp only [List.append_eq, List.cons_append, List.nil_append, List.count_append, List.count_cons, List.count_nil, Nat.add_zero, Nat.zero_add]; try ac_rfl)) ?_
    refine WK.le ?_ ?_ (ih (k + 1, (j, BkC (bookL bk0 ((cleanJ l).take k)).cl vp vt (.slice jn 0 ((bookL bk0 ((cleanJ l).take k)).rf.length + 1) (.m 0))) :: (Lp ++ (Lt ++ [(jn, .row ((bookL bk0 ((cleanJ l).take k)).rf.map (AV.int .i64) ++ [.int .i64 (nthE (cleanJ l) k).id]) 3 1)]))) ⟨hlt, ?_, hkn'⟩ (by simp only; omega))
    · exact ⟨rfl, rfl, rfl, rfl, rfl, rfl, trivial⟩
    · exact ((List.Sublist.refl _).cons _).cons _
    · rw [hst]
      refine ⟨vp, vt, _, Lp, Lt, _, hp, ht, ?_, rfl⟩
      have := IsR.row (e := 3) (sz := 1) (len := ((bookL bk0 ((cleanJ l).take k)).rf ++ [(nthE (cleanJ l) k).id]).length) (l := ((bookL bk0 ((cleanJ l).take k)).rf ++ [(nthE (cleanJ l) k).id]).map (AV.int .i64)) jn (by simp)
      rw [List.map_append] at this
      simpa using this
  · obtain ⟨htk2, hrf2⟩ := doB_tk hd
    have hst : bookL bk0 ((cleanJ l).take (k + 1)) = { c with tk := c.tk ++ [nthE (cleanJ l) k] } := by
      rw [htk, bookL_snoc]
      simp [stepB, hd]
    refine WO.permF (L' := (j, BkC c.cl vp vt vr) :: (p8, .cells (imC (nthE (cleanJ l) k)) 114) :: (jm, .map (takE j) 7) :: (q, .row (enF imC (cleanJ l ++ rest)) 114 7) :: (Lp ++ (Lt ++ Lr))) (by (refine perm_cnt fun _ _ => ?_; simp only [List.append_eq, List.cons_append, List.nil_append, List.count_append, List.count_cons, List.count_nil, Nat.add_zero, Nat.zero_add]; try ac_rfl)) ?_
    (refine WO.nil ?_; refine WK.condT ?_; refine WK.regionD ?_; refine St.move ?_; refine St.move ?_; refine St.nilP ?_; refine St.fieldAddr ?_; refine St.load ?_; refine St.load ?_; refine StD.mkS fun _ _ => ?_)
    rename_i p50 hp50
    refine StD.appL (e := 114) (sz := 7) (n := 1) (new := imC (nthE (cleanJ l) k)) (Lk := (j, BkC c.cl vp vt vr) :: (p8, .cells (imC (nthE (cleanJ l) k)) 114) :: (jm, .map (takE j) 7) :: (q, .row (enF imC (cleanJ l ++ rest)) 114 7) :: (Lp ++ Lr)) ht (by (refine perm_cnt fun _ _ => ?_; simp only [List.append_eq, List.cons_append, List.nil_append, List.count_append, List.count_cons, List.count_nil, Nat.add_zero, Nat.zero_add]; try ac_rfl)) (fun jn hjn => ?_) ⟨rfl, rfl, rfl, rfl, rfl, rfl, rfl, rfl, rfl, rfl, rfl, rfl⟩ (List.Mem.head _) rfl (by decide) (by have := hO.tl; rw [htk2]; omega)
    (refine St.nilP ?_; refine St.fieldAddr ?_; refine StD.store0 ?_; refine WO.nil2 ?_; refine WK.blk ?_; refine WK.region ?_; refine St.binI ?_; refine St.move ?_; refine WO.nil ?_)
    refine WK.perm (L' := (p50, .cells (imC (nthE (cleanJ l) k)) 114) :: (p8, .cells (imC (nthE (cleanJ l) k)) 114) :: (jm, .map (takE j) 7) :: ([(q, .row (enF imC (cleanJ l ++ rest)) 114 7)] ++ ((j, BkC c.cl vp (.slice jn 0 (c.tk.length + 1) (.m 0)) vr) :: (Lp ++ ([(jn, .row (enF imC c.tk ++ imC (nthE (cleanJ l) k)) 114 7)] ++ Lr))))) (by (refine perm_cnt fun _ _ => ?_; simp only [List.append_eq, List.cons_append, List.nil_append, List.count_append, List.count_cons, List.count_nil, Nat.add_zero, Nat.zero_add]; try ac_rfl)) ?_
    refine WK.le ?_ ?_ (ih (k + 1, (j, BkC c.cl vp (.slice jn 0 (c.tk.length + 1) (.m 0)) vr) :: (Lp ++ ([(jn, .row (enF imC c.tk ++ imC (nthE (cleanJ l) k)) 114 7)] ++ Lr))) ⟨hlt, ?_, hkn'⟩ (by simp only; omega))
    · exact ⟨rfl, rfl, rfl, rfl, rfl, rfl, trivial⟩
    · exact ((List.Sublist.refl _).cons _).cons _
    · rw [hst]
      refine ⟨vp, _, vr, Lp, _, Lr, hp, ?_, hr, rfl⟩
      have := IsR.row (e := 114) (sz := 7) (len := (c.tk ++ [nthE (cleanJ l) k]).length) (l := enF imC (c.tk ++ [nthE (cleanJ l) k])) jn (enF_len imC_len _)
      rw [enF_app, enF_one] at this
      rw [enF_app, enF_one]
      simpa using this
end Go.Proofs.YtkebbdpfjhhdhaaGreat
