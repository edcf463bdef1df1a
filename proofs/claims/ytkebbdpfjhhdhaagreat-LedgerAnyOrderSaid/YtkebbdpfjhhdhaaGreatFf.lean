/- Layer 8: the methods by kinds. -/
import Derived.Test.YtkebbdpfjhhdhaaGreatFx
/- Layer 8: transfer and what each kind of item brings, over the calculator's memory. -/
namespace Go.Proofs.YtkebbdpfjhhdhaaGreat
open Go.Proofs.YtkebbdpfjhhdhaaGreat.Ev

/-- a book in memory -/
def BkC (cl : Int) (vp vt vr : AV) : AObj := .cells [.int .i64 cl, vp, vt, vr] 129
/-- what transfer did -/
def TrR (j : Nat) (cl : Int) (ps : List Po) (vp vt vr : AV) (Lp : Ob) (it dy am to fr : Int) (v : AV) (L : Ob) : Prop :=
  (max dy (cl + 1) > 728 ∧ v = .bool false ∧ L = (j, BkC cl vp vt vr) :: Lp) ∨ (max dy (cl + 1) ≤ 728 ∧ v = .bool true ∧ ∃ q, L = [(q, .row (enF poC (ps ++ [⟨it, max dy (cl + 1), to, am⟩, ⟨it, max dy (cl + 1), fr, 0 - am⟩])) 72 4), (j, BkC cl (.slice q 0 (ps.length + 2) (.m 0)) vt vr)])
set_option maxRecDepth 100000 in
set_option maxHeartbeats 8000000 in
theorem transfer_con (h : Heap) (j : Nat) (cl : Int) (ps : List Po) (vp vt vr : AV) (Lp : Ob) (it dy am to fr : Int) (hb : -1 ≤ cl ∧ cl ≤ 728) (ha : -33554432 ≤ am ∧ am ≤ 33554432) (hl : ps.length ≤ 100000) (hp : IsR 72 4 ps.length (enF poC ps) vp Lp) (k0 : SS h (((j, BkC cl vp vt vr) :: Lp).map (·.1)) ((j, BkC cl vp vt vr) :: Lp) h) :
    ∃ v L, Con Tryz.prog Bs 153 [.ptr j 0, .int .i64 it, .int .i64 dy, .int .i64 am, .int .i64 to, .int .i64 fr] h (((j, BkC cl vp vt vr) :: Lp).map (·.1)) v L ∧ TrR j cl ps vp vt vr Lp it dy am to fr v L := by
  have hWW := k0.ltW
  refine Con.subG (Con.startR rfl Tryz.func153 rfl rfl Tryz.ntmps153 rfl rfl k0 ?_)
  (repeat (first | refine St.move ?_ | refine St.assign ?_ | refine St.binI ?_ | refine St.bin ?_ | refine St.load ?_ | refine St.fieldAddr ?_ | refine St.field ?_ | refine St.extract ?_ | refine St.pickT ?_ | refine St.pickF ?_ | refine St.pick ?_ | refine WO.nil ?_ | refine WK.seq ?_ | refine WK.region ?_ | refine St.len ?_ | refine St.unI ?_ | refine St.un ?_ | refine St.box fun _ _ => ?_ | refine St.alloc fun _ _ => ?_ | refine St.store0 ?_ | refine St.store1 ?_ | refine St.store2 ?_ | refine St.store3 ?_ | refine St.store4 ?_ | refine St.store5 ?_ | refine St.build ?_ | refine St.skip ?_ | refine St.skipN ?_ | refine WK.skip ?_ | refine WK.block ?_ | refine WK.blk ?_ | refine WK.scope ?_ | refine WK.label ?_ | refine WK.exit ?_ | refine WK.condT ?_ | refine WK.condF ?_ | refine St.conv ?_ | refine St.fn ?_ | refine St.nilF ?_ | refine St.nilP ?_ | refine St.len0 ?_ | refine St.maxI ?_ | refine St.minI ?_ | refine St.max ?_ | refine St.min ?_ | refine WK.regionD ?_ | refine StD.box fun _ _ => ?_ | refine StD.alloc fun _ _ => ?_ | refine StD.store0 ?_ | refine StD.store1 ?_ | refine WO.nil1 ?_ | refine WO.nil2 ?_ | refine WO.nil3 ?_ | refine St.mkS fun _ _ => ?_ | refine StD.mkS fun _ _ => ?_ | refine StD.store2 ?_ | refine StD.store3 ?_ | refine StD.store4 ?_ | refine StD.store5 ?_ | refine St.store6 ?_ | refine St.store7 ?_ | refine StD.storeT ?_ | refine St.atA ?_ | refine St.lenZ ?_))
  refine St.splitC (fun hc => ?_) (fun hc => ?_)
  · have h1 : max dy (cl + 1) > 728 := by simpa using hc
    (repeat (first | refine St.move ?_ | refine St.assign ?_ | refine St.binI ?_ | refine St.bin ?_ | refine St.load ?_ | refine St.fieldAddr ?_ | refine St.field ?_ | refine St.extract ?_ | refine St.pickT ?_ | refine St.pickF ?_ | refine St.pick ?_ | refine WO.nil ?_ | refine WK.seq ?_ | refine WK.region ?_ | refine St.len ?_ | refine St.unI ?_ | refine St.un ?_ | refine St.box fun _ _ => ?_ | refine St.alloc fun _ _ => ?_ | refine St.store0 ?_ | refine St.store1 ?_ | refine St.store2 ?_ | refine St.store3 ?_ | refine St.store4 ?_ | refine St.store5 ?_ | refine St.build ?_ | refine St.skip ?_ | refine St.skipN ?_ | refine WK.skip ?_ | refine WK.block ?_ | refine WK.blk ?_ | refine WK.scope ?_ | refine WK.label ?_ | refine WK.exit ?_ | refine WK.condT ?_ | refine WK.condF ?_ | refine St.conv ?_ | refine St.fn ?_ | refine St.nilF ?_ | refine St.nilP ?_ | refine St.len0 ?_ | refine St.maxI ?_ | refine St.minI ?_ | refine St.max ?_ | refine St.min ?_ | refine WK.regionD ?_ | refine StD.box fun _ _ => ?_ | refine StD.alloc fun _ _ => ?_ | refine StD.store0 ?_ | refine StD.store1 ?_ | refine WO.nil1 ?_ | refine WO.nil2 ?_ | refine WO.nil3 ?_ | refine St.mkS fun _ _ => ?_ | refine StD.mkS fun _ _ => ?_ | refine StD.store2 ?_ | refine StD.store3 ?_ | refine StD.store4 ?_ | refine StD.store5 ?_ | refine St.store6 ?_ | refine St.store7 ?_ | refine StD.storeT ?_ | refine St.atA ?_ | refine St.lenZ ?_))
    refine St.ret (by first | exact .tmp .nil | exact .cell .nil | exact .cell (.tmp .nil) | exact .tmp (.tmp .nil) | exact .cell (.cell .nil) | exact .tmp (.cell .nil) | exact .nil | exact .tmp (.cell (.tmp .nil)) | exact .cell (.tmp (.tmp .nil)) | exact .cell (.cell (.tmp .nil)) | exact .tmp (.tmp (.tmp .nil)) | exact .tmp (.tmp (.tmp (.tmp .nil))) | exact .cell (.cell (.cell .nil))) ?_
    exact ⟨_, List.Sublist.refl _, .inl ⟨h1, rfl, rfl⟩⟩
  have h1 : max dy (cl + 1) ≤ 728 := by simpa using hc
  (repeat (first | refine St.move ?_ | refine St.assign ?_ | refine St.binI ?_ | refine St.bin ?_ | refine St.load ?_ | refine St.fieldAddr ?_ | refine St.field ?_ | refine St.extract ?_ | refine St.pickT ?_ | refine St.pickF ?_ | refine St.pick ?_ | refine WO.nil ?_ | refine WK.seq ?_ | refine WK.region ?_ | refine St.len ?_ | refine St.unI ?_ | refine St.un ?_ | refine St.box fun _ _ => ?_ | refine St.alloc fun _ _ => ?_ | refine St.store0 ?_ | refine St.store1 ?_ | refine St.store2 ?_ | refine St.store3 ?_ | refine St.store4 ?_ | refine St.store5 ?_ | refine St.build ?_ | refine St.skip ?_ | refine St.skipN ?_ | refine WK.skip ?_ | refine WK.block ?_ | refine WK.blk ?_ | refine WK.scope ?_ | refine WK.label ?_ | refine WK.exit ?_ | refine WK.condT ?_ | refine WK.condF ?_ | refine St.conv ?_ | refine St.fn ?_ | refine St.nilF ?_ | refine St.nilP ?_ | refine St.len0 ?_ | refine St.maxI ?_ | refine St.minI ?_ | refine St.max ?_ | refine St.min ?_ | refine WK.regionD ?_ | refine StD.box fun _ _ => ?_ | refine StD.alloc fun _ _ => ?_ | refine StD.store0 ?_ | refine StD.store1 ?_ | refine WO.nil1 ?_ | refine WO.nil2 ?_ | refine WO.nil3 ?_ | refine St.mkS fun _ _ => ?_ | refine StD.mkS fun _ _ => ?_ | refine StD.store2 ?_ | refine StD.store3 ?_ | refine StD.store4 ?_ | refine StD.store5 ?_ | refine St.store6 ?_ | refine St.store7 ?_ | refine StD.storeT ?_ | refine St.atA ?_ | refine St.lenZ ?_))
  rename_i p38 hp38
  refine St.appI (e := 72) (sz := 4) (n := 2) (new := poC ⟨it, max dy (cl + 1), to, am⟩ ++ poC ⟨it, max dy (cl + 1), fr, 0 - am⟩) (Lk := [(p38, .cells (poC ⟨it, max dy (cl + 1), to, am⟩ ++ poC ⟨it, max dy (cl + 1), fr, 0 - am⟩) 72), (j, BkC cl vp vt vr)]) hp List.perm_append_comm (fun q hq => ?_) ⟨rfl, rfl, rfl, rfl, rfl, rfl, rfl, rfl, rfl, rfl, rfl, rfl⟩ (List.Mem.head _) rfl (by decide) (by omega)
  (repeat (first | refine St.move ?_ | refine St.assign ?_ | refine St.binI ?_ | refine St.bin ?_ | refine St.load ?_ | refine St.fieldAddr ?_ | refine St.field ?_ | refine St.extract ?_ | refine St.pickT ?_ | refine St.pickF ?_ | refine St.pick ?_ | refine WO.nil ?_ | refine WK.seq ?_ | refine WK.region ?_ | refine St.len ?_ | refine St.unI ?_ | refine St.un ?_ | refine St.box fun _ _ => ?_ | refine St.alloc fun _ _ => ?_ | refine St.store0 ?_ | refine St.store1 ?_ | refine St.store2 ?_ | refine St.store3 ?_ | refine St.store4 ?_ | refine St.store5 ?_ | refine St.build ?_ | refine St.skip ?_ | refine St.skipN ?_ | refine WK.skip ?_ | refine WK.block ?_ | refine WK.blk ?_ | refine WK.scope ?_ | refine WK.label ?_ | refine WK.exit ?_ | refine WK.condT ?_ | refine WK.condF ?_ | refine St.conv ?_ | refine St.fn ?_ | refine St.nilF ?_ | refine St.nilP ?_ | refine St.len0 ?_ | refine St.maxI ?_ | refine St.minI ?_ | refine St.max ?_ | refine St.min ?_ | refine WK.regionD ?_ | refine StD.box fun _ _ => ?_ | refine StD.alloc fun _ _ => ?_ | refine StD.store0 ?_ | refine StD.store1 ?_ | refine WO.nil1 ?_ | refine WO.nil2 ?_ | refine WO.nil3 ?_ | refine St.mkS fun _ _ => ?_ | refine StD.mkS fun _ _ => ?_ | refine StD.store2 ?_ | refine StD.store3 ?_ | refine StD.store4 ?_ | refine StD.store5 ?_ | refine St.store6 ?_ | refine St.store7 ?_ | refine StD.storeT ?_ | refine St.atA ?_ | refine St.lenZ ?_))
  refine St.ret (by first | exact .tmp .nil | exact .cell .nil | exact .cell (.tmp .nil) | exact .tmp (.tmp .nil) | exact .cell (.cell .nil) | exact .tmp (.cell .nil) | exact .nil | exact .tmp (.cell (.tmp .nil)) | exact .cell (.tmp (.tmp .nil)) | exact .cell (.cell (.tmp .nil)) | exact .tmp (.tmp (.tmp .nil)) | exact .tmp (.tmp (.tmp (.tmp .nil))) | exact .cell (.cell (.cell .nil))) ?_
  refine ⟨_, ?_, .inr ⟨h1, rfl, q, rfl⟩⟩
  rw [enF_app]
  exact List.Sublist.cons_cons _ (List.Sublist.cons _ (List.Sublist.refl _))
/-- a book and its lists in memory -/
def BkM (j : Nat) (b : Bk) (L : Ob) : Prop := ∃ vp vt vr Lp Lt Lr, IsR 72 4 b.ps.length (enF poC b.ps) vp Lp ∧ IsR 114 7 b.tk.length (enF imC b.tk) vt Lt ∧ IsR 3 1 b.rf.length (b.rf.map (AV.int .i64)) vr Lr ∧ L = (j, BkC b.cl vp vt vr) :: (Lp ++ (Lt ++ Lr))
/-- as a book is, whose items are formed -/
structure BkOk (b : Bk) : Prop where
  cl : -1 ≤ b.cl ∧ b.cl ≤ 728
  fr : ∀ x ∈ b.tk, frmI x = true
  tl : b.tk.length ≤ 1000
  pl : b.ps.length ≤ 10000
  rl : b.rf.length ≤ 1000
/-- what a kind's method does -/
def DoR (j : Nat) (b : Bk) (x : Im) (v : AV) (L : Ob) : Prop := (doB b x = none ∧ v = .bool false ∧ BkM j b L) ∨ ∃ c, doB b x = some c ∧ v = .bool true ∧ BkM j c L
/-- what transfer does to a book -/
theorem trR_do {j : Nat} {b : Bk} {vp vt vr : AV} {Lp Lt Lr Lx : Ob} {it dy am to fr : Int} {v : AV} {L : Ob} (hp : IsR 72 4 b.ps.length (enF poC b.ps) vp Lp) (ht : IsR 114 7 b.tk.length (enF imC b.tk) vt Lt) (hr : IsR 3 1 b.rf.length (b.rf.map (AV.int .i64)) vr Lr) (h : TrR j b.cl b.ps vp vt vr Lp it dy am to fr v L) :
    ∃ L0, L0.Perm (L ++ (Lt ++ Lr)) ∧ ((trB b it dy am to fr = none ∧ v = .bool false ∧ BkM j b L0) ∨ ∃ c, trB b it dy am to fr = some c ∧ v = .bool true ∧ BkM j c L0) := by
  rcases h with ⟨h1, rfl, rfl⟩ | ⟨h1, rfl, q, rfl⟩
  · refine ⟨_, List.Perm.refl _, .inl ⟨?_, rfl, vp, vt, vr, Lp, Lt, Lr, hp, ht, hr, rfl⟩⟩
    unfold trB
    rw [if_pos h1]
  · refine ⟨_, List.Perm.swap _ _ _, .inr ⟨{ b with ps := b.ps ++ [⟨it, max dy (b.cl + 1), to, am⟩, ⟨it, max dy (b.cl + 1), fr, 0 - am⟩] }, ?_, rfl, .slice q 0 (b.ps.length + 2) (.m 0), vt, vr, [(q, .row (enF poC (b.ps ++ [⟨it, max dy (b.cl + 1), to, am⟩, ⟨it, max dy (b.cl + 1), fr, 0 - am⟩])) 72 4)], Lt, Lr, ?_, ht, hr, rfl⟩⟩
    · unfold trB
      rw [if_neg (by omega)]
    · have := IsR.row (e := 72) (sz := 4) (len := (b.ps ++ [(⟨it, max dy (b.cl + 1), to, am⟩ : Po), ⟨it, max dy (b.cl + 1), fr, 0 - am⟩]).length) (l := enF poC (b.ps ++ [⟨it, max dy (b.cl + 1), to, am⟩, ⟨it, max dy (b.cl + 1), fr, 0 - am⟩])) q (enF_len poC_len _)
      simpa using this
theorem frm_am {x : Im} (h : frmI x = true) : 0 ≤ x.am ∧ x.am ≤ 16777216 := by
  simp only [frmI, Bool.and_eq_true, kndI] at h
  have := h.2.2
  repeat' split at this
  all_goals try simp only [Bool.and_eq_true, inB, decide_eq_true_eq] at this
  all_goals first | omega | (exact absurd this (by simp))
theorem frm_kd {x : Im} (h : frmI x = true) : x.kd = 1 ∨ x.kd = 2 ∨ x.kd = 3 ∨ x.kd = 4 ∨ x.kd = 5 ∨ x.kd = 6 ∨ x.kd = 7 := by
  simp only [frmI, Bool.and_eq_true, kndI] at h
  have := h.2.2
  repeat' split at this
  all_goals first | omega | (exact absurd this (by simp))
theorem frm_dy {x : Im} (h : frmI x = true) : 0 ≤ x.dy ∧ x.dy ≤ 728 := by
  simp only [frmI, Bool.and_eq_true, kndI] at h
  have := h.2.2
  repeat' split at this
  all_goals try simp only [Bool.and_eq_true, dyB, inB, decide_eq_true_eq] at this
  all_goals first | omega | (exact absurd this (by simp))
end Go.Proofs.YtkebbdpfjhhdhaaGreat

/- Layer 8: the methods by kinds. -/
namespace Go.Proofs.YtkebbdpfjhhdhaaGreat
open Go.Proofs.YtkebbdpfjhhdhaaGreat.Ev

/-- what a method by kind must do -/
def MethC (F : Nat) (P : Im → Prop) : Prop := ∀ (h : Heap) (j : Nat) (b : Bk) (L : Ob) (x : Im), P x → frmI x = true → BkOk b → BkM j b L → SS h (L.map (·.1)) L h → ∃ v L', Con Tryz.prog Bs F [.ptr j 0, .agg (imC x)] h (L.map (·.1)) v L' ∧ DoR j b x v L'
/-- how the end of a method goes: transfer is called -/
theorem tr_end {j : Nat} {b c : Bk} {x : Im} {vp vt vr : AV} {Lp Lt Lr Lx : Ob} {it dy am to fr : Int} {v : AV} {L : Ob} (hp : IsR 72 4 b.ps.length (enF poC b.ps) vp Lp) (ht : IsR 114 7 b.tk.length (enF imC b.tk) vt Lt) (hr : IsR 3 1 b.rf.length (b.rf.map (AV.int .i64)) vr Lr) (hd : doB b x = trB b it dy am to fr) (h : TrR j b.cl b.ps vp vt vr Lp it dy am to fr v L) : ∃ L0, L0.Perm (L ++ (Lt ++ Lr)) ∧ DoR j b x v L0 := by
  obtain ⟨L0, h1, h2⟩ := trR_do (Lx := Lx) hp ht hr h
  exact ⟨L0, h1, by unfold DoR; rw [hd]; exact h2⟩
theorem Con.permG {P : Program} {B : Base} {f : Nat} {args : List AV} {h : Heap} {W : List Nat} {R : AV → Ob → Prop} (k : ∃ v L, Con P B f args h W v L ∧ ∃ L0 L1 : Ob, L1.Sublist L ∧ L0.Perm L1 ∧ R v L0) : ∃ v L, Con P B f args h W v L ∧ R v L := by
  obtain ⟨v, L, ⟨g, h1, h2⟩, L0, L1, hs, hp, hr⟩ := k
  exact ⟨v, L0, ⟨g, h1, (h2.sub hs).perm hp⟩, hr⟩
theorem sub_c {α : Type} {p q : α} {A B : List α} (h : A.Sublist B) : (p :: A).Sublist (q :: p :: B) := (h.cons_cons _).cons _
theorem sub_b {α : Type} {q : α} {A B : List α} (h : A.Sublist B) : A.Sublist (q :: B) := h.cons _
theorem pickV {j : Nat} {b : Bk} {x : Im} {v : AV} {L : Ob} (h : DoR j b x v L) : DoR j b x v L := h
set_option maxRecDepth 100000 in
set_option maxHeartbeats 8000000 in
theorem pay_con : MethC 129 fun x => x.kd = 3 := by
  rintro h j b L x hk hf hb ⟨vp, vt, vr, Lp, Lt, Lr, hp, ht, hr, rfl⟩ k0
  have hWW := k0.ltW
  refine Con.permG (Con.startR rfl Tryz.func129 rfl rfl Tryz.ntmps129 rfl rfl k0 ?_)
  (refine WK.seq ?_; refine WK.region ?_; refine St.box fun _ _ => ?_; refine St.assign ?_; refine WO.nil ?_; refine WK.seq ?_; refine WK.region ?_; refine St.move ?_; refine St.fieldAddr ?_; refine St.load ?_; refine St.fieldAddr ?_; refine St.load ?_; refine St.fieldAddr ?_; refine St.load ?_; refine St.fieldAddr ?_; refine St.load ?_)
  rename_i p3 hp3
  have ha := frm_am hf
  refine St.callWR (Lw := (j, BkC b.cl vp vt vr) :: Lp) (Lk := (p3, .cells (imC x) 114) :: (Lt ++ Lr)) (fun _ => rfl) (fun h2 hh => transfer_con h2 j b.cl b.ps vp vt vr Lp x.id x.dy x.am 1 x.ac hb.cl (by omega) (by have := hb.pl; omega) hp (hh.sub (L' := (j, BkC b.cl vp vt vr) :: Lp) (by first | exact (((List.sublist_append_left _ _).cons_cons _).cons _))).lend) (by (refine perm_cnt fun _ _ => ?_; simp only [List.append_eq, List.cons_append, List.nil_append, List.count_append, List.count_cons, List.count_nil, Nat.add_zero, Nat.zero_add]; try ac_rfl)) rfl ?_
  intro v L hv
  (refine St.assign ?_; refine WO.nil ?_)
  refine St.ret (by first | exact .tmp .nil | exact .cell .nil | exact .cell (.tmp .nil) | exact .tmp (.tmp .nil) | exact .cell (.cell .nil) | exact .tmp (.cell .nil) | exact .nil | exact .tmp (.cell (.tmp .nil)) | exact .cell (.tmp (.tmp .nil)) | exact .cell (.cell (.tmp .nil)) | exact .tmp (.tmp (.tmp .nil)) | exact .tmp (.tmp (.tmp (.tmp .nil))) | exact .cell (.cell (.cell .nil))) ?_
  obtain ⟨L0, h1, h2⟩ := tr_end (x := x) (c := b) (Lx := []) hp ht hr (by simp [doB, hk]) hv
  exact ⟨L0, L ++ (Lt ++ Lr), List.Sublist.append (List.Sublist.refl _) (List.sublist_cons_self _ _), h1, h2⟩
set_option maxRecDepth 100000 in
set_option maxHeartbeats 8000000 in
theorem bond_con : MethC 131 fun x => x.kd = 5 := by
  rintro h j b L x hk hf hb ⟨vp, vt, vr, Lp, Lt, Lr, hp, ht, hr, rfl⟩ k0
  have hWW := k0.ltW
  refine Con.permG (Con.startR rfl Tryz.func131 rfl rfl Tryz.ntmps131 rfl rfl k0 ?_)
  (refine WK.seq ?_; refine WK.region ?_; refine St.box fun _ _ => ?_; refine St.assign ?_; refine WO.nil ?_; refine WK.seq ?_; refine WK.region ?_; refine St.move ?_; refine St.fieldAddr ?_; refine St.load ?_; refine St.fieldAddr ?_; refine St.load ?_; refine St.fieldAddr ?_; refine St.load ?_)
  rename_i p3 hp3
  have ha := frm_am hf
  refine St.callWR (Lw := (j, BkC b.cl vp vt vr) :: Lp) (Lk := (p3, .cells (imC x) 114) :: (Lt ++ Lr)) (fun _ => rfl) (fun h2 hh => transfer_con h2 j b.cl b.ps vp vt vr Lp x.id x.dy x.am 1 3 hb.cl (by omega) (by have := hb.pl; omega) hp (hh.sub (L' := (j, BkC b.cl vp vt vr) :: Lp) (by first | exact (((List.sublist_append_left _ _).cons_cons _).cons _))).lend) (by (refine perm_cnt fun _ _ => ?_; simp only [List.append_eq, List.cons_append, List.nil_append, List.count_append, List.count_cons, List.count_nil, Nat.add_zero, Nat.zero_add]; try ac_rfl)) rfl ?_
  intro v L hv
  (refine St.assign ?_; refine WO.nil ?_)
  refine St.ret (by first | exact .tmp .nil | exact .cell .nil | exact .cell (.tmp .nil) | exact .tmp (.tmp .nil) | exact .cell (.cell .nil) | exact .tmp (.cell .nil) | exact .nil | exact .tmp (.cell (.tmp .nil)) | exact .cell (.tmp (.tmp .nil)) | exact .cell (.cell (.tmp .nil)) | exact .tmp (.tmp (.tmp .nil)) | exact .tmp (.tmp (.tmp (.tmp .nil))) | exact .cell (.cell (.cell .nil))) ?_
  obtain ⟨L0, h1, h2⟩ := tr_end (x := x) (c := b) (Lx := []) hp ht hr (by simp [doB, hk]) hv
  exact ⟨L0, L ++ (Lt ++ Lr), List.Sublist.append (List.Sublist.refl _) (List.sublist_cons_self _ _), h1, h2⟩
set_option maxRecDepth 100000 in
set_option maxHeartbeats 8000000 in
theorem close_con : MethC 133 fun x => x.kd = 7 := by
  rintro h j b L x hk hf hb ⟨vp, vt, vr, Lp, Lt, Lr, hp, ht, hr, rfl⟩ k0
  have hWW := k0.ltW
  refine Con.permG (Con.startR rfl Tryz.func133 rfl rfl Tryz.ntmps133 rfl rfl k0 ?_)
  have ha := frm_am hf
  have hd := frm_dy hf
  (refine WK.seq ?_; refine WK.region ?_; refine St.box fun _ _ => ?_; refine St.assign ?_; refine WO.nil ?_; refine WK.seq ?_; refine WK.seq ?_; refine WK.regionD ?_; refine St.fieldAddr ?_; refine St.load ?_; refine St.move ?_; refine St.nilP ?_; refine St.fieldAddr ?_; refine St.load ?_; refine St.bin ?_; refine WO.nil ?_)
  rename_i p3 hp3
  refine St.splitC (fun q => ?_) (fun q => ?_)
  · have h1 : x.dy ≤ b.cl := by simpa using q
    (refine WK.seq ?_; refine WK.region ?_; refine St.assign ?_; refine WO.nil ?_)
    refine St.ret (by first | exact .tmp .nil | exact .cell .nil | exact .cell (.tmp .nil) | exact .tmp (.tmp .nil) | exact .cell (.cell .nil) | exact .tmp (.cell .nil) | exact .nil | exact .tmp (.cell (.tmp .nil)) | exact .cell (.tmp (.tmp .nil)) | exact .cell (.cell (.tmp .nil)) | exact .tmp (.tmp (.tmp .nil)) | exact .tmp (.tmp (.tmp (.tmp .nil))) | exact .cell (.cell (.cell .nil))) ?_
    exact ⟨_, _, List.sublist_cons_self _ _, List.Perm.refl _, .inl ⟨by simp [doB, hk, h1], rfl, vp, vt, vr, Lp, Lt, Lr, hp, ht, hr, rfl⟩⟩
  · have h1 : ¬ x.dy ≤ b.cl := by simpa using q
    (refine WK.skip ?_; refine WK.seq ?_; refine WK.region ?_; refine St.move ?_; refine St.fieldAddr ?_; refine St.load ?_; refine St.nilP ?_; refine St.fieldAddr ?_; refine St.store1 ?_; refine WO.nil ?_; refine WK.seq ?_; refine WK.region ?_; refine St.assign ?_; refine WO.nil ?_)
    refine St.ret (by first | exact .tmp .nil | exact .cell .nil | exact .cell (.tmp .nil) | exact .tmp (.tmp .nil) | exact .cell (.cell .nil) | exact .tmp (.cell .nil) | exact .nil | exact .tmp (.cell (.tmp .nil)) | exact .cell (.tmp (.tmp .nil)) | exact .cell (.cell (.tmp .nil)) | exact .tmp (.tmp (.tmp .nil)) | exact .tmp (.tmp (.tmp (.tmp .nil))) | exact .cell (.cell (.cell .nil))) ?_
    exact ⟨_, _, List.sublist_cons_self _ _, List.Perm.refl _, .inr ⟨{ b with cl := x.dy }, by simp [doB, hk, h1], rfl, vp, vt, vr, Lp, Lt, Lr, hp, ht, hr, rfl⟩⟩
set_option maxRecDepth 100000 in
set_option maxHeartbeats 8000000 in
theorem bill_con : MethC 127 fun x => x.kd = 1 := by
  rintro h j b L x hk hf hb ⟨vp, vt, vr, Lp, Lt, Lr, hp, ht, hr, rfl⟩ k0
  have hWW := k0.ltW
  refine Con.permG (Con.startR rfl Tryz.func127 rfl rfl Tryz.ntmps127 rfl rfl k0 ?_)
  have ha := frm_am hf
  have hd := frm_dy hf
  (refine WK.seq ?_; refine WK.region ?_; refine St.box fun _ _ => ?_; refine St.assign ?_; refine WO.nil ?_; refine WK.seq ?_; refine WK.region ?_; refine St.move ?_; refine St.fieldAddr ?_; refine St.load ?_)
  rename_i p3 hp3
  refine St.callR (fun _ => rfl) (fun h2 hh => amounts_con h2 hh.gd j x.bl vt b.tk (hh.rdG (List.mem_cons_of_mem _ (List.Mem.head _)) rfl) (IsR.eVI ht rfl hh (fun y hy => List.mem_cons_of_mem _ (List.mem_cons_of_mem _ (List.mem_append_right _ (List.mem_append_left _ hy))))) hb.tl) ?_
  intro u Lu hu
  refine WO.permF (L' := (p3, .cells (imC x) 114) :: (j, BkC b.cl vp vt vr) :: (Lp ++ (Lt ++ Lr)) ++ Lu) List.perm_append_comm ?_
  skip
  refine St.lenG rfl (hu.isL.lenG Tryz.underlying22) ?_
  (refine St.bin ?_; refine St.move ?_)
  refine St.split (fun q => ?_) (fun q => ?_)
  rotate_left
  · have h1 : ¬ (amtL b.tk x.bl).length = 0 := by simpa using q
    (refine St.skip ?_; refine St.skip ?_; refine St.skip ?_; refine St.skip ?_; refine St.skip ?_; refine St.skip ?_; refine St.skip ?_; refine St.skip ?_; refine St.skip ?_; refine St.skip ?_; refine St.pickF ?_; refine St.assign ?_; refine WO.nil ?_)
    refine St.ret (by first | exact .tmp .nil | exact .cell .nil | exact .cell (.tmp .nil) | exact .tmp (.tmp .nil) | exact .cell (.cell .nil) | exact .tmp (.cell .nil) | exact .nil | exact .tmp (.cell (.tmp .nil)) | exact .cell (.tmp (.tmp .nil)) | exact .cell (.cell (.tmp .nil)) | exact .tmp (.tmp (.tmp .nil)) | exact .tmp (.tmp (.tmp (.tmp .nil))) | exact .cell (.cell (.cell .nil))) ?_
    exact ⟨_, _, (List.sublist_append_left _ _).cons _, List.Perm.refl _, .inl ⟨by simp [doB, hk, h1], rfl, vp, vt, vr, Lp, Lt, Lr, hp, ht, hr, rfl⟩⟩
  have h1 : (amtL b.tk x.bl).length = 0 := by simpa using q
  (refine St.move ?_; refine St.fieldAddr ?_; refine St.load ?_; refine St.fieldAddr ?_; refine St.load ?_; refine St.fieldAddr ?_; refine St.load ?_; refine St.fieldAddr ?_; refine St.load ?_)
  refine St.callWR (Lw := (j, BkC b.cl vp vt vr) :: Lp) (Lk := (p3, .cells (imC x) 114) :: (Lt ++ Lr) ++ Lu) (fun _ => rfl) (fun h2 hh => transfer_con h2 j b.cl b.ps vp vt vr Lp x.id x.dy x.am x.ac 2 hb.cl (by omega) (by have := hb.pl; omega) hp (hh.sub (L' := (j, BkC b.cl vp vt vr) :: Lp) (sub_c ((List.sublist_append_left _ _).trans (List.sublist_append_left _ _)))).lend) (by (refine perm_cnt fun _ _ => ?_; simp only [List.append_eq, List.cons_append, List.nil_append, List.count_append, List.count_cons, List.count_nil, Nat.add_zero, Nat.zero_add]; try ac_rfl)) rfl ?_
  intro v L hv
  (refine St.pickT ?_; refine St.assign ?_; refine WO.nil ?_)
  refine St.ret (by first | exact .tmp .nil | exact .cell .nil | exact .cell (.tmp .nil) | exact .tmp (.tmp .nil) | exact .cell (.cell .nil) | exact .tmp (.cell .nil) | exact .nil | exact .tmp (.cell (.tmp .nil)) | exact .cell (.tmp (.tmp .nil)) | exact .cell (.cell (.tmp .nil)) | exact .tmp (.tmp (.tmp .nil)) | exact .tmp (.tmp (.tmp (.tmp .nil))) | exact .cell (.cell (.cell .nil))) ?_
  obtain ⟨L0, h2, h3⟩ := tr_end (x := x) (c := b) (Lx := []) hp ht hr (by simp [doB, hk, h1]) hv
  exact ⟨L0, L ++ (Lt ++ Lr), List.Sublist.append (List.Sublist.refl _) ((List.sublist_append_left _ _).cons _), h2, pickV h3⟩
set_option maxRecDepth 100000 in
set_option maxHeartbeats 8000000 in
theorem refund_con : MethC 130 fun x => x.kd = 4 := by
  rintro h j b L x hk hf hb ⟨vp, vt, vr, Lp, Lt, Lr, hp, ht, hr, rfl⟩ k0
  have hWW := k0.ltW
  refine Con.permG (Con.startR rfl Tryz.func130 rfl rfl Tryz.ntmps130 rfl rfl k0 ?_)
  have ha := frm_am hf
  have hd := frm_dy hf
  (refine WK.seq ?_; refine WK.region ?_; refine St.box fun _ _ => ?_; refine St.assign ?_; refine WO.nil ?_; refine WK.seq ?_; refine WK.region ?_; refine St.move ?_)
  rename_i p3 hp3
  refine St.callR (fun _ => rfl) (fun h2 hh => left_con h2 hh.gd j 3 4 vt b.tk (hh.rdG (List.mem_cons_of_mem _ (List.Mem.head _)) rfl) (IsR.eVI ht rfl hh (fun y hy => List.mem_cons_of_mem _ (List.mem_cons_of_mem _ (List.mem_append_right _ (List.mem_append_left _ hy))))) hb.tl (fun y hy => frm_am (hb.fr y hy))) ?_
  rintro _ _ ⟨m, rfl, rfl⟩
  (refine St.assign ?_; refine WO.nil ?_; refine WK.seq ?_; refine WK.region ?_; refine St.move ?_; refine St.fieldAddr ?_; refine St.load ?_)
  refine St.lookupV (v := .int .i64 (leftL 3 4 x.ac b.tk)) (fun h2 hh => ?_) ?_
  · rw [← leftP_get]
    exact lookQ (hh.own (m, _) (List.Mem.head _)).1
  (refine St.fieldAddr ?_; refine St.load ?_; refine St.bin ?_; refine St.move ?_)
  refine St.split (fun q => ?_) (fun q => ?_)
  rotate_left
  · have h1 : ¬ leftL 3 4 x.ac b.tk ≥ x.am := by simpa using q
    (refine St.skip ?_; refine St.skip ?_; refine St.skip ?_; refine St.skip ?_; refine St.skip ?_; refine St.skip ?_; refine St.skip ?_; refine St.skip ?_; refine St.skip ?_; refine St.skip ?_; refine St.pickF ?_; refine St.assign ?_; refine WO.nil ?_)
    refine St.ret (by first | exact .tmp .nil | exact .cell .nil | exact .cell (.tmp .nil) | exact .tmp (.tmp .nil) | exact .cell (.cell .nil) | exact .tmp (.cell .nil) | exact .nil | exact .tmp (.cell (.tmp .nil)) | exact .cell (.tmp (.tmp .nil)) | exact .cell (.cell (.tmp .nil)) | exact .tmp (.tmp (.tmp .nil)) | exact .tmp (.tmp (.tmp (.tmp .nil))) | exact .cell (.cell (.cell .nil))) ?_
    exact ⟨_, _, (List.sublist_cons_self _ _).trans (List.sublist_cons_self _ _), List.Perm.refl _, .inl ⟨by simp only [doB, hk]; simp [h1], rfl, vp, vt, vr, Lp, Lt, Lr, hp, ht, hr, rfl⟩⟩
  have h1 : leftL 3 4 x.ac b.tk ≥ x.am := by simpa using q
  (refine St.move ?_; refine St.fieldAddr ?_; refine St.load ?_; refine St.fieldAddr ?_; refine St.load ?_; refine St.fieldAddr ?_; refine St.load ?_; refine St.fieldAddr ?_; refine St.load ?_)
  refine St.callWR (Lw := (j, BkC b.cl vp vt vr) :: Lp) (Lk := (m, .map (mapQ (sumQ (leftP 3 4 b.tk)) 0) (sumQ (leftP 3 4 b.tk)).length) :: (p3, .cells (imC x) 114) :: (Lt ++ Lr)) (fun _ => rfl) (fun h2 hh => transfer_con h2 j b.cl b.ps vp vt vr Lp x.id x.dy x.am x.ac 1 hb.cl (by omega) (by have := hb.pl; omega) hp (hh.sub (L' := (j, BkC b.cl vp vt vr) :: Lp) (sub_b (sub_c (List.sublist_append_left _ _)))).lend) (by (refine perm_cnt fun _ _ => ?_; simp only [List.append_eq, List.cons_append, List.nil_append, List.count_append, List.count_cons, List.count_nil, Nat.add_zero, Nat.zero_add]; try ac_rfl)) rfl ?_
  intro v L hv
  (refine St.pickT ?_; refine St.assign ?_; refine WO.nil ?_)
  refine St.ret (by first | exact .tmp .nil | exact .cell .nil | exact .cell (.tmp .nil) | exact .tmp (.tmp .nil) | exact .cell (.cell .nil) | exact .tmp (.cell .nil) | exact .nil | exact .tmp (.cell (.tmp .nil)) | exact .cell (.tmp (.tmp .nil)) | exact .cell (.cell (.tmp .nil)) | exact .tmp (.tmp (.tmp .nil)) | exact .tmp (.tmp (.tmp (.tmp .nil))) | exact .cell (.cell (.cell .nil))) ?_
  obtain ⟨L0, h2, h3⟩ := tr_end (x := x) (c := b) (Lx := []) hp ht hr (by simp only [doB, hk]; simp [h1]) hv
  exact ⟨L0, L ++ (Lt ++ Lr), List.Sublist.append (List.Sublist.refl _) ((List.sublist_cons_self _ _).trans (List.sublist_cons_self _ _)), h2, pickV h3⟩
set_option maxRecDepth 100000 in
set_option maxHeartbeats 8000000 in
theorem free_con : MethC 132 fun x => x.kd = 6 := by
  rintro h j b L x hk hf hb ⟨vp, vt, vr, Lp, Lt, Lr, hp, ht, hr, rfl⟩ k0
  have hWW := k0.ltW
  refine Con.permG (Con.startR rfl Tryz.func132 rfl rfl Tryz.ntmps132 rfl rfl k0 ?_)
  have ha := frm_am hf
  have hd := frm_dy hf
  (refine WK.seq ?_; refine WK.region ?_; refine St.box fun _ _ => ?_; refine St.assign ?_; refine WO.nil ?_; refine WK.seq ?_; refine WK.region ?_; refine St.move ?_)
  rename_i p3 hp3
  refine St.callR (fun _ => rfl) (fun h2 hh => left_con h2 hh.gd j 5 6 vt b.tk (hh.rdG (List.mem_cons_of_mem _ (List.Mem.head _)) rfl) (IsR.eVI ht rfl hh (fun y hy => List.mem_cons_of_mem _ (List.mem_cons_of_mem _ (List.mem_append_right _ (List.mem_append_left _ hy))))) hb.tl (fun y hy => frm_am (hb.fr y hy))) ?_
  rintro _ _ ⟨m, rfl, rfl⟩
  (refine St.assign ?_; refine WO.nil ?_; refine WK.seq ?_; refine WK.region ?_; refine St.move ?_; refine St.fieldAddr ?_; refine St.load ?_)
  refine St.lookupV (v := .int .i64 (leftL 5 6 x.ac b.tk)) (fun h2 hh => ?_) ?_
  · rw [← leftP_get]
    exact lookQ (hh.own (m, _) (List.Mem.head _)).1
  (refine St.fieldAddr ?_; refine St.load ?_; refine St.bin ?_; refine St.move ?_)
  refine St.split (fun q => ?_) (fun q => ?_)
  rotate_left
  · have h1 : ¬ leftL 5 6 x.ac b.tk ≥ x.am := by simpa using q
    (refine St.skip ?_; refine St.skip ?_; refine St.skip ?_; refine St.skip ?_; refine St.skip ?_; refine St.skip ?_; refine St.skip ?_; refine St.skip ?_; refine St.pickF ?_; refine St.assign ?_; refine WO.nil ?_)
    refine St.ret (by first | exact .tmp .nil | exact .cell .nil | exact .cell (.tmp .nil) | exact .tmp (.tmp .nil) | exact .cell (.cell .nil) | exact .tmp (.cell .nil) | exact .nil | exact .tmp (.cell (.tmp .nil)) | exact .cell (.tmp (.tmp .nil)) | exact .cell (.cell (.tmp .nil)) | exact .tmp (.tmp (.tmp .nil)) | exact .tmp (.tmp (.tmp (.tmp .nil))) | exact .cell (.cell (.cell .nil))) ?_
    exact ⟨_, _, (List.sublist_cons_self _ _).trans (List.sublist_cons_self _ _), List.Perm.refl _, .inl ⟨by simp only [doB, hk]; simp [h1], rfl, vp, vt, vr, Lp, Lt, Lr, hp, ht, hr, rfl⟩⟩
  have h1 : leftL 5 6 x.ac b.tk ≥ x.am := by simpa using q
  (refine St.move ?_; refine St.fieldAddr ?_; refine St.load ?_; refine St.fieldAddr ?_; refine St.load ?_; refine St.fieldAddr ?_; refine St.load ?_)
  refine St.callWR (Lw := (j, BkC b.cl vp vt vr) :: Lp) (Lk := (m, .map (mapQ (sumQ (leftP 5 6 b.tk)) 0) (sumQ (leftP 5 6 b.tk)).length) :: (p3, .cells (imC x) 114) :: (Lt ++ Lr)) (fun _ => rfl) (fun h2 hh => transfer_con h2 j b.cl b.ps vp vt vr Lp x.id x.dy x.am 3 1 hb.cl (by omega) (by have := hb.pl; omega) hp (hh.sub (L' := (j, BkC b.cl vp vt vr) :: Lp) (sub_b (sub_c (List.sublist_append_left _ _)))).lend) (by (refine perm_cnt fun _ _ => ?_; simp only [List.append_eq, List.cons_append, List.nil_append, List.count_append, List.count_cons, List.count_nil, Nat.add_zero, Nat.zero_add]; try ac_rfl)) rfl ?_
  intro v L hv
  (refine St.pickT ?_; refine St.assign ?_; refine WO.nil ?_)
  refine St.ret (by first | exact .tmp .nil | exact .cell .nil | exact .cell (.tmp .nil) | exact .tmp (.tmp .nil) | exact .cell (.cell .nil) | exact .tmp (.cell .nil) | exact .nil | exact .tmp (.cell (.tmp .nil)) | exact .cell (.tmp (.tmp .nil)) | exact .cell (.cell (.tmp .nil)) | exact .tmp (.tmp (.tmp .nil)) | exact .tmp (.tmp (.tmp (.tmp .nil))) | exact .cell (.cell (.cell .nil))) ?_
  obtain ⟨L0, h2, h3⟩ := tr_end (x := x) (c := b) (Lx := []) hp ht hr (by simp only [doB, hk]; simp [h1]) hv
  exact ⟨L0, L ++ (Lt ++ Lr), List.Sublist.append (List.Sublist.refl _) ((List.sublist_cons_self _ _).trans (List.sublist_cons_self _ _)), h2, pickV h3⟩
theorem amtL_mem {l : List Im} {n : Int} {y : Im} (h : y ∈ amtL l n) : y ∈ l ∧ y.bl = n := by
  obtain ⟨h1, h2⟩ := List.mem_filter.1 h
  exact ⟨h1, by simpa using h2⟩
set_option maxRecDepth 100000 in
set_option maxHeartbeats 8000000 in
theorem mend_con : MethC 128 fun x => x.kd = 2 := by
  rintro h j b L x hk hf hb ⟨vp, vt, vr, Lp, Lt, Lr, hp, ht, hr, rfl⟩ k0
  have hWW := k0.ltW
  refine Con.permG (Con.startR rfl Tryz.func128 rfl rfl Tryz.ntmps128 rfl rfl k0 ?_)
  have ha := frm_am hf
  have hd := frm_dy hf
  (refine WK.seq ?_; refine WK.region ?_; refine St.box fun _ _ => ?_; refine St.assign ?_; refine WO.nil ?_; refine WK.seq ?_; refine WK.region ?_; refine St.move ?_; refine St.fieldAddr ?_; refine St.load ?_)
  rename_i p3 hp3
  refine St.callR (fun _ => rfl) (fun h2 hh => amounts_con h2 hh.gd j x.bl vt b.tk (hh.rdG (List.mem_cons_of_mem _ (List.Mem.head _)) rfl) (IsR.eVI ht rfl hh (fun y hy => List.mem_cons_of_mem _ (List.mem_cons_of_mem _ (List.mem_append_right _ (List.mem_append_left _ hy))))) hb.tl) ?_
  intro u Lu hu
  refine WO.permF (L' := (p3, .cells (imC x) 114) :: (j, BkC b.cl vp vt vr) :: (Lp ++ (Lt ++ Lr)) ++ Lu) List.perm_append_comm ?_
  (refine St.assign ?_; refine WO.nil ?_; refine WK.seq ?_; refine WK.seq ?_; refine WK.region ?_; refine St.move ?_)
  refine St.lenG rfl (hu.isL.lenG Tryz.underlying22) ?_
  (refine St.bin ?_; refine WO.nil ?_)
  refine St.splitC (fun q => ?_) (fun q => ?_)
  · have h1 : (amtL b.tk x.bl).length = 0 := by simpa using q
    (refine WK.seq ?_; refine WK.region ?_; refine St.assign ?_; refine WO.nil ?_)
    refine St.ret (by first | exact .tmp .nil | exact .cell .nil | exact .cell (.tmp .nil) | exact .tmp (.tmp .nil) | exact .cell (.cell .nil) | exact .tmp (.cell .nil) | exact .nil | exact .tmp (.cell (.tmp .nil)) | exact .cell (.tmp (.tmp .nil)) | exact .cell (.cell (.tmp .nil)) | exact .tmp (.tmp (.tmp .nil)) | exact .tmp (.tmp (.tmp (.tmp .nil))) | exact .cell (.cell (.cell .nil))) ?_
    exact ⟨_, _, (List.sublist_append_left _ _).cons _, List.Perm.refl _, .inl ⟨by simp [doB, hk, h1], rfl, vp, vt, vr, Lp, Lt, Lr, hp, ht, hr, rfl⟩⟩
  have h1 : ¬ (amtL b.tk x.bl).length = 0 := by simpa using q
  rcases hu.rowN with ⟨_, _, h2, _⟩ | ⟨ju, rfl, rfl, hlu⟩
  · exact absurd h2 h1
  have hn0 : 0 < (amtL b.tk x.bl).length := by omega
  have hnl : (amtL b.tk x.bl).length ≤ 1000 := Nat.le_trans (List.length_filter_le _ _) hb.tl
  have hm0 := hb.fr _ (amtL_mem (nthE_mem hn0)).1
  have hm1 := hb.fr _ (amtL_mem (nthE_mem (show (amtL b.tk x.bl).length - 1 < (amtL b.tk x.bl).length by omega))).1
  have hm2 := frm_am hm1
  (refine WK.skip ?_; refine WK.seq ?_)
  refine WK.regionE (n := 1) [(ju, .row (enF imC (amtL b.tk x.bl)) 114 7)] (List.sublist_append_right _ _) ?_
  refine WE.move ?_
  refine WE.at ?_
  refine WE.loadX (v := .agg (imC (nthE (amtL b.tk x.bl) 0))) 0 (fun h2 hh => ((eh_row (l := amtL b.tk x.bl) (i := ju) (e := 114) hh (by simp)).at_ (z := 0) (n := 0) rfl hn0).agg (by simp [imC]) rfl rfl rfl) ?_
  refine WE.move ?_
  refine WE.move ?_
  refine WE.lenV 3 rfl (hu.isL.lenG Tryz.underlying22) ?_
  refine WE.binI ?_
  refine WE.at ?_
  refine WE.loadX (v := .agg (imC (nthE (amtL b.tk x.bl) ((amtL b.tk x.bl).length - 1)))) 0 (fun h2 hh => ((eh_row (l := amtL b.tk x.bl) (i := ju) (e := 114) hh (by simp)).at_ (z := ((amtL b.tk x.bl).length : Int) - 1) (n := (amtL b.tk x.bl).length - 1) (by omega) (by omega)).agg (by simp [imC]) rfl rfl rfl) ?_
  refine WE.alloc 1 (fun a6 ha6 => ?_)
  refine WE.alloc 1 (fun a7 ha7 => ?_)
  refine WE.storeT (A := [_]) (C := []) 1 rfl ?_
  refine WE.storeT (A := [_]) (C := []) 2 rfl ?_
  refine WE.nil ?_
  refine WK.perm (L' := (a7, .cells (imC (nthE (amtL b.tk x.bl) ((amtL b.tk x.bl).length - 1))) 114) :: (a6, .cells (imC (nthE (amtL b.tk x.bl) 0)) 114) :: (p3, .cells (imC x) 114) :: (j, BkC b.cl vp vt vr) :: (Lp ++ (Lt ++ Lr)) ++ [(ju, .row (enF imC (amtL b.tk x.bl)) 114 7)]) (List.Perm.refl _) ?_
  (refine WK.seq ?_; refine WK.region ?_; refine St.move ?_; refine St.fieldAddr ?_; refine St.load ?_; refine St.fieldAddr ?_; refine St.load ?_; refine St.fieldAddr ?_; refine St.load ?_; refine St.fieldAddr ?_; refine St.load ?_; refine St.binI ?_; refine St.fieldAddr ?_; refine St.load ?_)
  refine St.callWR (Lw := (j, BkC b.cl vp vt vr) :: Lp) (Lk := (a7, .cells (imC (nthE (amtL b.tk x.bl) ((amtL b.tk x.bl).length - 1))) 114) :: (a6, .cells (imC (nthE (amtL b.tk x.bl) 0)) 114) :: (p3, .cells (imC x) 114) :: (Lt ++ Lr) ++ [(ju, .row (enF imC (amtL b.tk x.bl)) 114 7)]) (fun _ => rfl) (fun h2 hh => transfer_con h2 j b.cl b.ps vp vt vr Lp x.id (nthE (amtL b.tk x.bl) 0).dy (x.am - (nthE (amtL b.tk x.bl) ((amtL b.tk x.bl).length - 1)).am) (nthE (amtL b.tk x.bl) 0).ac 2 hb.cl (by omega) (by have := hb.pl; omega) hp (hh.sub (L' := (j, BkC b.cl vp vt vr) :: Lp) (sub_b (sub_b (sub_c ((List.sublist_append_left _ _).trans (List.sublist_append_left _ _)))))).lend) (by (refine perm_cnt fun _ _ => ?_; simp only [List.append_eq, List.cons_append, List.nil_append, List.count_append, List.count_cons, List.count_nil, Nat.add_zero, Nat.zero_add]; try ac_rfl)) rfl ?_
  intro v L hv
  (refine St.assign ?_; refine WO.nil ?_)
  refine St.ret (by first | exact .tmp .nil | exact .cell .nil | exact .cell (.tmp .nil) | exact .tmp (.tmp .nil) | exact .cell (.cell .nil) | exact .tmp (.cell .nil) | exact .nil | exact .tmp (.cell (.tmp .nil)) | exact .cell (.tmp (.tmp .nil)) | exact .cell (.cell (.tmp .nil)) | exact .tmp (.tmp (.tmp .nil)) | exact .tmp (.tmp (.tmp (.tmp .nil))) | exact .cell (.cell (.cell .nil))) ?_
  obtain ⟨L0, h2, h3⟩ := tr_end (x := x) (c := b) (Lx := []) hp ht hr (by simp [doB, hk, h1, headE, lastE]) hv
  exact ⟨L0, L ++ (Lt ++ Lr), List.Sublist.append (List.Sublist.refl _) (sub_b (sub_b (sub_b (List.sublist_append_left _ _)))), h2, h3⟩
end Go.Proofs.YtkebbdpfjhhdhaaGreat
