/- Layer 8: arguments that are items: what they read as. -/
import Derived.Test.YtkebbdpfjhhdhaaGreatFi
import Derived.Test.YtkebbdpfjhhdhaaGreatFk
import Derived.Test.YtkebbdpfjhhdhaaGreatFg
/- Layer 8: what is asked for; Postings, Closed. -/
namespace Go.Proofs.YtkebbdpfjhhdhaaGreat
open Go.Proofs.YtkebbdpfjhhdhaaGreat.Ev

def boC (b : Bool) : List AV := [.bool b]
abbrev BoV := EV boC 1
/-- the error of what is asked for -/
def askE (l : List Im) (bs : List Bool) : Int := if chkI l = 0 then (if bs.all id = true then 0 else 1) else chkI l
theorem askE_ok {l : List Im} {bs : List Bool} (h : askE l bs = 0) : chkI l = 0 ∧ bs.all id = true := by
  unfold askE at h
  split at h
  · rename_i h1
    split at h
    · rename_i h2; exact ⟨h1, h2⟩
    · simp at h
  · rename_i h1; exact absurd h h1
set_option maxRecDepth 100000 in
set_option maxHeartbeats 4000000 in
theorem indexB_con (h : Heap) (g : Gd h) (v : AV) (l : List Bool) (hv : BoV h v l) (hl : l.length ≤ 1000) :
    Con Tryz.prog Bs 152 [v, .bool false] h [] (.int .i64 (idxG (fun b => !b) l 0)) [] := by
  refine Con.start rfl Tryz.func152 rfl rfl Tryz.ntmps152 rfl rfl g ?_
  (refine WK.seq ?_; refine WK.region ?_; refine St.assign ?_; refine WO.nil ?_; refine WK.seq ?_; refine WK.seq ?_; refine WK.region ?_; refine St.move ?_)
  refine St.lenG rfl (hv.len Tryz.underlying181) ?_
  (refine St.move ?_; refine WO.nil ?_; refine WK.block ?_)
  refine WK.inv (ι := Nat) (fun z => [(0, v), (1, .bool false), (7, .int .i64 l.length), (8, .int .i64 z)]) (fun _ => []) (fun z => z ≤ l.length ∧ idxG (fun b => !b) l 0 = idxG (fun b => !b) (l.drop z) z) (fun z => l.length - z) 0 ⟨by omega, rfl⟩ ⟨rfl, rfl, rfl, rfl, trivial⟩ (by (repeat (first | exact List.Sublist.refl _ | exact List.nil_sublist _ | apply List.Sublist.cons_cons | apply List.Sublist.cons))) ?_
  rintro k ⟨hkl, hno⟩ ih
  (refine WK.seq ?_; refine WK.region ?_; refine St.bin ?_; refine WO.nil ?_; refine WK.seq ?_)
  refine St.splitC (fun hc => ?_) (fun hc => ?_)
  · have hlt : k < l.length := by simp at hc; omega
    rw [drop_consE hlt, idxG] at hno
    have hv' := hv
    obtain ⟨b, off, cc, rfl, hk⟩ := hv'.ne (by omega)
    (refine WK.skip ?_; refine WK.seq ?_; refine WK.block ?_; refine WK.seq ?_; refine WK.region ?_; refine St.move ?_; refine St.assign ?_; refine WO.nil ?_; refine WK.seq ?_; refine WK.region ?_; refine St.move ?_; refine St.move ?_; refine St.move ?_)
    refine St.at ?_
    refine St.loadX (v := .bool (nthE l k)) (fun h2 hh => (Rds.headG ((hk.vw hh).at_ (z := (k : Int)) (n := k) (by omega) hlt)).one rfl) ?_
    cases ht : nthE l k
    · rw [if_pos (by rw [ht]; rfl)] at hno
      (refine St.bin ?_; refine WO.nil ?_; refine WK.condT ?_; refine WK.seq ?_; refine WK.region ?_; refine St.move ?_; refine St.assign ?_; refine WO.nil ?_)
      refine St.ret (by first | exact .tmp .nil | exact .cell .nil | exact .cell (.tmp .nil) | exact .tmp (.tmp .nil) | exact .cell (.cell .nil) | exact .tmp (.cell .nil) | exact .nil | exact .tmp (.cell (.tmp .nil)) | exact .cell (.tmp (.tmp .nil)) | exact .cell (.cell (.tmp .nil)) | exact .tmp (.tmp (.tmp .nil)) | exact .tmp (.tmp (.tmp (.tmp .nil))) | exact .cell (.cell (.cell .nil))) ?_
      rw [hno]
      rfl
    · rw [if_neg (by rw [ht]; simp)] at hno
      (refine St.bin ?_; refine WO.nil ?_; refine WK.condF ?_; refine WK.skip ?_; refine WK.blk ?_; refine WK.region ?_; refine St.binI ?_; refine St.move ?_; refine WO.nil ?_)
      refine WK.le ?_ (by (repeat (first | exact List.Sublist.refl _ | exact List.nil_sublist _ | apply List.Sublist.cons_cons | apply List.Sublist.cons))) (ih (k + 1) ⟨hlt, hno⟩ (by omega))
      exact ⟨rfl, rfl, rfl, rfl, trivial⟩
  · have : k = l.length := by simp at hc; omega
    subst this
    rw [List.drop_length] at hno
    (refine WK.exit ?_; refine WK.seq ?_; refine WK.region ?_; refine St.assign ?_; refine WO.nil ?_)
    refine St.ret (by first | exact .tmp .nil | exact .cell .nil | exact .cell (.tmp .nil) | exact .tmp (.tmp .nil) | exact .cell (.cell .nil) | exact .tmp (.cell .nil) | exact .nil | exact .tmp (.cell (.tmp .nil)) | exact .cell (.tmp (.tmp .nil)) | exact .cell (.cell (.tmp .nil)) | exact .tmp (.tmp (.tmp .nil)) | exact .tmp (.tmp (.tmp (.tmp .nil))) | exact .cell (.cell (.cell .nil))) ?_
    rw [hno]
    rfl
theorem anyN_eq (l : List Bool) : (l.any fun b => !b) = !l.all id := by
  induction l with
  | nil => rfl
  | cons b r ih => simp only [List.any_cons, List.all_cons, id_eq, Bool.not_and, ih]
set_option maxRecDepth 100000 in
theorem containsB_con (h : Heap) (g : Gd h) (v : AV) (l : List Bool) (hv : BoV h v l) (hl : l.length ≤ 1000) : Con Tryz.prog Bs 126 [v, .bool false] h [] (.bool (!l.all id)) [] := by
  refine Con.start rfl Tryz.func126 rfl rfl Tryz.ntmps126 rfl rfl g ?_
  (refine WK.seq ?_; refine WK.region ?_; refine St.assign ?_; refine WO.nil ?_; refine WK.seq ?_; refine WK.region ?_; refine St.move ?_; refine St.move ?_)
  refine St.call (fun _ => rfl) (fun h2 hh => indexB_con h2 hh.gd v l (hv.vw ⟨hh.gd, hh.nx, hh.old, hh.own⟩) hl) ?_
  (refine St.bin ?_; refine St.assign ?_; refine WO.nil ?_)
  refine St.ret (by first | exact .tmp .nil | exact .cell .nil | exact .cell (.tmp .nil) | exact .tmp (.tmp .nil) | exact .cell (.cell .nil) | exact .tmp (.cell .nil) | exact .nil | exact .tmp (.cell (.tmp .nil)) | exact .cell (.tmp (.tmp .nil)) | exact .cell (.cell (.tmp .nil)) | exact .tmp (.tmp (.tmp .nil)) | exact .tmp (.tmp (.tmp (.tmp .nil))) | exact .cell (.cell (.cell .nil))) ?_
  show AV.bool (decide (idxG (fun b => !b) l 0 ≥ 0)) = _
  rw [idxG_any, anyN_eq]
set_option maxRecDepth 100000 in
theorem asked_con (h : Heap) (g : Gd h) (v w : AV) (l : List Im) (bs : List Bool) (hv : ImV h v l) (hs : CutV h v l) (hw : BoV h w bs) (hb : bs.length ≤ 1000) : Con Tryz.prog Bs 77 [v, w] h [] (.int .i64 (askE l bs)) [] := by
  refine Con.start rfl Tryz.func77 rfl rfl Tryz.ntmps77 rfl rfl g ?_
  (refine WK.seq ?_; refine WK.region ?_; refine St.assign ?_; refine WO.nil ?_; refine WK.seq ?_; refine WK.seq ?_; refine WK.region ?_; refine St.move ?_)
  refine St.call (fun _ => rfl) (fun h2 hh => check_con h2 hh.gd v l (hv.vw hh) (hs.vw hh)) ?_
  (refine St.assign ?_; refine WO.nil ?_; refine WK.seq ?_; refine WK.region ?_; refine St.move ?_; refine St.bin ?_; refine WO.nil ?_)
  refine St.splitC (fun q => ?_) (fun q => ?_)
  · have e : ¬ chkI l = 0 := by simpa using q
    (refine WK.seq ?_; refine WK.region ?_; refine St.move ?_; refine St.assign ?_; refine WO.nil ?_)
    refine St.ret (by first | exact .tmp .nil | exact .cell .nil | exact .cell (.tmp .nil) | exact .tmp (.tmp .nil) | exact .cell (.cell .nil) | exact .tmp (.cell .nil) | exact .nil | exact .tmp (.cell (.tmp .nil)) | exact .cell (.tmp (.tmp .nil)) | exact .cell (.cell (.tmp .nil)) | exact .tmp (.tmp (.tmp .nil)) | exact .tmp (.tmp (.tmp (.tmp .nil))) | exact .cell (.cell (.cell .nil))) ?_
    simp [oneOf, askE, e]
  have e : chkI l = 0 := by simpa using q
  (refine WK.skip ?_; refine WK.seq ?_; refine WK.seq ?_; refine WK.region ?_; refine St.move ?_)
  refine St.call (fun _ => rfl) (fun h2 hh => containsB_con h2 hh.gd w bs (hw.vw hh) hb) ?_
  (refine WO.nil ?_)
  refine St.splitC (fun q2 => ?_) (fun q2 => ?_)
  · have e2 : ¬ bs.all id = true := by simpa using q2
    (refine WK.seq ?_; refine WK.region ?_; refine St.assign ?_; refine WO.nil ?_)
    refine St.ret (by first | exact .tmp .nil | exact .cell .nil | exact .cell (.tmp .nil) | exact .tmp (.tmp .nil) | exact .cell (.cell .nil) | exact .tmp (.cell .nil) | exact .nil | exact .tmp (.cell (.tmp .nil)) | exact .cell (.tmp (.tmp .nil)) | exact .cell (.cell (.tmp .nil)) | exact .tmp (.tmp (.tmp .nil)) | exact .tmp (.tmp (.tmp (.tmp .nil))) | exact .cell (.cell (.cell .nil))) ?_
    simp only [oneOf, askE, e, if_true]
    rw [if_neg e2]
  · have e2 : bs.all id = true := by simpa using q2
    (refine WK.skip ?_; refine WK.seq ?_; refine WK.region ?_; refine St.assign ?_; refine WO.nil ?_)
    refine St.ret (by first | exact .tmp .nil | exact .cell .nil | exact .cell (.tmp .nil) | exact .tmp (.tmp .nil) | exact .cell (.cell .nil) | exact .tmp (.cell .nil) | exact .nil | exact .tmp (.cell (.tmp .nil)) | exact .cell (.tmp (.tmp .nil)) | exact .cell (.cell (.tmp .nil)) | exact .tmp (.tmp (.tmp .nil)) | exact .tmp (.tmp (.tmp (.tmp .nil))) | exact .cell (.cell (.cell .nil))) ?_
    simp only [oneOf, askE, e, if_true]
    rw [if_pos e2]
/-- bools that were made just now -/
theorem boV_of {h0 h : Heap} {W : List Nat} {V : Ob} {j : Nat} {bs : List Bool} {t : TypeId} {n : Nat} (hh : Vw h0 W V h) (hm : (j, AObj.cells (bs.map AV.bool) t) ∈ V) (hn : bs.length = n) (c : ACap) : BoV h (.slice j 0 n c) bs := by
  subst hn
  refine .inr ⟨j, 0, c, rfl, fun i hi => ?_⟩
  rw [Nat.zero_add]
  have e : ∀ l : List Bool, l.map AV.bool = enF boC l := fun l => by
    induction l with
    | nil => rfl
    | cons b r ih => simp only [enF, List.map_cons, List.flatten_cons] at *; rw [ih]; rfl
  rw [e] at hm
  exact hh.rdsEn hm (AObj.has_cells _ _) _ _ _ (enF_drop (enc := boC) (sz := 1) (fun _ => rfl) bs i hi)
/-- items of an argument: read, cut, cloned -/
structure ImG (h : Heap) (v : AV) (l : List Im) : Prop where
  z : ImZ h v l
  c : CutV h v l
theorem ImG.vw {h0 h : Heap} {V : Ob} {v : AV} {l : List Im} (k : ImG h0 v l) (hh : Vw h0 [] V h) : ImG h v l := ⟨k.z.vw hh, k.c.vw hh⟩
/-- the book that is asked for -/
theorem bookOf_g {h : Heap} (g : Gd h) {v : AV} {l : List Im} {known : Int} (hv : ImG h v l) (hc : chkI l = 0) : ∃ u L, Con Tryz.prog Bs 79 [v, .int .i64 known] h [] u L ∧ ∃ j, u = .ptr j 0 ∧ BkM j (bookB l known) L := bookOf_con h g v l known hv.z (chk_ok hc).1 (chk_ok hc).2.1 (chk_ok hc).2.2
/-- a list, or an error -/
def LstR (e : TypeId) (sz : Nat) {α : Type} (enc : α → List AV) (er : Int) (xs : List α) (u : AV) (L : Ob) : Prop := ∃ w, u = .tup [w, .int .i64 er] ∧ ((er ≠ 0 ∧ w = .slice0 ∧ L = []) ∨ (er = 0 ∧ IsR e sz xs.length (enF enc xs) w L))
set_option maxRecDepth 100000 in
set_option maxHeartbeats 4000000 in
theorem Postings_con (h : Heap) (g : Gd h) (v : AV) (l : List Im) (known : Int) (hv : ImG h v l) : ∃ u L, Con Tryz.prog Bs 27 [v, .int .i64 known] h [] u L ∧ LstR 72 4 poC (askE l [dyB known]) (bookB l known).ps u L := by
  refine Con.subG (Con.startR rfl Tryz.func27 rfl rfl Tryz.ntmps27 rfl rfl (SS.init g) ?_)
  (refine WK.seq ?_; refine WK.region ?_; refine St.assign ?_; refine St.assign ?_; refine WO.nil ?_; refine WK.seq ?_; refine WK.seq ?_; refine WK.region ?_; refine St.move ?_; refine St.move ?_)
  refine St.call (fun _ => rfl) (fun h2 hh => isDay_con h2 hh.gd known) ?_
  (refine St.mkS fun _ _ => ?_)
  rename_i p10 hp10
  refine St.call (fun _ => rfl) (fun h2 hh => asked_con h2 hh.gd v _ l [dyB known] (hv.z.eV.vw hh) (hv.c.vw hh) (boV_of (bs := [dyB known]) (n := 1) hh (List.Mem.head _) rfl _) (by simp)) ?_
  (refine St.assign ?_; refine WO.nil ?_; refine WK.seq ?_; refine WK.region ?_; refine St.move ?_; refine St.bin ?_; refine WO.nil ?_)
  refine St.splitC (fun q => ?_) (fun q => ?_)
  · have e : ¬ askE l [dyB known] = 0 := by simpa using q
    (refine WK.seq ?_; refine WK.region ?_; refine St.move ?_; refine St.assign ?_; refine St.assign ?_; refine WO.nil ?_)
    refine St.ret (by first | exact .tmp .nil | exact .cell .nil | exact .cell (.tmp .nil) | exact .tmp (.tmp .nil) | exact .cell (.cell .nil) | exact .tmp (.cell .nil) | exact .nil | exact .tmp (.cell (.tmp .nil)) | exact .cell (.tmp (.tmp .nil)) | exact .cell (.cell (.tmp .nil)) | exact .tmp (.tmp (.tmp .nil)) | exact .tmp (.tmp (.tmp (.tmp .nil))) | exact .cell (.cell (.cell .nil))) ?_
    exact ⟨[], List.nil_sublist _, _, rfl, .inl ⟨e, rfl, rfl⟩⟩
  have e : askE l [dyB known] = 0 := by simpa using q
  (refine WK.skip ?_; refine WK.seq ?_; refine WK.region ?_; refine St.move ?_; refine St.move ?_)
  refine St.callR (fun _ => rfl) (fun h2 hh => bookOf_g hh.gd (known := known) (hv.vw hh) (askE_ok e).1) ?_
  rintro _ _ ⟨j, rfl, vp, vt, vr, Lp, Lt, Lr, hp, ht, hr, rfl⟩
  (refine St.nilP ?_; refine St.fieldAddr ?_; refine St.load ?_; refine St.assign ?_; refine St.assign ?_; refine WO.nil ?_)
  refine St.ret (by first | exact .tmp .nil | exact .cell .nil | exact .cell (.tmp .nil) | exact .tmp (.tmp .nil) | exact .cell (.cell .nil) | exact .tmp (.cell .nil) | exact .nil | exact .tmp (.cell (.tmp .nil)) | exact .cell (.tmp (.tmp .nil)) | exact .cell (.cell (.tmp .nil)) | exact .tmp (.tmp (.tmp .nil)) | exact .tmp (.tmp (.tmp (.tmp .nil))) | exact .cell (.cell (.cell .nil))) ?_
  refine ⟨Lp, ?_, _, by rw [e]; rfl, .inr ⟨e, hp⟩⟩
  exact ((List.sublist_append_left _ _).trans (List.sublist_append_left _ _)).cons _
end Go.Proofs.YtkebbdpfjhhdhaaGreat

/- Layer 8: arguments that are items: what they read as. -/
namespace Go.Proofs.YtkebbdpfjhhdhaaGreat
open Go.ChangeShapes Go.WideShapes Go.ChangeAt Go.RowKit Go.Deep Go.Proofs.YtkebbdpfjhhdhaaGreat.Ev

theorem len7 {l : List Int} (h : l.length = 7) : ∃ a b c d e f g, l = [a, b, c, d, e, f, g] := by
  match l, h with
  | [a, b, c, d, e, f, g], _ => exact ⟨a, b, c, d, e, f, g, rfl⟩
section
variable {H : Type} {enc : TypeId × Value → H} {W : World} {base b0 : Nat} {spare : Nat → Bool} {held : Bool} {r : Reach}
set_option maxRecDepth 100000 in
theorem ints_cells {t : TypeId} {fs : Array Field} (ht : Tryz.prog.underlying t = some (.struct fs)) (hc : Tryz.prog.cellsOf t = fs.size) (hf : intS Tryz.prog fs.toList 0 = true) {fuel : Nat} {cs : List Value} {x : DataW H × List MemPlace} (h : DataW.trod enc Tryz.prog W base spare held fuel t cs = some x) :
    ∃ l : List Int, l.length = fs.size ∧ cs = l.map fun n => Value.int .i64 n := by
  obtain ⟨xs, n, _, _, hl, hlen, hq⟩ := DataW.trod_struct ht h
  rw [hc] at hl
  obtain ⟨l, hll, hk⟩ := ex_list (n := fs.size) (p := fun i (k : Int) => cs[i]? = some (.int .i64 k)) fun i hi => by
    have hfi : fs.toList[i]? = some fs[i] := by simp [hi]
    obtain ⟨o, u, c⟩ := intS_at hf i fs[i] hfi
    obtain ⟨y, hy⟩ : ∃ y, DataW.trod enc Tryz.prog W base spare held n fs[i].type ((cs.drop fs[i].offset).take (Tryz.prog.cellsOf fs[i].type)) = some y := by
      have := hq i fs[i] (by simp [hi])
      exact ⟨xs[i]'(by omega), by rw [this]; exact List.getElem?_eq_getElem _⟩
    rw [o, c, Nat.zero_add] at hy
    rw [List.drop_eq_getElem_cons (by omega)] at hy
    obtain ⟨x, e1, _⟩ := DataW.trod_int u hy
    refine ⟨x, ?_⟩
    rw [List.take_succ_cons, List.take_zero] at e1
    have e2 := (List.cons.inj e1).1
    rw [List.getElem?_eq_getElem (by omega), e2]
  refine ⟨l, hll, ?_⟩
  refine List.ext_getElem (by simp; omega) fun i h1 h2 => ?_
  have := hk i (by omega)
  rw [List.getElem?_eq_getElem h1] at this
  simpa using this
set_option maxRecDepth 100000 in
theorem trod_items {n : Nat} {cs : List Value} {y : DataW H × List MemPlace} (h : DataW.trod enc Tryz.prog W base spare held n 22 cs = some y) :
    ∃ (A : Option Addr) (c : Nat) (l : List Im), cs = [.slice A l.length c] ∧ l.length ≤ c ∧ At W imC 7 A l := by
  rcases open_slice Tryz.underlying22 h with ⟨rfl, _⟩ | ⟨a, len, cap, m, n, D, Pl, rfl, hb, hl, hm, hmm, _, hi⟩
  · exact ⟨none, 0, [], rfl, Nat.le_refl _, fun hne => absurd rfl hne⟩
  · have hC : Tryz.prog.cellsOf 114 = 7 := by kernel_rfl
    rw [hC] at hi
    have hlm : len ≤ m := by rw [hmm]; split <;> omega
    obtain ⟨l, hkl, hk⟩ := ex_list (n := len) (p := fun i (k : Im) => W.cell? (a.add (i * 7)) = some (.int .i64 k.id) ∧ W.cell? (a.add (i * 7 + 1)) = some (.int .i64 k.kn) ∧ W.cell? (a.add (i * 7 + 2)) = some (.int .i64 k.kd) ∧ W.cell? (a.add (i * 7 + 3)) = some (.int .i64 k.dy) ∧ W.cell? (a.add (i * 7 + 4)) = some (.int .i64 k.bl) ∧ W.cell? (a.add (i * 7 + 5)) = some (.int .i64 k.ac) ∧ W.cell? (a.add (i * 7 + 6)) = some (.int .i64 k.am)) fun i hil => by
      obtain ⟨cs', hcc, ht⟩ := hi i (by omega)
      obtain ⟨_, hlen, hat⟩ := World.cells?_some hcc
      obtain ⟨z, hz, rfl⟩ := ints_cells Tryz.underlying114 (by kernel_rfl) (by decide +kernel) ht
      obtain ⟨a1, a2, a3, a4, a5, a6, a7, rfl⟩ := len7 hz
      refine ⟨⟨a1, a2, a3, a4, a5, a6, a7⟩, ?_, ?_, ?_, ?_, ?_, ?_, ?_⟩
      · have := hat 0 (by simp); simpa [Addr.add] using this
      · have := hat 1 (by simp); rw [add_add] at this; simpa using this
      · have := hat 2 (by simp); rw [add_add] at this; simpa using this
      · have := hat 3 (by simp); rw [add_add] at this; simpa using this
      · have := hat 4 (by simp); rw [add_add] at this; simpa using this
      · have := hat 5 (by simp); rw [add_add] at this; simpa using this
      · have := hat 6 (by simp); rw [add_add] at this; simpa using this
    subst hkl
    refine ⟨some a, cap, l, rfl, hl, fun hne => ?_⟩
    have h0 := (hk 0 (List.length_pos_iff.2 hne)).1
    simp only [Nat.zero_mul] at h0
    have e0 : a.add 0 = a := rfl
    rw [e0] at h0
    obtain ⟨hsp, hbl⟩ := cell_spot h0
    obtain ⟨b, off, sp⟩ := a
    subst hsp
    refine ⟨b, off, rfl, hbl, fun i hi => ?_⟩
    obtain ⟨h1, h2, h3, h4, h5, h6, h7⟩ := hk i hi
    rw [add3] at h1 h2 h3 h4 h5 h6 h7
    rw [← nthE_eq hi] at h1 h2 h3 h4 h5 h6 h7
    exact ⟨absH_rd h1 rfl, absH_rd h2 rfl, absH_rd h3 rfl, absH_rd h4 rfl, absH_rd h5 rfl, absH_rd h6 rfl, absH_rd h7 rfl, trivial⟩
set_option maxRecDepth 100000 in
theorem open_items {v : Value} {d : DataW H} {p : List MemPlace} (hv : Value.okWide Tryz.prog W r b0 22 v) (h : DataW.Trod enc Tryz.prog W base spare held 22 v d p) :
    ∃ (A : Option Addr) (c : Nat) (l : List Im), v = .slice A l.length c ∧ SlOk W A l.length c ∧ l.length ≤ c ∧ At W imC 7 A l := by
  obtain ⟨n, hn⟩ := h
  obtain ⟨A, c, l, e, hl, k⟩ := trod_items hn
  have hc := cell_okw Tryz.underlying22 hv
  have e2 := slice_of_cells Tryz.underlying22 hc e
  subst e2
  exact ⟨A, c, l, rfl, slOk_of Tryz.underlying22 hc, hl, k⟩
end
/-- elements of an argument, in the calculator's memory; nothing can be read of an empty list -/
theorem el_abs {w : World} {α : Type} [Inhabited α] {enc : α → List AV} {sz : Nat} {A : Option Addr} {c : Nat} {l : List α} (hA : SlOk w A l.length c) (hl : l.length ≤ c) (hk : At w enc sz A l) : ∃ v, ((v = .slice0 ∧ l = []) ∨ ∃ b off m, v = .slice b off l.length (.k m) ∧ l.length ≤ m ∧ EH enc sz (absH w) b off l ∧ b < (absH w).next ∧ (absH w).loadN b off 0 = some []) ∧ VR (idE w.heap.size) v (.slice A l.length c) := by
  rcases hA with ⟨rfl, h0, rfl⟩ | ⟨b, off, rfl, C, t, fr, hC⟩
  · have : l = [] := List.length_eq_zero_iff.1 h0
    subst this
    exact ⟨.slice0, .inl ⟨rfl, rfl⟩, by simp [VR]⟩
  · have hb := (Array.getElem?_eq_some_iff.1 hC).1
    refine ⟨.slice b off l.length (.k c), .inr ⟨b, off, c, rfl, hl, fun i hi => ?_, hb, ?_⟩, by simp only [VR]; exact ⟨b, 0, if_pos hb, rfl⟩⟩
    · obtain ⟨b', off', e, hb', hc⟩ := hk (by intro h; subst h; simp at hi)
      cases e
      exact hc i hi
    · unfold Heap.loadN
      rw [absH_get, hC]
      rfl
set_option maxRecDepth 100000 in
theorem im_abs {w : World} {A : Option Addr} {c : Nat} {l : List Im} (hA : SlOk w A l.length c) (hl : l.length ≤ c) (hk : At w imC 7 A l) : ∃ v, (ImG (absH w) v l ∧ ArgS v l.length) ∧ VR (idE w.heap.size) v (.slice A l.length c) := by
  obtain ⟨v, h, hv⟩ := el_abs hA hl hk
  refine ⟨v, ?_, hv⟩
  have hs : sizeT Tryz.prog 114 = some 7 := by kernel_rfl
  rcases h with ⟨rfl, rfl⟩ | ⟨b, off, m, rfl, h2, h3, h4, h5⟩
  · exact ⟨⟨.nil, fun k hk => by simp at hk⟩, .inl rfl⟩
  · refine ⟨⟨?_, fun k hk2 => ⟨.slice b off k (.k m), h3.takV (by omega), fun h6 V hh => slK_to Tryz.underlying22 hs (by omega) h2⟩⟩, .inr ⟨b, off, m, rfl, h2⟩⟩
    rcases Nat.eq_zero_or_pos l.length with h0 | h0
    · have : l = [] := List.length_eq_zero_iff.1 h0
      subst this
      exact .emp b off (.k m) h4 h5
    · exact .some b off _ l h0 h3
end Go.Proofs.YtkebbdpfjhhdhaaGreat
