/- Steppers over the calculator's memory: what a stepper returns; a map of steppers. -/
import Derived.Test.YtekpffjcffeanaaWa
namespace Go.Proofs.Ytekpffjcffeanaa
open Go.Proofs.Ytekpffjcffeanaa.Ev

set_option maxRecDepth 100000 in
set_option maxHeartbeats 8000000 in
theorem stepF_con (hb h : Heap) (w : Cw) (t : Int) (a : Ad) (hit : ItV hb w.v w.c.hs) (k : CyOk w.c) (hl : Lent hb (stO w t a) h) :
    Con Try.prog Bs 135 [.ptr a.1 0, .ptr a.2.1 0, .ptr a.2.2 0] h ((stO w t a).map (·.1)) (.int .i64 (valC w.c t)) (stO w (t + 1) a) := by
  have key : ∃ v L, Con Try.prog Bs 135 [.ptr a.1 0, .ptr a.2.1 0, .ptr a.2.2 0] h ((stO w t a).map (·.1)) v L ∧ (v = .int .i64 (valC w.c t) ∧ L = stO w (t + 1) a) := by
    obtain ⟨p, q, r⟩ := a
    obtain ⟨⟨id, bg, ev, hs⟩, v⟩ := w
    have b1 := k.ev1
    have b2 := k.ev2
    have b3 := k.n1
    have b4 := k.n2
    have kb := kS_bd k t
    have lb := lS_bd k t
    have hlen := hit.len
    simp only at b1 b2 b3 b4 hit kb hlen lb
    have hWW := hl.ss.ltW
    obtain ⟨b, off, c, rfl, hk⟩ := hit.ne (by omega)
    have hl2 : Lent hb [(r, .cells [.int .i64 (lS ⟨id, bg, ev, hs⟩ t)] 3), (q, .cells [.int .i64 (kS ⟨id, bg, ev, hs⟩ t)] 3), (p, .cells [.int .i64 id, .int .i64 bg, .int .i64 ev, .slice b off hs.length c] 28)] h := hl
    refine Con.startR rfl Try.func135 rfl rfl Try.ntmps135 rfl rfl hl2.ss ?_
    (refine WK.seq ?_; refine WK.region ?_; refine St.assign ?_; refine WO.nil ?_; refine WK.seq ?_; refine WK.region ?_; refine St.fieldAddr ?_; refine St.load ?_; refine St.load ?_)
    refine St.at ?_
    refine St.loadX (fun h2 hh => ((hk.vw (hl2.to hh)).at_ (z := kS ⟨id, bg, ev, hs⟩ t) (n := (kS ⟨id, bg, ev, hs⟩ t).toNat) rfl (by omega)).one rfl) ?_
    (refine St.assign ?_; refine WO.nil ?_; refine WK.seq ?_; refine WK.region ?_; refine St.load ?_; refine St.binI ?_; refine St.store0 ?_; refine WO.nil ?_; refine WK.seq ?_; refine WK.seq ?_; refine WK.region ?_; refine St.load ?_; refine St.bin ?_; refine WO.nil ?_)
    refine St.splitC (fun hc => ?_) (fun hc => ?_)
    · obtain ⟨n1, n2⟩ := next_turn k (t := t) (by simpa using hc)
      refine WK.regionE (n := 3) [(r, .cells [.int .i64 (lS ⟨id, bg, ev, hs⟩ t - 1)] 3), (q, .cells [.int .i64 (kS ⟨id, bg, ev, hs⟩ t)] 3), (p, .cells [.int .i64 id, .int .i64 bg, .int .i64 ev, .slice b off hs.length c] 28)] (by (repeat (first | exact List.Sublist.refl _ | exact List.nil_sublist _ | apply List.Sublist.cons_cons | apply List.Sublist.cons))) ?_
      (repeat (first | refine WE.move ?_ | refine WE.assign ?_ | refine WE.binI ?_ | refine WE.bin ?_ | refine WE.fieldAddr ?_ | refine WE.load 0 ?_ | refine WE.load 1 ?_ | refine WE.load 2 ?_ | refine WE.load 3 ?_ | refine WE.load 4 ?_ | refine WE.build ?_ | refine WE.alloc 1 fun _ _ => ?_ | refine WE.alloc 2 fun _ _ => ?_ | refine WE.store (A := []) 0 rfl ?_ | refine WE.store (A := [_]) 1 rfl ?_ | refine WE.store (A := [_, _]) 2 rfl ?_ | refine WE.store (A := [_, _, _]) 3 rfl ?_))
      refine WE.lenV 1 rfl hlen ?_
      refine WE.binX (r := .int .i64 ((kS ⟨id, bg, ev, hs⟩ t + 1) % (hs.length : Int))) ?_ rfl rfl ?_
      · have hnz : ¬ (hs.length : Int) = 0 := by omega
        unfold evBin evInt
        simp only [reduceCtorEq, or_self, if_false, if_true, hnz]
        rw [Int.tmod_eq_emod_of_nonneg (by omega)]
      (repeat (first | refine WE.move ?_ | refine WE.assign ?_ | refine WE.binI ?_ | refine WE.bin ?_ | refine WE.fieldAddr ?_ | refine WE.load 0 ?_ | refine WE.load 1 ?_ | refine WE.load 2 ?_ | refine WE.load 3 ?_ | refine WE.load 4 ?_ | refine WE.build ?_ | refine WE.alloc 1 fun _ _ => ?_ | refine WE.alloc 2 fun _ _ => ?_ | refine WE.store (A := []) 0 rfl ?_ | refine WE.store (A := [_]) 1 rfl ?_ | refine WE.store (A := [_, _]) 2 rfl ?_ | refine WE.store (A := [_, _, _]) 3 rfl ?_))
      refine WE.nil ?_
      (refine WK.seq ?_; refine WK.region ?_; refine St.move ?_; refine St.assign ?_; refine WO.nil ?_)
      refine St.ret (by first | exact .tmp .nil | exact .cell .nil | exact .cell (.tmp .nil) | exact .tmp (.tmp .nil) | exact .cell (.cell .nil) | exact .tmp (.cell .nil) | exact .nil | exact .tmp (.cell (.tmp .nil)) | exact .cell (.tmp (.tmp .nil)) | exact .cell (.cell (.tmp .nil)) | exact .tmp (.tmp (.tmp .nil)) | exact .cell (.cell (.cell .nil))) ?_
      refine ⟨rfl, ?_⟩
      unfold stO
      simp only [n1, n2]
      rfl
    · obtain ⟨n1, n2⟩ := next_stay k (t := t) (by simpa using hc)
      (refine WK.skip ?_; refine WK.seq ?_; refine WK.region ?_; refine St.move ?_; refine St.assign ?_; refine WO.nil ?_)
      refine St.ret (by first | exact .tmp .nil | exact .cell .nil | exact .cell (.tmp .nil) | exact .tmp (.tmp .nil) | exact .cell (.cell .nil) | exact .tmp (.cell .nil) | exact .nil | exact .tmp (.cell (.tmp .nil)) | exact .cell (.tmp (.tmp .nil)) | exact .cell (.cell (.tmp .nil)) | exact .tmp (.tmp (.tmp .nil)) | exact .cell (.cell (.cell .nil))) ?_
      refine ⟨rfl, ?_⟩
      unfold stO
      simp only [n1, n2]
  obtain ⟨v, L, h1, rfl, rfl⟩ := key
  exact h1
/-! many steppers -/
def stL : List Cw → List Ad → Int → Ob
  | w :: ws, a :: ads, t => stO w t a ++ stL ws ads t
  | _, _, _ => []
def stE : List Cw → List Ad → Nat → List (AV × AV × Nat)
  | w :: ws, a :: ads, c => (.int .i64 w.c.id, stF a, c) :: stE ws ads (c + 1)
  | _, _, _ => []
theorem stL_app (t : Int) : ∀ (ws us : List Cw) (ads bs : List Ad), ws.length = ads.length → stL (ws ++ us) (ads ++ bs) t = stL ws ads t ++ stL us bs t
  | [], us, [], bs, _ => rfl
  | w :: ws, us, a :: ads, bs, h => by
    show stO w t a ++ stL (ws ++ us) (ads ++ bs) t = stO w t a ++ stL ws ads t ++ stL us bs t
    rw [stL_app t ws us ads bs (by simpa using h), List.append_assoc]
theorem stL_snoc (t : Int) (ws : List Cw) (w : Cw) (ads : List Ad) (a : Ad) (h : ws.length = ads.length) : stL (ws ++ [w]) (ads ++ [a]) t = stL ws ads t ++ stO w t a := by
  rw [stL_app t ws [w] ads [a] h]
  show stL ws ads t ++ (stO w t a ++ []) = _
  rw [List.append_nil]
theorem stE_snoc (w : Cw) (a : Ad) : ∀ (ws : List Cw) (ads : List Ad) (c : Nat), ws.length = ads.length → stE (ws ++ [w]) (ads ++ [a]) c = stE ws ads c ++ [(.int .i64 w.c.id, stF a, c + ws.length)]
  | [], [], c, _ => rfl
  | u :: ws, b :: ads, c, h => by
    show (AV.int .i64 u.c.id, stF b, c) :: stE (ws ++ [w]) (ads ++ [a]) (c + 1) = _
    rw [stE_snoc w a ws ads (c + 1) (by simpa using h)]
    simp only [stE, List.cons_append, List.length_cons]
    rw [show c + 1 + ws.length = c + (ws.length + 1) by omega]
theorem findS_no {k : Int} : ∀ {ws : List Cw} {ads : List Ad} {c i : Nat}, k ∉ ids (cys ws) → findE (.int .i64 k) (stE ws ads c) i = some none
  | [], _, _, _, _ => by simp [stE, findE]
  | w :: ws, [], _, _, _ => rfl
  | w :: ws, a :: ads, c, i, h => by
    have h1 : (k == w.c.id) = false := by
      simp
      exact fun e => h (by rw [e]; exact List.mem_cons_self ..)
    show (match sameKey (AV.int .i64 k) (AV.int .i64 w.c.id) with
      | some true => some (some (i, (stF a, c)))
      | some false => findE (.int .i64 k) (stE ws ads (c + 1)) (i + 1)
      | none => none) = _
    simp only [sameKey, if_true, h1]
    exact findS_no fun q => h (List.mem_cons_of_mem _ q)
theorem findS_yes : ∀ {ws : List Cw} {ads : List Ad} {c i : Nat} (n : Nat) (h1 : n < ws.length) (h2 : n < ads.length), (ids (cys ws)).Nodup → ∃ j m, findE (.int .i64 ws[n].c.id) (stE ws ads c) i = some (some (j, stF ads[n], m))
  | w :: ws, a :: ads, c, i, 0, _, _, _ => by
    show ∃ j m, (match sameKey (AV.int .i64 w.c.id) (AV.int .i64 w.c.id) with
      | some true => some (some (i, (stF a, c)))
      | some false => findE (.int .i64 w.c.id) (stE ws ads (c + 1)) (i + 1)
      | none => none) = some (some (j, stF a, m))
    simp only [sameKey, if_true, beq_self_eq_true]
    exact ⟨_, _, rfl⟩
  | w :: ws, a :: ads, c, i, n + 1, h1, h2, hn => by
    obtain ⟨g1, g2⟩ := List.nodup_cons.1 hn
    have h3 : n < ws.length := by simpa using h1
    have h4 : n < ads.length := by simpa using h2
    have e : (ws[n].c.id == w.c.id) = false := by
      simp
      intro e
      refine g1 ?_
      show w.c.id ∈ ids (cys ws)
      rw [← e]
      unfold ids cys
      rw [List.map_map]
      exact List.mem_map.2 ⟨ws[n], List.getElem_mem h3, rfl⟩
    show ∃ j m, (match sameKey (AV.int .i64 ws[n].c.id) (AV.int .i64 w.c.id) with
      | some true => some (some (i, (stF a, c)))
      | some false => findE (.int .i64 ws[n].c.id) (stE ws ads (c + 1)) (i + 1)
      | none => none) = some (some (j, stF ads[n], m))
    simp only [sameKey, if_true, e]
    exact findS_yes n h3 h4 g2
theorem look_st {h : Heap} {r c n : Nat} {ws : List Cw} {ads : List Ad} (hg : h.get r = some (.map (stE ws ads 0) c)) (h1 : n < ws.length) (h2 : n < ads.length) (hn : (ids (cys ws)).Nodup) : evLookup Try.prog h 167 (.map r) (.int .i64 ws[n].c.id) false = some (stF ads[n]) := by
  have hk : ∀ k, keyFits Try.prog 3 (.int .i64 k) = true := fun k => by
    unfold keyFits
    rw [Try.underlying3]
    rfl
  unfold evLookup
  rw [Try.underlying167]
  simp only [hk, if_true, hg]
  obtain ⟨j, m, e⟩ := findS_yes (c := 0) (i := 0) n h1 h2 hn
  rw [e]
  rfl
theorem upd_st {h g : Heap} {r : Nat} {ws : List Cw} {ads : List Ad} {w : Cw} {a : Ad} (hl : ws.length = ads.length) (hm : w.c.id ∉ ids (cys ws)) (hg : h.get r = some (.map (stE ws ads 0) ws.length)) (hs : h.set r (.map (stE (ws ++ [w]) (ads ++ [a]) 0) (ws.length + 1)) = some g) : evUpdate Try.prog h 167 (.map r) (.int .i64 w.c.id) (stF a) = some g := by
  have hk : ∀ k, keyFits Try.prog 3 (.int .i64 k) = true := fun k => by
    unfold keyFits
    rw [Try.underlying3]
    rfl
  unfold evUpdate
  rw [Try.underlying167]
  simp only [hk, if_true, hg, findS_no hm]
  rw [stE_snoc _ _ _ _ _ hl, Nat.zero_add] at hs
  exact hs
theorem id_new {ws : List Cw} {k : Nat} (h : k < ws.length) (hn : (ids (cys ws)).Nodup) : (nthW ws k).c.id ∉ ids (cys (ws.take k)) := by
  intro hm
  unfold ids cys at hm hn
  rw [List.map_map] at hm hn
  obtain ⟨x, hx, e⟩ := List.mem_map.1 hm
  obtain ⟨i, hi, rfl⟩ := List.getElem_of_mem hx
  have hi2 : i < k ∧ i < ws.length := by rw [List.length_take] at hi; omega
  rw [List.getElem_take, nthW_eq h] at e
  have h4 := List.pairwise_iff_getElem.1 hn i k (by simpa using hi2.2) (by simpa using h) hi2.1
  simp at h4
  exact h4 e
theorem perm_st {α : Type} (j p x : α) (S O : List α) : (j :: p :: ((S ++ O) ++ [x])).Perm (O ++ (x :: j :: p :: S)) :=
  (List.perm_append_singleton x (j :: p :: (S ++ O))).trans (show ((x :: j :: p :: S) ++ O).Perm _ from List.perm_append_comm)
set_option maxRecDepth 100000 in
set_option maxHeartbeats 16000000 in
theorem steppers_con (h : Heap) (g : Gd h) (lv t : Int) (cv sv : AV) (l : List Cw) (hc : CyV h cv l) (hok : ∀ w ∈ l, CyOk w.c) (hnd : (ids (cys l)).Nodup) (hl : l.length ≤ 6) (t1 : -1099511627776 ≤ t) (t2 : t ≤ 1099511627776) :
    ∃ u L, Con Try.prog Bs 131 [.agg [.int .i64 lv, cv, sv], .int .i64 t] h [] u L ∧ ∃ jm ads, u = .map jm ∧ ads.length = l.length ∧ L = (jm, .map (stE l ads 0) l.length) :: stL l ads t := by
  refine Con.pick (Con.startR rfl Try.func131 rfl rfl Try.ntmps131 rfl rfl (SS.init g) ?_)
  (refine WK.seq ?_; refine WK.region ?_; refine St.box fun _ _ => ?_; refine St.assign ?_; refine WO.nil ?_; refine WK.seq ?_; refine WK.region ?_)
  rename_i p hp
  refine St.makeMap fun jm hjm => ?_
  (refine St.assign ?_; refine WO.nil ?_; refine WK.seq ?_; refine WK.seq ?_; refine WK.region ?_; refine St.fieldAddr ?_; refine St.load ?_)
  refine St.lenV rfl hc.len ?_
  (refine St.move ?_; refine WO.nil ?_; refine WK.block ?_)
  by_cases hn : l.length = 0
  · have e1 : l = [] := List.length_eq_zero_iff.1 hn
    subst e1
    refine WK.unroll ?_
    (refine WK.seq ?_; refine WK.region ?_; refine St.bin ?_; refine WO.nil ?_; refine WK.seq ?_; refine WK.condF ?_; refine WK.exit ?_; refine WK.seq ?_; refine WK.region ?_; refine St.move ?_; refine St.assign ?_; refine WO.nil ?_)
    refine St.ret (by first | exact .tmp .nil | exact .cell .nil | exact .cell (.tmp .nil) | exact .tmp (.tmp .nil) | exact .cell (.cell .nil) | exact .tmp (.cell .nil) | exact .nil | exact .tmp (.cell (.tmp .nil)) | exact .cell (.tmp (.tmp .nil)) | exact .cell (.cell (.tmp .nil)) | exact .tmp (.tmp (.tmp .nil)) | exact .cell (.cell (.cell .nil))) ?_
    exact ⟨[(jm, .map [] 0)], _, List.Perm.refl _, jm, [], rfl, rfl, rfl⟩
  obtain ⟨b, off, c, rfl, hk⟩ := hc.ne (by omega)
  refine WK.inv (ι := Nat × List Ad) (fun z => [(1, .int .i64 t), (2, .ptr p 0), (5, .map jm), (10, .slice b off l.length c), (11, .int .i64 l.length), (12, .int .i64 z.1)]) (fun z => (jm, .map (stE (l.take z.1) z.2 0) z.1) :: (p, .cells [.int .i64 lv, .slice b off l.length c, sv] 25) :: stL (l.take z.1) z.2 t) (fun z => z.1 ≤ l.length ∧ z.2.length = z.1) (fun z => l.length - z.1) (0, []) ⟨Nat.zero_le _, rfl⟩ ⟨rfl, rfl, rfl, rfl, rfl, rfl, trivial⟩ (by (repeat (first | exact List.Sublist.refl _ | exact List.nil_sublist _ | apply List.Sublist.cons_cons | apply List.Sublist.cons))) ?_
  rintro ⟨k, ads⟩ ⟨hkl, has⟩ ih
  simp only at hkl has ih ⊢
  (refine WK.seq ?_; refine WK.region ?_; refine St.bin ?_; refine WO.nil ?_; refine WK.seq ?_)
  refine St.splitC (fun hcc => ?_) (fun hcc => ?_)
  · have hlt : k < l.length := by simp at hcc; omega
    have hit := (hk k hlt).2
    have hck := hok (nthW l k) (by rw [nthW_eq hlt]; exact List.getElem_mem hlt)
    have hnew := id_new hlt hnd
    have htl : (l.take k).length = ads.length := by rw [List.length_take]; omega
    have htk : (l.take k).length = k := by rw [List.length_take]; omega
    have ets : l.take (k + 1) = l.take k ++ [nthW l k] := by rw [List.take_succ_eq_append_getElem hlt, nthW_eq hlt]
    (refine WK.skip ?_; refine WK.seq ?_; refine WK.block ?_; refine WK.seq ?_; refine WK.region ?_)
    refine St.at ?_
    refine St.loadX (fun h hh => ((hk.vw hh).at_ (z := (k : Int)) (n := k) (by omega) hlt).agg (by simp) rfl rfl rfl) ?_
    (refine St.alloc fun _ _ => ?_)
    refine St.store0 (hv := store4 rfl rfl rfl rfl hit.ok) ?_
    (refine WO.nil ?_; refine WK.regionD ?_; refine St.move ?_; refine St.fieldAddr ?_; refine St.load ?_; refine St.load ?_; refine St.move ?_)
    rename_i x hx
    refine StD.callR (fun _ => rfl) (fun h2 hh => stepper_con h2 hh.gd (nthW l k) t (hit.vw hh) hck t1 t2) ?_
    rintro u L' ⟨a, rfl, rfl⟩
    refine StD.mapUpd (A := [(x, .cells [.int .i64 (nthW l k).c.id, .int .i64 (nthW l k).c.bg, .int .i64 (nthW l k).c.ev, (nthW l k).v] 28)]) (r := jm) (es := stE (l.take k) ads 0) (c := k) (es' := stE (l.take (k + 1)) (ads ++ [a]) 0) (c' := k + 1) rfl (fun h2 g2 e1 e2 => ?_) ?_
    · show (evUpdate Try.prog h2 167 (.map jm) (.int .i64 (nthW l k).c.id) (stF a)).map (fun h => (ANext.skip, h)) = _
      rw [ets] at e2
      rw [upd_st htl hnew (by rw [htk]; exact e1) (by rw [htk]; exact e2)]
      rfl
    refine WO.nilG ?_
    refine WK.perm (L' := (jm, .map (stE (l.take (k + 1)) (ads ++ [a]) 0) (k + 1)) :: (p, .cells [.int .i64 lv, .slice b off l.length c, sv] 25) :: (stL (l.take (k + 1)) (ads ++ [a]) t ++ [(x, .cells [.int .i64 (nthW l k).c.id, .int .i64 (nthW l k).c.bg, .int .i64 (nthW l k).c.ev, (nthW l k).v] 28)])) ?_ ?_
    · rw [ets, stL_snoc t _ _ _ _ htl]
      simp only [List.append_nil, List.map_map, Function.comp_def, List.map_id']
      exact perm_st _ _ _ _ _
    (refine WK.blk ?_; refine WK.region ?_; refine St.binI ?_; refine St.move ?_; refine WO.nil ?_)
    refine WK.le ?_ ?_ (ih (k + 1, ads ++ [a]) ⟨hlt, by simp [has]⟩ (by simp only; omega))
    · exact ⟨rfl, rfl, rfl, rfl, rfl, rfl, trivial⟩
    · exact List.Sublist.cons_cons _ (List.Sublist.cons_cons _ (List.sublist_append_left _ _))
  · have : k = l.length := by simp at hcc; omega
    subst this
    rw [List.take_length] at *
    (refine WK.exit ?_; refine WK.seq ?_; refine WK.region ?_; refine St.move ?_; refine St.assign ?_; refine WO.nil ?_)
    refine St.ret (by first | exact .tmp .nil | exact .cell .nil | exact .cell (.tmp .nil) | exact .tmp (.tmp .nil) | exact .cell (.cell .nil) | exact .tmp (.cell .nil) | exact .nil | exact .tmp (.cell (.tmp .nil)) | exact .cell (.tmp (.tmp .nil)) | exact .cell (.cell (.tmp .nil)) | exact .tmp (.tmp (.tmp .nil)) | exact .cell (.cell (.cell .nil))) ?_
    refine ⟨(jm, .map (stE l ads 0) l.length) :: stL l ads t, [(p, .cells [.int .i64 lv, .slice b off l.length c, sv] 25)], ?_, jm, ads, rfl, has, rfl⟩
    refine List.perm_append_singleton _ _ |>.trans ?_
    exact List.Perm.swap _ _ _
end Go.Proofs.Ytekpffjcffeanaa
