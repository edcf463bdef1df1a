/- One operation: append, copy, len, cap. -/
import Derived.Test.YtobehhcbnjgojaaEvX2
namespace Go.Proofs.Ytobehhcbnjgojaa.Ev
variable {P : Program}

theorem size_info {t : TypeId} {s : Nat} (h : sizeT P t = some s) : ∃ i, P.info? t = some i ∧ i.size = s := by
  unfold sizeT at h
  simp only [Option.map_eq_some_iff] at h
  exact h

structure AppT (P : Program) (t e : TypeId) (sz bytes : Nat) (Z : Value) (i : TypeInfo) : Prop where
  under : P.underlying t = some (.slice e)
  size : sizeT P e = some sz
  info : P.info? e = some i
  isz : i.size = sz
  iby : i.bytes = bytes
  by1 : bytes ≤ 1000000
  zero : i.zero = some Z
  zsz : Z.cells.size = sz
  pos : 0 < sz

theorem grow_res {top : Nat} {E : Env} {h g : Heap} {W : World} (k : HR top E h W) {t tx ty e sz bytes n len cap : Nat} {base : Option Addr} {X Z : Value} {Xs Old : List Value} {i : TypeInfo} {v : AV} {old new : List AV} (hT : AppT P t e sz bytes Z i)
    (ev : evGrow h e sz (len + n) (old ++ new) = some (v, g)) (ht : g.next ≤ top) (hn : NewsR P W tx X sz n Xs) (hx : VRs E new Xs) (hl : new.length = n * sz) (ho : new.all okCell = true) (hold : VRs E old Old) (holl : Old.length = len * sz)
    (hfc : ∀ w, w.heap = W.heap → (Builtin.firstCells sz len (.slice base len cap)).run P w = .ok Old.toArray w) (hroom : cap < len + n) (hbig : len + n ≤ 1000000) :
    ∃ E' W' V, (Builtin.append_ #[t, tx] ty #[.slice base len cap, X]).run P W = .ok V W' ∧ Ext E E' h g W W' ∧ HR top E' g W' ∧ VR E' v V := by
  unfold evGrow at ev
  cases ev
  obtain ⟨c, R, h1, h2⟩ := append_grow (ty := ty) hT.under hT.info hT.isz hT.iby hT.by1 hT.zero hT.zsz hn (by rw [hx.len, hl]) (hx.oneCells ho) holl hfc hroom hbig
  have hk : HR top E h W.drew := k.of_heap rfl
  have hle := Env.put_le (x := (W.heap.size, c)) (k.lt _ (Nat.le_refl _) (show h.next < top from ht))
  obtain ⟨g1, g2, g3⟩ := hk.new ht (.row (old ++ new) e sz) (.cells ((Old ++ Xs) ++ R).toArray e (0, 0)) c ⟨Old ++ Xs, R, W.heap.size, c, (hold.mono hle).append (hx.mono hle), rfl, if_pos rfl, h2, hT.pos⟩
  exact ⟨_, _, _, h1, g2.of_drew, g1, by simp only [VR]; exact ⟨W.heap.size, c, g3, rfl⟩⟩

theorem onto_run {top : Nat} {E : Env} {h g : Heap} {W : World} (k : HR top E h W) {t tx ty e sz bytes n : Nat} {X S Z : Value} {Xs : List Value} {i : TypeInfo} {s v : AV} {new : List AV} (hT : AppT P t e sz bytes Z i)
    (ev : evOnto h e sz s n new = some (v, g)) (ht : g.next ≤ top) (hn : NewsR P W tx X sz n Xs) (hx : VRs E new Xs) (hl : new.length = n * sz) (ho : new.all okCell = true) (hbig : n ≤ 1000000) (hs : VR E s S) :
    ∃ E' W' V, (Builtin.append_ #[t, tx] ty #[S, X]).run P W = .ok V W' ∧ Ext E E' h g W W' ∧ HR top E' g W' ∧ VR E' v V := by
  unfold evOnto at ev
  split at ev
  · simp only [VR] at hs
    subst hs
    split at ev
    · rename_i h0
      subst h0
      cases ev
      exact ⟨E, W, _, append_nil0 hT.under hT.size hn, Ext.refl _ _ _, k, by simp only [VR]⟩
    · rename_i h0
      have := grow_res (ty := ty) (base := none) (len := 0) (cap := 0) (old := []) (Old := []) k hT (by simpa using ev) ht hn hx hl ho VRs.nil (by simp) (fun w _ => by simp [Builtin.firstCells]) (by omega) (by omega)
      exact this
  · rename_i j off len c
    simp only [VR] at hs
    obtain ⟨b, cc, hE, rfl⟩ := hs
    split at ev
    · rename_i hroom
      simp only [Option.map_eq_some_iff] at ev
      obtain ⟨g', hg, e2⟩ := ev
      cases e2
      obtain ⟨W', w1, w2, w3⟩ := k.store (P := P) hg hE hx ho
      exact ⟨E, W', _, append_room hT.under hT.size hn hroom w1, w2, w3, by simp only [VR]; exact ⟨b, cc, hE, rfl⟩⟩
    · rename_i hroom
      split at ev
      · rename_i hb
        split at ev
        · rename_i old hold
          obtain ⟨L, l1, l2, l3⟩ := k.load (P := P) hold hE
          exact grow_res k hT ev ht hn hx hl ho l2 l3 (fun w hw => by simp only [Builtin.firstCells]; exact l1 w hw) (by omega) hb
        · cases ev
      · cases ev
  · rename_i j off len d
    simp only [VR] at hs
    obtain ⟨b, cc, hE, rfl⟩ := hs
    have hkn := knownN_le (s := sz) k hE
    split at ev
    · rename_i hroom
      simp only [Option.map_eq_some_iff] at ev
      obtain ⟨g', hg, e2⟩ := ev
      cases e2
      obtain ⟨W', w1, w2, w3⟩ := k.store (P := P) hg hE hx ho
      exact ⟨E, W', _, append_room hT.under hT.size hn (by omega) w1, w2, w3, by simp only [VR]; exact ⟨b, cc, hE, rfl⟩⟩
    · split at ev
      · rename_i hb
        obtain ⟨hb, rfl, rfl⟩ := hb
        split at ev
        · rename_i l e' sz' old hg hold
          split at ev
          · rename_i he
            obtain ⟨rfl, rfl⟩ := he
            simp only [Option.map_eq_some_iff] at ev
            obtain ⟨⟨m, g'⟩, htk, e2⟩ := ev
            cases e2
            obtain ⟨b2, c2, O, e1, e2, L, R, b3, c3, q1, rfl, q2, q3, q4⟩ := k.obj j _ hg
            rw [hE] at e1 q2
            cases e1
            cases q2
            have hold' : len * sz' ≤ l.length ∧ old = l.take (len * sz') := by
              unfold Heap.loadN Heap.row at hold
              rw [hg] at hold
              simp only [Option.bind_eq_bind, Option.bind_some, dropN_eq, List.drop_zero] at hold
              exact takeN_eq hold
            obtain ⟨ho1, rfl⟩ := hold'
            have hLl := q1.len
            have hXl : Xs.length = n * sz' := by rw [hx.len, hl]
            have hnx : g'.next = h.next + 1 := by
              unfold Heap.take at htk
              split at htk
              · split at htk
                · cases htk; rfl
                · cases htk
              · cases htk
            have ht' : h.next + 1 ≤ top := by rw [← hnx]; exact ht
            have hEn : E h.next = none := k.lt _ (Nat.le_refl _) (by omega)
            have hsum : len * sz' + n * sz' = (len + n) * sz' := by rw [Nat.add_mul]
            by_cases hroom : len + n ≤ cc
            · have hle := Env.put_le (x := (b, cc)) hEn
              have hfit : (len + n) * sz' ≤ cc * sz' := Nat.mul_le_mul hroom (Nat.le_refl _)
              have hst := run_storeCells_at (P := P) b (len * sz') e' Xs 0 (L ++ R).toArray W e2 (by simp only [List.size_toArray]; omega) (hx.oneCells ho)
              simp only [Nat.add_zero] at hst
              have heq : (L ++ R).take (len * sz') ++ Xs ++ (L ++ R).drop (len * sz' + Xs.length) = (L.take (len * sz') ++ Xs) ++ (L ++ R).drop (len * sz' + Xs.length) := by
                rw [List.take_append_of_le_length (by omega)]
              obtain ⟨rfl, g1, g2, g3⟩ := k.take (by omega) htk hE (W.setRow b ((L ++ R).take (len * sz') ++ Xs ++ (L ++ R).drop (len * sz' + Xs.length)).toArray) (.cells ((L.take (len * sz') ++ Xs) ++ (L ++ R).drop (len * sz' + Xs.length)).toArray e' (0, 0)) b cc
                (by rw [heq]; exact setRow_heap _ _ _ _ _ _ e2) ⟨_, _, b, cc, ((q1.take _).mono hle).append (hx.mono hle), rfl, if_pos rfl, by rw [← q3]; simp only [List.length_append, List.length_take, List.length_drop]; rw [List.length_append] at q3; omega, q4⟩
                (.inl rfl) (fun q _ hq => setRow_other _ _ _ _ hq) (by simp) rfl rfl rfl
              refine ⟨_, _, _, append_room hT.under hT.size hn (by omega) (by rw [Nat.zero_add]; exact hst), g2, g1, ?_⟩
              simp only [VR]
              exact ⟨b, cc, g3, rfl⟩
            · obtain ⟨LL, l1, l2, l3⟩ := k.load (P := P) hold hE
              have hLL : LL = L.take (len * sz') := by
                have r1 := l1 W rfl
                have r2 := run_loadRow (P := P) e2 0 (len * sz') (by simp; omega)
                rw [r1] at r2
                have r3 := congrArg (fun r => match r with | Result.ok (v : Array Value) _ => v.toList | _ => []) r2
                simp only [Array.toList_extract, List.extract, Nat.zero_add, Nat.sub_zero, List.drop_zero] at r3
                rw [List.take_append_of_le_length (by omega)] at r3
                exact r3
              subst hLL
              obtain ⟨c', Q, a1, a2⟩ := append_grow (t := t) (tx := tx) (ty := ty) (base := some ⟨b, 0, none⟩) (len := len) (cap := cc - 0) (Old := L.take (len * sz')) hT.under hT.info hT.isz hT.iby hT.by1 hT.zero hT.zsz hn hXl (hx.oneCells ho) (by simp; omega) (fun w hw => by simp only [Builtin.firstCells]; exact l1 w hw) (by omega) hb
              have hle := Env.put_le (x := (W.heap.size, c')) hEn
              obtain ⟨rfl, g1, g2, g3⟩ := k.take (by omega) htk hE (W.drew.alloc (.cells ((L.take (len * sz') ++ Xs) ++ Q).toArray e' (0, 0))) (.cells ((L.take (len * sz') ++ Xs) ++ Q).toArray e' (0, 0)) W.heap.size c'
                (World.alloc_heap_new W.drew _) ⟨_, Q, _, _, (l2.mono hle).append (hx.mono hle), rfl, if_pos rfl, a2, q4⟩
                (.inr (Nat.le_refl _)) (fun q hq _ => RowKit.Below.heap_alloc W.drew _ q hq) (by simp) rfl rfl rfl
              refine ⟨_, _, _, a1, g2, g1, ?_⟩
              simp only [VR]
              exact ⟨_, _, g3, rfl⟩
          · cases ev
        · cases ev
      · cases ev
  · cases ev

theorem append_run {top : Nat} {E : Env} {h g : Heap} {W : World} (k : HR top E h W) {ts : Array TypeId} {ty : TypeId} {xs : List AV} {v : AV} {Xs : List Value} (ev : evAppend P h ts xs = some (v, g)) (ht : g.next ≤ top) (hx : VRs E xs Xs) :
    ∃ E' W' V, (Builtin.append_ ts ty Xs.toArray).run P W = .ok V W' ∧ Ext E E' h g W W' ∧ HR top E' g W' ∧ VR E' v V := by
  unfold evAppend at ev
  split at ev
  · rename_i s x t tx h0 h1
    split at ev
    · rename_i e hu
      split at ev
      · rename_i sz bytes z hs hb hz
        split at ev
        · rename_i n new hnews
          split at ev
          · rename_i hc
            obtain ⟨c1, c2, c3, c4, c5, c6⟩ := hc
            simp only [VRs] at hx
            obtain ⟨S, _, rfl, vs, X, _, rfl, vx, rfl⟩ := hx
            obtain ⟨Ns, n1, n2⟩ := news_run (P := P) k hnews vx
            obtain ⟨Z, hZ, vZ, i, hi, hiz⟩ := run_zeroT hz W
            obtain ⟨i', hi', hisz⟩ := size_info hs
            rw [hi] at hi'
            cases hi'
            have hby : i.bytes = bytes := by
              unfold bytesT at hb
              rw [hi] at hb
              cases hb; rfl
            have hzc : Z.cells.size = sz := by
              have := (vZ E).cells.len
              rw [← c2, ← this]; simp
            obtain ⟨E', W', V, a1, a2, a3, a4⟩ := onto_run (t := t) (tx := tx) (ty := ty) k ⟨hu, hs, hi, hisz, hby, c3, hiz, hzc, c1⟩ ev ht n1 n2 c5 c6 c4 vs
            refine ⟨E', W', V, ?_, a2, a3, a4⟩
            rw [← a1]
            have e0 : ts[0]? = (#[t, tx] : Array TypeId)[0]? := by rw [h0]; rfl
            have e1 : ts[1]? = (#[t, tx] : Array TypeId)[1]? := by rw [h1]; rfl
            unfold Builtin.append_
            rw [e0, e1]
          · cases ev
        · cases ev
      · cases ev
    · cases ev
  · cases ev
end Go.Proofs.Ytobehhcbnjgojaa.Ev
