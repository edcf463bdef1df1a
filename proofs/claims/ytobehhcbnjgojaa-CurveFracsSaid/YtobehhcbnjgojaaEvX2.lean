/- One operation: append, copy, end. -/
import Derived.Test.YtobehhcbnjgojaaEvX
import Derived.Deep.AppendSrc
import Derived.Laws.AppendOwn
namespace Go.Proofs.Ytobehhcbnjgojaa.Ev
variable {P : Program}

theorem zeroT_cells {t : TypeId} {z : AV} (h : zeroT P t = some z) (w : World) : ∃ Z, (zeroValue t).run P w = .ok Z w ∧ (∀ E, VR E z Z) ∧ Z.cells.size = z.cells.length := by
  obtain ⟨Z, h1, h2, _⟩ := run_zeroT h w
  have := (h2 (fun _ => none)).cells.len
  exact ⟨Z, h1, h2, by simpa using this⟩
theorem bytes_run {t : TypeId} {n : Nat} (h : bytesT P t = some n) (w : World) : ∃ i, (typeInfo t).run P w = .ok i w ∧ i.bytes = n := by
  unfold bytesT at h
  simp only [Option.map_eq_some_iff] at h
  obtain ⟨i, hi, rfl⟩ := h
  exact ⟨i, by simp [typeInfo, hi], rfl⟩
/-- the part of append that says what is appended -/
structure NewsR (P : Program) (W : World) (tx : TypeId) (X : Value) (sz n : Nat) (Xs : List Value) : Prop where
  under : ∃ d, P.underlying tx = some d ∧ isSeqD d = true
  count : ∀ w, (Builtin.lenOf X).run P w = .ok n w
  cells : ∀ w, w.heap = W.heap → (Builtin.firstCells sz n X).run P w = .ok Xs.toArray w

theorem news_run {top : Nat} {E : Env} {h : Heap} {W : World} (k : HR top E h W) {tx : TypeId} {x : AV} {sz n : Nat} {l : List AV} {X : Value} (hn : evNews P h tx x sz = some (n, l)) (hx : VR E x X) : ∃ Xs, NewsR P W tx X sz n Xs ∧ VRs E l Xs := by
  unfold evNews at hn
  split at hn
  · rename_i d hd
    split at hn
    · rename_i hi
      split at hn
      · rename_i m hm
        simp only [Option.map_eq_some_iff] at hn
        obtain ⟨l', hl, e⟩ := hn
        cases e
        obtain ⟨L, h1, h2⟩ := first_run (P := P) k hl hx
        exact ⟨L, ⟨⟨d, hd, hi⟩, fun w => len_run hm hx w, h1⟩, h2⟩
      · cases hn
    · cases hn
  · cases hn

/-- append where there is room -/
theorem append_room {W W' : World} {t tx ty e sz n b off len cap : Nat} {X : Value} {Xs : List Value} (ht : P.underlying t = some (.slice e)) (hs : sizeT P e = some sz) (hn : NewsR P W tx X sz n Xs)
    (hroom : len + n ≤ cap) (hst : (storeCells ⟨b, off + len * sz, none⟩ Xs).run P W = .ok () W') :
    (Builtin.append_ #[t, tx] ty #[.slice (some ⟨b, off, none⟩) len cap, X]).run P W = .ok (.slice (some ⟨b, off, none⟩) (len + n) cap) W' := by
  obtain ⟨d, hd, hdz⟩ := hn.under
  have hc := hn.count
  have hx := hn.cells W rfl
  cases d <;> first
    | (cases hdz; done)
    | simp [Builtin.append_, run_underlying ht, run_underlying hd, run_size hs, hc, hroom, hx, add_none, hst]
theorem append_nil0 {W : World} {t tx ty e sz : Nat} {X : Value} {Xs : List Value} (ht : P.underlying t = some (.slice e)) (hs : sizeT P e = some sz) (hn : NewsR P W tx X sz 0 Xs) :
    (Builtin.append_ #[t, tx] ty #[.slice none 0 0, X]).run P W = .ok (.slice none 0 0) W := by
  obtain ⟨d, hd, hdz⟩ := hn.under
  have hc := hn.count
  have hx := hn.cells W rfl
  cases d <;> first
    | (cases hdz; done)
    | simp [Builtin.append_, run_underlying ht, run_underlying hd, run_size hs, hc, hx]
/-- append where a new row is made -/
theorem append_grow {W : World} {t tx ty e sz bytes n len cap : Nat} {base : Option Addr} {X Z : Value} {Xs Old : List Value} {i : TypeInfo} (ht : P.underlying t = some (.slice e)) (hi : P.info? e = some i) (hs : i.size = sz) (hb : i.bytes = bytes) (hb1 : bytes ≤ 1000000)
    (hz : i.zero = some Z) (hzs : Z.cells.size = sz) (hn : NewsR P W tx X sz n Xs) (hl : Xs.length = n * sz) (h1 : ∀ V ∈ Xs, V.oneCell' = true) (holl : Old.length = len * sz) (hold : ∀ w, w.heap = W.heap → (Builtin.firstCells sz len (.slice base len cap)).run P w = .ok Old.toArray w)
    (hroom : cap < len + n) (hbig : len + n ≤ 1000000) :
    ∃ (c : Nat) (R : List Value), (Builtin.append_ #[t, tx] ty #[.slice base len cap, X]).run P W = .ok (.slice (some ⟨W.heap.size, 0, none⟩) (len + n) c) (W.drew.alloc (.cells ((Old ++ Xs) ++ R).toArray e (0, 0))) ∧ ((Old ++ Xs) ++ R).length = c * sz := by
  subst hs hb
  obtain ⟨d, hd, hdz⟩ := hn.under
  have hcap := nextcap_le hroom
  have hfit : Builtin.nextslicecap (len + n) cap * i.bytes ≤ 281474976710656 := by
    have : Builtin.nextslicecap (len + n) cap * i.bytes ≤ 2000192 * 1000000 := Nat.mul_le_mul (by omega) (by omega)
    omega
  have hsrc : Src P i.size tx X n Xs W := ⟨by cases d <;> first | (cases hdz; done) | exact .inl ⟨_, hd⟩ | exact .inr hd, hn.count, hn.cells W rfl, hn.cells W.drew rfl, hl, h1⟩
  have hg := run_append_grow_src (P := P) W t tx ty e i Z ht hi hz base len cap Old (hold W.drew rfl) X n Xs hsrc hroom (by omega) hfit
  have hge := grownCap_ge W (len + n) cap e
  refine ⟨grownCap W (len + n) cap e, (Builtin.zeroCells Z.cells (grownCap W (len + n) cap e - (len + n))).toList, ?_, ?_⟩
  · rw [hg]
    congr 4
    apply Array.ext'
    simp
  · simp only [List.length_append, hl, holl, Array.length_toList, Builtin.zeroCells, Array.size_map, Array.size_range, hzs]
    rw [← Nat.add_mul, ← Nat.add_mul]
    congr 1
    omega
end Go.Proofs.Ytobehhcbnjgojaa.Ev
