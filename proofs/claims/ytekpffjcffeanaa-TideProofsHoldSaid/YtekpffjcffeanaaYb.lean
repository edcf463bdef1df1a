/- Cuts: do they lie right; looking one up. -/
import Derived.Test.YtekpffjcffeanaaYa
namespace Go.Proofs.Ytekpffjcffeanaa
open Go.Proofs.Ytekpffjcffeanaa.Ev

/-- do cuts lie one behind the other, behind b, up to hi? -/
def cutsB (hi : Int) : Int → List Int → Bool
  | _, [] => true
  | b, c :: r => if c ≤ b ∨ hi < c then false else cutsB hi c r
theorem cutsB_asc {hi : Int} : ∀ {b : Int} {C : List Int}, cutsB hi b C = true → ascC b C ∧ ∀ c ∈ C, c ≤ hi
  | _, [], _ => ⟨trivial, fun c hc => by cases hc⟩
  | b, c :: r, h => by
    unfold cutsB at h
    split at h
    · cases h
    · rename_i q
      obtain ⟨h1, h2⟩ := cutsB_asc h
      refine ⟨⟨by omega, h1⟩, fun d hd => ?_⟩
      rcases List.mem_cons.1 hd with rfl | hd
      · omega
      · exact h2 d hd
theorem asc_cutsB {hi : Int} : ∀ {b : Int} {C : List Int}, ascC b C → (∀ c ∈ C, c ≤ hi) → cutsB hi b C = true
  | _, [], _, _ => rfl
  | b, c :: r, h, k => by
    unfold cutsB
    have := k c (by simp)
    have h1 := h.1
    rw [if_neg (by omega)]
    exact asc_cutsB h.2 fun d hd => k d (by simp [hd])
theorem cutsB_drop {hi : Int} {C : List Int} {k : Nat} (hk : k < C.length) (b : Int) : cutsB hi b (C.drop k) = if nth C k ≤ b ∨ hi < nth C k then false else cutsB hi (nth C k) (C.drop (k + 1)) := by
  rw [List.drop_eq_getElem_cons hk, cutsB, nth_eq hk]
set_option maxRecDepth 100000 in
set_option maxHeartbeats 8000000 in
theorem areCuts_con (h : Heap) (g : Gd h) (lo hi : Int) (v : AV) (C : List Int) (hv : ItV h v C) (hl : C.length ≤ 9223372036854775807) :
    Con Try.prog Bs 74 [.agg [.int .i64 lo, .int .i64 hi], v] h [] (.bool (cutsB hi lo C)) [] := by
  refine Con.start rfl Try.func74 rfl rfl Try.ntmps74 rfl rfl g ?_
  (refine WK.seq ?_; refine WK.region ?_; refine St.box fun _ _ => ?_; refine St.assign ?_; refine WO.nil ?_; refine WK.seq ?_; refine WK.region ?_; refine St.fieldAddr ?_; refine St.load ?_; refine St.assign ?_; refine WO.nil ?_; refine WK.seq ?_; refine WK.seq ?_; refine WK.region ?_; refine St.move ?_)
  rename_i p2 hp2
  refine St.lenV rfl hv.len ?_
  (refine St.move ?_; refine WO.nil ?_; refine WK.block ?_)
  by_cases hn : C.length = 0
  · have e1 : C = [] := List.length_eq_zero_iff.1 hn
    subst e1
    refine WK.unroll ?_
    (refine WK.seq ?_; refine WK.region ?_; refine St.bin ?_; refine WO.nil ?_; refine WK.seq ?_; refine WK.condF ?_; refine WK.exit ?_; refine WK.seq ?_; refine WK.region ?_; refine St.assign ?_; refine WO.nil ?_)
    refine St.ret (by first | exact .tmp .nil | exact .cell .nil | exact .cell (.tmp .nil) | exact .tmp (.tmp .nil) | exact .cell (.cell .nil) | exact .tmp (.cell .nil) | exact .nil | exact .tmp (.cell (.tmp .nil)) | exact .cell (.tmp (.tmp .nil)) | exact .cell (.cell (.tmp .nil)) | exact .tmp (.tmp (.tmp .nil)) | exact .cell (.cell (.cell .nil))) ?_
    rfl
  obtain ⟨b, off, c, rfl, hk⟩ := hv.ne (by omega)
  refine WK.inv (ι := Nat × Int) (fun z => [(2, .ptr p2 0), (5, .int .i64 z.2), (10, .slice b off C.length c), (11, .int .i64 C.length), (12, .int .i64 z.1)]) (fun _ => [(p2, .cells [.int .i64 lo, .int .i64 hi] 37)]) (fun z => z.1 ≤ C.length ∧ cutsB hi lo C = cutsB hi z.2 (C.drop z.1)) (fun z => C.length - z.1) (0, lo) ⟨by simp, rfl⟩ ⟨rfl, rfl, rfl, rfl, rfl, trivial⟩ (by (repeat (first | exact List.Sublist.refl _ | exact List.nil_sublist _ | apply List.Sublist.cons_cons | apply List.Sublist.cons))) ?_
  rintro ⟨k, x⟩ ⟨hkl, hcu⟩ ih
  simp only at hkl hcu ih ⊢
  (refine WK.seq ?_; refine WK.region ?_; refine St.bin ?_; refine WO.nil ?_; refine WK.seq ?_)
  refine St.splitC (fun hc => ?_) (fun hc => ?_)
  · have hlt : k < C.length := by simp at hc; omega
    have hd := cutsB_drop (hi := hi) hlt x
    (refine WK.skip ?_; refine WK.seq ?_; refine WK.block ?_; refine WK.seq ?_; refine WK.region ?_)
    refine St.at ?_
    refine St.loadX (fun h hh => ((hk.vw hh).at_ (z := (k : Int)) (n := k) (by omega) hlt).one rfl) ?_
    (refine St.assign ?_; refine WO.nil ?_; refine WK.seq ?_; refine WK.seq ?_; refine WK.region ?_; refine St.move ?_; refine St.move ?_; refine St.bin ?_; refine St.move ?_)
    refine St.split (fun b1 => ?_) (fun b1 => ?_)
    · rw [if_pos (.inl (by simpa using b1))] at hd
      (refine St.skip ?_; refine St.skip ?_; refine St.skip ?_; refine St.skip ?_; refine St.pickT ?_; refine WO.nil ?_; refine WK.condT ?_; refine WK.seq ?_; refine WK.region ?_; refine St.assign ?_; refine WO.nil ?_)
      refine St.ret (by first | exact .tmp .nil | exact .cell .nil | exact .cell (.tmp .nil) | exact .tmp (.tmp .nil) | exact .cell (.cell .nil) | exact .tmp (.cell .nil) | exact .nil | exact .tmp (.cell (.tmp .nil)) | exact .cell (.tmp (.tmp .nil)) | exact .cell (.cell (.tmp .nil)) | exact .tmp (.tmp (.tmp .nil)) | exact .cell (.cell (.cell .nil))) ?_
      rw [hcu, hd]; rfl
    (refine St.move ?_; refine St.fieldAddr ?_; refine St.load ?_; refine St.bin ?_; refine St.pickF ?_; refine WO.nil ?_)
    refine St.splitC (fun b2 => ?_) (fun b2 => ?_)
    · rw [if_pos (.inr (by simpa using b2))] at hd
      (refine WK.seq ?_; refine WK.region ?_; refine St.assign ?_; refine WO.nil ?_)
      refine St.ret (by first | exact .tmp .nil | exact .cell .nil | exact .cell (.tmp .nil) | exact .tmp (.tmp .nil) | exact .cell (.cell .nil) | exact .tmp (.cell .nil) | exact .nil | exact .tmp (.cell (.tmp .nil)) | exact .cell (.tmp (.tmp .nil)) | exact .cell (.cell (.tmp .nil)) | exact .tmp (.tmp (.tmp .nil)) | exact .cell (.cell (.cell .nil))) ?_
      rw [hcu, hd]; rfl
    rw [if_neg (by simp at b1 b2; omega)] at hd
    (refine WK.skip ?_; refine WK.region ?_; refine St.move ?_; refine St.assign ?_; refine WO.nil ?_; refine WK.blk ?_; refine WK.region ?_; refine St.binI ?_; refine St.move ?_; refine WO.nil ?_)
    refine WK.le ?_ (by (repeat (first | exact List.Sublist.refl _ | exact List.nil_sublist _ | apply List.Sublist.cons_cons | apply List.Sublist.cons))) (ih (k + 1, nth C k) ⟨by simp only; omega, by simp only; rw [hcu, hd]⟩ (by simp only; omega))
    exact ⟨rfl, rfl, rfl, rfl, rfl, trivial⟩
  · have : k = C.length := by simp at hc; omega
    subst this
    (refine WK.exit ?_; refine WK.seq ?_; refine WK.region ?_; refine St.assign ?_; refine WO.nil ?_)
    refine St.ret (by first | exact .tmp .nil | exact .cell .nil | exact .cell (.tmp .nil) | exact .tmp (.tmp .nil) | exact .cell (.cell .nil) | exact .tmp (.cell .nil) | exact .nil | exact .tmp (.cell (.tmp .nil)) | exact .cell (.tmp (.tmp .nil)) | exact .cell (.cell (.tmp .nil)) | exact .tmp (.tmp (.tmp .nil)) | exact .cell (.cell (.cell .nil))) ?_
    rw [hcu, List.drop_eq_nil_of_le (by omega)]
    rfl
set_option maxRecDepth 100000 in
theorem isNaNc_con (h : Heap) (g : Gd h) (x : Int) : Con Try.prog Bs 127 [.int .i64 x] h [] (.bool false) [] := by
  refine Con.start rfl Try.func127 rfl rfl Try.ntmps127 rfl rfl g ?_
  (refine WK.seq ?_; refine WK.region ?_; refine St.assign ?_; refine WO.nil ?_; refine WK.seq ?_; refine WK.region ?_; refine St.move ?_; refine St.move ?_; refine St.bin ?_; refine St.assign ?_; refine WO.nil ?_)
  refine St.ret (by first | exact .tmp .nil | exact .cell .nil | exact .cell (.tmp .nil) | exact .tmp (.tmp .nil) | exact .cell (.cell .nil) | exact .tmp (.cell .nil) | exact .nil | exact .tmp (.cell (.tmp .nil)) | exact .cell (.tmp (.tmp .nil)) | exact .cell (.cell (.tmp .nil)) | exact .tmp (.tmp (.tmp .nil)) | exact .cell (.cell (.cell .nil))) ?_
  simp [oneOf]
set_option maxRecDepth 100000 in
theorem isNaNs_con (h : Heap) (g : Gd h) (x : Int) : Con Try.prog Bs 133 [.int .i64 x] h [] (.bool false) [] := by
  refine Con.start rfl Try.func133 rfl rfl Try.ntmps133 rfl rfl g ?_
  (refine WK.seq ?_; refine WK.region ?_; refine St.assign ?_; refine WO.nil ?_; refine WK.seq ?_; refine WK.region ?_; refine St.move ?_; refine St.move ?_; refine St.bin ?_; refine St.assign ?_; refine WO.nil ?_)
  refine St.ret (by first | exact .tmp .nil | exact .cell .nil | exact .cell (.tmp .nil) | exact .tmp (.tmp .nil) | exact .cell (.cell .nil) | exact .tmp (.cell .nil) | exact .nil | exact .tmp (.cell (.tmp .nil)) | exact .cell (.tmp (.tmp .nil)) | exact .cell (.cell (.tmp .nil)) | exact .tmp (.tmp (.tmp .nil)) | exact .cell (.cell (.cell .nil))) ?_
  simp [oneOf]
set_option maxRecDepth 100000 in
theorem less_con (h : Heap) (g : Gd h) (x y : Int) : Con Try.prog Bs 132 [.int .i64 x, .int .i64 y] h [] (.bool (decide (x < y))) [] := by
  refine Con.start rfl Try.func132 rfl rfl Try.ntmps132 rfl rfl g ?_
  (refine WK.seq ?_; refine WK.region ?_; refine St.assign ?_; refine WO.nil ?_; refine WK.seq ?_; refine WK.region ?_; refine St.move ?_)
  refine St.call (fun _ => rfl) (fun h2 hh => isNaNc_con h2 hh.gd x) ?_
  (refine St.move ?_; refine St.skip ?_; refine St.skip ?_; refine St.skip ?_; refine St.pickF ?_; refine St.move ?_; refine St.move ?_; refine St.move ?_; refine St.bin ?_; refine St.pickF ?_; refine St.assign ?_; refine WO.nil ?_)
  refine St.ret (by first | exact .tmp .nil | exact .cell .nil | exact .cell (.tmp .nil) | exact .tmp (.tmp .nil) | exact .cell (.cell .nil) | exact .tmp (.cell .nil) | exact .nil | exact .tmp (.cell (.tmp .nil)) | exact .cell (.tmp (.tmp .nil)) | exact .cell (.cell (.tmp .nil)) | exact .tmp (.tmp (.tmp .nil)) | exact .cell (.cell (.cell .nil))) ?_
  rfl
/-- the first place of an ascending list whose element is no less -/
theorem ascC_mono : ∀ {b : Int} {C : List Int}, ascC b C → ∀ i j, i < j → j < C.length → nth C i < nth C j
  | _, [], _, _, _, _, h => by cases h
  | b, c :: r, h, i, 0, h1, _ => by cases h1
  | b, c :: r, h, 0, j + 1, _, h2 => by
    have h3 : j < r.length := by simpa using h2
    have := ascC_lt h.2 (nth r j) (by rw [nth_eq h3]; exact List.getElem_mem _)
    exact this
  | b, c :: r, h, i + 1, j + 1, h1, h2 => ascC_mono h.2 i j (by omega) (by simpa using h2)
theorem mid_wrap {i j : Nat} (h : i + j < 4000000) : IntKind.i64.wrap ((IntKind.u64.wrap ((i : Int) + (j : Int))).fdiv (2 ^ min (Int.toNat 1) IntKind.u64.bits)) = (((i + j) / 2 : Nat) : Int) := by
  have h1 : IntKind.u64.wrap ((i : Int) + (j : Int)) = (i : Int) + (j : Int) := by
    unfold IntKind.wrap
    simp [IntKind.bits, IntKind.signed]
    omega
  have h2 : (2 : Int) ^ min (Int.toNat 1) IntKind.u64.bits = 2 := by decide +kernel
  rw [h1, h2, Int.fdiv_eq_ediv_of_nonneg _ (by omega), wrap_ok (by omega)]
  omega
set_option maxRecDepth 100000 in
set_option maxHeartbeats 16000000 in
theorem search_con (h : Heap) (g : Gd h) (b0 : Int) (x : Int) (v : AV) (C : List Int) (hv : ItV h v C) (hl : C.length ≤ 1000000) (hC : ascC b0 C) :
    ∃ w L, Con Try.prog Bs 115 [v, .int .i64 x] h [] w L ∧ ∃ i : Int, w = .tup [.int .i64 i, .bool (decide (x ∈ C))] ∧ L = [] := by
    refine Con.startR rfl Try.func115 rfl rfl Try.ntmps115 rfl rfl (SS.init g) ?_
    (refine WK.seq ?_; refine WK.region ?_; refine St.assign ?_; refine St.assign ?_; refine WO.nil ?_; refine WK.seq ?_; refine WK.region ?_; refine St.move ?_)
    refine St.lenV rfl hv.len ?_
    (refine St.assign ?_; refine WO.nil ?_; refine WK.seq ?_; refine WK.region ?_; refine St.move ?_; refine St.assign ?_; refine St.assign ?_; refine WO.nil ?_; refine WK.seq ?_; refine WK.block ?_)
    by_cases hn : C.length = 0
    · have e1 : C = [] := List.length_eq_zero_iff.1 hn
      subst e1
      refine WK.unroll ?_
      (refine WK.seq ?_; refine WK.seq ?_; refine WK.region ?_; refine St.move ?_; refine St.move ?_; refine St.bin ?_; refine WO.nil ?_; refine WK.condF ?_; refine WK.exit ?_; refine WK.seq ?_; refine WK.region ?_; refine St.move ?_; refine St.move ?_; refine St.move ?_; refine St.bin ?_; refine St.move ?_; refine St.skip ?_; refine St.skip ?_; refine St.skip ?_; refine St.skip ?_; refine St.skip ?_; refine St.skip ?_; refine St.skip ?_; refine St.skip ?_; refine St.skip ?_; refine St.skip ?_; refine St.skip ?_; refine St.skip ?_; refine St.skip ?_; refine St.skip ?_; refine St.skip ?_; refine St.skip ?_; refine St.skip ?_; refine St.pickF ?_; refine St.assign ?_; refine St.assign ?_; refine WO.nil ?_)
      refine St.ret (by first | exact .tmp .nil | exact .cell .nil | exact .cell (.tmp .nil) | exact .tmp (.tmp .nil) | exact .cell (.cell .nil) | exact .tmp (.cell .nil) | exact .nil | exact .tmp (.cell (.tmp .nil)) | exact .cell (.tmp (.tmp .nil)) | exact .cell (.cell (.tmp .nil)) | exact .tmp (.tmp (.tmp .nil)) | exact .cell (.cell (.cell .nil))) ?_
      exact ⟨0, rfl, rfl⟩
    obtain ⟨b, off, c, rfl, hk⟩ := hv.ne (by omega)
    refine WK.inv (ι := Nat × Nat) (fun z => [(0, .slice b off C.length c), (1, .int .i64 x), (6, .int .i64 C.length), (7, .int .i64 z.1), (8, .int .i64 z.2)]) (fun _ => []) (fun z => z.1 ≤ z.2 ∧ z.2 ≤ C.length ∧ (∀ m, m < z.1 → nth C m < x) ∧ (∀ m, z.2 ≤ m → m < C.length → x ≤ nth C m)) (fun z => z.2 - z.1) (0, C.length) ⟨Nat.zero_le _, Nat.le_refl _, fun m hm => absurd hm (Nat.not_lt_zero m), fun m h1 h2 => absurd h2 (Nat.not_lt.2 h1)⟩ ⟨rfl, rfl, rfl, rfl, rfl, trivial⟩ (by (repeat (first | exact List.Sublist.refl _ | exact List.nil_sublist _ | apply List.Sublist.cons_cons | apply List.Sublist.cons))) ?_
    rintro ⟨i, j⟩ ⟨h1, h2, h3, h4⟩ ih
    simp only at h1 h2 h3 h4 ih ⊢
    (refine WK.seq ?_; refine WK.seq ?_; refine WK.region ?_; refine St.move ?_; refine St.move ?_; refine St.bin ?_; refine WO.nil ?_)
    refine St.splitC (fun hc => ?_) (fun hc => ?_)
    · have hlt : i < j := by simp at hc; omega
      have hmid : IntKind.i64.wrap ((IntKind.u64.wrap ((i : Int) + (j : Int))).fdiv (2 ^ min (Int.toNat 1) IntKind.u64.bits)) = (((i + j) / 2 : Nat) : Int) := mid_wrap (by omega)
      (refine WK.skip ?_; refine WK.block ?_; refine WK.seq ?_; refine WK.region ?_; refine St.move ?_; refine St.move ?_; refine St.binI ?_; refine St.conv ?_; refine St.bin ?_; refine St.conv ?_; refine St.assign ?_; refine WO.nil ?_; refine WK.seq ?_; refine WK.region ?_; refine St.move ?_; refine St.move ?_)
      rw [hmid]
      generalize hM : (i + j) / 2 = M at *
      have hM1 : i ≤ M ∧ M < j := by omega
      refine St.at ?_
      refine St.loadX (fun h hh => ((hk.vw hh).at_ (z := (M : Int)) (n := M) (by omega) (by omega)).one rfl) ?_
      (refine St.move ?_)
      refine St.call (fun _ => rfl) (fun h2 hh => less_con h2 hh.gd (nth C M) x) ?_
      (refine WO.nil ?_)
      refine St.splitC (fun q => ?_) (fun q => ?_)
      · have q' : nth C M < x := by simpa using q
        (refine WK.region ?_; refine St.move ?_; refine St.binI ?_; refine St.assign ?_; refine WO.nil ?_; refine WK.blk ?_)
        refine WK.le ?_ (by (repeat (first | exact List.Sublist.refl _ | exact List.nil_sublist _ | apply List.Sublist.cons_cons | apply List.Sublist.cons))) (ih (M + 1, j) ⟨by simp only; omega, h2, fun m hm => ?_, h4⟩ (by simp only; omega))
        · exact ⟨rfl, rfl, rfl, rfl, rfl, trivial⟩
        · simp only at hm
          by_cases e : m = M
          · rw [e]; exact q'
          · have := ascC_mono hC m M (by omega) (by omega)
            omega
      · have q' : x ≤ nth C M := by simpa using q
        (refine WK.region ?_; refine St.move ?_; refine St.assign ?_; refine WO.nil ?_; refine WK.blk ?_)
        refine WK.le ?_ (by (repeat (first | exact List.Sublist.refl _ | exact List.nil_sublist _ | apply List.Sublist.cons_cons | apply List.Sublist.cons))) (ih (i, M) ⟨by simp only; omega, by simp only; omega, h3, fun m hm hl => ?_⟩ (by simp only; omega))
        · exact ⟨rfl, rfl, rfl, rfl, rfl, trivial⟩
        · simp only at hm
          by_cases e : m = M
          · rw [e]; exact q'
          · have := ascC_mono hC M m (by omega) (by omega)
            omega
    · have hij : i = j := by simp at hc; omega
      subst hij
      (refine WK.exit ?_; refine WK.seq ?_; refine WK.region ?_; refine St.move ?_; refine St.move ?_; refine St.move ?_; refine St.bin ?_; refine St.move ?_)
      refine St.split (fun q => ?_) (fun q => ?_)
      · have hlt : i < C.length := by simp at q; omega
        (refine St.move ?_; refine St.move ?_)
        refine St.at ?_
        refine St.loadX (fun h hh => ((hk.vw hh).at_ (z := (i : Int)) (n := i) (by omega) hlt).one rfl) ?_
        (refine St.move ?_; refine St.bin ?_; refine St.move ?_)
        have hmem : decide (x ∈ C) = (nth C i == x) := by
          by_cases e : nth C i = x
          · have : x ∈ C := by rw [← e, nth_eq hlt]; exact List.getElem_mem _
            simp [this, e]
          · have : x ∉ C := fun hx => by
              obtain ⟨m, hm, e2⟩ := List.getElem_of_mem hx
              rw [← nth_eq hm] at e2
              rcases Nat.lt_trichotomy m i with h | h | h
              · have := h3 m h; omega
              · subst h; exact e e2
              · have h5 := ascC_mono hC i m h hm
                have h6 := h4 i (Nat.le_refl _) hlt
                omega
            simp [this, e]
        rw [hmem]
        refine St.split (fun q2 => ?_) (fun q2 => ?_)
        · (refine St.skip ?_; refine St.skip ?_; refine St.skip ?_; refine St.skip ?_; refine St.skip ?_; refine St.skip ?_; refine St.skip ?_; refine St.skip ?_; refine St.skip ?_; refine St.pickT ?_; refine St.pickT ?_; refine St.assign ?_; refine St.assign ?_; refine WO.nil ?_)
          refine St.ret (by first | exact .tmp .nil | exact .cell .nil | exact .cell (.tmp .nil) | exact .tmp (.tmp .nil) | exact .cell (.cell .nil) | exact .tmp (.cell .nil) | exact .nil | exact .tmp (.cell (.tmp .nil)) | exact .cell (.tmp (.tmp .nil)) | exact .cell (.cell (.tmp .nil)) | exact .tmp (.tmp (.tmp .nil)) | exact .cell (.cell (.cell .nil))) ?_
          exact ⟨i, by rw [q2]; rfl, rfl⟩
        · (refine St.move ?_; refine St.move ?_)
          refine St.at ?_
          refine St.loadX (fun h hh => ((hk.vw hh).at_ (z := (i : Int)) (n := i) (by omega) hlt).one rfl) ?_
          skip
          refine St.call (fun _ => rfl) (fun h2 hh => isNaNs_con h2 hh.gd (nth C i)) ?_
          (refine St.move ?_; refine St.skip ?_; refine St.skip ?_; refine St.pickF ?_; refine St.pickF ?_; refine St.pickT ?_; refine St.assign ?_; refine St.assign ?_; refine WO.nil ?_)
          refine St.ret (by first | exact .tmp .nil | exact .cell .nil | exact .cell (.tmp .nil) | exact .tmp (.tmp .nil) | exact .cell (.cell .nil) | exact .tmp (.cell .nil) | exact .nil | exact .tmp (.cell (.tmp .nil)) | exact .cell (.tmp (.tmp .nil)) | exact .cell (.cell (.tmp .nil)) | exact .tmp (.tmp (.tmp .nil)) | exact .cell (.cell (.cell .nil))) ?_
          exact ⟨i, by rw [q2]; rfl, rfl⟩
      · have hge : C.length ≤ i := by simp at q; omega
        (refine St.skip ?_; refine St.skip ?_; refine St.skip ?_; refine St.skip ?_; refine St.skip ?_; refine St.skip ?_; refine St.skip ?_; refine St.skip ?_; refine St.skip ?_; refine St.skip ?_; refine St.skip ?_; refine St.skip ?_; refine St.skip ?_; refine St.skip ?_; refine St.skip ?_; refine St.skip ?_; refine St.skip ?_; refine St.pickF ?_; refine St.assign ?_; refine St.assign ?_; refine WO.nil ?_)
        refine St.ret (by first | exact .tmp .nil | exact .cell .nil | exact .cell (.tmp .nil) | exact .tmp (.tmp .nil) | exact .cell (.cell .nil) | exact .tmp (.cell .nil) | exact .nil | exact .tmp (.cell (.tmp .nil)) | exact .cell (.tmp (.tmp .nil)) | exact .cell (.cell (.tmp .nil)) | exact .tmp (.tmp (.tmp .nil)) | exact .cell (.cell (.cell .nil))) ?_
        have : x ∉ C := fun hx => by
          obtain ⟨m, hm, e2⟩ := List.getElem_of_mem hx
          rw [← nth_eq hm] at e2
          have := h3 m (by omega)
          omega
        exact ⟨i, by simp [this, oneOf], rfl⟩
end Go.Proofs.Ytekpffjcffeanaa
