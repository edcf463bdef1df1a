/- Lists of knots that a call makes: Clone, EqualFunc; sums of curves, plain facts. -/
import Derived.Test.YtbhklifflhoinaaGreatPk
import Derived.Test.YtbhklifflhoinaaGreatLi
import Derived.Test.YtbhklifflhoinaaGreatEv6
namespace Go.Proofs.YtbhklifflhoinaaGreat
open Go.Proofs.YtbhklifflhoinaaGreat.Ev

theorem flatA_cons (f : Int × Int) (l : List (Int × Int)) : flatA (f :: l) = AV.int .i64 f.1 :: AV.int .i64 f.2 :: flatA l := by simp [flatA]
theorem flatA_set : ∀ (l : List (Int × Int)) (i : Nat) (h : i < l.length) (y : Int), (flatA l).set (i * 2 + 1) (.int .i64 y) = flatA (l.set i ((l[i]'h).1, y))
  | [], i, h, _ => by simp at h
  | f :: l, 0, _, y => by simp [flatA]
  | f :: l, i + 1, h, y => by
    have h1 := flatA_set l i (by simpa using h) y
    rw [List.set_cons_succ, flatA_cons, flatA_cons, show (i + 1) * 2 + 1 = (i * 2 + 1) + 1 + 1 by omega, List.set_cons_succ, List.set_cons_succ, h1]
    simp
theorem flatA_ok : ∀ l : List (Int × Int), (flatA l).all okCell = true
  | [] => rfl
  | f :: l => by rw [flatA_cons]; simp [okCell, flatA_ok l]
theorem KnH.loadN {h : Heap} {b off : Nat} {ks : List (Int × Int)} (k : KnH h b off ks) (hp : 0 < ks.length) : h.loadN b off (ks.length * 2) = some (flatA ks) := by
  rw [← flatA_len]
  refine loadN_of (by rw [flatA_len]; omega) fun j hj => ?_
  have hj' := hj
  rw [flatA_len] at hj'
  obtain ⟨i, hi, e⟩ : ∃ i, i < ks.length ∧ (j = i * 2 ∨ j = i * 2 + 1) := ⟨j / 2, by omega, by omega⟩
  obtain ⟨e1, e2⟩ := flatA_get ks i hi
  obtain ⟨k1, k2, _⟩ := k i hi
  have : h.at1 b (off + j) = (flatA ks)[j]? := by
    rcases e with rfl | rfl
    · rw [e1]; exact k1.2
    · rw [e2]; exact k2.2
  rw [this, List.getElem?_eq_getElem hj]
/-- a list of knots, nil or the call's own -/
def IsCv (ks : List (Int × Int)) (v : AV) (L : Ob) : Prop := (v = .slice0 ∧ L = [] ∧ ks = []) ∨ ∃ i c o, v = .slice i 0 ks.length c ∧ L = [(i, o)] ∧ o.has (flatA ks) ∧ 0 < ks.length
theorem has_row {o : AObj} {l : List AV} (k : o.has l) {h : Heap} {i : Nat} (hg : h.get i = some o) : rowAt h i = true := by
  unfold rowAt
  rw [hg]
  rcases k with ⟨r, t, rfl⟩ | ⟨r, t, sz, rfl⟩ <;> rfl
theorem IsCv.knV {h0 h : Heap} {W : List Nat} {V L : Ob} {ks : List (Int × Int)} {v : AV} (k : IsCv ks v L) (hh : Vw h0 W V h) (hs : L.Sublist V) : KnV h v ks := by
  rcases k with ⟨rfl, rfl, rfl⟩ | ⟨i, c, o, rfl, rfl, ho, _⟩
  · exact .inl ⟨.inl rfl, rfl⟩
  · have hm : (i, o) ∈ V := hs.subset (List.mem_singleton.2 rfl)
    have hg := (hh.own _ hm).1
    have hf := hh.frs hm ho
    refine .inr ⟨i, 0, c, rfl, hf, ?_, has_row ho hg⟩
    exact (hh.own _ hm).2
theorem IsCv.ok {ks : List (Int × Int)} {v : AV} {L : Ob} (k : IsCv ks v L) : okCell v = true := by
  rcases k with ⟨rfl, _⟩ | ⟨i, c, o, rfl, _⟩ <;> rfl
theorem Ev.Con.subR {P : Program} {B : Base} {f : Nat} {args : List AV} {h : Heap} {W : List Nat} {R : AV → Ob → Prop} (k : ∃ v L, Con P B f args h W v L ∧ ∃ L0 : Ob, L0.Sublist L ∧ R v L0) : ∃ v L, Con P B f args h W v L ∧ R v L := by
  obtain ⟨v, L, hc, L0, hs, hr⟩ := k
  exact ⟨v, L0, hc.sub hs, hr⟩

/-! sums -/
def sameX (ka kb : List (Int × Int)) : Bool := decide (ka.map (·.1) = kb.map (·.1))
theorem sameX_iff {ka kb : List (Int × Int)} : sameX ka kb = true ↔ ka.length = kb.length ∧ ∀ i, i < ka.length → kx ka i = kx kb i := by
  unfold sameX
  rw [decide_eq_true_iff]
  constructor
  · intro h
    have hl : ka.length = kb.length := by simpa using congrArg List.length h
    refine ⟨hl, fun i hi => ?_⟩
    have := congrArg (fun l => l[i]?) h
    simp only [List.getElem?_map, List.getElem?_eq_getElem hi, List.getElem?_eq_getElem (show i < kb.length by omega), Option.map_some, Option.some.injEq] at this
    rw [kx_eq hi, kx_eq (show i < kb.length by omega)]
    exact this
  · rintro ⟨hl, hx⟩
    apply List.ext_getElem (by simpa using hl)
    intro i h1 h2
    simp only [List.length_map] at h1 h2
    have := hx i h1
    rw [kx_eq h1, kx_eq h2] at this
    simpa using this
def sumK (ka kb : List (Int × Int)) (t : Int) (n : Nat) : List (Int × Int) := (List.range n).map fun i => (kx ka i, ky ka i + t * ky kb i)
theorem sumK_len (ka kb : List (Int × Int)) (t : Int) (n : Nat) : (sumK ka kb t n).length = n := by simp [sumK]
theorem sumK_succ (ka kb : List (Int × Int)) (t : Int) (n : Nat) : sumK ka kb t (n + 1) = sumK ka kb t n ++ [(kx ka n, ky ka n + t * ky kb n)] := by simp [sumK, List.range_succ]
/-- the first n are summed -/
def sumTo (ka kb : List (Int × Int)) (t : Int) : Nat → List (Int × Int)
  | 0 => ka
  | n + 1 => (sumTo ka kb t n).set n (kx ka n, ky ka n + t * ky kb n)
theorem sumTo_len (ka kb : List (Int × Int)) (t : Int) : ∀ n, (sumTo ka kb t n).length = ka.length
  | 0 => rfl
  | n + 1 => by rw [sumTo, List.length_set, sumTo_len ka kb t n]
theorem sumTo_get (ka kb : List (Int × Int)) (t : Int) : ∀ n i, (sumTo ka kb t n)[i]? = if i < n ∧ i < ka.length then some (kx ka i, ky ka i + t * ky kb i) else ka[i]?
  | 0, i => by simp [sumTo]
  | n + 1, i => by
    rw [sumTo, List.getElem?_set, sumTo_len, sumTo_get ka kb t n i]
    by_cases e : n = i
    · subst e
      by_cases h : n < ka.length
      · simp [h]
      · simp [h]
    · rw [if_neg e]
      by_cases h : i < n
      · simp [h, show i < n + 1 by omega]
      · simp [h, show ¬ i < n + 1 by omega]
theorem sumTo_all {ka kb : List (Int × Int)} {t : Int} : sumTo ka kb t ka.length = sumK ka kb t ka.length := by
  apply List.ext_getElem?
  intro i
  rw [sumTo_get]
  by_cases h : i < ka.length
  · simp [sumK, h]
  · rw [if_neg (by omega), List.getElem?_eq_none (by omega), List.getElem?_eq_none (by rw [sumK_len]; omega)]
theorem sumTo_at {ka kb : List (Int × Int)} {t : Int} {n : Nat} (h : n < ka.length) : (sumTo ka kb t n)[n]? = some (kx ka n, ky ka n) := by
  rw [sumTo_get, if_neg (by omega), List.getElem?_eq_getElem h, kx_eq h, ky_eq h]
def chk2 (ka : List (Int × Int)) (ea : Int) (kb : List (Int × Int)) (eb : Int) : Int := if chk ka ea = 0 then chk kb eb else chk ka ea
theorem chk2_eq (ka : List (Int × Int)) (ea : Int) (kb : List (Int × Int)) (eb : Int) : chkL [⟨none, 0, ka, ea⟩, ⟨none, 0, kb, eb⟩] = chk2 ka ea kb eb := by
  simp only [chkL, chk2]
  split
  · split
    · rename_i h; exact h.symm
    · rfl
  · rfl
theorem chk2_zero {ka ea kb eb} (h : chk2 ka ea kb eb = 0) : chk ka ea = 0 ∧ chk kb eb = 0 := by
  unfold chk2 at h
  split at h
  · exact ⟨by assumption, h⟩
  · contradiction
def sumR (ka : List (Int × Int)) (ea : Int) (kb : List (Int × Int)) (eb t : Int) : List (Int × Int) × Int × Int :=
  if chk2 ka ea kb eb ≠ 0 then ([], 0, chk2 ka ea kb eb) else if sameX ka kb = false then ([], 0, 4) else if chk (sumK ka kb t ka.length) (ea + eb) ≠ 0 then ([], 0, 3) else (sumK ka kb t ka.length, ea + eb, 0)

/-! the program's -/
set_option maxRecDepth 100000 in
theorem clone_con (h : Heap) (g : Gd h) (b off : Nat) (c : ACap) (ks : List (Int × Int)) (hk : KnH h b off ks) (hp : 0 < ks.length) (hl : ks.length ≤ 1000000) : ∃ j, Con Tryz.prog Bs 37 [.slice b off ks.length c] h [] (.slice j 0 ks.length (.m 0)) [(j, .row (flatA ks) 81 2)] := by
  have key : ∃ v L, Con Tryz.prog Bs 37 [.slice b off ks.length c] h [] v L ∧ ∃ j, v = .slice j 0 ks.length (.m 0) ∧ L = [(j, .row (flatA ks) 81 2)] := by
    refine Con.startR rfl Tryz.func37 rfl rfl Tryz.ntmps37 rfl rfl (SS.init g) ?_
    (refine WK.seq ?_; refine WK.region ?_; refine St.assign ?_; refine WO.nil ?_; refine WK.seq ?_; refine WK.seq ?_; refine WK.region ?_; refine St.move ?_; refine St.bin ?_; refine WO.nil ?_; refine WK.condF ?_; refine WK.skip ?_; refine WK.seq ?_; refine WK.region ?_; refine St.mkS fun _ _ => ?_; refine St.move ?_)
    rename_i i hi
    refine St.appC (sz := 2) (n := ks.length) (new := flatA ks) (fun j hj => ?_) ⟨rfl, rfl, rfl, rfl, rfl, rfl, rfl, rfl, rfl, Nat.ble_eq_true_of_le hl, by simp [flatA_len], flatA_ok _⟩ (List.Mem.head _) (fun h2 hh => (hk.vw hh).loadN hp) hp hl
    (refine St.assign ?_; refine WO.nil ?_)
    refine WK.le (s' := [(2, .slice j 0 ks.length (.m 0))]) (L' := [(j, .row (flatA ks) 81 2)]) ⟨rfl, trivial⟩ (by (repeat (first | exact List.Sublist.refl _ | exact List.nil_sublist _ | apply List.Sublist.cons_cons | apply List.Sublist.cons))) ?_
    refine St.ret (by first | exact .tmp .nil | exact .cell .nil | exact .cell (.tmp .nil) | exact .tmp (.tmp .nil) | exact .cell (.cell .nil) | exact .tmp (.cell .nil) | exact .nil | exact .tmp (.cell (.tmp .nil)) | exact .cell (.tmp (.tmp .nil)) | exact .cell (.cell (.tmp .nil)) | exact .tmp (.tmp (.tmp .nil)) | exact .cell (.cell (.cell .nil))) ?_
    exact ⟨j, rfl, rfl⟩
  obtain ⟨v, L, hc, j, rfl, rfl⟩ := key
  exact ⟨j, hc⟩
set_option maxRecDepth 100000 in
theorem comb1_con (h : Heap) (g : Gd h) (a b c d : Int) : Con Tryz.prog Bs 105 ([] ++ [.agg [.int .i64 a, .int .i64 b], .agg [.int .i64 c, .int .i64 d]] ++ []) h [] (.bool (a == c)) [] := by
  refine Con.start rfl Tryz.func105 rfl rfl Tryz.ntmps105 rfl rfl g ?_
  (refine WK.seq ?_; refine WK.region ?_; refine St.box fun _ _ => ?_; refine St.box fun _ _ => ?_; refine St.assign ?_; refine WO.nil ?_; refine WK.seq ?_; refine WK.region ?_; refine St.fieldAddr ?_; refine St.load ?_; refine St.fieldAddr ?_; refine St.load ?_; refine St.bin ?_; refine St.assign ?_; refine WO.nil ?_)
  refine St.ret (by first | exact .tmp .nil | exact .cell .nil | exact .cell (.tmp .nil) | exact .tmp (.tmp .nil) | exact .cell (.cell .nil) | exact .tmp (.cell .nil) | exact .nil | exact .tmp (.cell (.tmp .nil)) | exact .cell (.tmp (.tmp .nil)) | exact .cell (.cell (.tmp .nil)) | exact .tmp (.tmp (.tmp .nil)) | exact .cell (.cell (.cell .nil))) ?_
  rfl
set_option maxRecDepth 100000 in
set_option maxHeartbeats 4000000 in
theorem equalX_con (h : Heap) (g : Gd h) (b off : Nat) (c : ACap) (ka : List (Int × Int)) (b2 off2 : Nat) (c2 : ACap) (kb : List (Int × Int)) (hk : KnH h b off ka) (hk2 : KnH h b2 off2 kb) (hl : ka.length ≤ 1000000) (hl2 : kb.length ≤ 1000000) :
    Con Tryz.prog Bs 104 [.slice b off ka.length c, .slice b2 off2 kb.length c2, .fn (.func 105) [] []] h [] (.bool (sameX ka kb)) [] := by
  refine Con.start rfl Tryz.func104 rfl rfl Tryz.ntmps104 rfl rfl g ?_
  (refine WK.seq ?_; refine WK.region ?_; refine St.assign ?_; refine WO.nil ?_; refine WK.seq ?_; refine WK.seq ?_; refine WK.region ?_; refine St.move ?_; refine St.len ?_; refine St.move ?_; refine St.len ?_; refine St.bin ?_; refine WO.nil ?_)
  refine St.splitC (fun hc => ?_) (fun hc => ?_)
  · (refine WK.seq ?_; refine WK.region ?_; refine St.assign ?_; refine WO.nil ?_)
    refine St.ret (by first | exact .tmp .nil | exact .cell .nil | exact .cell (.tmp .nil) | exact .tmp (.tmp .nil) | exact .cell (.cell .nil) | exact .tmp (.cell .nil) | exact .nil | exact .tmp (.cell (.tmp .nil)) | exact .cell (.tmp (.tmp .nil)) | exact .cell (.cell (.tmp .nil)) | exact .tmp (.tmp (.tmp .nil)) | exact .cell (.cell (.cell .nil))) ?_
    have hne : ka.length ≠ kb.length := by simp at hc; omega
    cases e : sameX ka kb with
    | false => rfl
    | true => exact absurd (sameX_iff.1 e).1 hne
  have hle : ka.length = kb.length := by simp at hc; omega
  (refine WK.skip ?_; refine WK.seq ?_; refine WK.seq ?_; refine WK.region ?_; refine St.move ?_; refine St.len ?_; refine St.move ?_; refine WO.nil ?_; refine WK.block ?_)
  refine WK.inv (ι := Nat) (fun k => [(1, .slice b2 off2 kb.length c2), (2, .fn (.func 105) [] []), (15, .slice b off ka.length c), (16, .int .i64 ka.length), (17, .int .i64 k)]) (fun _ => []) (fun k => k ≤ ka.length ∧ ∀ i, i < k → kx ka i = kx kb i) (fun k => ka.length - k) 0 ⟨by omega, fun i hi => absurd hi (by omega)⟩ ⟨rfl, rfl, rfl, rfl, rfl, trivial⟩ (by (repeat (first | exact List.Sublist.refl _ | exact List.nil_sublist _ | apply List.Sublist.cons_cons | apply List.Sublist.cons))) ?_
  intro k ⟨hkl, he⟩ ih
  (refine WK.seq ?_; refine WK.region ?_; refine St.bin ?_; refine WO.nil ?_; refine WK.seq ?_)
  refine St.splitC (fun hc => ?_) (fun hc => ?_)
  · have hlt : k < ka.length := by simp at hc; omega
    (refine WK.skip ?_; refine WK.seq ?_; refine WK.block ?_; refine WK.seq ?_; refine WK.region ?_; refine St.move ?_)
    refine St.at ?_
    skip
    refine St.loadX (fun h hh => ((hk.vw hh).knot hlt).agg (by simp) rfl rfl rfl) ?_
    (refine St.alloc fun _ _ => ?_; refine St.assign ?_; refine St.store0 ?_; refine WO.nil ?_; refine WK.seq ?_; refine WK.region ?_; refine St.move ?_; refine St.move ?_)
    refine St.at ?_
    skip
    refine St.loadX (fun h hh => ((hk2.vw hh).knot (show k < kb.length by omega)).agg (by simp) rfl rfl rfl) ?_
    (refine St.alloc fun _ _ => ?_; refine St.store0 ?_; refine WO.nil ?_; refine WK.seq ?_; refine WK.region ?_; refine St.move ?_; refine St.load ?_; refine St.load ?_)
    refine St.call (fun _ => rfl) (fun h hh => comb1_con h hh.gd (kx ka k) (ky ka k) (kx kb k) (ky kb k)) ?_
    (refine St.un ?_; refine WO.nil ?_)
    refine St.splitC (fun hc2 => ?_) (fun hc2 => ?_)
    · (refine WK.seq ?_; refine WK.region ?_; refine St.assign ?_; refine WO.nil ?_)
      refine St.ret (by first | exact .tmp .nil | exact .cell .nil | exact .cell (.tmp .nil) | exact .tmp (.tmp .nil) | exact .cell (.cell .nil) | exact .tmp (.cell .nil) | exact .nil | exact .tmp (.cell (.tmp .nil)) | exact .cell (.tmp (.tmp .nil)) | exact .cell (.cell (.tmp .nil)) | exact .tmp (.tmp (.tmp .nil)) | exact .cell (.cell (.cell .nil))) ?_
      have hne : kx ka k ≠ kx kb k := by simpa using hc2
      cases e : sameX ka kb with
      | false => rfl
      | true => exact absurd ((sameX_iff.1 e).2 k hlt) hne
    · have h0 : kx ka k = kx kb k := by simpa using hc2
      (refine WK.skip ?_; refine WK.blk ?_; refine WK.region ?_; refine St.binI ?_; refine St.move ?_; refine WO.nil ?_)
      refine WK.le ?_ (by (repeat (first | exact List.Sublist.refl _ | exact List.nil_sublist _ | apply List.Sublist.cons_cons | apply List.Sublist.cons))) (ih (k + 1) ⟨hlt, fun i hi => ?_⟩ (by omega))
      · exact ⟨rfl, rfl, rfl, rfl, rfl, trivial⟩
      · rcases Nat.lt_succ_iff_lt_or_eq.1 hi with h1 | rfl
        · exact he i h1
        · exact h0
  · have : k = ka.length := by simp at hc; omega
    subst this
    (refine WK.exit ?_; refine WK.seq ?_; refine WK.region ?_; refine St.assign ?_; refine WO.nil ?_)
    refine St.ret (by first | exact .tmp .nil | exact .cell .nil | exact .cell (.tmp .nil) | exact .tmp (.tmp .nil) | exact .cell (.cell .nil) | exact .tmp (.cell .nil) | exact .nil | exact .tmp (.cell (.tmp .nil)) | exact .cell (.tmp (.tmp .nil)) | exact .cell (.cell (.tmp .nil)) | exact .tmp (.tmp (.tmp .nil)) | exact .cell (.cell (.cell .nil))) ?_
    rw [sameX_iff.2 ⟨hle, he⟩]
    rfl
/-- what combine returns -/
def SumOut (r : List (Int × Int) × Int × Int) (v : AV) (L : Ob) : Prop := ∃ kv, IsCv r.1 kv L ∧ v = .tup [.agg [kv, .int .i64 r.2.1], .int .i64 r.2.2]
set_option maxRecDepth 100000 in
set_option maxHeartbeats 8000000 in
theorem combine_con (h : Heap) (g : Gd h) (kva kvb : AV) (ka kb : List (Int × Int)) (ea eb t : Int) (ht : t = 1 ∨ t = -1) (hka : KnV h kva ka) (hkb : KnV h kvb kb) (hla : ka.length ≤ 1000000) (hlb : kb.length ≤ 1000000) :
    ∃ v L, Con Tryz.prog Bs 71 [.agg [kva, .int .i64 ea], .agg [kvb, .int .i64 eb], .int .i64 t] h [] v L ∧ SumOut (sumR ka ea kb eb t) v L := by
  have hC : ∀ (h2 : Heap) {V : Ob} (j : Nat) (l : List AV) (ty : TypeId), Vw h [] V h2 → (j, .cells l ty) ∈ V → l = [kva, .int .i64 ea, kvb, .int .i64 eb] → Con Tryz.prog Bs 53 [.slice j 0 2 (.k 2)] h2 [] (.int .i64 (chk2 ka ea kb eb)) [] := fun h2 V j l ty hh hm e => by
    have := checkL_con h2 hh.gd j 0 (.k 2) [⟨kva, ka, ea⟩, ⟨kvb, kb, eb⟩] (by simp) (hh.cv2 hm e (hka.vw hh) (hkb.vw hh) (by omega) (by omega))
    rw [← chk2_eq]
    exact this
  by_cases e0 : chk2 ka ea kb eb = 0
  rotate_left
  · have er : sumR ka ea kb eb t = ([], 0, chk2 ka ea kb eb) := by unfold sumR; rw [if_pos e0]
    rw [er]
    refine Con.subR (Con.startR rfl Tryz.func71 rfl rfl Tryz.ntmps71 rfl rfl (SS.init g) ?_)
    (refine WK.seq ?_; refine WK.region ?_; refine St.box fun _ _ => ?_; refine St.box fun _ _ => ?_; refine St.alloc fun _ _ => ?_; refine St.assign ?_; refine WO.nil ?_; refine WK.seq ?_; refine WK.seq ?_; refine WK.region ?_; refine St.load ?_; refine St.load ?_; refine St.mkS fun _ _ => ?_)
    refine St.call (fun _ => rfl) (fun h2 hh => hC h2 _ _ _ hh (List.Mem.head _) rfl) ?_
    (refine St.assign ?_; refine WO.nil ?_; refine WK.seq ?_; refine WK.region ?_; refine St.move ?_; refine St.bin ?_; refine WO.nil ?_)
    refine St.splitC (fun hc => ?_) (fun hc => ?_)
    · (refine WK.seq ?_; refine WK.region ?_; refine St.build ?_; refine St.move ?_; refine St.store1 ?_; refine St.assign ?_; refine WO.nil ?_)
      refine St.ret (by first | exact .tmp .nil | exact .cell .nil | exact .cell (.tmp .nil) | exact .tmp (.tmp .nil) | exact .cell (.cell .nil) | exact .tmp (.cell .nil) | exact .nil | exact .tmp (.cell (.tmp .nil)) | exact .cell (.tmp (.tmp .nil)) | exact .cell (.cell (.tmp .nil)) | exact .tmp (.tmp (.tmp .nil)) | exact .cell (.cell (.cell .nil))) ?_
      exact ⟨[], List.nil_sublist _, .slice0, .inl ⟨rfl, rfl, rfl⟩, rfl⟩
    · simp at hc; exact absurd hc e0
  obtain ⟨h1, h2⟩ := chk2_zero e0
  have va := vd_of_chk h1
  have vb := vd_of_chk h2
  obtain ⟨b, off, c, rfl, hk1⟩ := hka.ne va.ne
  obtain ⟨b2, off2, c2, rfl, hk2⟩ := hkb.ne vb.ne
  have hl40 : ka.length ≤ 40 := va.le
  have hpos := va.pos
  have ea0 := va.e0
  have ea1 := va.e1
  have eb0 := vb.e0
  have eb1 := vb.e1
  have er : sumR ka ea kb eb t = if sameX ka kb = false then ([], 0, 4) else if chk (sumK ka kb t ka.length) (ea + eb) ≠ 0 then ([], 0, 3) else (sumK ka kb t ka.length, ea + eb, 0) := by unfold sumR; rw [if_neg (by simp [e0])]
  rw [er]
  rw [e0] at hC
  refine Con.subR (Con.startR rfl Tryz.func71 rfl rfl Tryz.ntmps71 rfl rfl (SS.init g) ?_)
  (refine WK.seq ?_; refine WK.region ?_; refine St.box fun _ _ => ?_; refine St.box fun _ _ => ?_; refine St.alloc fun _ _ => ?_; refine St.assign ?_; refine WO.nil ?_; refine WK.seq ?_; refine WK.seq ?_; refine WK.region ?_; refine St.load ?_; refine St.load ?_; refine St.mkS fun _ _ => ?_)
  refine St.call (fun _ => rfl) (fun h2 hh => hC h2 _ _ _ hh (List.Mem.head _) rfl) ?_
  (refine St.assign ?_; refine WO.nil ?_; refine WK.seq ?_; refine WK.region ?_; refine St.move ?_; refine St.bin ?_; refine WO.nil ?_; refine WK.condF ?_; refine WK.skip ?_; refine WK.seq ?_; refine WK.seq ?_; refine WK.region ?_; refine St.fieldAddr ?_; refine St.load ?_; refine St.fieldAddr ?_; refine St.load ?_)
  refine St.call (fun _ => rfl) (fun h2 hh => equalX_con h2 hh.gd b off c ka b2 off2 c2 kb (hk1.vw hh) (hk2.vw hh) hla hlb) ?_
  (refine St.un ?_; refine WO.nil ?_)
  refine St.splitC (fun hc => ?_) (fun hc => ?_)
  · have hs : sameX ka kb = false := by simpa using hc
    (refine WK.seq ?_; refine WK.region ?_; refine St.build ?_; refine St.store1 ?_; refine St.assign ?_; refine WO.nil ?_)
    refine St.ret (by first | exact .tmp .nil | exact .cell .nil | exact .cell (.tmp .nil) | exact .tmp (.tmp .nil) | exact .cell (.cell .nil) | exact .tmp (.cell .nil) | exact .nil | exact .tmp (.cell (.tmp .nil)) | exact .cell (.tmp (.tmp .nil)) | exact .cell (.cell (.tmp .nil)) | exact .tmp (.tmp (.tmp .nil)) | exact .cell (.cell (.cell .nil))) ?_
    rw [if_pos hs]
    exact ⟨[], List.nil_sublist _, .slice0, .inl ⟨rfl, rfl, rfl⟩, rfl⟩
  have hs : sameX ka kb = true := by simpa using hc
  obtain ⟨hlen, hx⟩ := sameX_iff.1 hs
  rw [if_neg (by simp [hs])]
  (refine WK.skip ?_; refine WK.seq ?_; refine WK.regionD ?_; refine St.fieldAddr ?_; refine St.load ?_)
  refine StD.call1 (v := fun j => .slice j 0 ka.length (.m 0)) (ob := fun _ => .row (flatA ka) 81 2) (fun _ => rfl) (fun h2 hh => clone_con h2 hh.gd b off c ka (hk1.vw hh) hpos hla) (fun j hj => ?_)
  (refine St.fieldAddr ?_; refine St.load ?_; refine St.fieldAddr ?_; refine St.load ?_; refine St.binI ?_; refine St.build ?_; refine StD.alloc fun _ _ => ?_; refine StD.storeT ?_; refine WO.nil2 ?_; refine WK.seq ?_; refine WK.seq ?_; refine WK.region ?_; refine St.fieldAddr ?_; refine St.load ?_; refine St.len ?_; refine St.move ?_; refine WO.nil ?_; refine WK.block ?_)
  rename_i p hp q hq r hr sl hsl u hu
  have hn : (sumTo ka kb t ka.length).length = ka.length := sumTo_len ka kb t _
  refine WK.inv (ι := Nat) (fun k => [(2, .int .i64 t), (6, .ptr r 0), (9, .ptr u 0), (37, .slice b2 off2 kb.length c2), (38, .int .i64 kb.length), (39, .int .i64 k)]) (fun k => [(u, .cells [.slice j 0 ka.length (.m 0), .int .i64 (ea + eb)] 24), (j, .row (flatA (sumTo ka kb t k)) 81 2), (r, .cells [.slice0, .int .i64 0] 24)]) (fun k => k ≤ kb.length) (fun k => kb.length - k) 0 (by omega) ⟨rfl, rfl, rfl, rfl, rfl, rfl, trivial⟩ (by (repeat (first | exact List.Sublist.refl _ | exact List.nil_sublist _ | apply List.Sublist.cons_cons | apply List.Sublist.cons))) ?_
  intro k hkl ih
  (refine WK.seq ?_; refine WK.region ?_; refine St.bin ?_; refine WO.nil ?_; refine WK.seq ?_)
  refine St.splitC (fun hc => ?_) (fun hc => ?_)
  · have hlt : k < kb.length := by simp at hc; omega
    have hlta : k < ka.length := by omega
    have y0 := vb.ky0 hlt
    have y1 := vb.ky1 hlt
    have z0 := va.ky0 hlta
    have z1 := va.ky1 hlta
    have m0 : -65536 ≤ t * ky kb k ∧ t * ky kb k ≤ 65536 := by rcases ht with rfl | rfl <;> omega
    obtain ⟨m1, m2⟩ := m0
    have hsl' := sumTo_len ka kb t k
    have hfl : (flatA (sumTo ka kb t k)).length = ka.length * 2 := by rw [flatA_len, hsl']
    have hat : (flatA (sumTo ka kb t k))[k * 2 + 1]? = some (.int .i64 (ky ka k)) := by
      have e1 := (flatA_get (sumTo ka kb t k) k (by omega)).2
      have e2 := sumTo_at (ka := ka) (kb := kb) (t := t) hlta
      rw [List.getElem?_eq_getElem (by omega)] at e2
      rw [e1, Option.some.inj e2]
    have hset : (flatA (sumTo ka kb t k)).set (k * 2 + 1) (.int .i64 (ky ka k + t * ky kb k)) = flatA (sumTo ka kb t (k + 1)) := by
      have e2 := sumTo_at (ka := ka) (kb := kb) (t := t) hlta
      rw [List.getElem?_eq_getElem (by omega)] at e2
      rw [flatA_set _ _ (by omega), Option.some.inj e2]
      rfl
    have hyk : ky (sumTo ka kb t k) k = ky ka k := by
      unfold ky
      rw [sumTo_at hlta]
      rfl
    have hst : ∀ off, off = k * 2 + 1 → (AObj.row (flatA (sumTo ka kb t k)) 81 2).store Tryz.prog 3 off (.int .i64 (ky ka k + t * ky kb k)) = some (.row (flatA (sumTo ka kb t (k + 1))) 81 2) := by
      rintro _ rfl
      rw [store_row (by rfl) rfl rfl (by omega), hset]
    (refine WK.skip ?_; refine WK.seq ?_; refine WK.block ?_; refine WK.seq ?_; refine WK.region ?_; refine St.move ?_)
    refine St.at ?_
    skip
    refine St.loadX (fun h hh => ((hk2.vw hh).knot hlt).agg (by simp) rfl rfl rfl) ?_
    (refine St.alloc fun _ _ => ?_; refine St.assign ?_; refine St.store0 ?_; refine WO.nil ?_; refine WK.regionD ?_; refine St.fieldAddr ?_; refine St.load ?_; refine St.move ?_)
    refine St.at ?_
    (refine St.fieldAddr ?_)
    refine St.loadX (fun h hh => by
      have := (hh.frs (fs := sumTo ka kb t k) (j := j) (o := .row (flatA (sumTo ka kb t k)) 81 2) (by simp) (AObj.has_row _ _ _)).yAt (z := (k : Int)) (n := k) rfl (by omega)
      rw [hyk] at this
      exact this.one rfl) ?_
    (refine St.move ?_; refine St.fieldAddr ?_; refine St.load ?_; refine St.binI ?_; refine St.binI ?_)
    refine St.at ?_
    (refine St.fieldAddr ?_)
    refine StD.store2 (hv := hst _ (by show 0 + k * 2 + 1 = k * 2 + 1; omega)) ?_
    (refine WO.nil ?_; refine WK.blk ?_; refine WK.region ?_; refine St.binI ?_; refine St.move ?_; refine WO.nil ?_)
    refine WK.le ?_ (by (repeat (first | exact List.Sublist.refl _ | exact List.nil_sublist _ | apply List.Sublist.cons_cons | apply List.Sublist.cons))) (ih (k + 1) hlt (by omega))
    exact ⟨rfl, rfl, rfl, rfl, rfl, rfl, trivial⟩
  · have : k = ka.length := by simp at hc; omega
    subst this
    have hP : ∀ (h2 : Heap) {V : Ob}, Vw h [] V h2 → (j, .row (flatA (sumTo ka kb t ka.length)) 81 2) ∈ V → KnV h2 (.slice j 0 ka.length (.m 0)) (sumTo ka kb t ka.length) := fun h2 V hh hm =>
      IsCv.knV (L := [(j, .row (flatA (sumTo ka kb t ka.length)) 81 2)]) (.inr ⟨j, .m 0, _, by rw [hn], rfl, AObj.has_row _ _ _, by omega⟩) hh (List.singleton_sublist.2 hm)
    clear ih
    (refine WK.exit ?_; refine WK.seq ?_; refine WK.seq ?_; refine WK.region ?_; refine St.load ?_)
    refine St.call (fun _ => rfl) (fun h hh => check_con h hh.gd _ _ (ea + eb) (hP h hh (by simp)) (by omega)) ?_
    (refine St.bin ?_; refine WO.nil ?_)
    refine St.splitC (fun hc2 => ?_) (fun hc2 => ?_)
    · have hch : chk (sumTo ka kb t ka.length) (ea + eb) ≠ 0 := by simpa using hc2
      rw [sumTo_all] at hch
      (refine WK.seq ?_; refine WK.region ?_; refine St.build ?_; refine St.store2 ?_; refine St.assign ?_; refine WO.nil ?_)
      refine St.ret (by first | exact .tmp .nil | exact .cell .nil | exact .cell (.tmp .nil) | exact .tmp (.tmp .nil) | exact .cell (.cell .nil) | exact .tmp (.cell .nil) | exact .nil | exact .tmp (.cell (.tmp .nil)) | exact .cell (.tmp (.tmp .nil)) | exact .cell (.cell (.tmp .nil)) | exact .tmp (.tmp (.tmp .nil)) | exact .cell (.cell (.cell .nil))) ?_
      rw [if_pos hch]
      exact ⟨[], List.nil_sublist _, .slice0, .inl ⟨rfl, rfl, rfl⟩, rfl⟩
    · have hch : chk (sumTo ka kb t ka.length) (ea + eb) = 0 := by simpa using hc2
      rw [sumTo_all] at hch
      (refine WK.skip ?_; refine WK.seq ?_; refine WK.region ?_; refine St.load ?_; refine St.store2 ?_; refine St.assign ?_; refine WO.nil ?_)
      refine St.ret (by first | exact .tmp .nil | exact .cell .nil | exact .cell (.tmp .nil) | exact .tmp (.tmp .nil) | exact .cell (.cell .nil) | exact .tmp (.cell .nil) | exact .nil | exact .tmp (.cell (.tmp .nil)) | exact .cell (.tmp (.tmp .nil)) | exact .cell (.cell (.tmp .nil)) | exact .tmp (.tmp (.tmp .nil)) | exact .cell (.cell (.cell .nil))) ?_
      rw [if_neg (by simp [hch])]
      refine ⟨[(j, .row (flatA (sumTo ka kb t ka.length)) 81 2)], by (repeat (first | exact List.Sublist.refl _ | exact List.nil_sublist _ | apply List.Sublist.cons_cons | apply List.Sublist.cons)), .slice j 0 ka.length (.m 0), .inr ⟨j, .m 0, _, ?_, rfl, ?_, by simp only [sumK_len]; omega⟩, rfl⟩
      · simp only [sumK_len]
      · simp only
        rw [← sumTo_all]
        exact AObj.has_row _ _ _
set_option maxRecDepth 100000 in
theorem addP_con (h : Heap) (g : Gd h) (kva kvb : AV) (ka kb : List (Int × Int)) (ea eb : Int) (hka : KnV h kva ka) (hkb : KnV h kvb kb) (hla : ka.length ≤ 1000000) (hlb : kb.length ≤ 1000000) :
    ∃ v L, Con Tryz.prog Bs 27 [.agg [kva, .int .i64 ea], .agg [kvb, .int .i64 eb]] h [] v L ∧ SumOut (sumR ka ea kb eb 1) v L := by
  refine Con.subR (Con.startR rfl Tryz.func27 rfl rfl Tryz.ntmps27 rfl rfl (SS.init g) ?_)
  (refine WK.seq ?_; refine WK.region ?_; refine St.box fun _ _ => ?_; refine St.box fun _ _ => ?_; refine St.alloc fun _ _ => ?_; refine St.assign ?_; refine WO.nil ?_; refine WK.seq ?_; refine WK.region ?_; refine St.load ?_; refine St.load ?_)
  refine St.callR (R := SumOut (sumR ka ea kb eb 1)) (fun _ => rfl) (fun h2 hh => combine_con h2 hh.gd kva kvb ka kb ea eb 1 (.inl rfl) (hka.vw hh) (hkb.vw hh) hla hlb) ?_
  rintro v L' ⟨kv, hcv, rfl⟩
  rename_i p hp q hq r hr
  refine WO.permF (L' := [(r, .cells [.slice0, .int .i64 0] 24), (q, .cells [kvb, .int .i64 eb] 24), (p, .cells [kva, .int .i64 ea] 24)] ++ L') List.perm_append_comm ?_
  (refine St.extract ?_; refine St.extract ?_)
  refine St.store0 (hv := store2 rfl hcv.ok rfl) ?_
  (refine St.assign ?_; refine WO.nil ?_)
  refine St.ret (by first | exact .tmp .nil | exact .cell .nil | exact .cell (.tmp .nil) | exact .tmp (.tmp .nil) | exact .cell (.cell .nil) | exact .tmp (.cell .nil) | exact .nil | exact .tmp (.cell (.tmp .nil)) | exact .cell (.tmp (.tmp .nil)) | exact .cell (.cell (.tmp .nil)) | exact .tmp (.tmp (.tmp .nil)) | exact .cell (.cell (.cell .nil))) ?_
  exact ⟨L', by (repeat (first | exact List.Sublist.refl _ | exact List.nil_sublist _ | apply List.Sublist.cons_cons | apply List.Sublist.cons)), kv, hcv, rfl⟩
set_option maxRecDepth 100000 in
theorem minusP_con (h : Heap) (g : Gd h) (kva kvb : AV) (ka kb : List (Int × Int)) (ea eb : Int) (hka : KnV h kva ka) (hkb : KnV h kvb kb) (hla : ka.length ≤ 1000000) (hlb : kb.length ≤ 1000000) :
    ∃ v L, Con Tryz.prog Bs 28 [.agg [kva, .int .i64 ea], .agg [kvb, .int .i64 eb]] h [] v L ∧ SumOut (sumR ka ea kb eb (-1)) v L := by
  refine Con.subR (Con.startR rfl Tryz.func28 rfl rfl Tryz.ntmps28 rfl rfl (SS.init g) ?_)
  (refine WK.seq ?_; refine WK.region ?_; refine St.box fun _ _ => ?_; refine St.box fun _ _ => ?_; refine St.alloc fun _ _ => ?_; refine St.assign ?_; refine WO.nil ?_; refine WK.seq ?_; refine WK.region ?_; refine St.load ?_; refine St.load ?_)
  refine St.callR (R := SumOut (sumR ka ea kb eb (-1))) (fun _ => rfl) (fun h2 hh => combine_con h2 hh.gd kva kvb ka kb ea eb (-1) (.inr rfl) (hka.vw hh) (hkb.vw hh) hla hlb) ?_
  rintro v L' ⟨kv, hcv, rfl⟩
  rename_i p hp q hq r hr
  refine WO.permF (L' := [(r, .cells [.slice0, .int .i64 0] 24), (q, .cells [kvb, .int .i64 eb] 24), (p, .cells [kva, .int .i64 ea] 24)] ++ L') List.perm_append_comm ?_
  (refine St.extract ?_; refine St.extract ?_)
  refine St.store0 (hv := store2 rfl hcv.ok rfl) ?_
  (refine St.assign ?_; refine WO.nil ?_)
  refine St.ret (by first | exact .tmp .nil | exact .cell .nil | exact .cell (.tmp .nil) | exact .tmp (.tmp .nil) | exact .cell (.cell .nil) | exact .tmp (.cell .nil) | exact .nil | exact .tmp (.cell (.tmp .nil)) | exact .cell (.tmp (.tmp .nil)) | exact .cell (.cell (.tmp .nil)) | exact .tmp (.tmp (.tmp .nil)) | exact .cell (.cell (.cell .nil))) ?_
  exact ⟨L', by (repeat (first | exact List.Sublist.refl _ | exact List.nil_sublist _ | apply List.Sublist.cons_cons | apply List.Sublist.cons)), kv, hcv, rfl⟩
end Go.Proofs.YtbhklifflhoinaaGreat
