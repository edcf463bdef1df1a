/- Layer 9: the base is sound (where the seat has rulings). -/
import Derived.Test.YtilpinmbngikgaaGreatRu
import Derived.Test.YtilpinmbngikgaaGreatRw
import Derived.Test.YtilpinmbngikgaaGreatSd
import Derived.Test.YtilpinmbngikgaaGreatSan
import Derived.Test.YtilpinmbngikgaaGreatLa
/- Layer 9: the answer of rulings is sound. -/
namespace Go.Proofs.YtilpinmbngikgaaGreat
open Go.Proofs.YtilpinmbngikgaaGreat.Ev

theorem ERs_tl {E E' : Env} : ∀ {T : List Te} {i : Nat} {Es : List MapEntry}, ERs E (tlE T i) Es → ERs E' (tlE T i) Es
  | [], _, _, h => by simp only [tlE, ERs] at h ⊢; exact h
  | e :: l, i, Es, h => by
    obtain ⟨F, L, rfl, ⟨hk, hv, hb⟩, h2⟩ := h
    refine ⟨F, L, rfl, ⟨?_, ?_, hb⟩, ERs_tl h2⟩
    · simp only [teE, rlC, VR, VRs] at hk ⊢; exact hk
    · simp only [teE, VR] at hv ⊢; exact hv
set_option maxHeartbeats 2000000 in
theorem rulB_sound (hP : Tryz.prog.follows .mixedOrders = true) (hB : SoundC Tryz.prog Bt) : SoundC Tryz.prog rulB := by
  intro g args h v h' e top E W Args k ht hv
  obtain ⟨m, c, T, rfl, hm, hT, hl, rfl, hres⟩ := rulA_eq e
  simp only [VRs] at hv
  obtain ⟨V0, _, rfl, hv0, V1, _, rfl, hv1, rfl⟩ := hv
  obtain ⟨fn, code, hen, hb, hn, nc⟩ := rulings_nc hP hB T hT hl c (soleH (.map (tlE T 0) T.length)) (soleH_gd _) 0 (by rw [soleH_get]; rfl) Nat.zero_lt_one
  refine ⟨fun args w => (enter_run hen args w).1, fun q => ?_⟩
  have k0 : HRw (soleE E m) (soleH (.map (tlE T 0) T.length)) W := k.sole hm fun O hO => by
    obtain ⟨Es, h1, rfl⟩ := hO
    exact ⟨Es, ERs_tl h1, rfl⟩
  have hv' : VRs (soleE E m) [.map 0, .agg [.int .i64 c]] [V0, V1] := by
    refine VRs.cons ?_ (VRs.cons ?_ VRs.nil)
    · simp only [VR] at hv0 ⊢; exact hv0
    · simp only [VR, VRs] at hv1 ⊢; exact hv1
  rw [← hn] at nc
  refine (NC.call (args := [.map 0, .agg [.int .i64 c]]) hen hb nc k0 hv' q).mono ?_
  rintro e w' ⟨v1, g1, L, V, E', ss, hR, rfl, x, kk, hVV⟩
  have hbel := soleH_below x
  obtain ⟨kr, xr⟩ := k.below hbel
  rcases hres with ⟨hn0, rfl, rfl⟩ | ⟨hn0, rfl, rfl⟩
  · rcases hR with ⟨_, rfl⟩ | ⟨j, hj, _⟩
    · exact ⟨V, E, rfl, xr, kr, by simp only [VR] at hVV ⊢; exact hVV⟩
    · rw [hn0, srtT_nil] at hj
      exact absurd hj (by simp)
  · rcases hR with ⟨h0, _⟩ | ⟨j, hj, rfl, hmem⟩
    · have := (srtT_perm (ofT c T)).length_eq
      rw [h0] at this
      simp at this
      omega
    · have o1 := ss.own _ hmem
      obtain ⟨b, cc, O, e1, e2, e3⟩ := (kk 0).obj j _ o1.1
      have hj1 : j ≠ 0 := fun e => by
        subst e
        rcases o1.2.2.2 with h5 | h5
        · exact absurd h5 (by show ¬ (1 ≤ 0); omega)
        · cases h5
      have hb2 : W.heap.size ≤ b := by
        rcases (x.fresh j b cc (by unfold soleE; rw [if_neg hj1]) e1).2.2 with h5 | ⟨q2, d, q3, q4, _⟩
        · exact h5
        · rw [soleH_get] at q4
          split at q4
          · have : 1 ≤ q2 := q3; omega
          · cases q4
      obtain ⟨Z, Lc, X, b', c', r1, rfl, r3, r4, r5, r6⟩ := e3
      rw [e1] at r3
      cases r3
      obtain rfl := VRs.ints_eq r1
      obtain ⟨p1, p2, p3⟩ := k.adopt ht (.row ((flT (srtT (ofT c T))).map (AV.int .i64)) 52 3) _ b cc ⟨Z, _, X, b, cc, VRs.ints _, rfl, if_pos rfl, r4, r5, r6⟩ hb2 e2 hbel
      refine ⟨V, _, rfl, p2, p1, ?_⟩
      simp only [VR] at hVV ⊢
      obtain ⟨b2, c2, e5, rfl⟩ := hVV
      rw [e1] at e5
      cases e5
      exact ⟨b, cc, p3, by rw [(srtT_perm _).length_eq]⟩
end Go.Proofs.YtilpinmbngikgaaGreat

/- Layer 9: what the bases rest on. -/
namespace Go.Proofs.YtilpinmbngikgaaGreat
open Go.Proofs.YtilpinmbngikgaaGreat.Ev

theorem nilRl_sound : SoundC Tryz.prog (nilB 55 (some 56)) :=
  nilB_sound (Ev.enters_of Tryz.func55 rfl rfl) fun w => by
    refine (calls_sound mixed (n := 2000) (f := 55) (args := [.slice0, .fn (.func 56) [] []]) (v := .tup []) (by kernel_rfl) (Args := nilVals (some 56)) ?_ w).mono ?_
    · simp only [nilVals, VRs, VR]
      exact ⟨_, _, rfl, rfl, _, _, rfl, ⟨_, [], [], rfl, rfl, rfl, rfl⟩, rfl⟩
    · rintro e w' ⟨V, E', rfl, hV, hb⟩
      simp only [VR, VRs] at hV
      obtain ⟨L, rfl, rfl⟩ := hV
      exact ⟨rfl, hb⟩
theorem Bt_sound : SoundC Tryz.prog Bt := SoundC.or sortRl_sound nilRl_sound
theorem rulB_ok : SoundC Tryz.prog rulB := rulB_sound mixed Bt_sound
/-- rulings, as a contract -/
theorem rul_con {h : Heap} (g : Gd h) {m : Nat} {T : List Te} (c : Int) (hm : h.get m = some (.map (tlE T 0) T.length)) (hT : ∀ e ∈ T, e.2 < 128) (hl : T.length ≤ 1000) :
    ∃ v L, Con Tryz.prog Bs 24 [.map m, .agg [.int .i64 c]] h [] v L ∧ IsR 52 3 (srtT (ofT c T)).length (enF rlC (srtT (ofT c T))) v L := by
  have hlen := (srtT_perm (ofT c T)).length_eq
  have hrun : ∀ {v : AV} {h' : Heap}, rulA 24 52 24 [.map m, .agg [.int .i64 c]] h = some (v, h') → RunC Tryz.prog Bs 24 [.map m, .agg [.int .i64 c]] h v h' := fun {v h'} e => ⟨noA, fun a => ⟨1, by
    show orR (asR Bs) _ _ _ _ = _
    unfold orR
    have hans : Bs.ans 24 [.map m, .agg [.int .i64 c]] h = some (v, h') := (orB_right rfl).trans e
    rw [show asR Bs (.call 24 [.map m, .agg [.int .i64 c]]) a h = some ⟨.normal, v, noA, h'⟩ from by unfold asR; simp only [hans, Option.map_some]]⟩⟩
  by_cases h0 : (ofT c T).length = 0
  · refine ⟨.slice0, [], ⟨h, hrun ?_, SS.init g⟩, .nil (by omega) ?_⟩
    · unfold rulA
      rw [show Nat.beq 24 24 = true from rfl]
      simp only [cond_true, hm, unTl_mk hT]
      rw [if_pos ⟨trivial, hl⟩, if_pos h0]
    · rw [List.length_eq_zero_iff.1 (by omega : (srtT (ofT c T)).length = 0)]; rfl
  · refine ⟨.slice h.next 0 (ofT c T).length (.m 0), [(h.next, .row ((flT (srtT (ofT c T))).map (AV.int .i64)) 52 3)], ⟨(h.new (.row ((flT (srtT (ofT c T))).map (AV.int .i64)) 52 3)).2, hrun ?_, (SS.init g).new _⟩, ?_⟩
    · unfold rulA
      rw [show Nat.beq 24 24 = true from rfl]
      simp only [cond_true, hm, unTl_mk hT]
      rw [if_pos ⟨trivial, hl⟩, if_neg h0]
    · rw [← hlen, ← enF_flT]
      exact .row h.next (enF_len (enc := rlC) (sz := 3) (fun _ => rfl) _)
end Go.Proofs.YtilpinmbngikgaaGreat

/- Layer 9: the base is sound (where the seat has rulings). -/
namespace Go.Proofs.YtilpinmbngikgaaGreat
open Go.Proofs.YtilpinmbngikgaaGreat.Ev

theorem Bs_sound : SoundC Tryz.prog Bs := SoundC.or (sayB_sound (Ev.enters_of Tryz.func5 rfl rfl) sanity_any) rulB_ok
end Go.Proofs.YtilpinmbngikgaaGreat
