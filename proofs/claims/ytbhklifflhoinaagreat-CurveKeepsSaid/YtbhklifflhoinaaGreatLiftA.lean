/- How a contract over the calculator's memory is said of the model. -/
import Derived.Test.YtbhklifflhoinaaGreatCl
import Derived.Test.YtbhklifflhoinaaGreatOpen
import Derived.Test.YtbhklifflhoinaaGreatHead
import Derived.Test.YtbhklifflhoinaaGreatShelf
import Derived.Test.YtbhklifflhoinaaGreatSo
import Derived.Test.YtbhklifflhoinaaGreatSk
namespace Go.Proofs.YtbhklifflhoinaaGreat
open Go.RowKit Go.Proofs.YtbhklifflhoinaaGreat.Ev

set_option maxRecDepth 100000 in
theorem szF : sizeT Tryz.prog 43 = some 2 := by kernel_rfl
theorem sortB_sound : SoundC Tryz.prog (inplB 95 sortX fun _ _ _ => .tup []) :=
  inplB_sound (V := fun _ _ _ => .tuple #[]) (Ev.enters_of Tryz.func95 rfl rfl) sortX_len (fun _ _ _ => by simp [VR, VRs]) fun b cap zs w hH hb hz _ =>
    Tryz.slices_Sort_int b 0 cap zs w hH hb (by omega)
theorem compactB_sound : SoundC Tryz.prog (inplB 96 cmpF fun i zs c => .slice i 0 (uniq zs).length c) :=
  inplB_sound (V := fun b cap zs => .slice (some ⟨b, 0, none⟩) (uniq zs).length cap) (Ev.enters_of Tryz.func96 rfl rfl) cmpF_len (fun zs ac hE => by
    simp only [VR]
    exact ⟨_, _, hE, by cases ac <;> rfl⟩) fun b cap zs w hH hb hz hc => by
    refine (Tryz.slices_Compact_int b 0 cap zs w hH (by omega) hc).mono ?_
    rintro e w' ⟨rfl, q, rfl⟩
    exact ⟨rfl, q, #[], by rw [Go.Sort.grow_empty]; rfl⟩
theorem Bs_sound : SoundC Tryz.prog Bs := SoundC.or (sayB_sound (Ev.enters_of Tryz.func6 rfl rfl) head_any) (SoundC.or sortB_sound (SoundC.or compactB_sound sortKB_sound))

/-- a contract whose value is plain -/
theorem lift {f : Nat} {args : List AV} {Args : List Value} {w : World} {v : AV} {V : Value} (hc : Con Tryz.prog Bs f args (absH w) [] v []) (hv : VRs (idE w.heap.size) args Args) (hV : ∀ E U, VR E v U → U = V) :
    Calls Tryz.prog f Args.toArray w fun e w' => e = .returned V ∧ Below w.heap.size w w' := by
  refine (Con.calls (by kernel_rfl) Bs_sound hc hv).mono ?_
  rintro e w' ⟨U, E, rfl, hU, hb⟩
  exact ⟨by rw [hV E U hU], hb⟩

/-- a slice of knots, as the calculator has it -/
theorem kn_abs {w : World} {A : Option Addr} {c : Nat} {ks : List (Int × Int)} (hA : SlOk w A ks.length c) (hk : KnAt w A ks) : ∃ kv, KnV (absH w) kv ks ∧ VR (idE w.heap.size) kv (.slice A ks.length c) := by
  rcases hA with ⟨rfl, h0, rfl⟩ | ⟨b, off, rfl, C, t, fr, hC⟩
  · have : ks = [] := List.length_eq_zero_iff.1 h0
    subst this
    exact ⟨.slice0, .inl ⟨.inl rfl, rfl⟩, by simp [VR]⟩
  · have hb := (Array.getElem?_eq_some_iff.1 hC).1
    refine ⟨.slice b off ks.length (.k c), .inr ⟨b, off, .k c, rfl, fun i hi => ?_, hb, by unfold rowAt; rw [absH_get, hC]; rfl⟩, by simp only [VR]; exact ⟨b, 0, if_pos hb, rfl⟩⟩
    obtain ⟨b', off', e, hb', hc⟩ := hk (by intro h; subst h; simp at hi)
    cases e
    obtain ⟨h1, h2⟩ := hc i hi
    exact ⟨absH_rd h1 rfl, absH_rd h2 rfl, trivial⟩
theorem vr_int {E : Env} {k : IntKind} {n : Int} : VR E (.int k n) (.int k n) := by simp [VR]
theorem vr_agg2 {E : Env} {a b : AV} {x y : Value} (h1 : VR E a x) (h2 : VR E b y) : VR E (.agg [a, b]) (.agg #[x, y]) := by
  simp only [VR]; exact ⟨[x, y], rfl, VRs.cons h1 (VRs.cons h2 VRs.nil)⟩
theorem vrs1 {E : Env} {a : AV} {x : Value} (h1 : VR E a x) : VRs E [a] [x] := VRs.cons h1 VRs.nil
theorem vrs2 {E : Env} {a b : AV} {x y : Value} (h1 : VR E a x) (h2 : VR E b y) : VRs E [a, b] [x, y] := VRs.cons h1 (VRs.cons h2 VRs.nil)
theorem vrs3 {E : Env} {a b c : AV} {x y z : Value} (h1 : VR E a x) (h2 : VR E b y) (h3 : VR E c z) : VRs E [a, b, c] [x, y, z] := VRs.cons h1 (vrs2 h2 h3)
theorem int_of {E : Env} {k : IntKind} {n : Int} {U : Value} (h : VR E (.int k n) U) : U = .int k n := by simpa [VR] using h
theorem avF_of {E : Env} {r : FE} {U : Value} (h : VR E (avF r) U) : U = r.val := by
  unfold avF at h
  simp only [VR, VRs] at h
  obtain ⟨L, rfl, V1, L1, rfl, ⟨M, rfl, V2, L2, rfl, rfl, V3, L3, rfl, rfl, rfl⟩, V4, L4, rfl, rfl, rfl⟩ := h
  rfl
theorem avR_of {E : Env} {r : RE} {U : Value} (h : VR E (avR r) U) : U = r.val := by
  unfold avR at h
  simp only [VR, VRs] at h
  obtain ⟨L, rfl, V1, L1, rfl, ⟨M, rfl, V2, L2, rfl, rfl, V3, L3, rfl, rfl, V5, L5, rfl, rfl, V6, L6, rfl, rfl, rfl⟩, V4, L4, rfl, rfl, rfl⟩ := h
  rfl
set_option maxRecDepth 100000 in
set_option maxHeartbeats 4000000 in
theorem fewB_con (h : Heap) (g : Gd h) (kv : AV) (ks : List (Int × Int)) (err : Int) (hk : KnV h kv ks) : Con Tryz.prog Bs 7 [.agg [kv, .int .i64 err]] h [] (.bool (decide (ks.length ≤ 60))) [] := by
  rcases hk with ⟨rfl | rfl, rfl⟩ | ⟨i, off, c, rfl, hk, _⟩
  · refine Con.start rfl Tryz.func7 rfl rfl Tryz.ntmps7 rfl rfl g ?_
    (refine WK.seq ?_; refine WK.region ?_; refine St.box fun _ _ => ?_; refine St.assign ?_; refine WO.nil ?_; refine WK.seq ?_; refine WK.region ?_; refine St.fieldAddr ?_; refine St.load ?_; refine St.len0 ?_; refine St.bin ?_; refine St.assign ?_; refine WO.nil ?_)
    refine St.ret (by first | exact .tmp .nil | exact .cell .nil | exact .cell (.tmp .nil) | exact .tmp (.tmp .nil) | exact .cell (.cell .nil) | exact .tmp (.cell .nil) | exact .nil | exact .tmp (.cell (.tmp .nil)) | exact .cell (.tmp (.tmp .nil)) | exact .cell (.cell (.tmp .nil)) | exact .tmp (.tmp (.tmp .nil)) | exact .cell (.cell (.cell .nil))) ?_
    rfl
  · refine Con.start rfl Tryz.func7 rfl rfl Tryz.ntmps7 rfl rfl g ?_
    (refine WK.seq ?_; refine WK.region ?_; refine St.box fun _ _ => ?_; refine St.assign ?_; refine WO.nil ?_; refine WK.seq ?_; refine WK.region ?_; refine St.fieldAddr ?_; refine St.load ?_; refine St.lenZ ?_; refine St.bin ?_; refine St.assign ?_; refine WO.nil ?_)
    refine St.ret (by first | exact .tmp .nil | exact .cell .nil | exact .cell (.tmp .nil) | exact .tmp (.tmp .nil) | exact .cell (.cell .nil) | exact .tmp (.cell .nil) | exact .nil | exact .tmp (.cell (.tmp .nil)) | exact .cell (.tmp (.tmp .nil)) | exact .cell (.cell (.tmp .nil)) | exact .tmp (.tmp (.tmp .nil)) | exact .cell (.cell (.cell .nil))) ?_
    rfl
  · refine Con.start rfl Tryz.func7 rfl rfl Tryz.ntmps7 rfl rfl g ?_
    (refine WK.seq ?_; refine WK.region ?_; refine St.box fun _ _ => ?_; refine St.assign ?_; refine WO.nil ?_; refine WK.seq ?_; refine WK.region ?_; refine St.fieldAddr ?_; refine St.load ?_; refine St.len ?_; refine St.bin ?_; refine St.assign ?_; refine WO.nil ?_)
    refine St.ret (by first | exact .tmp .nil | exact .cell .nil | exact .cell (.tmp .nil) | exact .tmp (.tmp .nil) | exact .cell (.cell .nil) | exact .tmp (.cell .nil) | exact .nil | exact .tmp (.cell (.tmp .nil)) | exact .cell (.tmp (.tmp .nil)) | exact .cell (.cell (.tmp .nil)) | exact .tmp (.tmp (.tmp .nil)) | exact .cell (.cell (.cell .nil))) ?_
    simp [oneOf]; omega
theorem headB_con (h : Heap) (g : Gd h) : Con Tryz.prog Bs 6 [] h [] (.bool true) [] := Con.base rfl g
end Go.Proofs.YtbhklifflhoinaaGreat
