/- The reference's At and plus over the calculator's memory. -/
import Derived.Test.YtbhklifflhoinaaGreatCl
namespace Go.Proofs.YtbhklifflhoinaaGreat
open Go.Proofs.YtbhklifflhoinaaGreat.Ev

theorem Vd.up {ks err} (v : Vd ks err) : ∀ i j, i < j → j < ks.length → kx ks i < kx ks j := fun _ _ h h2 => v.klt h h2
set_option maxRecDepth 100000 in
set_option maxHeartbeats 4000000 in
theorem rat_con (h : Heap) (g : Gd h) (b off : Nat) (c : ACap) (ks : List (Int × Int)) (err x : Int) (hk : KnH h b off ks) (v : Vd ks err) (hd : inDom ks x x = true) : Con Tryz.prog Bs 59 [.agg [.slice b off ks.length c, .int .i64 err], .int .i64 x] h [] (.agg [.int .i64 (valN ks x), .int .i64 (valD ks x)]) [] := by
  have hlen : ks.length ≤ 40 := v.le
  have hpos := v.pos
  obtain ⟨d1, d2⟩ : kx ks 0 ≤ x ∧ x ≤ kx ks (ks.length - 1) := by have := hd; simp [inDom] at this; exact this
  obtain ⟨x0, x1⟩ := v.dom hd
  refine Con.start rfl Tryz.func59 rfl rfl Tryz.ntmps59 rfl rfl g ?_
  (refine WK.seq ?_; refine WK.region ?_; refine St.box fun _ _ => ?_; refine St.alloc fun _ _ => ?_; refine WO.nil ?_; refine WK.seq ?_; refine WK.region ?_; refine St.assign ?_; refine WO.nil ?_; refine WK.seq ?_; refine WK.block ?_)
  rename_i p hp q hq
  refine WK.inv (ι := Nat) (fun k => [(1, .int .i64 x), (2, .ptr p 0), (4, .ptr q 0), (5, .int .i64 k)]) (fun _ => [(q, .cells [.int .i64 0, .int .i64 0] 43), (p, .cells [.slice b off ks.length c, .int .i64 err] 24)]) (fun k => k < ks.length ∧ ∀ j, j < k → kx ks j < x) (fun k => ks.length - k) 0 ⟨hpos, fun j hj => by omega⟩ ⟨rfl, rfl, rfl, rfl, trivial⟩ (by (repeat (first | exact List.Sublist.refl _ | exact List.nil_sublist _ | apply List.Sublist.cons_cons | apply List.Sublist.cons))) ?_
  intro k ⟨hlt, hfirst⟩ ih
  (refine WK.seq ?_; refine WK.seq ?_; refine WK.region ?_; refine St.fieldAddr ?_; refine St.load ?_; refine St.move ?_)
  refine St.at ?_
  (refine St.fieldAddr ?_)
  refine St.loadX (fun h hh => ((hk.vw hh).x hlt).one rfl) ?_
  (refine St.move ?_; refine St.bin ?_; refine WO.nil ?_)
  refine St.splitC (fun hc => ?_) (fun hc => ?_)
  · have hless : kx ks k < x := by simpa using hc
    have hk1 : k + 1 < ks.length := by
      by_cases e : k = ks.length - 1
      · rw [← e] at d2; omega
      · omega
    (refine WK.skip ?_; refine WK.block ?_; refine WK.region ?_; refine St.move ?_; refine St.binI ?_; refine St.assign ?_; refine WO.nil ?_; refine WK.blk ?_)
    refine WK.le ?_ (by (repeat (first | exact List.Sublist.refl _ | exact List.nil_sublist _ | apply List.Sublist.cons_cons | apply List.Sublist.cons))) (ih (k + 1) ⟨hk1, fun j hj => ?_⟩ (by omega))
    · exact ⟨rfl, rfl, rfl, rfl, trivial⟩
    · by_cases e : j = k
      · rw [e]; exact hless
      · exact hfirst j (by omega)
  · have hge : x ≤ kx ks k := by simp at hc; omega
    have hF : FirstAt ks x k := ⟨hlt, hge, hfirst⟩
    obtain ⟨q1, q2⟩ := val_first v.up hF d1
    clear ih
    (refine WK.exit ?_; refine WK.seq ?_; refine WK.region ?_; refine St.fieldAddr ?_; refine St.load ?_; refine St.move ?_)
    refine St.at ?_
    refine St.loadX (fun h hh => ((hk.vw hh).knot hlt).agg (by simp) rfl rfl rfl) ?_
    (refine St.alloc fun _ _ => ?_; refine St.store0 ?_; refine WO.nil ?_; refine WK.seq ?_; refine WK.seq ?_; refine WK.region ?_; refine St.fieldAddr ?_; refine St.load ?_; refine St.move ?_; refine St.bin ?_; refine WO.nil ?_)
    refine St.splitC (fun he => ?_) (fun he => ?_)
    · have he : kx ks k = x := by simpa using he
      obtain ⟨r1, r2⟩ := q1 he
      (refine WK.seq ?_; refine WK.region ?_; refine St.fieldAddr ?_; refine St.load ?_; refine St.build ?_; refine St.store1 ?_; refine WO.nil ?_)
      refine St.ret (by first | exact .tmp .nil | exact .cell .nil | exact .cell (.tmp .nil) | exact .tmp (.tmp .nil) | exact .cell (.cell .nil) | exact .tmp (.cell .nil) | exact .nil | exact .tmp (.cell (.tmp .nil)) | exact .cell (.tmp (.tmp .nil)) | exact .cell (.cell (.tmp .nil)) | exact .tmp (.tmp (.tmp .nil)) | exact .cell (.cell (.cell .nil))) ?_
      rw [r1, r2]; rfl
    · have he : kx ks k ≠ x := by simpa using he
      obtain ⟨k0, k1, k2, k3, k4⟩ := q2 he
      have hb := fun i (h : i < ks.length) => And.intro (And.intro (v.kx0 h) (v.kx1 h)) (And.intro (v.ky0 h) (v.ky1 h))
      have hb0 := hb (k - 1) (by omega)
      have hb1 := hb k hlt
      obtain ⟨m1, m2⟩ := mul_bd (a := ky ks (k - 1)) (b := kx ks k - kx ks (k - 1)) (A := 65536) (B := 2000) (by omega) (by omega) (by omega) (by omega)
      obtain ⟨m3, m4⟩ := mul_bd (a := ky ks k - ky ks (k - 1)) (b := x - kx ks (k - 1)) (A := 131072) (B := 2000) (by omega) (by omega) (by omega) (by omega)
      (refine WK.skip ?_; refine WK.seq ?_; refine WK.region ?_; refine St.fieldAddr ?_; refine St.load ?_; refine St.move ?_; refine St.binI ?_)
      refine St.at ?_
      refine St.loadX (fun h hh => ((hk.vw hh).at_ (z := (k : Int) - 1) (n := k - 1) (by omega) (by omega)).agg (by simp) rfl rfl rfl) ?_
      (refine St.alloc fun _ _ => ?_; refine St.store0 ?_; refine WO.nil ?_; refine WK.seq ?_; refine WK.region ?_; refine St.fieldAddr ?_; refine St.load ?_; refine St.fieldAddr ?_; refine St.load ?_; refine St.fieldAddr ?_; refine St.load ?_; refine St.binI ?_; refine St.binI ?_; refine St.fieldAddr ?_; refine St.load ?_; refine St.fieldAddr ?_; refine St.load ?_; refine St.binI ?_; refine St.move ?_; refine St.fieldAddr ?_; refine St.load ?_; refine St.binI ?_; refine St.binI ?_; refine St.binI ?_; refine St.fieldAddr ?_; refine St.load ?_; refine St.fieldAddr ?_; refine St.load ?_; refine St.binI ?_)
      refine St.call (fun _ => rfl) (fun h hh => rlow_con h hh.gd (ky ks (k - 1) * (kx ks k - kx ks (k - 1)) + (ky ks k - ky ks (k - 1)) * (x - kx ks (k - 1))) (kx ks k - kx ks (k - 1)) (by omega) (by omega) (by omega) (by omega)) ?_
      (refine St.store2 ?_; refine WO.nil ?_)
      refine St.ret (by first | exact .tmp .nil | exact .cell .nil | exact .cell (.tmp .nil) | exact .tmp (.tmp .nil) | exact .cell (.cell .nil) | exact .tmp (.cell .nil) | exact .nil | exact .tmp (.cell (.tmp .nil)) | exact .cell (.tmp (.tmp .nil)) | exact .cell (.cell (.tmp .nil)) | exact .tmp (.tmp (.tmp .nil)) | exact .cell (.cell (.cell .nil))) ?_
      rw [k3, k4]; rfl

theorem val_gcd {ks err} (v : Vd ks err) (x : Int) : Int.gcd (valN ks x) (valD ks x) = 1 := lo_gcd (by have := (v.lnOk x x).d1; omega)

end Go.Proofs.YtbhklifflhoinaaGreat
