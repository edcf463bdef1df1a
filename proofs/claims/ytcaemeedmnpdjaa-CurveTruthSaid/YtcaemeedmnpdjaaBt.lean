/- Both and Least, the program's, over the calculator's memory. -/
import Derived.Test.YtcaemeedmnpdjaaSh
namespace Go.Proofs.Ytcaemeedmnpdjaa
open Go.Proofs.Ytcaemeedmnpdjaa.Ev

theorem Ev.Rds.fst2 {h : Heap} {b off : Nat} {x y z w : AV} (k : Rds h b off [x, y, z, w]) : Rds h b off [x, y] := ⟨k.1, k.2.1, trivial⟩
theorem Ev.Rds.snd2 {h : Heap} {b off : Nat} {x y z w : AV} (k : Rds h b off [x, y, z, w]) : Rds h b (off + 1 + 1) [z, w] := k.2.2
def enOf (x : Int) (c : Cv) : EnT := ((valN c.ks x + (0 - c.err) * valD c.ks x, valD c.ks x), (valN c.ks x + c.err * valD c.ks x, valD c.ks x))
def bI (es : List EnT) : Nat := bestIx (fun a b => moreF a.1 b.1) ((0, 0), (0, 0)) es es.length
def bJ (es : List EnT) : Nat := bestIx (fun a b => lessF a.2 b.2) ((0, 0), (0, 0)) es es.length
def bothR (l : List Cv) (x : Int) : RE :=
  if sheafErr (l.map Cv.c) x = 0 then
    (if moreF (enAt (l.map (enOf x)) (bI (l.map (enOf x)))).1 (enAt (l.map (enOf x)) (bJ (l.map (enOf x)))).2 = true then ⟨0, 0, 0, 0, 9⟩
     else ⟨(enAt (l.map (enOf x)) (bI (l.map (enOf x)))).1.1, (enAt (l.map (enOf x)) (bI (l.map (enOf x)))).1.2, (enAt (l.map (enOf x)) (bJ (l.map (enOf x)))).2.1, (enAt (l.map (enOf x)) (bJ (l.map (enOf x)))).2.2, 0⟩)
  else ⟨0, 0, 0, 0, sheafErr (l.map Cv.c) x⟩
theorem Vd.enOk {c : Cv} {x : Int} (v : Vd c.ks c.err) (hd : inDom c.ks x x = true) : EnOk (enOf x c) := by
  obtain ⟨d1, d2⟩ := v.dom hd
  have g0 := v.e0
  have g1 := v.e1
  have hf := v.fr (x := x) (by omega) (by omega)
  exact ⟨hf.plus (by omega) (by omega), hf.plus (by omega) (by omega)⟩

set_option maxRecDepth 100000 in
set_option maxHeartbeats 16000000 in
theorem bothP_con (h : Heap) (g : Gd h) (lv : AV) (l : List Cv) (x : Int) (hl : l.length ≤ 1000000) (hk : CvV h lv l) : Con Try.prog Bs 46 [lv, .int .i64 x] h [] (avR (bothR l x)) [] := by
  have hS : ∀ (h2 : Heap) {V : Ob}, Vw h [] V h2 → Con Try.prog Bs 91 [lv] h2 [] (.int .i64 (chkSheaf (l.map Cv.c))) [] := fun h2 V hh => checkSheaf_con h2 hh.gd lv l hl (hk.vw hh)
  by_cases e0 : chkSheaf (l.map Cv.c) = 0
  rotate_left
  · have eb : bothR l x = ⟨0, 0, 0, 0, chkSheaf (l.map Cv.c)⟩ := by
      have : sheafErr (l.map Cv.c) x = chkSheaf (l.map Cv.c) := by unfold sheafErr; rw [if_pos e0]
      unfold bothR
      rw [this, if_neg e0]
    rw [eb]
    refine Con.start rfl Try.func46 rfl rfl Try.ntmps46 rfl rfl g ?_
    (refine WK.seq ?_; refine WK.region ?_; refine St.alloc fun _ _ => ?_; refine St.assign ?_; refine WO.nil ?_; refine WK.seq ?_; refine WK.seq ?_; refine WK.region ?_; refine St.move ?_)
    refine St.call (fun _ => rfl) (fun h2 hh => hS h2 hh) ?_
    (refine St.assign ?_; refine WO.nil ?_; refine WK.seq ?_; refine WK.region ?_; refine St.move ?_; refine St.bin ?_; refine WO.nil ?_)
    refine St.splitC (fun hc => ?_) (fun hc => ?_)
    · (refine WK.seq ?_; refine WK.region ?_; refine St.build ?_; refine St.move ?_; refine St.store0 ?_; refine St.assign ?_; refine WO.nil ?_)
      refine St.ret (by first | exact .tmp .nil | exact .cell .nil | exact .cell (.tmp .nil) | exact .tmp (.tmp .nil) | exact .cell (.cell .nil) | exact .tmp (.cell .nil) | exact .nil | exact .tmp (.cell (.tmp .nil)) | exact .cell (.tmp (.tmp .nil)) | exact .cell (.cell (.tmp .nil)) | exact .tmp (.tmp (.tmp .nil)) | exact .cell (.cell (.cell .nil))) ?_
      rfl
    · simp at hc; exact absurd hc e0
  obtain ⟨hle, hv⟩ := vd_of_sheaf e0
  have hA : ∀ (h2 : Heap) {V : Ob}, Vw h [] V h2 → Con Try.prog Bs 66 [.int .i64 x, lv] h2 [] (.int .i64 (chkOn (l.map Cv.c) x x)) [] := fun h2 V hh => checkAtV_con h2 hh.gd lv l x hl (hk.vw hh) hv
  rw [e0] at hS
  by_cases e1 : chkOn (l.map Cv.c) x x = 0
  rotate_left
  · have eb : bothR l x = ⟨0, 0, 0, 0, chkOn (l.map Cv.c) x x⟩ := by
      have : sheafErr (l.map Cv.c) x = chkOn (l.map Cv.c) x x := by unfold sheafErr; rw [if_neg (by simp [e0]), if_pos e1]
      unfold bothR
      rw [this, if_neg e1]
    rw [eb]
    refine Con.start rfl Try.func46 rfl rfl Try.ntmps46 rfl rfl g ?_
    (refine WK.seq ?_; refine WK.region ?_; refine St.alloc fun _ _ => ?_; refine St.assign ?_; refine WO.nil ?_; refine WK.seq ?_; refine WK.seq ?_; refine WK.region ?_; refine St.move ?_)
    refine St.call (fun _ => rfl) (fun h2 hh => hS h2 hh) ?_
    (refine St.assign ?_; refine WO.nil ?_; refine WK.seq ?_; refine WK.region ?_; refine St.move ?_; refine St.bin ?_; refine WO.nil ?_; refine WK.condF ?_; refine WK.skip ?_; refine WK.seq ?_; refine WK.seq ?_; refine WK.region ?_; refine St.move ?_; refine St.move ?_)
    refine St.call (fun _ => rfl) (fun h2 hh => hA h2 hh) ?_
    (refine St.assign ?_; refine WO.nil ?_; refine WK.seq ?_; refine WK.region ?_; refine St.move ?_; refine St.bin ?_; refine WO.nil ?_)
    refine St.splitC (fun hc => ?_) (fun hc => ?_)
    · (refine WK.seq ?_; refine WK.region ?_; refine St.build ?_; refine St.move ?_; refine St.store0 ?_; refine St.assign ?_; refine WO.nil ?_)
      refine St.ret (by first | exact .tmp .nil | exact .cell .nil | exact .cell (.tmp .nil) | exact .tmp (.tmp .nil) | exact .cell (.cell .nil) | exact .tmp (.cell .nil) | exact .nil | exact .tmp (.cell (.tmp .nil)) | exact .cell (.tmp (.tmp .nil)) | exact .cell (.cell (.tmp .nil)) | exact .tmp (.tmp (.tmp .nil)) | exact .cell (.cell (.cell .nil))) ?_
      rfl
    · simp at hc; exact absurd hc e1
  rw [e1] at hA
  have hd := sheaf_dom e1
  by_cases e2 : l.length = 0
  · obtain rfl : l = [] := List.length_eq_zero_iff.1 e2
    rcases hk with ⟨rfl, _⟩ | ⟨b, off, c, rfl, hk⟩
    · refine Con.start rfl Try.func46 rfl rfl Try.ntmps46 rfl rfl g ?_
      (refine WK.seq ?_; refine WK.region ?_; refine St.alloc fun _ _ => ?_; refine St.assign ?_; refine WO.nil ?_; refine WK.seq ?_; refine WK.seq ?_; refine WK.region ?_; refine St.move ?_)
      refine St.call (fun _ => rfl) (fun h2 hh => hS h2 hh) ?_
      (refine St.assign ?_; refine WO.nil ?_; refine WK.seq ?_; refine WK.region ?_; refine St.move ?_; refine St.bin ?_; refine WO.nil ?_; refine WK.condF ?_; refine WK.skip ?_; refine WK.seq ?_; refine WK.seq ?_; refine WK.region ?_; refine St.move ?_; refine St.move ?_)
      refine St.call (fun _ => rfl) (fun h2 hh => hA h2 hh) ?_
      (refine St.assign ?_; refine WO.nil ?_; refine WK.seq ?_; refine WK.region ?_; refine St.move ?_; refine St.bin ?_; refine WO.nil ?_; refine WK.condF ?_; refine WK.skip ?_; refine WK.seq ?_; refine WK.seq ?_; refine WK.region ?_; refine St.move ?_; refine St.len0 ?_; refine St.bin ?_; refine WO.nil ?_; refine WK.condT ?_; refine WK.seq ?_; refine WK.region ?_; refine St.build ?_; refine St.store0 ?_; refine St.assign ?_; refine WO.nil ?_)
      refine St.ret (by first | exact .tmp .nil | exact .cell .nil | exact .cell (.tmp .nil) | exact .tmp (.tmp .nil) | exact .cell (.cell .nil) | exact .tmp (.cell .nil) | exact .nil | exact .tmp (.cell (.tmp .nil)) | exact .cell (.tmp (.tmp .nil)) | exact .cell (.cell (.tmp .nil)) | exact .tmp (.tmp (.tmp .nil)) | exact .cell (.cell (.cell .nil))) ?_
      have : bothR [] x = ⟨0, 0, 0, 0, 5⟩ := by simp [bothR, sheafErr, chkSheaf, chkL, chkOn, covL]
      rw [this]
      rfl
    · refine Con.start rfl Try.func46 rfl rfl Try.ntmps46 rfl rfl g ?_
      (refine WK.seq ?_; refine WK.region ?_; refine St.alloc fun _ _ => ?_; refine St.assign ?_; refine WO.nil ?_; refine WK.seq ?_; refine WK.seq ?_; refine WK.region ?_; refine St.move ?_)
      refine St.call (fun _ => rfl) (fun h2 hh => hS h2 hh) ?_
      (refine St.assign ?_; refine WO.nil ?_; refine WK.seq ?_; refine WK.region ?_; refine St.move ?_; refine St.bin ?_; refine WO.nil ?_; refine WK.condF ?_; refine WK.skip ?_; refine WK.seq ?_; refine WK.seq ?_; refine WK.region ?_; refine St.move ?_; refine St.move ?_)
      refine St.call (fun _ => rfl) (fun h2 hh => hA h2 hh) ?_
      (refine St.assign ?_; refine WO.nil ?_; refine WK.seq ?_; refine WK.region ?_; refine St.move ?_; refine St.bin ?_; refine WO.nil ?_; refine WK.condF ?_; refine WK.skip ?_; refine WK.seq ?_; refine WK.seq ?_; refine WK.region ?_; refine St.move ?_; refine St.len ?_; refine St.bin ?_; refine WO.nil ?_; refine WK.condT ?_; refine WK.seq ?_; refine WK.region ?_; refine St.build ?_; refine St.store0 ?_; refine St.assign ?_; refine WO.nil ?_)
      refine St.ret (by first | exact .tmp .nil | exact .cell .nil | exact .cell (.tmp .nil) | exact .tmp (.tmp .nil) | exact .cell (.cell .nil) | exact .tmp (.cell .nil) | exact .nil | exact .tmp (.cell (.tmp .nil)) | exact .cell (.tmp (.tmp .nil)) | exact .cell (.cell (.tmp .nil)) | exact .tmp (.tmp (.tmp .nil)) | exact .cell (.cell (.cell .nil))) ?_
      have : bothR [] x = ⟨0, 0, 0, 0, 5⟩ := by simp [bothR, sheafErr, chkSheaf, chkL, chkOn, covL]
      rw [this]
      rfl
  obtain ⟨b, off, c, rfl, hk'⟩ := hk.ne (by omega)
  have eE : sheafErr (l.map Cv.c) x = 0 := by unfold sheafErr; rw [if_neg (by simp [e0]), if_neg (by simp [e1]), if_neg (by simpa using e2)]
  have hen : ∀ i, i < l.length → EnOk (enAt (l.map (enOf x)) i) := fun i hi => by
    have : enAt (l.map (enOf x)) i = enOf x l[i] := by simp [enAt, hi]
    rw [this]
    exact (hv i hi).enOk (hd i hi)
  refine Con.start rfl Try.func46 rfl rfl Try.ntmps46 rfl rfl g ?_
  (refine WK.seq ?_; refine WK.region ?_; refine St.alloc fun _ _ => ?_; refine St.assign ?_; refine WO.nil ?_; refine WK.seq ?_; refine WK.seq ?_; refine WK.region ?_; refine St.move ?_)
  refine St.call (fun _ => rfl) (fun h2 hh => hS h2 hh) ?_
  (refine St.assign ?_; refine WO.nil ?_; refine WK.seq ?_; refine WK.region ?_; refine St.move ?_; refine St.bin ?_; refine WO.nil ?_; refine WK.condF ?_; refine WK.skip ?_; refine WK.seq ?_; refine WK.seq ?_; refine WK.region ?_; refine St.move ?_; refine St.move ?_)
  refine St.call (fun _ => rfl) (fun h2 hh => hA h2 hh) ?_
  (refine St.assign ?_; refine WO.nil ?_; refine WK.seq ?_; refine WK.region ?_; refine St.move ?_; refine St.bin ?_; refine WO.nil ?_; refine WK.condF ?_; refine WK.skip ?_; refine WK.seq ?_; refine WK.seq ?_; refine WK.region ?_; refine St.move ?_; refine St.len ?_; refine St.bin ?_; refine WO.nil ?_)
  refine St.splitC (fun hc => ?_) (fun hc => ?_)
  · simp at hc; exact absurd (by rw [hc]; rfl) e2
  (refine WK.skip ?_; refine WK.seq ?_; refine WK.region ?_; refine St.assign ?_; refine WO.nil ?_; refine WK.seq ?_; refine WK.seq ?_; refine WK.region ?_; refine St.move ?_; refine St.len ?_; refine St.move ?_; refine WO.nil ?_; refine WK.block ?_)
  rename_i r hr
  refine WK.inv (ι := Nat × AV × Ob) (fun z => [(1, .int .i64 x), (4, .ptr r 0), (8, z.2.1), (29, .slice b off l.length c), (30, .int .i64 l.length), (31, .int .i64 z.1)]) (fun z => (r, .cells [.int .i64 0, .int .i64 0, .int .i64 0, .int .i64 0] 41) :: z.2.2)
    (fun z => z.1 ≤ l.length ∧ IsL 93 4 z.1 (flatE ((l.take z.1).map (enOf x))) z.2.1 z.2.2) (fun z => l.length - z.1) (0, .slice0, [])
    ⟨by simp, .nil rfl rfl⟩ ⟨rfl, rfl, rfl, rfl, rfl, rfl, trivial⟩ (by (repeat (first | exact List.Sublist.refl _ | exact List.nil_sublist _ | apply List.Sublist.cons_cons | apply List.Sublist.cons))) ?_
  rintro ⟨k, w, Lw⟩ ⟨hkl, hw⟩ ih
  simp only at hkl hw ih ⊢
  (refine WK.seq ?_; refine WK.region ?_; refine St.bin ?_; refine WO.nil ?_; refine WK.seq ?_)
  refine St.splitC (fun hc => ?_) (fun hc => ?_)
  · have hlt : k < l.length := by simp at hc; omega
    have v := hv k hlt
    obtain ⟨d1, d2⟩ := v.dom (hd k hlt)
    obtain ⟨b2, off2, c2, f2, hk2⟩ := (hk' k hlt).2.1.ne v.ne
    have e3 : flatE ((l.take (k + 1)).map (enOf x)) = flatE ((l.take k).map (enOf x)) ++ [.int .i64 (valN (l[k]'hlt).ks x + (0 - (l[k]'hlt).err) * valD (l[k]'hlt).ks x), .int .i64 (valD (l[k]'hlt).ks x), .int .i64 (valN (l[k]'hlt).ks x + (l[k]'hlt).err * valD (l[k]'hlt).ks x), .int .i64 (valD (l[k]'hlt).ks x)] := by
      rw [List.take_succ_eq_append_getElem hlt, List.map_append]
      exact flatE_snoc _ _
    (refine WK.skip ?_; refine WK.seq ?_; refine WK.block ?_; refine WK.seq ?_; refine WK.region ?_)
    refine St.at ?_
    skip
    refine St.loadX (fun h hh => ((hk'.vw hh).at_ (z := (k : Int)) (n := k) (by omega) hlt).agg (by simp) rfl rfl rfl) ?_
    rw [f2]
    (refine St.alloc fun _ _ => ?_; refine St.store0 ?_; refine WO.nil ?_; refine WK.region ?_; refine St.move ?_; refine St.load ?_; refine St.move ?_)
    refine St.call (v := .agg [.int .i64 (valN (l[k]'hlt).ks x + (0 - (l[k]'hlt).err) * valD (l[k]'hlt).ks x), .int .i64 (valD (l[k]'hlt).ks x), .int .i64 (valN (l[k]'hlt).ks x + (l[k]'hlt).err * valD (l[k]'hlt).ks x), .int .i64 (valD (l[k]'hlt).ks x)]) (fun _ => rfl) (fun h hh => around_con h hh.gd b2 off2 c2 (l[k]'hlt).ks (l[k]'hlt).err x v (hk2.vw hh) (by omega) (by omega)) ?_
    (refine St.mkS fun _ _ => ?_)
    rename_i y hy i2 hi2
    refine St.appL (new := [.int .i64 (valN (l[k]'hlt).ks x + (0 - (l[k]'hlt).err) * valD (l[k]'hlt).ks x), .int .i64 (valD (l[k]'hlt).ks x), .int .i64 (valN (l[k]'hlt).ks x + (l[k]'hlt).err * valD (l[k]'hlt).ks x), .int .i64 (valD (l[k]'hlt).ks x)]) (Lk := [(i2, .cells [.int .i64 (valN (l[k]'hlt).ks x + (0 - (l[k]'hlt).err) * valD (l[k]'hlt).ks x), .int .i64 (valD (l[k]'hlt).ks x), .int .i64 (valN (l[k]'hlt).ks x + (l[k]'hlt).err * valD (l[k]'hlt).ks x), .int .i64 (valD (l[k]'hlt).ks x)] 93), (y, .cells [.slice b2 off2 (l[k]'hlt).ks.length c2, .int .i64 (l[k]'hlt).err] 33), (r, .cells [.int .i64 0, .int .i64 0, .int .i64 0, .int .i64 0] 41)]) hw List.perm_append_comm (fun w3 Lw3 hw3 => ?_) ⟨rfl, rfl, rfl, rfl, rfl, rfl, rfl, rfl, rfl, rfl, rfl, rfl⟩ (List.Mem.head _) rfl (by omega) (by omega)
    refine WO.permF (L' := [(r, .cells [.int .i64 0, .int .i64 0, .int .i64 0, .int .i64 0] 41)] ++ ([(i2, .cells [.int .i64 (valN (l[k]'hlt).ks x + (0 - (l[k]'hlt).err) * valD (l[k]'hlt).ks x), .int .i64 (valD (l[k]'hlt).ks x), .int .i64 (valN (l[k]'hlt).ks x + (l[k]'hlt).err * valD (l[k]'hlt).ks x), .int .i64 (valD (l[k]'hlt).ks x)] 93), (y, .cells [.slice b2 off2 (l[k]'hlt).ks.length c2, .int .i64 (l[k]'hlt).err] 33)] ++ Lw3)) (List.Perm.trans (by (repeat (first | exact List.Perm.refl _ | refine perm_at 0 rfl ?_ | refine perm_at 1 rfl ?_ | refine perm_at 2 rfl ?_ | refine perm_at 3 rfl ?_ | refine perm_at 4 rfl ?_ | refine perm_at 5 rfl ?_ | refine perm_at 6 rfl ?_ | refine perm_at 7 rfl ?_ | refine perm_at 8 rfl ?_ | refine perm_at 9 rfl ?_))) (List.perm_append_comm (l₁ := [(i2, _), (y, _), (r, _)]))) ?_
    (refine St.assign ?_; refine WO.nil ?_; refine WK.blk ?_; refine WK.region ?_; refine St.binI ?_; refine St.move ?_; refine WO.nil ?_)
    refine WK.le ?_ (by (repeat (first | exact List.Sublist.refl _ | exact List.nil_sublist _ | apply List.Sublist.cons_cons | apply List.Sublist.cons))) (ih (k + 1, w3, Lw3) ⟨hlt, ?_⟩ (by simp only; omega))
    · exact ⟨rfl, rfl, rfl, rfl, rfl, rfl, trivial⟩
    · simp only
      rw [e3]
      exact hw3
  · have : k = l.length := by simp at hc; omega
    subst this
    rw [List.take_length] at hw
    obtain ⟨i, c1, o, rfl, rfl, ho, -⟩ := hw.ne (by omega)
    have hlen : (l.map (enOf x)).length = l.length := by simp
    have b1 : bI (l.map (enOf x)) < l.length := by
      have := bestIx_lt (fun a b : EnT => moreF a.1 b.1) ((0, 0), (0, 0)) (l.map (enOf x)) (k := (l.map (enOf x)).length) (by omega) (by omega)
      rw [hlen] at this
      unfold bI
      rw [hlen]
      exact this
    have b2 : bJ (l.map (enOf x)) < l.length := by
      have := bestIx_lt (fun a b : EnT => lessF a.2 b.2) ((0, 0), (0, 0)) (l.map (enOf x)) (k := (l.map (enOf x)).length) (by omega) (by omega)
      rw [hlen] at this
      unfold bJ
      rw [hlen]
      exact this
    have hM : ∀ (h2 : Heap) {V : Ob}, Vw h [] V h2 → (i, o) ∈ V → Con Try.prog Bs 92 [.slice i 0 l.length c1, .fn (.func 93) [] []] h2 [] (.int .i64 (bI (l.map (enOf x)))) [] := fun h2 V hh hm => by
      have := foremostE_con h2 hh.gd i 0 c1 (l.map (enOf x)) 93 (fun a b => moreF a.1 b.1) (by omega) (hh.ens hm ho) (fun i j hi hj h' hg => both1_con h' hg _ _ (hen i (by omega)) (hen j (by omega)))
      rw [hlen] at this
      unfold bI
      rw [hlen]
      exact this
    have hL : ∀ (h2 : Heap) {V : Ob}, Vw h [] V h2 → (i, o) ∈ V → Con Try.prog Bs 92 [.slice i 0 l.length c1, .fn (.func 94) [] []] h2 [] (.int .i64 (bJ (l.map (enOf x)))) [] := fun h2 V hh hm => by
      have := foremostE_con h2 hh.gd i 0 c1 (l.map (enOf x)) 94 (fun a b => lessF a.2 b.2) (by omega) (hh.ens hm ho) (fun i j hi hj h' hg => both2_con h' hg _ _ (hen i (by omega)) (hen j (by omega)))
      rw [hlen] at this
      unfold bJ
      rw [hlen]
      exact this
    have o1 := (hen _ b1).l
    have o2 := (hen _ b2).h
    (refine WK.exit ?_; refine WK.seq ?_; refine WK.regionD ?_; refine St.move ?_; refine St.move ?_)
    refine St.call (fun _ => rfl) (fun h2 hh => hM h2 hh (by simp)) ?_
    skip
    refine St.at ?_
    (refine St.atA ?_)
    refine St.loadX (fun h2 hh => ((hh.ens (es := l.map (enOf x)) (j := i) (o := o) (by simp) ho).at_ (z := (bI (l.map (enOf x)) : Int)) (n := bI (l.map (enOf x))) (by omega) (by omega)).fst2.agg (by simp) rfl rfl rfl) ?_
    (refine St.move ?_; refine St.move ?_)
    refine St.call (fun _ => rfl) (fun h2 hh => hL h2 hh (by simp)) ?_
    skip
    refine St.at ?_
    (refine St.atA ?_)
    refine St.loadX (fun h2 hh => ((hh.ens (es := l.map (enOf x)) (j := i) (o := o) (by simp) ho).at_ (z := (bJ (l.map (enOf x)) : Int)) (n := bJ (l.map (enOf x))) (by omega) (by omega)).snd2.agg (by simp) rfl rfl rfl) ?_
    (refine St.build ?_; refine StD.alloc fun _ _ => ?_; refine StD.storeT ?_; refine WO.nil1 ?_; refine WK.seq ?_; refine WK.seq ?_; refine WK.region ?_; refine St.atA ?_; refine St.load ?_; refine St.atA ?_; refine St.load ?_)
    refine St.call (fun _ => rfl) (fun h2 hh => isMore_con h2 hh.gd _ _ _ _ o1 o2) ?_
    (refine WO.nil ?_)
    refine St.splitC (fun hc2 => ?_) (fun hc2 => ?_)
    · (refine WK.seq ?_; refine WK.region ?_; refine St.build ?_; refine St.store1 ?_; refine St.assign ?_; refine WO.nil ?_)
      refine St.ret (by first | exact .tmp .nil | exact .cell .nil | exact .cell (.tmp .nil) | exact .tmp (.tmp .nil) | exact .cell (.cell .nil) | exact .tmp (.cell .nil) | exact .nil | exact .tmp (.cell (.tmp .nil)) | exact .cell (.tmp (.tmp .nil)) | exact .cell (.cell (.tmp .nil)) | exact .tmp (.tmp (.tmp .nil)) | exact .cell (.cell (.cell .nil))) ?_
      unfold bothR
      rw [if_pos eE, if_pos hc2]
      rfl
    · (refine WK.skip ?_; refine WK.seq ?_; refine WK.region ?_; refine St.load ?_)
      refine St.call (fun _ => rfl) (fun h2 hh => asRange_con h2 hh.gd _ _ _ _) ?_
      (refine St.store1 ?_; refine St.assign ?_; refine WO.nil ?_)
      refine St.ret (by first | exact .tmp .nil | exact .cell .nil | exact .cell (.tmp .nil) | exact .tmp (.tmp .nil) | exact .cell (.cell .nil) | exact .tmp (.cell .nil) | exact .nil | exact .tmp (.cell (.tmp .nil)) | exact .cell (.tmp (.tmp .nil)) | exact .cell (.cell (.tmp .nil)) | exact .tmp (.tmp (.tmp .nil)) | exact .cell (.cell (.cell .nil))) ?_
      unfold bothR
      rw [if_pos eE, if_neg (by simpa using hc2)]
      rfl
end Go.Proofs.Ytcaemeedmnpdjaa
