/- Layer 5: the program's newNetwork. -/
import Derived.Test.YtjlpoomjgidgaaaGd
import Derived.Test.YtjlpoomjgidgaaaNp
namespace Go.Proofs.Ytjlpoomjgidgaaa
open Go.Proofs.Ytjlpoomjgidgaaa.Ev

def edC (e : Ed) : List AV := [.int .i64 e.id, .int .i64 e.fr, .int .i64 e.to, .int .i64 e.lo, .int .i64 e.hi, .int .i64 e.a, .int .i64 e.b, .int .i64 e.fl]
theorem inC_len (n : Int) : (inC n).length = 1 := rfl
theorem edC_len (e : Ed) : (edC e).length = 8 := rfl
abbrev OwE (l : List Ed) (v : AV) (L : Ob) : Prop := IsR 88 8 l.length (enF edC l) v L
abbrev OwI (l : List Int) (v : AV) (L : Ob) : Prop := IsR 3 1 l.length (enF inC l) v L
theorem OwE.snoc (l : List Ed) (e : Ed) (j : Nat) : OwE (l ++ [e]) (.slice j 0 (l.length + 1) (.m 0)) [(j, .row (enF edC l ++ edC e) 88 8)] := by
  unfold OwE
  rw [enF_app, enF_one, List.length_append]
  exact .row j (by rw [List.length_append, enF_len edC_len, edC_len, List.length_singleton, Nat.add_mul])
theorem OwI.snoc (l : List Int) (e : Int) (j : Nat) : OwI (l ++ [e]) (.slice j 0 (l.length + 1) (.m 0)) [(j, .row (enF inC l ++ inC e) 3 1)] := by
  unfold OwI
  rw [enF_app, enF_one, List.length_append]
  exact .row j (by rw [List.length_append, enF_len inC_len, inC_len, List.length_singleton, Nat.add_mul])
set_option maxRecDepth 100000 in
set_option maxHeartbeats 32000000 in
theorem network_con (h : Heap) (g : Gd h) (hv mv : AV) (hs : List Ho) (ms : List Mv) (hh : HoV h hv hs) (hm : MvV h mv ms) (hl1 : hs.length ≤ 1000) (hl2 : ms.length ≤ 1000) :
    ∃ u L, Con Try.prog Bs 26 [.agg [hv, mv]] h [] u L ∧ ∃ p vi ve Li Le, u = .ptr p 0 ∧ L = (p, .cells [vi, ve] 91) :: (Li ++ Le) ∧ OwI (hids hs) vi Li ∧ OwE (edges hs ms) ve Le := by
  refine Con.subG (Con.startR rfl Try.func26 rfl rfl Try.ntmps26 rfl rfl (SS.init g) ?_)
  (refine WK.seq ?_; refine WK.region ?_; refine St.box fun _ _ => ?_; refine St.assign ?_; refine WO.nil ?_; refine WK.seq ?_; refine WK.region ?_; refine St.build ?_; refine St.box fun _ _ => ?_; refine St.assign ?_; refine WO.nil ?_; refine WK.seq ?_; refine WK.seq ?_; refine WK.region ?_; refine St.fieldAddr ?_; refine St.load ?_)
  rename_i p1 hp1 p3 hp3
  refine St.lenG rfl hh.hlen ?_
  (refine St.move ?_; refine WO.nil ?_; refine WK.block ?_)
  refine WK.inv (ι := Nat × AV × AV × Ob × Ob) (fun z => [(1, .ptr p1 0), (3, .ptr p3 0), (14, hv), (15, .int .i64 hs.length), (16, .int .i64 z.1)]) (fun z => (p3, .cells [z.2.1, z.2.2.1] 91) :: (p1, .cells [hv, mv] 25) :: (z.2.2.2.1 ++ z.2.2.2.2)) (fun z => z.1 ≤ hs.length ∧ OwI ((hids hs).take z.1) z.2.1 z.2.2.2.1 ∧ OwE (stTo hs z.1) z.2.2.1 z.2.2.2.2) (fun z => hs.length - z.1) (0, .slice0, .slice0, [], []) ⟨Nat.zero_le _, .nil rfl rfl, .nil rfl rfl⟩ ⟨rfl, rfl, rfl, rfl, rfl, trivial⟩ (by exact List.Sublist.refl _) ?_
  rintro ⟨k, vi, ve, Li, Le⟩ ⟨hkl, hwi, hwe⟩ ih
  simp only at hkl hwi hwe ih ⊢
  (refine WK.seq ?_; refine WK.region ?_; refine St.bin ?_; refine WO.nil ?_; refine WK.seq ?_)
  refine St.splitC (fun hc => ?_) (fun hc => ?_)
  · have hlt : k < hs.length := by simp at hc; omega
    have hh' := hh
    obtain ⟨b, off, c, rfl, hk⟩ := hh'.ne (by omega)
    (refine WK.skip ?_; refine WK.seq ?_; refine WK.block ?_; refine WK.seq ?_; refine WK.region ?_; refine St.move ?_)
    refine St.at ?_
    refine St.loadX (fun h2 hh2 => ((hk.vw hh2).at_ (z := (k : Int)) (n := k) (by omega) hlt).agg (by simp [hoC]) rfl rfl rfl) ?_
    (refine St.alloc fun _ _ => ?_; refine St.assign ?_; refine St.store0 ?_; refine WO.nil ?_; refine WK.seq ?_; refine WK.regionD ?_; refine St.move ?_; refine St.move ?_; refine St.nilP ?_; refine St.fieldAddr ?_; refine St.load ?_; refine St.fieldAddr ?_; refine St.load ?_; refine StD.mkS fun _ _ => ?_)
    rename_i p5 hp5 i2 hi2
    have hkd : (hids hs).take (k + 1) = (hids hs).take k ++ [(nthE hs k).id] := hids_succ hlt
    have hli : ((hids hs).take k).length = k := by rw [List.length_take, hids_len]; omega
    have hle := stTo_len hs k
    refine StD.appL (e := 3) (sz := 1) (new := inC (nthE hs k).id) (Lk := (p5, .cells (hoC (nthE hs k)) 69) :: (p3, .cells [vi, ve] 91) :: (p1, .cells [.slice b off hs.length c, mv] 25) :: Le) hwi ?_ (fun j' hj' => ?_) ⟨rfl, rfl, rfl, rfl, rfl, rfl, rfl, rfl, rfl, rfl, rfl, rfl⟩ (List.Mem.head _) rfl (by omega) (by omega)
    · show List.Perm (Li ++ (p5, .cells (hoC (nthE hs k)) 69) :: (p3, .cells [vi, ve] 91) :: (p1, .cells [.slice b off hs.length c, mv] 25) :: Le : Ob) ((p5, .cells (hoC (nthE hs k)) 69) :: (p3, .cells [vi, ve] 91) :: (p1, .cells [.slice b off hs.length c, mv] 25) :: (Li ++ Le))
      (refine perm_cnt fun _ _ => ?_; simp only [List.append_eq, List.cons_append, List.nil_append, List.count_append, List.count_cons, List.count_nil, Nat.add_zero, Nat.zero_add]; try ac_rfl)
    (refine St.nilP ?_; refine St.fieldAddr ?_; refine StD.store1 ?_; refine WO.nil2 ?_; refine WK.regionD ?_; refine St.move ?_; refine St.move ?_; refine St.nilP ?_; refine St.fieldAddr ?_; refine St.load ?_; refine St.fieldAddr ?_; refine St.load ?_; refine St.fieldAddr ?_; refine St.load ?_; refine St.build ?_; refine St.move ?_; refine St.binI ?_; refine St.build ?_; refine St.build ?_; refine StD.mkS fun _ _ => ?_)
    rename_i i3 hi3
    refine StD.appL (e := 88) (sz := 8) (new := edC (eSt k (nthE hs k))) (Lk := (j', .row (enF inC ((hids hs).take k) ++ inC (nthE hs k).id) 3 1) :: (i2, .cells (inC (nthE hs k).id) 3) :: (p5, .cells (hoC (nthE hs k)) 69) :: (p3, .cells [(.slice j' 0 (((hids hs).take k).length + 1) (.m 0)), ve] 91) :: (p1, .cells [.slice b off hs.length c, mv] 25) :: []) hwe ?_ (fun j2 hj2 => ?_) ⟨rfl, rfl, rfl, rfl, rfl, rfl, rfl, rfl, rfl, rfl, rfl, rfl⟩ (List.Mem.head _) rfl (by omega) (by omega)
    · show List.Perm (Le ++ ((j', .row (enF inC ((hids hs).take k) ++ inC (nthE hs k).id) 3 1) :: (i2, .cells (inC (nthE hs k).id) 3) :: (p5, .cells (hoC (nthE hs k)) 69) :: (p3, .cells [(.slice j' 0 (((hids hs).take k).length + 1) (.m 0)), ve] 91) :: (p1, .cells [.slice b off hs.length c, mv] 25) :: []) : Ob) ((j', .row (enF inC ((hids hs).take k) ++ inC (nthE hs k).id) 3 1) :: (i2, .cells (inC (nthE hs k).id) 3) :: (p5, .cells (hoC (nthE hs k)) 69) :: (p3, .cells [(.slice j' 0 (((hids hs).take k).length + 1) (.m 0)), ve] 91) :: (p1, .cells [.slice b off hs.length c, mv] 25) :: Le)
      (refine perm_cnt fun _ _ => ?_; simp only [List.append_eq, List.cons_append, List.nil_append, List.count_append, List.count_cons, List.count_nil, Nat.add_zero, Nat.zero_add]; try ac_rfl)
    (refine St.nilP ?_; refine St.fieldAddr ?_; refine StD.store3 ?_; refine WO.nil2 ?_; refine WK.blk ?_; refine WK.region ?_; refine St.binI ?_; refine St.move ?_; refine WO.nil ?_)
    refine WK.perm (L' := (i3, .cells (edC (eSt k (nthE hs k))) 88) :: (i2, .cells (inC (nthE hs k).id) 3) :: (p5, .cells (hoC (nthE hs k)) 69) :: (p3, .cells [(.slice j' 0 (((hids hs).take k).length + 1) (.m 0)), (.slice j2 0 ((stTo hs k).length + 1) (.m 0))] 91) :: (p1, .cells [.slice b off hs.length c, mv] 25) :: ((j', .row (enF inC ((hids hs).take k) ++ inC (nthE hs k).id) 3 1) :: [] ++ ((j2, .row (enF edC (stTo hs k) ++ edC (eSt k (nthE hs k))) 88 8) :: []))) ?_ ?_
    · show List.Perm ((i3, .cells (edC (eSt k (nthE hs k))) 88) :: (i2, .cells (inC (nthE hs k).id) 3) :: (p5, .cells (hoC (nthE hs k)) 69) :: (p3, .cells [(.slice j' 0 (((hids hs).take k).length + 1) (.m 0)), (.slice j2 0 ((stTo hs k).length + 1) (.m 0))] 91) :: (p1, .cells [.slice b off hs.length c, mv] 25) :: ((j', .row (enF inC ((hids hs).take k) ++ inC (nthE hs k).id) 3 1) :: [] ++ ((j2, .row (enF edC (stTo hs k) ++ edC (eSt k (nthE hs k))) 88 8) :: [])) : Ob) ((j2, .row (enF edC (stTo hs k) ++ edC (eSt k (nthE hs k))) 88 8) :: (i3, .cells (edC (eSt k (nthE hs k))) 88) :: (j', .row (enF inC ((hids hs).take k) ++ inC (nthE hs k).id) 3 1) :: (i2, .cells (inC (nthE hs k).id) 3) :: (p5, .cells (hoC (nthE hs k)) 69) :: (p3, .cells [(.slice j' 0 (((hids hs).take k).length + 1) (.m 0)), (.slice j2 0 ((stTo hs k).length + 1) (.m 0))] 91) :: (p1, .cells [.slice b off hs.length c, mv] 25) :: [])
      (refine perm_cnt fun _ _ => ?_; simp only [List.append_eq, List.cons_append, List.nil_append, List.count_append, List.count_cons, List.count_nil, Nat.add_zero, Nat.zero_add]; try ac_rfl)
    refine WK.le ?_ (by (repeat (first | exact List.Sublist.refl _ | exact List.nil_sublist _ | apply List.Sublist.cons_cons | apply List.Sublist.cons))) (ih (k + 1, (.slice j' 0 (((hids hs).take k).length + 1) (.m 0)), (.slice j2 0 ((stTo hs k).length + 1) (.m 0)), [(j', .row (enF inC ((hids hs).take k) ++ inC (nthE hs k).id) 3 1)], [(j2, .row (enF edC (stTo hs k) ++ edC (eSt k (nthE hs k))) 88 8)]) ⟨hlt, ?_, ?_⟩ (by simp only; omega))
    · exact ⟨rfl, rfl, rfl, rfl, rfl, trivial⟩
    · show OwI ((hids hs).take (k + 1)) _ _
      rw [hkd]
      exact OwI.snoc _ _ j'
    · show OwE (stTo hs (k + 1)) _ _
      rw [stTo_succ]
      exact OwE.snoc _ _ j2
  · have : k = hs.length := by simp at hc; omega
    subst this
    rw [List.take_of_length_le (by rw [hids_len]; omega)] at hwi
    clear ih hc hkl
    (refine WK.exit ?_; refine WK.seq ?_; refine WK.seq ?_; refine WK.region ?_; refine St.fieldAddr ?_; refine St.load ?_)
    refine St.lenG rfl hh.hlen ?_
    (refine St.move ?_; refine WO.nil ?_; refine WK.block ?_)
    refine WK.inv (ι := Nat × AV × Ob) (fun z => [(1, .ptr p1 0), (3, .ptr p3 0), (52, hv), (53, .int .i64 hs.length), (54, .int .i64 z.1)]) (fun z => (p3, .cells [vi, z.2.1] 91) :: (p1, .cells [hv, mv] 25) :: (Li ++ z.2.2)) (fun z => z.1 ≤ hs.length ∧ OwE (stTo hs hs.length ++ enTo hs z.1) z.2.1 z.2.2) (fun z => hs.length - z.1) (0, ve, Le) ⟨Nat.zero_le _, by show OwE (stTo hs hs.length ++ enTo hs 0) ve Le; rw [show enTo hs 0 = [] from rfl, List.append_nil]; exact hwe⟩ ⟨rfl, rfl, rfl, rfl, rfl, trivial⟩ (by exact List.Sublist.refl _) ?_
    clear hwe ve Le
    rintro ⟨k, ve, Le⟩ ⟨hkl, hwe⟩ ih
    simp only at hkl hwe ih ⊢
    (refine WK.seq ?_; refine WK.region ?_; refine St.bin ?_; refine WO.nil ?_; refine WK.seq ?_)
    refine St.splitC (fun hc => ?_) (fun hc => ?_)
    · have hlt : k < hs.length := by simp at hc; omega
      have hh' := hh
      obtain ⟨b, off, c, rfl, hk⟩ := hh'.ne (by omega)
      (refine WK.skip ?_; refine WK.seq ?_; refine WK.block ?_; refine WK.seq ?_; refine WK.region ?_; refine St.move ?_)
      refine St.at ?_
      refine St.loadX (fun h2 hh2 => ((hk.vw hh2).at_ (z := (k : Int)) (n := k) (by omega) hlt).agg (by simp [hoC]) rfl rfl rfl) ?_
      (refine St.alloc fun _ _ => ?_; refine St.assign ?_; refine St.store0 ?_; refine WO.nil ?_; refine WK.regionD ?_; refine St.move ?_; refine St.move ?_; refine St.nilP ?_; refine St.fieldAddr ?_; refine St.load ?_; refine St.fieldAddr ?_; refine St.load ?_; refine St.fieldAddr ?_; refine St.load ?_; refine St.build ?_; refine St.move ?_; refine St.binI ?_; refine St.build ?_; refine St.build ?_; refine StD.mkS fun _ _ => ?_)
      rename_i p7 hp7 i2 hi2
      have hle : (stTo hs hs.length ++ enTo hs k).length = hs.length + k := by rw [List.length_append, stTo_len, enTo_len]
      refine StD.appL (e := 88) (sz := 8) (new := edC (eEn k (nthE hs k))) (Lk := (p7, .cells (hoC (nthE hs k)) 69) :: (p3, .cells [vi, ve] 91) :: (p1, .cells [.slice b off hs.length c, mv] 25) :: Li) hwe ?_ (fun j' hj' => ?_) ⟨rfl, rfl, rfl, rfl, rfl, rfl, rfl, rfl, rfl, rfl, rfl, rfl⟩ (List.Mem.head _) rfl (by omega) (by omega)
      · show List.Perm (Le ++ ((p7, .cells (hoC (nthE hs k)) 69) :: (p3, .cells [vi, ve] 91) :: (p1, .cells [.slice b off hs.length c, mv] 25) :: Li) : Ob) ((p7, .cells (hoC (nthE hs k)) 69) :: (p3, .cells [vi, ve] 91) :: (p1, .cells [.slice b off hs.length c, mv] 25) :: (Li ++ Le))
        (refine perm_cnt fun _ _ => ?_; simp only [List.append_eq, List.cons_append, List.nil_append, List.count_append, List.count_cons, List.count_nil, Nat.add_zero, Nat.zero_add]; try ac_rfl)
      (refine St.nilP ?_; refine St.fieldAddr ?_; refine StD.store1 ?_; refine WO.nil2 ?_; refine WK.blk ?_; refine WK.region ?_; refine St.binI ?_; refine St.move ?_; refine WO.nil ?_)
      refine WK.perm (L' := (i2, .cells (edC (eEn k (nthE hs k))) 88) :: (p7, .cells (hoC (nthE hs k)) 69) :: (p3, .cells [vi, (.slice j' 0 ((stTo hs hs.length ++ enTo hs k).length + 1) (.m 0))] 91) :: (p1, .cells [.slice b off hs.length c, mv] 25) :: (Li ++ ((j', .row (enF edC (stTo hs hs.length ++ enTo hs k) ++ edC (eEn k (nthE hs k))) 88 8) :: []))) ?_ ?_
      · show List.Perm ((i2, .cells (edC (eEn k (nthE hs k))) 88) :: (p7, .cells (hoC (nthE hs k)) 69) :: (p3, .cells [vi, (.slice j' 0 ((stTo hs hs.length ++ enTo hs k).length + 1) (.m 0))] 91) :: (p1, .cells [.slice b off hs.length c, mv] 25) :: (Li ++ ((j', .row (enF edC (stTo hs hs.length ++ enTo hs k) ++ edC (eEn k (nthE hs k))) 88 8) :: [])) : Ob) ((j', .row (enF edC (stTo hs hs.length ++ enTo hs k) ++ edC (eEn k (nthE hs k))) 88 8) :: (i2, .cells (edC (eEn k (nthE hs k))) 88) :: (p7, .cells (hoC (nthE hs k)) 69) :: (p3, .cells [vi, (.slice j' 0 ((stTo hs hs.length ++ enTo hs k).length + 1) (.m 0))] 91) :: (p1, .cells [.slice b off hs.length c, mv] 25) :: Li)
        (refine perm_cnt fun _ _ => ?_; simp only [List.append_eq, List.cons_append, List.nil_append, List.count_append, List.count_cons, List.count_nil, Nat.add_zero, Nat.zero_add]; try ac_rfl)
      refine WK.le ?_ (by (repeat (first | exact List.Sublist.refl _ | exact List.nil_sublist _ | apply List.Sublist.cons_cons | apply List.Sublist.cons))) (ih (k + 1, (.slice j' 0 ((stTo hs hs.length ++ enTo hs k).length + 1) (.m 0)), [(j', .row (enF edC (stTo hs hs.length ++ enTo hs k) ++ edC (eEn k (nthE hs k))) 88 8)]) ⟨hlt, ?_⟩ (by simp only; omega))
      · exact ⟨rfl, rfl, rfl, rfl, rfl, trivial⟩
      · show OwE (stTo hs hs.length ++ enTo hs (k + 1)) _ _
        rw [enTo_succ, ← List.append_assoc]
        exact OwE.snoc _ _ j'
    · have : k = hs.length := by simp at hc; omega
      subst this
      clear ih hc hkl
      (refine WK.exit ?_; refine WK.seq ?_; refine WK.seq ?_; refine WK.region ?_; refine St.fieldAddr ?_; refine St.load ?_)
      refine St.lenG rfl hm.mlen ?_
      (refine St.move ?_; refine WO.nil ?_; refine WK.block ?_)
      refine WK.inv (ι := Nat × AV × Ob) (fun z => [(1, .ptr p1 0), (3, .ptr p3 0), (79, mv), (80, .int .i64 ms.length), (81, .int .i64 z.1)]) (fun z => (p3, .cells [vi, z.2.1] 91) :: (p1, .cells [hv, mv] 25) :: (Li ++ z.2.2)) (fun z => z.1 ≤ ms.length ∧ OwE (stTo hs hs.length ++ enTo hs hs.length ++ mvTo hs ms z.1) z.2.1 z.2.2) (fun z => ms.length - z.1) (0, ve, Le) ⟨Nat.zero_le _, by show OwE (stTo hs hs.length ++ enTo hs hs.length ++ mvTo hs ms 0) ve Le; rw [show mvTo hs ms 0 = [] from rfl, List.append_nil]; exact hwe⟩ ⟨rfl, rfl, rfl, rfl, rfl, trivial⟩ (by exact List.Sublist.refl _) ?_
      clear hwe ve Le
      rintro ⟨k, ve, Le⟩ ⟨hkl, hwe⟩ ih
      simp only at hkl hwe ih ⊢
      (refine WK.seq ?_; refine WK.region ?_; refine St.bin ?_; refine WO.nil ?_; refine WK.seq ?_)
      refine St.splitC (fun hc => ?_) (fun hc => ?_)
      · have hlt : k < ms.length := by simp at hc; omega
        have hm' := hm
        obtain ⟨b, off, c, rfl, hk⟩ := hm'.ne (by omega)
        have b1 := plI_lo (l := hids hs) (n := (nthE ms k).fr)
        have b2 := plI_hi (l := hids hs) (n := (nthE ms k).fr)
        have b3 := plI_lo (l := hids hs) (n := (nthE ms k).to)
        have b4 := plI_hi (l := hids hs) (n := (nthE ms k).to)
        rw [hids_len] at b2 b4
        (refine WK.skip ?_; refine WK.seq ?_; refine WK.block ?_; refine WK.seq ?_; refine WK.region ?_)
        refine St.at ?_
        refine St.loadX (fun h2 hh2 => ((hk.vw hh2).at_ (z := (k : Int)) (n := k) (by omega) hlt).agg (by simp [mvC]) rfl rfl rfl) ?_
        (refine St.alloc fun _ _ => ?_; refine St.store0 ?_; refine WO.nil ?_; refine WK.seq ?_; refine WK.regionD ?_; refine St.fieldAddr ?_; refine St.load ?_; refine St.fieldAddr ?_; refine St.load ?_)
        rename_i p9 hp9
        refine St.call (fun _ => rfl) (fun h2 hh2 => holderAt_con h2 hh2.gd hv hs (nthE ms k).fr (hh.vw hh2) (by omega)) ?_
        (refine St.binI ?_; refine St.fieldAddr ?_; refine St.load ?_; refine St.fieldAddr ?_; refine St.load ?_)
        refine St.call (fun _ => rfl) (fun h2 hh2 => holderAt_con h2 hh2.gd hv hs (nthE ms k).to (hh.vw hh2) (by omega)) ?_
        (refine St.binI ?_; refine St.build ?_; refine StD.alloc fun _ _ => ?_; refine StD.storeT ?_; refine WO.nil1 ?_; refine WK.regionD ?_; refine St.move ?_; refine St.move ?_; refine St.nilP ?_; refine St.fieldAddr ?_; refine St.load ?_; refine St.load ?_; refine St.load ?_; refine St.build ?_; refine StD.mkS fun _ _ => ?_)
        rename_i p10 hp10 i2 hi2
        have hle : (stTo hs hs.length ++ enTo hs hs.length ++ mvTo hs ms k).length = hs.length + hs.length + k := by rw [List.length_append, List.length_append, stTo_len, enTo_len, mvTo_len hs ms (by omega)]
        refine StD.appL (e := 88) (sz := 8) (new := edC (eMv hs (nthE ms k))) (Lk := (p10, .cells [.int .i64 (plI (hids hs) (nthE ms k).fr + 1), .int .i64 (plI (hids hs) (nthE ms k).to + 1)] 86) :: (p9, .cells (mvC (nthE ms k)) 65) :: (p3, .cells [vi, ve] 91) :: (p1, .cells [hv, .slice b off ms.length c] 25) :: Li) hwe ?_ (fun j' hj' => ?_) ⟨rfl, rfl, rfl, rfl, rfl, rfl, rfl, rfl, rfl, rfl, rfl, rfl⟩ (List.Mem.head _) rfl (by omega) (by omega)
        · show List.Perm (Le ++ ((p10, .cells [.int .i64 (plI (hids hs) (nthE ms k).fr + 1), .int .i64 (plI (hids hs) (nthE ms k).to + 1)] 86) :: (p9, .cells (mvC (nthE ms k)) 65) :: (p3, .cells [vi, ve] 91) :: (p1, .cells [hv, .slice b off ms.length c] 25) :: Li) : Ob) ((p10, .cells [.int .i64 (plI (hids hs) (nthE ms k).fr + 1), .int .i64 (plI (hids hs) (nthE ms k).to + 1)] 86) :: (p9, .cells (mvC (nthE ms k)) 65) :: (p3, .cells [vi, ve] 91) :: (p1, .cells [hv, .slice b off ms.length c] 25) :: (Li ++ Le))
          (refine perm_cnt fun _ _ => ?_; simp only [List.append_eq, List.cons_append, List.nil_append, List.count_append, List.count_cons, List.count_nil, Nat.add_zero, Nat.zero_add]; try ac_rfl)
        (refine St.nilP ?_; refine St.fieldAddr ?_; refine StD.store2 ?_; refine WO.nil2 ?_; refine WK.blk ?_; refine WK.region ?_; refine St.binI ?_; refine St.move ?_; refine WO.nil ?_)
        refine WK.perm (L' := (i2, .cells (edC (eMv hs (nthE ms k))) 88) :: (p10, .cells [.int .i64 (plI (hids hs) (nthE ms k).fr + 1), .int .i64 (plI (hids hs) (nthE ms k).to + 1)] 86) :: (p9, .cells (mvC (nthE ms k)) 65) :: (p3, .cells [vi, (.slice j' 0 ((stTo hs hs.length ++ enTo hs hs.length ++ mvTo hs ms k).length + 1) (.m 0))] 91) :: (p1, .cells [hv, .slice b off ms.length c] 25) :: (Li ++ ((j', .row (enF edC (stTo hs hs.length ++ enTo hs hs.length ++ mvTo hs ms k) ++ edC (eMv hs (nthE ms k))) 88 8) :: []))) ?_ ?_
        · show List.Perm ((i2, .cells (edC (eMv hs (nthE ms k))) 88) :: (p10, .cells [.int .i64 (plI (hids hs) (nthE ms k).fr + 1), .int .i64 (plI (hids hs) (nthE ms k).to + 1)] 86) :: (p9, .cells (mvC (nthE ms k)) 65) :: (p3, .cells [vi, (.slice j' 0 ((stTo hs hs.length ++ enTo hs hs.length ++ mvTo hs ms k).length + 1) (.m 0))] 91) :: (p1, .cells [hv, .slice b off ms.length c] 25) :: (Li ++ ((j', .row (enF edC (stTo hs hs.length ++ enTo hs hs.length ++ mvTo hs ms k) ++ edC (eMv hs (nthE ms k))) 88 8) :: [])) : Ob) ((j', .row (enF edC (stTo hs hs.length ++ enTo hs hs.length ++ mvTo hs ms k) ++ edC (eMv hs (nthE ms k))) 88 8) :: (i2, .cells (edC (eMv hs (nthE ms k))) 88) :: (p10, .cells [.int .i64 (plI (hids hs) (nthE ms k).fr + 1), .int .i64 (plI (hids hs) (nthE ms k).to + 1)] 86) :: (p9, .cells (mvC (nthE ms k)) 65) :: (p3, .cells [vi, (.slice j' 0 ((stTo hs hs.length ++ enTo hs hs.length ++ mvTo hs ms k).length + 1) (.m 0))] 91) :: (p1, .cells [hv, .slice b off ms.length c] 25) :: Li)
          (refine perm_cnt fun _ _ => ?_; simp only [List.append_eq, List.cons_append, List.nil_append, List.count_append, List.count_cons, List.count_nil, Nat.add_zero, Nat.zero_add]; try ac_rfl)
        refine WK.le ?_ (by (repeat (first | exact List.Sublist.refl _ | exact List.nil_sublist _ | apply List.Sublist.cons_cons | apply List.Sublist.cons))) (ih (k + 1, (.slice j' 0 ((stTo hs hs.length ++ enTo hs hs.length ++ mvTo hs ms k).length + 1) (.m 0)), [(j', .row (enF edC (stTo hs hs.length ++ enTo hs hs.length ++ mvTo hs ms k) ++ edC (eMv hs (nthE ms k))) 88 8)]) ⟨hlt, ?_⟩ (by simp only; omega))
        · exact ⟨rfl, rfl, rfl, rfl, rfl, trivial⟩
        · show OwE (stTo hs hs.length ++ enTo hs hs.length ++ mvTo hs ms (k + 1)) _ _
          rw [mvTo_succ hs ms hlt, ← List.append_assoc]
          exact OwE.snoc _ _ j'
      · have : k = ms.length := by simp at hc; omega
        subst this
        have e9 : stTo hs hs.length ++ enTo hs hs.length ++ mvTo hs ms ms.length = edges hs ms := by unfold edges mvTo; rw [List.take_length]
        rw [e9] at hwe
        (refine WK.exit ?_; refine WK.seq ?_; refine WK.region ?_; refine St.move ?_; refine St.assign ?_; refine WO.nil ?_)
        refine St.ret (by first | exact .tmp .nil | exact .cell .nil | exact .cell (.tmp .nil) | exact .tmp (.tmp .nil) | exact .cell (.cell .nil) | exact .tmp (.cell .nil) | exact .nil | exact .tmp (.cell (.tmp .nil)) | exact .cell (.tmp (.tmp .nil)) | exact .cell (.cell (.tmp .nil)) | exact .tmp (.tmp (.tmp .nil)) | exact .cell (.cell (.cell .nil))) ?_
        exact ⟨_, by (repeat (first | exact List.Sublist.refl _ | exact List.nil_sublist _ | apply List.Sublist.cons_cons | apply List.Sublist.cons)), p3, vi, ve, Li, Le, rfl, rfl, hwi, hwe⟩
end Go.Proofs.Ytjlpoomjgidgaaa
