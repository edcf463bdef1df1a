/- The laws' inside and within; the law TideWindowsHold. -/
import Derived.Test.YtekpffjcffeanaaXb
import Derived.Test.YtekpffjcffeanaaWg
namespace Go.Proofs.Ytekpffjcffeanaa
open Go.Proofs.Ytekpffjcffeanaa.Ev

def insB (l : List Wd) (t : Int) : Bool := l.any fun s => decide (s.lo ≤ t) && decide (t ≤ s.hi)
theorem any_drop {l : List Wd} {p : Wd → Bool} {k : Nat} (h : k < l.length) : (l.drop k).any p = (p (nthE l k) || (l.drop (k + 1)).any p) := by
  rw [List.drop_eq_getElem_cons h, List.any_cons, nthE_eq h]
set_option maxRecDepth 100000 in
set_option maxHeartbeats 8000000 in
theorem inside_con (h : Heap) (g : Gd h) (t : Int) (v : AV) (l : List Wd) (hv : WdV h v l) (hl : l.length ≤ 1000000) : Con Try.prog Bs 23 [v, .int .i64 t] h [] (.bool (insB l t)) [] := by
  refine Con.start rfl Try.func23 rfl rfl Try.ntmps23 rfl rfl g ?_
  (refine WK.seq ?_; refine WK.region ?_; refine St.assign ?_; refine WO.nil ?_; refine WK.seq ?_; refine WK.seq ?_; refine WK.region ?_; refine St.assign ?_; refine WO.nil ?_; refine WK.block ?_)
  refine WK.inv (ι := Nat) (fun k => [(0, v), (1, .int .i64 t), (5, .int .i64 k)]) (fun _ => []) (fun k => k ≤ l.length ∧ insB l t = (l.drop k).any fun s => decide (s.lo ≤ t) && decide (t ≤ s.hi)) (fun k => l.length - k) 0 ⟨Nat.zero_le _, rfl⟩ ⟨rfl, rfl, rfl, trivial⟩ (by (repeat (first | exact List.Sublist.refl _ | exact List.nil_sublist _ | apply List.Sublist.cons_cons | apply List.Sublist.cons))) ?_
  rintro k ⟨hkl, hins⟩ ih
  (refine WK.seq ?_; refine WK.seq ?_; refine WK.region ?_; refine St.move ?_; refine St.move ?_)
  refine St.lenV rfl hv.len ?_
  (refine St.bin ?_; refine WO.nil ?_)
  refine St.splitC (fun hcc => ?_) (fun hcc => ?_)
  · have hlt : k < l.length := by simp at hcc; omega
    have hd := any_drop (p := fun s => decide (s.lo ≤ t) && decide (t ≤ s.hi)) hlt
    rw [← hins] at hd
    obtain ⟨b, off, c, rfl, hk⟩ := hv.ne (by omega)
    (refine WK.skip ?_; refine WK.seq ?_; refine WK.block ?_; refine WK.seq ?_; refine WK.region ?_; refine St.move ?_; refine St.move ?_)
    refine St.at ?_
    (refine St.fieldAddr ?_)
    refine St.loadX (fun h2 hh => ((hk.vw hh).lo_ (z := (k : Int)) (n := k) (by omega) hlt).one rfl) ?_
    (refine St.move ?_; refine St.bin ?_; refine St.move ?_)
    refine St.split (fun h1 => ?_) (fun h1 => ?_)
    · (refine St.move ?_; refine St.move ?_; refine St.move ?_)
      refine St.at ?_
      (refine St.fieldAddr ?_)
      refine St.loadX (fun h2 hh => ((hk.vw hh).hi_ (z := (k : Int)) (n := k) (by omega) hlt).one rfl) ?_
      (refine St.bin ?_; refine St.pickT ?_; refine WO.nil ?_)
      refine St.splitC (fun h2 => ?_) (fun h2 => ?_)
      · (refine WK.seq ?_; refine WK.region ?_; refine St.assign ?_; refine WO.nil ?_)
        refine St.ret (by first | exact .tmp .nil | exact .cell .nil | exact .cell (.tmp .nil) | exact .tmp (.tmp .nil) | exact .cell (.cell .nil) | exact .tmp (.cell .nil) | exact .nil | exact .tmp (.cell (.tmp .nil)) | exact .cell (.tmp (.tmp .nil)) | exact .cell (.cell (.tmp .nil)) | exact .tmp (.tmp (.tmp .nil)) | exact .cell (.cell (.cell .nil))) ?_
        rw [hd, h1, h2]
        rfl
      · rw [h1, h2] at hd
        (refine WK.skip ?_; refine WK.blk ?_; refine WK.region ?_; refine St.move ?_; refine St.binI ?_; refine St.assign ?_; refine WO.nil ?_)
        refine WK.le ?_ (by (repeat (first | exact List.Sublist.refl _ | exact List.nil_sublist _ | apply List.Sublist.cons_cons | apply List.Sublist.cons))) (ih (k + 1) ⟨hlt, by rw [hd]; rfl⟩ (by omega))
        exact ⟨rfl, rfl, rfl, trivial⟩
    · rw [h1] at hd
      (refine St.skip ?_; refine St.skip ?_; refine St.skip ?_; refine St.skip ?_; refine St.skip ?_; refine St.skip ?_; refine St.skip ?_; refine St.pickF ?_; refine WO.nil ?_; refine WK.condF ?_; refine WK.skip ?_; refine WK.blk ?_; refine WK.region ?_; refine St.move ?_; refine St.binI ?_; refine St.assign ?_; refine WO.nil ?_)
      refine WK.le ?_ (by (repeat (first | exact List.Sublist.refl _ | exact List.nil_sublist _ | apply List.Sublist.cons_cons | apply List.Sublist.cons))) (ih (k + 1) ⟨hlt, by rw [hd]; rfl⟩ (by omega))
      exact ⟨rfl, rfl, rfl, trivial⟩
  · have : k = l.length := by simp at hcc; omega
    subst this
    (refine WK.exit ?_; refine WK.seq ?_; refine WK.region ?_; refine St.assign ?_; refine WO.nil ?_)
    refine St.ret (by first | exact .tmp .nil | exact .cell .nil | exact .cell (.tmp .nil) | exact .tmp (.tmp .nil) | exact .cell (.cell .nil) | exact .tmp (.cell .nil) | exact .nil | exact .tmp (.cell (.tmp .nil)) | exact .cell (.tmp (.tmp .nil)) | exact .cell (.cell (.tmp .nil)) | exact .tmp (.tmp (.tmp .nil)) | exact .cell (.cell (.cell .nil))) ?_
    rw [hins, List.drop_length]
    rfl
/-- each span of the first list lies in one of the second -/
def inB1 (b : List Wd) (s : Wd) : Bool := b.any fun u => decide (u.lo ≤ s.lo) && decide (s.hi ≤ u.hi)
set_option maxRecDepth 100000 in
set_option maxHeartbeats 16000000 in
theorem withinW_con (h : Heap) (g : Gd h) (va vb : AV) (a b : List Wd) (ha : WdV h va a) (hb : WdV h vb b) (hla : a.length ≤ 1000000) (hlb : b.length ≤ 1000000) (hin : ∀ i, i < a.length → inB1 b (nthE a i) = true) : Con Try.prog Bs 25 [va, vb] h [] (.bool true) [] := by
  refine Con.start rfl Try.func25 rfl rfl Try.ntmps25 rfl rfl g ?_
  (refine WK.seq ?_; refine WK.region ?_; refine St.assign ?_; refine WO.nil ?_; refine WK.seq ?_; refine WK.seq ?_; refine WK.region ?_; refine St.assign ?_; refine WO.nil ?_; refine WK.block ?_)
  refine WK.inv (ι := Nat) (fun k => [(0, va), (1, vb), (5, .int .i64 k)]) (fun _ => []) (fun k => k ≤ a.length) (fun k => a.length - k) 0 (Nat.zero_le _) ⟨rfl, rfl, rfl, trivial⟩ (by (repeat (first | exact List.Sublist.refl _ | exact List.nil_sublist _ | apply List.Sublist.cons_cons | apply List.Sublist.cons))) ?_
  intro k hkl ih
  (refine WK.seq ?_; refine WK.seq ?_; refine WK.region ?_; refine St.move ?_; refine St.move ?_)
  refine St.lenV rfl ha.len ?_
  (refine St.bin ?_; refine WO.nil ?_)
  refine St.splitC (fun hcc => ?_) (fun hcc => ?_)
  rotate_left
  · (refine WK.exit ?_; refine WK.seq ?_; refine WK.region ?_; refine St.assign ?_; refine WO.nil ?_)
    refine St.ret (by first | exact .tmp .nil | exact .cell .nil | exact .cell (.tmp .nil) | exact .tmp (.tmp .nil) | exact .cell (.cell .nil) | exact .tmp (.cell .nil) | exact .nil | exact .tmp (.cell (.tmp .nil)) | exact .cell (.tmp (.tmp .nil)) | exact .cell (.cell (.tmp .nil)) | exact .tmp (.tmp (.tmp .nil)) | exact .cell (.cell (.cell .nil))) ?_
    rfl
  have hlt : k < a.length := by simp at hcc; omega
  have hik := hin k hlt
  obtain ⟨ba, offa, ca, rfl, hka⟩ := ha.ne (by omega)
  (refine WK.skip ?_; refine WK.seq ?_; refine WK.block ?_; refine WK.seq ?_; refine WK.region ?_; refine St.assign ?_; refine WO.nil ?_; refine WK.seq ?_; refine WK.seq ?_; refine WK.region ?_; refine St.assign ?_; refine WO.nil ?_; refine WK.block ?_)
  refine WK.inv (ι := Nat × Bool) (fun z => [(0, .slice ba offa a.length ca), (1, vb), (5, .int .i64 k), (6, .bool z.2), (7, .int .i64 z.1)]) (fun _ => []) (fun z => z.1 ≤ b.length ∧ (z.2 || (b.drop z.1).any fun u => decide (u.lo ≤ (nthE a k).lo) && decide ((nthE a k).hi ≤ u.hi)) = true) (fun z => b.length - z.1) (0, false) ⟨Nat.zero_le _, hik⟩ ⟨rfl, rfl, rfl, rfl, rfl, trivial⟩ (by (repeat (first | exact List.Sublist.refl _ | exact List.nil_sublist _ | apply List.Sublist.cons_cons | apply List.Sublist.cons))) ?_
  rintro ⟨i, x⟩ ⟨hil, hx⟩ ih2
  simp only at hil hx ih2 ⊢
  (refine WK.seq ?_; refine WK.seq ?_; refine WK.region ?_; refine St.move ?_; refine St.move ?_)
  refine St.lenV rfl hb.len ?_
  (refine St.bin ?_; refine WO.nil ?_)
  refine St.splitC (fun hc2 => ?_) (fun hc2 => ?_)
  · have hlt2 : i < b.length := by simp at hc2; omega
    have hd := any_drop (p := fun u => decide (u.lo ≤ (nthE a k).lo) && decide ((nthE a k).hi ≤ u.hi)) hlt2
    rw [hd] at hx
    obtain ⟨bb, offb, cb, rfl, hkb⟩ := hb.ne (by omega)
    (refine WK.skip ?_; refine WK.seq ?_; refine WK.block ?_; refine WK.regionD ?_; refine St.move ?_; refine St.move ?_)
    refine St.split (fun h0 => ?_) (fun h0 => ?_)
    · subst h0
      (refine St.skip ?_; refine St.skip ?_; refine St.skip ?_; refine St.skip ?_; refine St.skip ?_; refine St.skip ?_; refine St.skip ?_; refine St.skip ?_; refine St.skip ?_; refine St.skip ?_; refine St.skip ?_; refine St.skip ?_; refine St.skip ?_; refine St.skip ?_; refine St.skip ?_; refine St.skip ?_; refine St.skip ?_; refine St.skip ?_; refine St.skip ?_; refine St.skip ?_; refine St.skip ?_; refine St.skip ?_; refine St.skip ?_; refine St.skip ?_; refine St.pickT ?_; refine St.assign ?_; refine WO.nil ?_; refine WK.blk ?_; refine WK.region ?_; refine St.move ?_; refine St.binI ?_; refine St.assign ?_; refine WO.nil ?_)
      refine WK.le ?_ (by (repeat (first | exact List.Sublist.refl _ | exact List.nil_sublist _ | apply List.Sublist.cons_cons | apply List.Sublist.cons))) (ih2 (i + 1, true) ⟨hlt2, rfl⟩ (by simp only; omega))
      exact ⟨rfl, rfl, rfl, rfl, rfl, trivial⟩
    subst h0
    (refine St.move ?_; refine St.move ?_)
    refine St.at ?_
    (refine St.fieldAddr ?_)
    refine St.loadX (fun h2 hh => ((hkb.vw hh).lo_ (z := (i : Int)) (n := i) (by omega) hlt2).one rfl) ?_
    (refine St.move ?_; refine St.move ?_)
    refine St.at ?_
    (refine St.fieldAddr ?_)
    refine St.loadX (fun h2 hh => ((hka.vw hh).lo_ (z := (k : Int)) (n := k) (by omega) hlt).one rfl) ?_
    (refine St.bin ?_; refine St.move ?_)
    refine St.split (fun h1 => ?_) (fun h1 => ?_)
    · (refine St.move ?_; refine St.move ?_)
      refine St.at ?_
      (refine St.fieldAddr ?_)
      refine St.loadX (fun h2 hh => ((hka.vw hh).hi_ (z := (k : Int)) (n := k) (by omega) hlt).one rfl) ?_
      (refine St.move ?_; refine St.move ?_)
      refine St.at ?_
      (refine St.fieldAddr ?_)
      refine St.loadX (fun h2 hh => ((hkb.vw hh).hi_ (z := (i : Int)) (n := i) (by omega) hlt2).one rfl) ?_
      (refine St.bin ?_; refine St.pickT ?_; refine St.pickF ?_; refine St.assign ?_; refine WO.nil ?_; refine WK.blk ?_; refine WK.region ?_; refine St.move ?_; refine St.binI ?_; refine St.assign ?_; refine WO.nil ?_)
      refine WK.le ?_ (by (repeat (first | exact List.Sublist.refl _ | exact List.nil_sublist _ | apply List.Sublist.cons_cons | apply List.Sublist.cons))) (ih2 (i + 1, decide ((nthE a k).hi ≤ (nthE b i).hi)) ⟨hlt2, ?_⟩ (by simp only; omega))
      · exact ⟨rfl, rfl, rfl, rfl, rfl, trivial⟩
      · simp only [h1, Bool.true_and, Bool.false_or] at hx ⊢
        exact hx
    · (refine St.skip ?_; refine St.skip ?_; refine St.skip ?_; refine St.skip ?_; refine St.skip ?_; refine St.skip ?_; refine St.skip ?_; refine St.skip ?_; refine St.skip ?_; refine St.skip ?_; refine St.skip ?_; refine St.pickF ?_; refine St.pickF ?_; refine St.assign ?_; refine WO.nil ?_; refine WK.blk ?_; refine WK.region ?_; refine St.move ?_; refine St.binI ?_; refine St.assign ?_; refine WO.nil ?_)
      refine WK.le ?_ (by (repeat (first | exact List.Sublist.refl _ | exact List.nil_sublist _ | apply List.Sublist.cons_cons | apply List.Sublist.cons))) (ih2 (i + 1, false) ⟨hlt2, ?_⟩ (by simp only; omega))
      · exact ⟨rfl, rfl, rfl, rfl, rfl, trivial⟩
      · simp only [h1, Bool.false_and, Bool.false_or] at hx ⊢
        exact hx
  · have : i = b.length := by simp at hc2; omega
    subst this
    rw [List.drop_length] at hx
    have hxt : x = true := by simpa using hx
    subst hxt
    (refine WK.exit ?_; refine WK.seq ?_; refine WK.region ?_; refine St.move ?_; refine St.un ?_; refine WO.nil ?_; refine WK.condF ?_; refine WK.skip ?_; refine WK.blk ?_; refine WK.region ?_; refine St.move ?_; refine St.binI ?_; refine St.assign ?_; refine WO.nil ?_)
    refine WK.le ?_ (by (repeat (first | exact List.Sublist.refl _ | exact List.nil_sublist _ | apply List.Sublist.cons_cons | apply List.Sublist.cons))) (ih (k + 1) hlt (by omega))
    exact ⟨rfl, rfl, rfl, trivial⟩
/-- a minute lies in a window exactly if the water is high enough -/
theorem ins_iff {p : Nat → Bool} {lo : Int} {n : Nat} {l : List Wd} (k : Win p lo n l) {i : Nat} (hi : i < n) : insB l (lo + (i : Int)) = p i := by
  rw [Bool.eq_iff_iff]
  unfold insB
  rw [List.any_eq_true]
  constructor
  · rintro ⟨s, hs, hb⟩
    obtain ⟨j, hj, rfl⟩ := List.getElem_of_mem hs
    obtain ⟨_, _, _, h4⟩ := k.one j hj
    rw [nthE_eq hj] at h4
    simp at hb
    exact h4 i hb.1 hb.2
  · intro h
    obtain ⟨j, hj, h1, h2⟩ := k.all i hi h
    rw [nthE_eq hj] at h1 h2
    exact ⟨l[j], List.getElem_mem hj, by simp; omega⟩
theorem in_iff {p p' : Nat → Bool} {lo : Int} {n : Nat} {l l' : List Wd} (k : Win p lo n l) (k' : Win p' lo n l') (hle : ∀ i, i < n → p i = true → p' i = true) : ∀ i, i < l.length → inB1 l' (nthE l i) = true := fun i hi => by
  obtain ⟨j, hj, h1, h2⟩ := win_in k k' hle hi
  unfold inB1
  rw [List.any_eq_true]
  rw [nthE_eq hj] at h1 h2
  exact ⟨l'[j], List.getElem_mem hj, by simp; omega⟩
end Go.Proofs.Ytekpffjcffeanaa
