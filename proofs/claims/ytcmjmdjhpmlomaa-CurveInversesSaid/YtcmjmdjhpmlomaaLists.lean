
/- Lists of curves in memory; the contracts of check and checkSheaf. -/
import Derived.Test.YtcmjmdjhpmlomaaCheck
namespace Go.Proofs.Ytcmjmdjhpmlomaa
open Go.RowKit

/-! lists of curves -/
structure Cur where
  a : Option Addr
  cap : Nat
  ks : List (Int × Int)
  err : Int

/-- the slice at A holds the curves -/
structure CvAt (w : World) (A : Option Addr) (l : List Cur) : Prop where
  rows : l ≠ [] → ∃ b off, A = some ⟨b, off, none⟩ ∧ b < w.heap.size ∧ ∀ i (h : i < l.length), w.cell? ⟨b, off + i * 2, none⟩ = some (.slice l[i].a l[i].ks.length l[i].cap) ∧ w.cell? ⟨b, off + i * 2 + 1, none⟩ = some (.int .i64 l[i].err)
  each : ∀ i (h : i < l.length), KnAt w l[i].a l[i].ks ∧ l[i].ks.length ≤ 1000000000000

theorem CvAt.below {w w' : World} {A : Option Addr} {l : List Cur} (h : CvAt w A l) (hb : Below w.heap.size w w') : CvAt w' A l :=
  ⟨fun hne => by
    obtain ⟨b, off, rfl, hlt, hc⟩ := h.rows hne
    exact ⟨b, off, rfl, Nat.lt_of_lt_of_le hlt hb.size, fun i hi => ⟨(hb.cell (p := ⟨b, _, none⟩) hlt).trans (hc i hi).1, (hb.cell (p := ⟨b, _, none⟩) hlt).trans (hc i hi).2⟩⟩,
   fun i hi => ⟨(h.each i hi).1.below hb, (h.each i hi).2⟩⟩

def chkL : List Cur → Int
  | [] => 0
  | c :: r => if chk c.ks c.err = 0 then chkL r else chk c.ks c.err

theorem chkL_drop {l : List Cur} {k : Nat} (h : k < l.length) : chkL (l.drop k) = if chk l[k].ks l[k].err = 0 then chkL (l.drop (k + 1)) else chk l[k].ks l[k].err := by
  rw [List.drop_eq_getElem_cons h, chkL]

def chkSheaf (l : List Cur) : Int := if 12 < l.length then 2 else chkL l

end Go.Proofs.Ytcmjmdjhpmlomaa
