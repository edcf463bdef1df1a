/- CheckOver over the calculator's memory. -/
import Derived.Test.YtcaemeedmnpdjaaGreatMo
namespace Go.Proofs.YtcaemeedmnpdjaaGreat
open Go.Proofs.YtcaemeedmnpdjaaGreat.Ev

def pkEq (p q : Pk) : Bool := (p.ln == q.ln) && ((p.ld == q.ld) && ((p.hn == q.hn) && ((p.hd == q.hd) && ((p.al == q.al) && (p.ah == q.ah)))))
theorem pkEq_self (p : Pk) : pkEq p p = true := by simp [pkEq]
theorem pkEq_comm (p q : Pk) : pkEq p q = pkEq q p := by
  unfold pkEq
  have h : ∀ a b : Int, (a == b) = (b == a) := fun a b => by rw [Bool.eq_iff_iff, beq_iff_eq, beq_iff_eq]; exact eq_comm
  rw [h p.ln, h p.ld, h p.hn, h p.hd, h p.al, h p.ah]
set_option maxRecDepth 100000 in
theorem szF23 : sizeT Tryz.prog 43 = some 2 := by kernel_rfl
set_option maxRecDepth 100000 in
theorem pk_neq (p q : Pk) : evBin Tryz.prog .neq 45 (pkA p) (pkA q) = some (.bool (!pkEq p q)) := by
  unfold pkEq
  simp [pkA, evBin, evEq, guardOk, eqT, eqFs, partE, isAggT, szF23, takeN, dropN, nthN]
  cases p.ln == q.ln <;> cases p.ld == q.ld <;> cases p.hn == q.hn <;> cases p.hd == q.hd <;> cases p.al == q.al <;> cases p.ah == q.ah <;> rfl
set_option maxRecDepth 100000 in
theorem pk_eql (p q : Pk) : evBin Tryz.prog .eql 45 (pkA p) (pkA q) = some (.bool (pkEq p q)) := by
  unfold pkEq
  simp [pkA, evBin, evEq, guardOk, eqT, eqFs, partE, isAggT, szF23, takeN, dropN, nthN]
  cases p.ln == q.ln <;> cases p.ld == q.ld <;> cases p.hn == q.hn <;> cases p.hd == q.hd <;> cases p.al == q.al <;> cases p.ah == q.ah <;> rfl

def checkOverR (ks : List (Int × Int)) (err lo hi : Int) (p : Pk) : Int := if errOn ks err lo hi = 0 then (if pkEq (overK ks lo hi) p = true then 0 else 8) else errOn ks err lo hi
end Go.Proofs.YtcaemeedmnpdjaaGreat
