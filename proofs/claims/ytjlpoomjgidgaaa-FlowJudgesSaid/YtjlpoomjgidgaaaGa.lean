/- Layer 5 over the calculator's memory: what is known, holders and movements in memory, the program's small functions. -/
import Derived.Test.YtjlpoomjgidgaaaProg
import Derived.Test.YtjlpoomjgidgaaaEv8
import Derived.Test.YtjlpoomjgidgaaaGp
namespace Go.Proofs.Ytjlpoomjgidgaaa
open Go.Proofs.Ytjlpoomjgidgaaa.Ev

/-- sanity() is known to say true; slices.Grow of no ints is known -/
def Bs : Base := orB (sayB 6) (growB 77 1 3)
theorem sanity_con (h : Heap) (g : Gd h) : Con Try.prog Bs 6 [] h [] (.bool true) [] := Con.base rfl g
def hoC (x : Ho) : List AV := [.int .i64 x.id, .int .i64 x.sl, .int .i64 x.sh, .int .i64 x.el, .int .i64 x.eh, .int .i64 x.bk]
def mvC (x : Mv) : List AV := [.int .i64 x.id, .int .i64 x.fr, .int .i64 x.to, .int .i64 x.lo, .int .i64 x.hi]
def inC (n : Int) : List AV := [.int .i64 n]
abbrev HoH := EH hoC 6
abbrev HoV := EV hoC 6
abbrev HoA := EA hoC 6
abbrev MvH := EH mvC 5
abbrev MvV := EV mvC 5
abbrev MvA := EA mvC 5
abbrev InV := EV inC 1
theorem hoC_len (x : Ho) : (hoC x).length = 6 := rfl
theorem HoV.hlen {h : Heap} {v : AV} {l : List Ho} (k : HoV h v l) : ∀ h2, lenA Try.prog 22 h2 v = some (.int .i64 (l.length : Int)) := EV.len k Try.underlying22
theorem MvV.mlen {h : Heap} {v : AV} {l : List Mv} (k : MvV h v l) : ∀ h2, lenA Try.prog 23 h2 v = some (.int .i64 (l.length : Int)) := EV.len k Try.underlying23
theorem InV.ilen {h : Heap} {v : AV} {l : List Int} (k : InV h v l) : ∀ h2, lenA Try.prog 26 h2 v = some (.int .i64 (l.length : Int)) := EV.len k Try.underlying26
theorem max_min_eq {n lo hi : Int} (h : lo ≤ hi) : (max lo (min n hi) == n) = (decide (lo ≤ n) && decide (n ≤ hi)) := by
  rw [Bool.eq_iff_iff]
  simp
  omega
set_option maxRecDepth 100000 in
theorem bounded_con (h : Heap) (g : Gd h) (n lo hi : Int) : Con Try.prog Bs 58 [.int .i64 n, .int .i64 lo, .int .i64 hi] h [] (.int .i64 (max lo (min n hi))) [] := by
  refine Con.start rfl Try.func58 rfl rfl Try.ntmps58 rfl rfl g ?_
  (refine WK.seq ?_; refine WK.region ?_; refine St.assign ?_; refine WO.nil ?_; refine WK.seq ?_; refine WK.region ?_; refine St.move ?_; refine St.move ?_; refine St.move ?_; refine St.minI ?_; refine St.maxI ?_; refine St.assign ?_; refine WO.nil ?_)
  refine St.ret (by first | exact .tmp .nil | exact .cell .nil | exact .cell (.tmp .nil) | exact .tmp (.tmp .nil) | exact .cell (.cell .nil) | exact .tmp (.cell .nil) | exact .nil | exact .tmp (.cell (.tmp .nil)) | exact .cell (.tmp (.tmp .nil)) | exact .cell (.cell (.tmp .nil)) | exact .tmp (.tmp (.tmp .nil)) | exact .cell (.cell (.cell .nil))) ?_
  rfl
set_option maxRecDepth 100000 in
theorem within_con (h : Heap) (g : Gd h) (n lo hi : Int) (hle : lo ≤ hi) : Con Try.prog Bs 56 [.int .i64 n, .int .i64 lo, .int .i64 hi] h [] (.bool (decide (lo ≤ n) && decide (n ≤ hi))) [] := by
  refine Con.start rfl Try.func56 rfl rfl Try.ntmps56 rfl rfl g ?_
  (refine WK.seq ?_; refine WK.region ?_; refine St.assign ?_; refine WO.nil ?_; refine WK.seq ?_; refine WK.region ?_; refine St.move ?_; refine St.move ?_; refine St.move ?_)
  refine St.call (fun _ => rfl) (fun h2 hh => bounded_con h2 hh.gd n lo hi) ?_
  (refine St.move ?_; refine St.bin ?_; refine St.assign ?_; refine WO.nil ?_)
  refine St.ret (by first | exact .tmp .nil | exact .cell .nil | exact .cell (.tmp .nil) | exact .tmp (.tmp .nil) | exact .cell (.cell .nil) | exact .tmp (.cell .nil) | exact .nil | exact .tmp (.cell (.tmp .nil)) | exact .cell (.tmp (.tmp .nil)) | exact .cell (.cell (.tmp .nil)) | exact .tmp (.tmp (.tmp .nil)) | exact .cell (.cell (.cell .nil))) ?_
  rw [← max_min_eq hle]
  rfl
set_option maxRecDepth 100000 in
theorem isID_con (h : Heap) (g : Gd h) (n : Int) : Con Try.prog Bs 66 [.int .i64 n] h [] (.bool (idB n)) [] := by
  refine Con.start rfl Try.func66 rfl rfl Try.ntmps66 rfl rfl g ?_
  (refine WK.seq ?_; refine WK.region ?_; refine St.assign ?_; refine WO.nil ?_; refine WK.seq ?_; refine WK.region ?_; refine St.move ?_)
  refine St.call (fun _ => rfl) (fun h2 hh => within_con h2 hh.gd n 1 1099511627776 (by omega)) ?_
  (refine St.assign ?_; refine WO.nil ?_)
  refine St.ret (by first | exact .tmp .nil | exact .cell .nil | exact .cell (.tmp .nil) | exact .tmp (.tmp .nil) | exact .cell (.cell .nil) | exact .tmp (.cell .nil) | exact .nil | exact .tmp (.cell (.tmp .nil)) | exact .cell (.tmp (.tmp .nil)) | exact .cell (.cell (.tmp .nil)) | exact .tmp (.tmp (.tmp .nil)) | exact .cell (.cell (.cell .nil))) ?_
  rfl
set_option maxRecDepth 100000 in
theorem isMass_con (h : Heap) (g : Gd h) (n : Int) : Con Try.prog Bs 68 [.int .i64 n] h [] (.bool (maB n)) [] := by
  refine Con.start rfl Try.func68 rfl rfl Try.ntmps68 rfl rfl g ?_
  (refine WK.seq ?_; refine WK.region ?_; refine St.assign ?_; refine WO.nil ?_; refine WK.seq ?_; refine WK.region ?_; refine St.move ?_)
  refine St.call (fun _ => rfl) (fun h2 hh => within_con h2 hh.gd n 0 65536 (by omega)) ?_
  (refine St.assign ?_; refine WO.nil ?_)
  refine St.ret (by first | exact .tmp .nil | exact .cell .nil | exact .cell (.tmp .nil) | exact .tmp (.tmp .nil) | exact .cell (.cell .nil) | exact .tmp (.cell .nil) | exact .nil | exact .tmp (.cell (.tmp .nil)) | exact .cell (.tmp (.tmp .nil)) | exact .cell (.cell (.tmp .nil)) | exact .tmp (.tmp (.tmp .nil)) | exact .cell (.cell (.cell .nil))) ?_
  rfl
set_option maxRecDepth 100000 in
theorem isMassSpan_con (h : Heap) (g : Gd h) (a b : Int) : Con Try.prog Bs 67 [.agg [.int .i64 a, .int .i64 b]] h [] (.bool (msB a b)) [] := by
  refine Con.start rfl Try.func67 rfl rfl Try.ntmps67 rfl rfl g ?_
  (refine WK.seq ?_; refine WK.region ?_; refine St.box fun _ _ => ?_; refine St.assign ?_; refine WO.nil ?_; refine WK.seq ?_; refine WK.region ?_; refine St.fieldAddr ?_; refine St.load ?_)
  refine St.call (fun _ => rfl) (fun h2 hh => isMass_con h2 hh.gd a) ?_
  generalize hA : maB a = A
  cases A
  · (refine St.move ?_; refine St.skip ?_; refine St.skip ?_; refine St.skip ?_; refine St.pickF ?_; refine St.move ?_; refine St.skip ?_; refine St.skip ?_; refine St.skip ?_; refine St.skip ?_; refine St.skip ?_; refine St.pickF ?_; refine St.assign ?_; refine WO.nil ?_)
    refine St.ret (by first | exact .tmp .nil | exact .cell .nil | exact .cell (.tmp .nil) | exact .tmp (.tmp .nil) | exact .cell (.cell .nil) | exact .tmp (.cell .nil) | exact .nil | exact .tmp (.cell (.tmp .nil)) | exact .cell (.tmp (.tmp .nil)) | exact .cell (.cell (.tmp .nil)) | exact .tmp (.tmp (.tmp .nil)) | exact .cell (.cell (.cell .nil))) ?_
    simp [oneOf, msB, hA]
  (refine St.move ?_; refine St.fieldAddr ?_; refine St.load ?_)
  refine St.call (fun _ => rfl) (fun h2 hh => isMass_con h2 hh.gd b) ?_
  generalize hB : maB b = B
  cases B
  · (refine St.pickT ?_; refine St.move ?_; refine St.skip ?_; refine St.skip ?_; refine St.skip ?_; refine St.skip ?_; refine St.skip ?_; refine St.pickF ?_; refine St.assign ?_; refine WO.nil ?_)
    refine St.ret (by first | exact .tmp .nil | exact .cell .nil | exact .cell (.tmp .nil) | exact .tmp (.tmp .nil) | exact .cell (.cell .nil) | exact .tmp (.cell .nil) | exact .nil | exact .tmp (.cell (.tmp .nil)) | exact .cell (.tmp (.tmp .nil)) | exact .cell (.cell (.tmp .nil)) | exact .tmp (.tmp (.tmp .nil)) | exact .cell (.cell (.cell .nil))) ?_
    simp [oneOf, msB, hA, hB]
  (refine St.pickT ?_; refine St.move ?_; refine St.fieldAddr ?_; refine St.load ?_; refine St.fieldAddr ?_; refine St.load ?_; refine St.bin ?_; refine St.pickT ?_; refine St.assign ?_; refine WO.nil ?_)
  refine St.ret (by first | exact .tmp .nil | exact .cell .nil | exact .cell (.tmp .nil) | exact .tmp (.tmp .nil) | exact .cell (.cell .nil) | exact .tmp (.cell .nil) | exact .nil | exact .tmp (.cell (.tmp .nil)) | exact .cell (.tmp (.tmp .nil)) | exact .cell (.cell (.tmp .nil)) | exact .tmp (.tmp (.tmp .nil)) | exact .cell (.cell (.cell .nil))) ?_
  simp [oneOf, msB, hA, hB]
/-! the places of holders and movements -/
set_option maxRecDepth 100000 in
theorem holderAt1_con (h : Heap) (g : Gd h) (x : Ho) (p : Nat) (n : Int) (hp : Rd h p 0 (.int .i64 n)) : Con Try.prog Bs 72 [.agg (hoC x), .ptr p 0] h [] (.bool (x.id == n)) [] := by
  obtain ⟨a, b, c, d, e, f⟩ := x
  refine Con.start rfl Try.func72 rfl rfl Try.ntmps72 rfl rfl g ?_
  (refine WK.seq ?_; refine WK.region ?_; refine St.box fun _ _ => ?_; refine St.assign ?_; refine WO.nil ?_; refine WK.seq ?_; refine WK.region ?_; refine St.fieldAddr ?_; refine St.load ?_)
  refine St.loadX (fun h2 hh => (hh.rd (by simp) hp).one rfl) ?_
  (refine St.bin ?_; refine St.assign ?_; refine WO.nil ?_)
  refine St.ret (by first | exact .tmp .nil | exact .cell .nil | exact .cell (.tmp .nil) | exact .tmp (.tmp .nil) | exact .cell (.cell .nil) | exact .tmp (.cell .nil) | exact .nil | exact .tmp (.cell (.tmp .nil)) | exact .cell (.tmp (.tmp .nil)) | exact .cell (.cell (.tmp .nil)) | exact .tmp (.tmp (.tmp .nil)) | exact .cell (.cell (.cell .nil))) ?_
  rfl
set_option maxRecDepth 100000 in
theorem moveAt1_con (h : Heap) (g : Gd h) (x : Mv) (p : Nat) (n : Int) (hp : Rd h p 0 (.int .i64 n)) : Con Try.prog Bs 70 [.agg (mvC x), .ptr p 0] h [] (.bool (x.id == n)) [] := by
  obtain ⟨a, b, c, d, e⟩ := x
  refine Con.start rfl Try.func70 rfl rfl Try.ntmps70 rfl rfl g ?_
  (refine WK.seq ?_; refine WK.region ?_; refine St.box fun _ _ => ?_; refine St.assign ?_; refine WO.nil ?_; refine WK.seq ?_; refine WK.region ?_; refine St.fieldAddr ?_; refine St.load ?_)
  refine St.loadX (fun h2 hh => (hh.rd (by simp) hp).one rfl) ?_
  (refine St.bin ?_; refine St.assign ?_; refine WO.nil ?_)
  refine St.ret (by first | exact .tmp .nil | exact .cell .nil | exact .cell (.tmp .nil) | exact .tmp (.tmp .nil) | exact .cell (.cell .nil) | exact .tmp (.cell .nil) | exact .nil | exact .tmp (.cell (.tmp .nil)) | exact .cell (.tmp (.tmp .nil)) | exact .cell (.cell (.tmp .nil)) | exact .tmp (.tmp (.tmp .nil)) | exact .cell (.cell (.cell .nil))) ?_
  rfl
end Go.Proofs.Ytjlpoomjgidgaaa
