/- Layer 8: what a book's items brought to a bill, to an account. -/
import Derived.Test.YtkebbdpfjhhdhaaGreatDv
import Derived.Test.YtkebbdpfjhhdhaaGreatFb
/- Layer 8, plain: the book of items. -/
namespace Go.Proofs.YtkebbdpfjhhdhaaGreat
open Go.Proofs.YtkebbdpfjhhdhaaGreat.Ev

/-- a book: the last closed day, the postings, the items that were taken, the numbers of those that were refused -/
structure Bk where
  cl : Int
  ps : List Po
  tk : List Im
  rf : List Int
/-- the items that gave a bill its amounts -/
def amtL (l : List Im) (n : Int) : List Im := l.filter fun x => decide (x.bl = n)
def trB (b : Bk) (it dy am to fr : Int) : Option Bk :=
  if max dy (b.cl + 1) > 728 then none else some { b with ps := b.ps ++ [⟨it, max dy (b.cl + 1), to, am⟩, ⟨it, max dy (b.cl + 1), fr, 0 - am⟩] }
/-- what an account brought by items of a kind, less what it got back by those of another one -/
def leftL (i o a : Int) : List Im → Int
  | [] => 0
  | x :: l => (if x.ac = a then (if x.kd = o then -x.am else if x.kd = i then x.am else 0) else 0) + leftL i o a l
def headE (l : List Im) : Im := nthE l 0
def lastE (l : List Im) : Im := nthE l (l.length - 1)
/-- what an item brings; none if it is refused -/
def doB (b : Bk) (x : Im) : Option Bk :=
  if x.kd = 1 then (if (amtL b.tk x.bl).length = 0 then trB b x.id x.dy x.am x.ac 2 else none)
  else if x.kd = 2 then (if (amtL b.tk x.bl).length = 0 then none else trB b x.id (headE (amtL b.tk x.bl)).dy (x.am - (lastE (amtL b.tk x.bl)).am) (headE (amtL b.tk x.bl)).ac 2)
  else if x.kd = 3 then trB b x.id x.dy x.am 1 x.ac
  else if x.kd = 4 then (if leftL 3 4 x.ac b.tk ≥ x.am then trB b x.id x.dy x.am x.ac 1 else none)
  else if x.kd = 5 then trB b x.id x.dy x.am 1 3
  else if x.kd = 6 then (if leftL 5 6 x.ac b.tk ≥ x.am then trB b x.id x.dy x.am 3 1 else none)
  else if x.dy ≤ b.cl then none else some { b with cl := x.dy }
def stepB (b : Bk) (x : Im) : Bk :=
  match doB b x with
  | some c => { c with tk := c.tk ++ [x] }
  | none => { b with rf := b.rf ++ [x.id] }
def bk0 : Bk := ⟨-1, [], [], []⟩
/-- the items as known on a day -/
def knB (l : List Im) (k : Int) : List Im := (compP (srtJ l)).filter fun x => decide (x.kn ≤ k)
def bookL (b : Bk) (l : List Im) : Bk := l.foldl stepB b
def bookB (l : List Im) (k : Int) : Bk := bookL bk0 (knB l k)
theorem trB_tk {b c : Bk} {it dy am to fr : Int} (h : trB b it dy am to fr = some c) : c.tk = b.tk ∧ c.rf = b.rf ∧ c.cl = b.cl ∧ max dy (b.cl + 1) ≤ 728 ∧ c.ps = b.ps ++ [⟨it, max dy (b.cl + 1), to, am⟩, ⟨it, max dy (b.cl + 1), fr, 0 - am⟩] := by
  unfold trB at h
  split at h
  · cases h
  · cases h
    exact ⟨rfl, rfl, rfl, by omega, rfl⟩
theorem doB_tk {b c : Bk} {x : Im} (h : doB b x = some c) : c.tk = b.tk ∧ c.rf = b.rf := by
  unfold doB at h
  repeat' split at h
  all_goals first | cases h; done | (cases h; exact ⟨rfl, rfl⟩) | (have := trB_tk h; exact ⟨this.1, this.2.1⟩)
end Go.Proofs.YtkebbdpfjhhdhaaGreat

/- Layer 8: what a book's items brought to a bill, to an account. -/
namespace Go.Proofs.YtkebbdpfjhhdhaaGreat
open Go.Proofs.YtkebbdpfjhhdhaaGreat.Ev

theorem IsR.eVI {h0 h : Heap} {W : List Nat} {V : Ob} {l : List Im} {n : Nat} {v : AV} {Lv : Ob} (k : IsR 114 7 n (enF imC l) v Lv) (hn : l.length = n) (hh : Vw h0 W V h) (hm : ∀ x ∈ Lv, x ∈ V) : ImV h v l := en_v imC_len k.isL hn hh hm
theorem IsR.eVP {h0 h : Heap} {W : List Nat} {V : Ob} {l : List Po} {n : Nat} {v : AV} {Lv : Ob} (k : IsR 72 4 n (enF poC l) v Lv) (hn : l.length = n) (hh : Vw h0 W V h) (hm : ∀ x ∈ Lv, x ∈ V) : PoV h v l := en_v poC_len k.isL hn hh hm
set_option maxRecDepth 100000 in
theorem amounts1_con (h : Heap) (g : Gd h) (x : Im) (p : Nat) (n : Int) (hp : Rd h p 0 (.int .i64 n)) : Con Tryz.prog Bs 142 [.agg (imC x), .ptr p 0] h [] (.bool (decide (x.bl = n))) [] := by
  refine Con.start rfl Tryz.func142 rfl rfl Tryz.ntmps142 rfl rfl g ?_
  (refine WK.seq ?_; refine WK.region ?_; refine St.box fun _ _ => ?_; refine St.assign ?_; refine WO.nil ?_; refine WK.seq ?_; refine WK.region ?_; refine St.fieldAddr ?_; refine St.load ?_)
  refine St.loadX (fun h2 hh => (hh.rd (by simp) hp).one rfl) ?_
  (refine St.bin ?_; refine St.assign ?_; refine WO.nil ?_)
  refine St.ret (by first | exact .tmp .nil | exact .cell .nil | exact .cell (.tmp .nil) | exact .tmp (.tmp .nil) | exact .cell (.cell .nil) | exact .tmp (.cell .nil) | exact .nil | exact .tmp (.cell (.tmp .nil)) | exact .cell (.tmp (.tmp .nil)) | exact .cell (.cell (.tmp .nil)) | exact .tmp (.tmp (.tmp .nil)) | exact .tmp (.tmp (.tmp (.tmp .nil))) | exact .cell (.cell (.cell .nil))) ?_
  simp [oneOf]
  rw [Bool.eq_iff_iff]
  simp
set_option maxRecDepth 100000 in
set_option maxHeartbeats 4000000 in
theorem amounts_con (h : Heap) (g : Gd h) (j : Nat) (n : Int) (vt : AV) (l : List Im) (hj : Rd h j 2 vt) (hv : ImV h vt l) (hl : l.length ≤ 1000) : ∃ u L, Con Tryz.prog Bs 103 [.ptr j 0, .int .i64 n] h [] u L ∧ IsR 114 7 (amtL l n).length (enF imC (amtL l n)) u L := by
  refine Con.subG (Con.startR rfl Tryz.func103 rfl rfl Tryz.ntmps103 rfl rfl (SS.init g) ?_)
  (refine WK.seq ?_; refine WK.region ?_; refine St.box fun _ _ => ?_; refine St.assign ?_; refine WO.nil ?_; refine WK.seq ?_; refine WK.region ?_; refine St.move ?_; refine St.nilP ?_; refine St.fieldAddr ?_)
  rename_i p3 hp3
  refine St.loadX (fun h2 hh => (hh.rd (by simp) hj).one rfl) ?_
  (refine St.fn ?_)
  refine St.callR (fun _ => rfl) (fun h2 hh => onlyI_con h2 hh.gd vt l 142 [.ptr p3 0] (fun x => decide (x.bl = n)) (hv.vw ⟨hh.gd, hh.nx, hh.old, hh.own⟩) (by omega) (fun h3 V hh3 x _ => amounts1_con h3 hh3.gd x p3 n (hh3.rd (by simp) (hh.rdG (List.Mem.head _) rfl)))) ?_
  intro u L hu
  (refine St.assign ?_; refine WO.nil ?_)
  refine St.ret (by first | exact .tmp .nil | exact .cell .nil | exact .cell (.tmp .nil) | exact .tmp (.tmp .nil) | exact .cell (.cell .nil) | exact .tmp (.cell .nil) | exact .nil | exact .tmp (.cell (.tmp .nil)) | exact .cell (.tmp (.tmp .nil)) | exact .cell (.cell (.tmp .nil)) | exact .tmp (.tmp (.tmp .nil)) | exact .tmp (.tmp (.tmp (.tmp .nil))) | exact .cell (.cell (.cell .nil))) ?_
  exact ⟨L, List.sublist_append_left _ _, hu⟩
/-- what items of two kinds bring to their accounts -/
def brgL (o : Int) (x : Im) : Int × Int := if x.kd = o then (x.ac, -x.am) else (x.ac, x.am)
def leftP (i o : Int) (l : List Im) : List (Int × Int) := (l.filter fun x => decide (x.kd = i ∨ x.kd = o)).map (brgL o)
theorem leftP_get (i o a : Int) (l : List Im) : getQ (sumQ (leftP i o l)) a = leftL i o a l := by
  rw [sumQ_get]
  induction l with
  | nil => rfl
  | cons x l ih =>
    have hc : ((leftP i o (x :: l)).filter fun p => decide (p.1 = a)) = (if (x.kd = i ∨ x.kd = o) ∧ x.ac = a then [brgL o x] else []) ++ (leftP i o l).filter fun p => decide (p.1 = a) := by
      unfold leftP
      have e1 : (brgL o x).1 = x.ac := by unfold brgL; split <;> rfl
      by_cases h : x.kd = i ∨ x.kd = o
      · have hb : decide (x.kd = i ∨ x.kd = o) = true := by simpa using h
        rw [List.filter_cons, if_pos hb, List.map_cons]
        by_cases h2 : x.ac = a
        · rw [List.filter_cons_of_pos (by rw [e1]; simpa using h2), if_pos ⟨h, h2⟩]
          rfl
        · rw [List.filter_cons_of_neg (by rw [e1]; simpa using h2), if_neg (fun q => h2 q.2)]
          rfl
      · have hb : ¬ decide (x.kd = i ∨ x.kd = o) = true := by simpa using h
        rw [List.filter_cons, if_neg hb, if_neg (fun q => h q.1)]
        rfl
    rw [hc, List.map_append, List.sum_append, ih, leftL]
    congr 1
    by_cases h2 : x.ac = a
    · rw [if_pos h2]
      by_cases h3 : x.kd = o
      · rw [if_pos h3, if_pos ⟨.inr h3, h2⟩]
        simp [brgL, h3]
      · rw [if_neg h3]
        by_cases h4 : x.kd = i
        · rw [if_pos h4, if_pos ⟨.inl h4, h2⟩]
          unfold brgL
          rw [if_neg h3]
          simp
        · rw [if_neg h4, if_neg (fun q => by rcases q.1 with q | q <;> contradiction)]
          rfl
    · rw [if_neg h2, if_neg (fun q => h2 q.2)]
      rfl
set_option maxRecDepth 100000 in
theorem left1_con (h : Heap) (g : Gd h) (x : Im) (p q : Nat) (i o : Int) (hp : Rd h p 0 (.int .i64 i)) (hq : Rd h q 0 (.int .i64 o)) : Con Tryz.prog Bs 145 [.agg (imC x), .ptr p 0, .ptr q 0] h [] (.bool (decide (x.kd = i ∨ x.kd = o))) [] := by
  refine Con.start rfl Tryz.func145 rfl rfl Tryz.ntmps145 rfl rfl g ?_
  (refine WK.seq ?_; refine WK.region ?_; refine St.box fun _ _ => ?_; refine St.assign ?_; refine WO.nil ?_; refine WK.seq ?_; refine WK.region ?_; refine St.fieldAddr ?_; refine St.load ?_)
  refine St.loadX (fun h2 hh => (hh.rd (by simp) hp).one rfl) ?_
  (refine St.bin ?_; refine St.move ?_)
  refine St.split (fun q1 => ?_) (fun q1 => ?_)
  · have e1 : x.kd = i := by simpa using q1
    (refine St.skip ?_; refine St.skip ?_; refine St.skip ?_; refine St.skip ?_; refine St.pickT ?_; refine St.assign ?_; refine WO.nil ?_)
    refine St.ret (by first | exact .tmp .nil | exact .cell .nil | exact .cell (.tmp .nil) | exact .tmp (.tmp .nil) | exact .cell (.cell .nil) | exact .tmp (.cell .nil) | exact .nil | exact .tmp (.cell (.tmp .nil)) | exact .cell (.tmp (.tmp .nil)) | exact .cell (.cell (.tmp .nil)) | exact .tmp (.tmp (.tmp .nil)) | exact .tmp (.tmp (.tmp (.tmp .nil))) | exact .cell (.cell (.cell .nil))) ?_
    simp [oneOf, e1]
  · have e1 : ¬ x.kd = i := by simpa using q1
    (refine St.fieldAddr ?_; refine St.load ?_)
    refine St.loadX (fun h2 hh => (hh.rd (by simp) hq).one rfl) ?_
    (refine St.bin ?_; refine St.pickF ?_; refine St.assign ?_; refine WO.nil ?_)
    refine St.ret (by first | exact .tmp .nil | exact .cell .nil | exact .cell (.tmp .nil) | exact .tmp (.tmp .nil) | exact .cell (.cell .nil) | exact .tmp (.cell .nil) | exact .nil | exact .tmp (.cell (.tmp .nil)) | exact .cell (.tmp (.tmp .nil)) | exact .cell (.cell (.tmp .nil)) | exact .tmp (.tmp (.tmp .nil)) | exact .tmp (.tmp (.tmp (.tmp .nil))) | exact .cell (.cell (.cell .nil))) ?_
    simp [oneOf, e1]
    rw [Bool.eq_iff_iff]
    simp
set_option maxRecDepth 100000 in
theorem left2_con (h : Heap) (g : Gd h) (x : Im) (q : Nat) (o : Int) (hb : 0 ≤ x.am ∧ x.am ≤ 16777216) (hq : Rd h q 0 (.int .i64 o)) : Con Tryz.prog Bs 147 [.agg (imC x), .ptr q 0] h [] (.tup [.int .i64 (brgL o x).1, .int .i64 (brgL o x).2]) [] := by
  refine Con.start rfl Tryz.func147 rfl rfl Tryz.ntmps147 rfl rfl g ?_
  (refine WK.seq ?_; refine WK.region ?_; refine St.box fun _ _ => ?_; refine St.assign ?_; refine St.assign ?_; refine WO.nil ?_; refine WK.seq ?_; refine WK.seq ?_; refine WK.region ?_; refine St.fieldAddr ?_; refine St.load ?_)
  refine St.loadX (fun h2 hh => (hh.rd (by simp) hq).one rfl) ?_
  (refine St.bin ?_; refine WO.nil ?_)
  refine St.splitC (fun q1 => ?_) (fun q1 => ?_)
  · have e1 : x.kd = o := by simpa using q1
    (refine WK.seq ?_; refine WK.regionD ?_; refine St.fieldAddr ?_; refine St.load ?_; refine St.fieldAddr ?_; refine St.load ?_; refine St.unI ?_; refine St.assign ?_; refine St.assign ?_; refine WO.nil ?_)
    refine St.ret (by first | exact .tmp .nil | exact .cell .nil | exact .cell (.tmp .nil) | exact .tmp (.tmp .nil) | exact .cell (.cell .nil) | exact .tmp (.cell .nil) | exact .nil | exact .tmp (.cell (.tmp .nil)) | exact .cell (.tmp (.tmp .nil)) | exact .cell (.cell (.tmp .nil)) | exact .tmp (.tmp (.tmp .nil)) | exact .tmp (.tmp (.tmp (.tmp .nil))) | exact .cell (.cell (.cell .nil))) ?_
    simp [oneOf, brgL, e1]
  · have e1 : ¬ x.kd = o := by simpa using q1
    (refine WK.skip ?_; refine WK.seq ?_; refine WK.regionD ?_; refine St.fieldAddr ?_; refine St.load ?_; refine St.fieldAddr ?_; refine St.load ?_; refine St.assign ?_; refine St.assign ?_; refine WO.nil ?_)
    refine St.ret (by first | exact .tmp .nil | exact .cell .nil | exact .cell (.tmp .nil) | exact .tmp (.tmp .nil) | exact .cell (.cell .nil) | exact .tmp (.cell .nil) | exact .nil | exact .tmp (.cell (.tmp .nil)) | exact .cell (.tmp (.tmp .nil)) | exact .cell (.cell (.tmp .nil)) | exact .tmp (.tmp (.tmp .nil)) | exact .tmp (.tmp (.tmp (.tmp .nil))) | exact .cell (.cell (.cell .nil))) ?_
    simp [oneOf, brgL, e1]
set_option maxRecDepth 100000 in
set_option maxHeartbeats 4000000 in
theorem left_con (h : Heap) (g : Gd h) (j : Nat) (i o : Int) (vt : AV) (l : List Im) (hj : Rd h j 2 vt) (hv : ImV h vt l) (hl : l.length ≤ 1000) (hb : ∀ x ∈ l, 0 ≤ x.am ∧ x.am ≤ 16777216) : ∃ u L, Con Tryz.prog Bs 106 [.ptr j 0, .int .i64 i, .int .i64 o] h [] u L ∧ ∃ m, u = .map m ∧ L = [(m, .map (mapQ (sumQ (leftP i o l)) 0) (sumQ (leftP i o l)).length)] := by
  refine Con.subG (Con.startR rfl Tryz.func106 rfl rfl Tryz.ntmps106 rfl rfl (SS.init g) ?_)
  (refine WK.seq ?_; refine WK.region ?_; refine St.box fun _ _ => ?_; refine St.box fun _ _ => ?_; refine St.assign ?_; refine WO.nil ?_; refine WK.seq ?_; refine WK.region ?_; refine St.move ?_; refine St.nilP ?_; refine St.fieldAddr ?_)
  rename_i p4 hp4 p5 hp5
  refine St.loadX (fun h2 hh => (hh.rd (by simp) hj).one rfl) ?_
  (refine St.fn ?_)
  refine St.callR (fun _ => rfl) (fun h2 hh => onlyI_con h2 hh.gd vt l 145 [.ptr p4 0, .ptr p5 0] (fun x => decide (x.kd = i ∨ x.kd = o)) (hv.vw ⟨hh.gd, hh.nx, hh.old, hh.own⟩) (by omega) (fun h3 V hh3 x _ => left1_con h3 hh3.gd x p4 p5 i o (hh3.rd (by simp) (hh.rdG (List.Mem.tail _ (List.Mem.head _)) rfl)) (hh3.rd (by simp) (hh.rdG (List.Mem.head _) rfl)))) ?_
  intro u L hu
  (refine St.assign ?_; refine WO.nil ?_; refine WK.seq ?_; refine WK.region ?_; refine St.move ?_; refine St.fn ?_)
  refine St.callR (fun _ => rfl) (fun h2 hh => sumsI_con h2 hh.gd u (l.filter fun x => decide (x.kd = i ∨ x.kd = o)) 147 [.ptr p5 0] (brgL o) (IsR.eVI hu rfl hh (fun x hx => List.mem_append_left _ hx)) (Nat.le_trans (List.length_filter_le _ _) (by omega)) (fun x hx => ?_) (fun h3 V hh3 x hx => left2_con h3 hh3.gd x p5 o (hb x ((List.mem_filter.1 hx).1)) (hh3.rd (by simp) (hh.rdG (List.mem_append_right _ (List.Mem.head _)) rfl)))) ?_
  · have := hb x ((List.mem_filter.1 hx).1)
    unfold brgL
    split <;> simp only <;> omega
  rintro _ _ ⟨m, rfl, rfl⟩
  (refine St.assign ?_; refine WO.nil ?_)
  refine St.ret (by first | exact .tmp .nil | exact .cell .nil | exact .cell (.tmp .nil) | exact .tmp (.tmp .nil) | exact .cell (.cell .nil) | exact .tmp (.cell .nil) | exact .nil | exact .tmp (.cell (.tmp .nil)) | exact .cell (.tmp (.tmp .nil)) | exact .cell (.cell (.tmp .nil)) | exact .tmp (.tmp (.tmp .nil)) | exact .tmp (.tmp (.tmp (.tmp .nil))) | exact .cell (.cell (.cell .nil))) ?_
  exact ⟨_, (List.nil_sublist _).cons_cons _, m, rfl, rfl⟩
end Go.Proofs.YtkebbdpfjhhdhaaGreat
