/- A calculator for closed calls: abstract values, abstract memory, abstract operations. Nothing of a program is named. -/
import GoSem.Step
namespace Go.Proofs.Ytobehhcbnjgojaa.Ev

/-! ### memory: a tree over numbers -/
inductive T (α : Type) where
  | nil
  | node (l : T α) (v : Option α) (r : T α)
def T.get {α : Type} : T α → Nat → Option α
  | .nil, _ => none
  | .node l v r, n => match n with
    | 0 => v
    | k + 1 => cond (Nat.beq (Nat.mod k 2) 0) (l.get (Nat.div k 2)) (r.get (Nat.div k 2))
def T.put {α : Type} (x : Option α) : Nat → T α → Nat → T α
  | 0, t, _ => t
  | f + 1, t, n =>
    match t, n with
    | .nil, 0 => .node .nil x .nil
    | .nil, k + 1 => cond (Nat.beq (Nat.mod k 2) 0) (.node (T.put x f .nil (Nat.div k 2)) none .nil) (.node .nil none (T.put x f .nil (Nat.div k 2)))
    | .node l _ r, 0 => .node l x r
    | .node l v r, k + 1 => cond (Nat.beq (Nat.mod k 2) 0) (.node (T.put x f l (Nat.div k 2)) v r) (.node l v (T.put x f r (Nat.div k 2)))
def T.set {α : Type} (t : T α) (n : Nat) (x : α) : T α := T.put (some x) (Nat.succ n) t n
def T.del {α : Type} (t : T α) (n : Nat) : T α := T.put none (Nat.succ n) t n

/-! ### values -/
inductive ACap where
  | k (n : Nat)
  | m (d : Nat)
inductive AFn where
  | func (f : Nat)
  | yield (l : Nat)
inductive AV where
  | bool (b : Bool)
  | int (k : IntKind) (n : Int)
  | str (s : List UInt8)
  | ptr0
  | ptr (i off : Nat)
  | slice0
  | slice (i off len : Nat) (cap : ACap)
  | map0
  | map (i : Nat)
  | fn (f : AFn) (a c : List AV)
  | fn0
  | nilI
  | iface (t : Nat) (v : AV)
  | agg (l : List AV)
  | tup (l : List AV)

/-- what a written constant is -/
def abs : Nat → Value → Option AV
  | _, .bool b => some (.bool b)
  | _, .int k n => some (.int k n)
  | _, .string s => some (.str s.data.toList)
  | _, .pointer none => some .ptr0
  | _, .slice none 0 0 => some .slice0
  | _, .map none => some .map0
  | _, .nilFunc => some .fn0
  | _, .nilIface => some .nilI
  | d + 1, .agg cs => (cs.toList.mapM (abs d)).map .agg
  | d + 1, .tuple cs => (cs.toList.mapM (abs d)).map .tup
  | _, _ => none

structure ALoop where
  state : LoopState
  pending : Option Code
  tmps : T AV
  size : Nat
  params : Array Tmp
  assign : Code
  body : Code
  defers : Nat
inductive AObj where
  | cells (l : List AV) (t : TypeId)
  | row (l : List AV) (t : TypeId) (sz : Nat)
  | map (es : List (AV × AV × Nat)) (clock : Nat)
  | loop (r : ALoop)
  | deferred (isOpen : Bool)

structure Heap where
  t : T AObj
  next : Nat
  lo : Nat
  hid : List (Nat × Nat)
def Heap.hidden (h : Heap) (i : Nat) : Bool := h.hid.any fun r => Nat.ble r.1 i && Nat.blt i r.2
def Heap.get (h : Heap) (i : Nat) : Option AObj := if h.hidden i then none else h.t.get i
def Heap.set (h : Heap) (i : Nat) (o : AObj) : Option Heap :=
  if Nat.ble h.lo i then (match h.get i with | some _ => some { h with t := h.t.set i o } | none => none) else none
def Heap.new (h : Heap) (o : AObj) : Nat × Heap := (h.next, { h with t := h.t.set h.next o, next := h.next + 1 })
/-- a row that may lie where another one lies: that one is given up -/
def Heap.take (h : Heap) (i : Nat) (o : AObj) : Option (Nat × Heap) :=
  if Nat.ble h.lo i then (match h.get i with | some _ => some (h.next, { h with t := (h.t.del i).set h.next o, next := h.next + 1 }) | none => none) else none

/-- an activation's temporaries -/
structure AAct where
  tmps : T AV
  size : Nat
  defers : List Nat
def aundef : AV := .tup []
def AAct.at (a : AAct) (t : Nat) : AV := (a.tmps.get t).getD aundef
def AAct.put (a : AAct) (d : Option Nat) (v : AV) : Option AAct :=
  match d with
  | none => some a
  | some d => if Nat.blt d a.size then some { a with tmps := a.tmps.set d v } else none
def AAct.eval (a : AAct) : Operand → Option AV
  | .tmp t => some (a.at t)
  | .const v => abs 4 v
  | .global _ => none
  | .func f => some (.fn (.func f) [] [])

/-! ### cells -/
def AV.cells : AV → List AV
  | .agg l => l
  | v => [v]
def takeN {α : Type} : Nat → List α → Option (List α)
  | 0, _ => some []
  | _ + 1, [] => none
  | n + 1, x :: l => (takeN n l).map (x :: ·)
def dropN {α : Type} : Nat → List α → List α
  | 0, l => l
  | _ + 1, [] => []
  | n + 1, _ :: l => dropN n l
def nthN {α : Type} : Nat → List α → Option α
  | _, [] => none
  | 0, x :: _ => some x
  | n + 1, _ :: l => nthN n l
/-- the cells from off on are written over; none are added -/
def overN {α : Type} : Nat → List α → List α → Option (List α)
  | 0, [], l => some l
  | 0, _ :: _, [] => none
  | 0, x :: xs, _ :: l => (overN 0 xs l).map (x :: ·)
  | _ + 1, _, [] => none
  | n + 1, xs, y :: l => (overN n xs l).map (y :: ·)

def Heap.row (h : Heap) (i : Nat) : Option (List AV) :=
  match h.get i with
  | some (.cells l _) => some l
  | some (.row l _ _) => some l
  | _ => none
def Heap.setRow (h : Heap) (i : Nat) (l : List AV) : Option Heap :=
  match h.get i with
  | some (.cells _ t) => h.set i (.cells l t)
  | some (.row _ t sz) => h.set i (.row l t sz)
  | _ => none
def Heap.loadN (h : Heap) (i off n : Nat) : Option (List AV) := do takeN n (dropN off (← h.row i))
def Heap.storeN (h : Heap) (i off : Nat) (xs : List AV) : Option Heap := do h.setRow i (← overN off xs (← h.row i))

variable (P : Program)
def isAggT (t : TypeId) : Option Bool := match P.underlying t with
  | some (.struct _) | some (.array _ _) => some true
  | some _ => some false
  | none => none
def sizeT (t : TypeId) : Option Nat := (P.info? t).map (·.size)
def zeroT (t : TypeId) : Option AV := do abs 4 (← (← P.info? t).zero)

/-- an operation's outcome -/
inductive ANext where
  | value (v : AV)
  | skip
  | enter (f : Nat) (args : List AV)
  | round (l : Nat)  (args : List AV)

def eqV : Nat → AV → AV → Option Bool
  | _, .bool a, .bool b => some (a == b)
  | _, .int _ a, .int _ b => some (a == b)
  | _, .str a, .str b => some (a == b)
  | _, _, _ => none
/-- '==' by the type -/
def partE (t : TypeId) (l : List AV) (off : Nat) : Option AV :=
  match isAggT P t, sizeT P t with
  | some true, some s => (takeN s (dropN off l)).map .agg
  | some false, _ => nthN off l
  | _, _ => none
def eqFs (eq : TypeId → AV → AV → Option Bool) : List Field → List AV → List AV → Option Bool
  | [], _, _ => some true
  | f :: fs, xs, ys =>
    if f.name = "_" then none else
    match partE P f.type xs f.offset, partE P f.type ys f.offset with
    | some x, some y => match eq f.type x y with
      | some true => eqFs eq fs xs ys
      | r => r
    | _, _ => none
def eqAs (eq : AV → AV → Option Bool) : Nat → List AV → List AV → Option Bool
  | 0, _, _ => some true
  | n + 1, x :: xs, y :: ys => match eq x y with
    | some true => eqAs eq n xs ys
    | r => r
  | _ + 1, _, _ => none
def eqT : Nat → TypeId → AV → AV → Option Bool
  | 0, _, _, _ => none
  | d + 1, t, x, y =>
    match P.underlying t, x, y with
    | some .bool, .bool a, .bool b => some (a == b)
    | some (.int _), .int j a, .int k b => if j = k then some (a == b) else none
    | some .string, .str a, .str b => some (a == b)
    | some (.pointer _), .ptr0, .ptr0 => some true
    | some (.pointer _), .ptr0, .ptr _ _ => some false
    | some (.pointer _), .ptr _ _, .ptr0 => some false
    | some (.slice _), .slice0, .slice0 => some true
    | some (.slice _), .slice0, .slice _ _ _ _ => some false
    | some (.slice _), .slice _ _ _ _, .slice0 => some false
    | some (.map _ _), .map0, .map0 => some true
    | some (.map _ _), .map0, .map _ => some false
    | some (.map _ _), .map _, .map0 => some false
    | some (.func _ _ _), .fn0, .fn0 => some true
    | some (.func _ _ _), .fn0, .fn _ _ _ => some false
    | some (.func _ _ _), .fn _ _ _, .fn0 => some false
    | some (.struct fs), .agg xs, .agg ys =>
      if P.stoodInHeld t then none else eqFs P (eqT d) fs.toList xs ys
    | _, _, _ => none
end Go.Proofs.Ytobehhcbnjgojaa.Ev
