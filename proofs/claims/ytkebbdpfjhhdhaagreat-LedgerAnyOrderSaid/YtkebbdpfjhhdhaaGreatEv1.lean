/- A calculator for closed calls: abstract values, abstract memory, abstract operations. Nothing of a program is named. -/
import GoSem.Step
import Derived.RangeFuncRecord
import Derived.LoopNIn
import Derived.OrdersIn
import Derived.Below
import Derived.Laws.StructEq
import Derived.Laws.Tables
import Derived.Laws.Cells
import Derived.ChangeKeysEq
namespace Go.Proofs.YtkebbdpfjhhdhaaGreat.Ev

/-! ### memory: a tree over numbers -/
inductive T (α : Type) where
  | nil
  | node (l : T α) (v : Option α) (r : T α)
def T.get {α : Type} : T α → Nat → Option α
  | .nil, _ => none
  | .node l v r, n => match n with
    | 0 => v
    | k + 1 => cond (Nat.beq (Nat.mod k 2) 0) (l.get (Nat.div k 2)) (r.get (Nat.div k 2))
def T.put {α : Type} (x : Option α) : Nat → T α → Nat → T α
  | 0, t, _ => t
  | f + 1, t, n =>
    match t, n with
    | .nil, 0 => .node .nil x .nil
    | .nil, k + 1 => cond (Nat.beq (Nat.mod k 2) 0) (.node (T.put x f .nil (Nat.div k 2)) none .nil) (.node .nil none (T.put x f .nil (Nat.div k 2)))
    | .node l _ r, 0 => .node l x r
    | .node l v r, k + 1 => cond (Nat.beq (Nat.mod k 2) 0) (.node (T.put x f l (Nat.div k 2)) v r) (.node l v (T.put x f r (Nat.div k 2)))
def T.set {α : Type} (t : T α) (n : Nat) (x : α) : T α := T.put (some x) (Nat.succ n) t n
def T.del {α : Type} (t : T α) (n : Nat) : T α := T.put none (Nat.succ n) t n

/-! ### values -/
inductive ACap where
  | k (n : Nat)
  | m (d : Nat)
inductive AFn where
  | func (f : Nat)
  | yield (l : Nat)
inductive AV where
  | bool (b : Bool)
  | int (k : IntKind) (n : Int)
  | str (s : List UInt8)
  | ptr0
  | ptr (i off : Nat)
  | slice0
  | sliceZ
  | sliceE (i off d : Nat)
  | slice (i off len : Nat) (cap : ACap)
  | map0
  | map (i : Nat)
  | fn (f : AFn) (a c : List AV)
  | fn0
  | nilI
  | iface (t : Nat) (v : AV)
  | agg (l : List AV)
  | tup (l : List AV)

/-- what a written constant is -/
def abs : Nat → Value → Option AV
  | _, .bool b => some (.bool b)
  | _, .int k n => some (.int k n)
  | _, .string s => some (.str s.data.toList)
  | _, .pointer none => some .ptr0
  | _, .slice none 0 0 => some .slice0
  | _, .map none => some .map0
  | _, .nilFunc => some .fn0
  | _, .nilIface => some .nilI
  | d + 1, .agg cs => (cs.toList.mapM (abs d)).map .agg
  | d + 1, .tuple cs => (cs.toList.mapM (abs d)).map .tup
  | _, _ => none

structure ALoop where
  state : LoopState
  pending : Option Code
  tmps : T AV
  size : Nat
  params : Array Tmp
  assign : Code
  body : Code
  defers : Nat
inductive AObj where
  | cells (l : List AV) (t : TypeId)
  | row (l : List AV) (t : TypeId) (sz : Nat)
  | view (f : Nat → Option AV)
  | map (es : List (AV × AV × Nat)) (clock : Nat)
  | loop (r : ALoop)
  | deferred (isOpen : Bool)
  | iter (m since : Nat) (seen : List Nat) (st : Nat)

structure Heap where
  t : T AObj
  next : Nat
  lo : Nat
  hid : List (Nat × Nat)
def Heap.hidden (h : Heap) (i : Nat) : Bool := h.hid.any fun r => Nat.ble r.1 i && Nat.blt i r.2
def Heap.get (h : Heap) (i : Nat) : Option AObj := if h.hidden i then none else h.t.get i
def Heap.set (h : Heap) (i : Nat) (o : AObj) : Option Heap :=
  if Nat.ble h.lo i then (match h.get i with | some _ => some { h with t := h.t.set i o } | none => none) else none
def Heap.new (h : Heap) (o : AObj) : Nat × Heap := (h.next, { h with t := h.t.set h.next o, next := h.next + 1 })
/-- a row that may lie where another one lies: that one is given up -/
def Heap.take (h : Heap) (i : Nat) (o : AObj) : Option (Nat × Heap) :=
  if Nat.ble h.lo i then (match h.get i with | some _ => some (h.next, { h with t := (h.t.del i).set h.next o, next := h.next + 1 }) | none => none) else none

/-- an activation's temporaries -/
structure AAct where
  tmps : T AV
  size : Nat
  defers : List Nat
def aundef : AV := .tup []
def AAct.at (a : AAct) (t : Nat) : AV := (a.tmps.get t).getD aundef
def AAct.put (a : AAct) (d : Option Nat) (v : AV) : Option AAct :=
  match d with
  | none => some a
  | some d => if Nat.blt d a.size then some { a with tmps := a.tmps.set d v } else none
def AAct.eval (a : AAct) : Operand → Option AV
  | .tmp t => some (a.at t)
  | .const v => abs 4 v
  | .global _ => none
  | .func f => some (.fn (.func f) [] [])

/-! ### cells -/
def AV.cells : AV → List AV
  | .agg l => l
  | v => [v]
def takeN {α : Type} : Nat → List α → Option (List α)
  | 0, _ => some []
  | _ + 1, [] => none
  | n + 1, x :: l => (takeN n l).map (x :: ·)
def dropN {α : Type} : Nat → List α → List α
  | 0, l => l
  | _ + 1, [] => []
  | n + 1, _ :: l => dropN n l
def nthN {α : Type} : Nat → List α → Option α
  | _, [] => none
  | 0, x :: _ => some x
  | n + 1, _ :: l => nthN n l
/-- the cells from off on are written over; none are added -/
def overN {α : Type} : Nat → List α → List α → Option (List α)
  | 0, [], l => some l
  | 0, _ :: _, [] => none
  | 0, x :: xs, _ :: l => (overN 0 xs l).map (x :: ·)
  | _ + 1, _, [] => none
  | n + 1, xs, y :: l => (overN n xs l).map (y :: ·)

def Heap.row (h : Heap) (i : Nat) : Option (List AV) :=
  match h.get i with
  | some (.cells l _) => some l
  | some (.row l _ _) => some l
  | _ => none
def Heap.setRow (h : Heap) (i : Nat) (l : List AV) : Option Heap :=
  match h.get i with
  | some (.cells _ t) => h.set i (.cells l t)
  | some (.row _ t sz) => h.set i (.row l t sz)
  | _ => none
def readF (f : Nat → Option AV) : Nat → Nat → Option (List AV)
  | _, 0 => some []
  | off, n + 1 => match f off, readF f (off + 1) n with
    | some v, some l => some (v :: l)
    | _, _ => none
def Heap.loadN (h : Heap) (i off n : Nat) : Option (List AV) :=
  match h.get i with
  | some (.cells l _) => takeN n (dropN off l)
  | some (.row l _ _) => takeN n (dropN off l)
  | some (.view f) => readF f off n
  | _ => none
def Heap.at1 (h : Heap) (i off : Nat) : Option AV :=
  match h.get i with
  | some (.cells l _) => nthN off l
  | some (.row l _ _) => nthN off l
  | some (.view f) => f off
  | _ => none
def Heap.storeN (h : Heap) (i off : Nat) (xs : List AV) : Option Heap := do h.setRow i (← overN off xs (← h.row i))

variable (P : Program)
def isAggT (t : TypeId) : Option Bool := match P.underlying t with
  | some (.struct _) | some (.array _ _) => some true
  | some _ => some false
  | none => none
def sizeT (t : TypeId) : Option Nat := (P.info? t).map (·.size)
def zeroT (t : TypeId) : Option AV := do abs 4 (← (← P.info? t).zero)

/-- an operation's outcome -/
inductive ANext where
  | value (v : AV)
  | skip
  | enter (f : Nat) (args : List AV)
  | round (l : Nat)  (args : List AV)

def eqV : Nat → AV → AV → Option Bool
  | _, .bool a, .bool b => some (a == b)
  | _, .int _ a, .int _ b => some (a == b)
  | _, .str a, .str b => some (a == b)
  | _, _, _ => none
/-- '==' by the type -/
def partE (t : TypeId) (l : List AV) (off : Nat) : Option AV :=
  match isAggT P t, sizeT P t with
  | some true, some s => (takeN s (dropN off l)).map .agg
  | some false, _ => nthN off l
  | _, _ => none
def eqFs (eq : TypeId → AV → AV → Option Bool) : List Field → List AV → List AV → Option Bool
  | [], _, _ => some true
  | f :: fs, xs, ys =>
    if f.name = "_" then none else
    match partE P f.type xs f.offset, partE P f.type ys f.offset with
    | some x, some y => match eq f.type x y with
      | some true => eqFs eq fs xs ys
      | r => r
    | _, _ => none
def eqAs (eq : AV → AV → Option Bool) : Nat → List AV → List AV → Option Bool
  | 0, _, _ => some true
  | n + 1, x :: xs, y :: ys => match eq x y with
    | some true => eqAs eq n xs ys
    | r => r
  | _ + 1, _, _ => none
/-- two lists of integers -/
def sameI : List AV → List AV → Option Bool
  | [], [] => some true
  | .int i x :: a, .int j y :: b => if i = j then (match sameI a b with
    | some r => some (x == y && r)
    | none => none) else none
  | _, _ => none
def eqT : Nat → TypeId → AV → AV → Option Bool
  | 0, _, _, _ => none
  | d + 1, t, x, y =>
    match P.underlying t, x, y with
    | some .bool, .bool a, .bool b => some (a == b)
    | some (.int _), .int j a, .int k b => if j = k then some (a == b) else none
    | some .string, .str a, .str b => some (a == b)
    | some (.pointer _), .ptr0, .ptr0 => some true
    | some (.pointer _), .ptr0, .ptr _ _ => some false
    | some (.pointer _), .ptr _ _, .ptr0 => some false
    | some (.slice _), .slice0, .slice0 => some true
    | some (.slice _), .slice0, .slice _ _ _ _ => some false
    | some (.slice _), .slice _ _ _ _, .slice0 => some false
    | some (.map _ _), .map0, .map0 => some true
    | some (.map _ _), .map0, .map _ => some false
    | some (.map _ _), .map _, .map0 => some false
    | some (.func _ _ _), .fn0, .fn0 => some true
    | some (.func _ _ _), .fn0, .fn _ _ _ => some false
    | some (.func _ _ _), .fn _ _ _, .fn0 => some false
    | some (.struct fs), .agg xs, .agg ys =>
      if P.stoodInHeld t then none else eqFs P (eqT d) fs.toList xs ys
    | some (.array n e), .agg xs, .agg ys =>
      match P.underlying e, sizeT P e with
      | some (.int _), some 1 => if d = 0 then none else if xs.length = n ∧ ys.length = n then sameI xs ys else none
      | _, _ => none
    | _, _, _ => none
end Go.Proofs.YtkebbdpfjhhdhaaGreat.Ev

namespace Go.Proofs.YtkebbdpfjhhdhaaGreat.Ev
variable (P : Program)

def aint (n : Int) : AV := .int .i64 n
def asI : AV → Option Int
  | .int _ n => some n
  | _ => none

def evInt (op : BinOp) (k : IntKind) (x y : Int) : Option AV :=
  match op with
  | .add => some (.int k (k.wrap (x + y)))
  | .sub => some (.int k (k.wrap (x - y)))
  | .mul => some (.int k (k.wrap (x * y)))
  | .quo => if y = 0 then none else some (.int k (k.wrap (x.tdiv y)))
  | .rem => if y = 0 then none else some (.int k (x.tmod y))
  | .and => some (.int k (k.wrap (BitVec.ofInt k.bits x &&& BitVec.ofInt k.bits y).toNat))
  | .or => some (.int k (k.wrap (BitVec.ofInt k.bits x ||| BitVec.ofInt k.bits y).toNat))
  | .xor => some (.int k (k.wrap (BitVec.ofInt k.bits x ^^^ BitVec.ofInt k.bits y).toNat))
  | .andNot => some (.int k (k.wrap (BitVec.ofInt k.bits x &&& ~~~ BitVec.ofInt k.bits y).toNat))
  | .eql => some (.bool (x == y))
  | .neq => some (.bool (x != y))
  | .lss => some (.bool (x < y))
  | .leq => some (.bool (x ≤ y))
  | .gtr => some (.bool (x > y))
  | .geq => some (.bool (x ≥ y))
  | _ => none
def evShift (op : BinOp) (k : IntKind) (x y : Int) : Option AV :=
  if y < 0 then none else
  match op with
  | .shl => some (.int k (k.wrap (x * 2 ^ (min y.toNat k.bits))))
  | .shr => some (.int k (x.fdiv (2 ^ (min y.toNat k.bits))))
  | _ => none
def evStr (op : BinOp) (x y : List UInt8) : Option AV :=
  match op with
  | .add => if x.length + y.length ≤ 1000000 then some (.str (x ++ y)) else none
  | .eql => some (.bool (x == y))
  | .neq => some (.bool !(x == y))
  | .lss => some (.bool (Op.bytesLess x y))
  | .leq => some (.bool (Op.bytesLess x y || x == y))
  | .gtr => some (.bool !(Op.bytesLess x y || x == y))
  | .geq => some (.bool !(Op.bytesLess x y))
  | _ => none
def isEq : BinOp → Bool
  | .eql | .neq => true
  | _ => false
def guardOk (t : TypeId) : AV → Bool
  | .agg _ => !(P.eqGuardType P.depth t)
  | _ => true
def evEq (op : BinOp) (t : TypeId) (x y : AV) : Option AV :=
  match op with
  | .eql => if guardOk P t x then (eqT P 40 t x y).map .bool else none
  | .neq => if guardOk P t x then (eqT P 40 t x y).map fun b => .bool !b else none
  | _ => none
def evBin (op : BinOp) (t : TypeId) (x y : AV) : Option AV :=
  match x, y with
  | .int k a, .int j b => if op = .shl ∨ op = .shr then evShift op k a b else if k = j then evInt op k a b else none
  | .str a, .str b => evStr op a b
  | x, y => evEq P op t x y
def evUn (op : UnOp) (x : AV) : Option AV :=
  match op, x with
  | .neg, .int k n => evInt .sub k 0 n
  | .xor, .int k n => evInt .xor k (if k.signed then -1 else k.max) n
  | .not, .bool b => some (.bool !b)
  | _, _ => none

/-- the place of a part: offset and size -/
def fillA (place : Nat → Option (Nat × Nat)) (cells : List AV) : List (Nat × AV) → Option (List AV)
  | [] => some cells
  | (i, v) :: rest =>
    match place i with
    | none => none
    | some (off, size) =>
      if v.cells.length = size then
        match overN off v.cells cells with
        | some c => fillA place c rest
        | none => none
      else none
def evBuild (t : TypeId) (parts : List (Nat × AV)) : Option AV :=
  match zeroT P t, P.underlying t with
  | some z, some (.struct fs) =>
    match fs.toList.mapM (fun f => (P.info? f.type).map fun i => (f.offset, i.size)) with
    | some places => (fillA (fun i => nthN i places) z.cells parts).map .agg
    | none => none
  | some z, some (.array _ e) => (sizeT P e).bind fun s => (fillA (fun i => some (i * s, s)) z.cells parts).map .agg
  | _, _ => none
def rep {α : Type} (l : List α) : Nat → List α
  | 0 => []
  | n + 1 => l ++ rep l n
def evBuildSlice (t : TypeId) (len : Nat) (parts : List (Nat × AV)) : Option (List AV × TypeId) :=
  match P.underlying t with
  | some (.slice e) =>
    match sizeT P e, zeroT P e with
    | some s, some z =>
      if z.cells.length = s ∧ 0 < s ∧ len * s ≤ 65536 then (fillA (fun i => some (i * s, s)) (rep z.cells len) parts).map fun c => (c, e) else none
    | _, _ => none
  | _ => none

def partA (t : TypeId) (l : List AV) (off : Nat) : Option AV :=
  match isAggT P t, sizeT P t with
  | some true, some s => (takeN s (dropN off l)).map .agg
  | some false, _ => nthN off l
  | _, _ => none
def evLoad (h : Heap) (t : TypeId) (i off : Nat) : Option AV :=
  match isAggT P t, sizeT P t with
  | some true, some s => (h.loadN i off s).map .agg
  | some false, _ => h.at1 i off
  | _, _ => none
def okCell : AV → Bool
  | .agg _ => false
  | .tup _ => false
  | _ => true
def evStore (h : Heap) (t : TypeId) (i off : Nat) (v : AV) : Option Heap :=
  match sizeT P t with
  | some s => if v.cells.length = s ∧ v.cells.all okCell then h.storeN i off v.cells else none
  | none => none

/-- how many elements a row has for sure -/
def knownN (h : Heap) (i sz : Nat) : Nat := match h.get i with
  | some (.row l _ s) => if s = sz then l.length / sz else 0
  | _ => 0
def boundIn (v : AV) (most : Nat) : Option Nat :=
  match v with
  | .int _ n => if 0 ≤ n ∧ n ≤ (most : Int) then some n.toNat else none
  | _ => none
def optB (v : Option AV) (most dflt : Nat) : Option Nat :=
  match v with
  | none => some dflt
  | some v => boundIn v most
def evSliceK (s len cap i off : Nat) (lo hi mx : Option AV) : Option AV :=
  match optB mx cap cap with
  | some m => match optB hi m len with
    | some b => match optB lo b 0 with
      | some a => some (.slice i (if m = a then off else off + a * s) (b - a) (.k (m - a)))
      | none => none
    | none => none
  | none => none
def evSliceM (s len known d i off : Nat) (lo hi : Option AV) : Option AV :=
  match optB hi (known - d) len with
  | some b => match optB lo b 0 with
    | some a => if a = 0 ∨ a + d < known then some (.slice i (off + a * s) (b - a) (.m (d + a))) else if b = a then some (.sliceE i (off + a * s) (d + a)) else none
    | none => none
  | none => none
def evSliceX (s known d i off : Nat) (lo hi : Option AV) (mx : AV) : Option AV :=
  match boundIn mx (known - d) with
  | some m => match hi with
    | some hv => match boundIn hv m with
      | some b => match optB lo b 0 with
        | some a => some (.slice i (if m = a then off else off + a * s) (b - a) (.k (m - a)))
        | none => none
      | none => none
    | none => none
  | none => none
def evSlice (h : Heap) (t : TypeId) (x : AV) (lo hi mx : Option AV) : Option AV :=
  if mx.isSome && hi.isNone then none else
  match P.underlying t, x with
  | some .string, .str s =>
    match mx, optB hi s.length s.length with
    | none, some b => (optB lo b 0).map fun a => .str (List.take (b - a) (List.drop a s))
    | _, _ => none
  | some (.slice e), .slice0 =>
    match sizeT P e, optB mx 0 0 with
    | some _, some m => match optB hi m 0 with
      | some b => match optB lo b 0 with
        | some _ => some .slice0
        | none => none
      | none => none
    | _, _ => none
  | some (.slice e), .slice i off len (.k cap) => (sizeT P e).bind fun s => evSliceK s len cap i off lo hi mx
  | some (.slice e), .slice i off len (.m d) =>
    match sizeT P e, mx with
    | some s, none => evSliceM s len (knownN h i s) d i off lo hi
    | some s, some v => evSliceX s (knownN h i s) d i off lo hi v
    | _, _ => none
  | some (.array n e), .ptr i off => (sizeT P e).bind fun s => evSliceK s n n i off lo hi mx
  | _, _ => none

def evIndexAddr (t : TypeId) (x ix : AV) : Option AV :=
  match ix with
  | .int _ i =>
    match P.underlying t, x with
    | some (.array len e), .ptr b off => (sizeT P e).bind fun s => if 0 ≤ i ∧ i < len then some (.ptr b (off + i.toNat * s)) else none
    | some (.slice e), .slice b off len _ => (sizeT P e).bind fun s => if 0 ≤ i ∧ i < len then some (.ptr b (off + i.toNat * s)) else none
    | _, _ => none
  | _ => none
def evIndex (t : TypeId) (x ix : AV) : Option AV :=
  match ix with
  | .int _ i =>
    match P.underlying t, x with
    | some (.array len e), .agg cs => (sizeT P e).bind fun s => if 0 ≤ i ∧ i < len then partA P e cs (i.toNat * s) else none
    | some .string, .str s => if 0 ≤ i then (nthN i.toNat s).map fun b => .int .u8 b.toNat else none
    | _, _ => none
  | _ => none
def evFieldAddr (t : TypeId) (x : AV) (f : Nat) : Option AV :=
  match P.underlying t, x with
  | some (.struct fs), .ptr i off => match fs[f]? with
    | some fd => (sizeT P fd.type).bind fun s => if s = 0 then none else some (.ptr i (off + fd.offset))
    | none => none
  | _, _ => none
def evField (t : TypeId) (x : AV) (f : Nat) : Option AV :=
  match P.underlying t, x with
  | some (.struct fs), .agg cs => (fs[f]?).bind fun fd => partA P fd.type cs fd.offset
  | _, _ => none

/-! maps with keys of one cell -/
def plainKey (t : TypeId) : Bool := match P.underlying t with
  | some (.int _) | some .string | some .bool => true
  | _ => false
def sameKey : AV → AV → Option Bool
  | .int j a, .int k b => if j = k then some (a == b) else none
  | .str a, .str b => some (a == b)
  | .bool a, .bool b => some (a == b)
  | .agg a, .agg b => sameI a b
  | _, _ => none
def findE (k : AV) : List (AV × AV × Nat) → Nat → Option (Option (Nat × AV × Nat))
  | [], _ => some none
  | e :: es, i => match sameKey k e.1 with
    | some true => some (some (i, e.2))
    | some false => findE k es (i + 1)
    | none => none
def setE : Nat → AV → AV → List (AV × AV × Nat) → List (AV × AV × Nat)
  | _, _, _, [] => []
  | 0, k, v, e :: es => (k, v, e.2.2) :: es
  | n + 1, k, v, e :: es => e :: setE n k v es
def allI : List AV → Bool
  | [] => true
  | .int _ _ :: l => allI l
  | _ => false
/-- fields that are integers, one cell each, one behind the other -/
def intFields : List Field → Nat → Bool
  | [], _ => true
  | f :: fs, i => (if f.name = "_" then false else true) && (Nat.beq f.offset i && ((match P.underlying f.type, sizeT P f.type with
    | some (.int _), some 1 => true
    | _, _ => false) && intFields fs (i + 1)))
def keyFits (t : TypeId) (k : AV) : Bool := match P.underlying t, k with
  | some (.struct fs), .agg cs => !P.stoodInHeld t && (Nat.beq cs.length fs.size && (allI cs && intFields P fs.toList 0))
  | some (.array n e), .agg cs => (match P.underlying e, sizeT P e with
    | some (.int _), some 1 => cs.length == n && allI cs
    | _, _ => false)
  | some (.int j), .int i _ => i == j
  | some .string, .str _ => true
  | some .bool, .bool _ => true
  | _, _ => false
def evLookup (h : Heap) (t : TypeId) (x k : AV) (ok : Bool) : Option AV :=
  match P.underlying t with
  | some (.map kt et) =>
    if keyFits P kt k then
      match x with
      | .map0 => (zeroT P et).map fun z => if ok then .tup [z, .bool false] else z
      | .map r => match h.get r with
        | some (.map es _) => match findE k es 0 with
          | some (some (_, v, _)) => some (if ok then .tup [v, .bool true] else v)
          | some none => (zeroT P et).map fun z => if ok then .tup [z, .bool false] else z
          | none => none
        | _ => none
      | _ => none
    else none
  | _ => none
def evUpdate (h : Heap) (t : TypeId) (x k v : AV) : Option Heap :=
  match P.underlying t, x with
  | some (.map kt _), .map r =>
    if keyFits P kt k then
      match h.get r with
      | some (.map es c) => match findE k es 0 with
        | some (some (i, _)) => h.set r (.map (setE i k v es) c)
        | some none => h.set r (.map (es ++ [(k, v, c)]) (c + 1))
        | none => none
      | _ => none
    else none
  | _, _ => none

def lenA (t : TypeId) (h : Heap) (x : AV) : Option AV :=
  match P.underlying t, x with
  | some .string, .str s => some (aint s.length)
  | some (.array n _), _ => some (aint n)
  | some (.slice _), .slice0 => some (aint 0)
  | some (.slice _), .sliceZ => some (aint 0)
  | some (.slice _), .sliceE _ _ _ => some (aint 0)
  | some (.slice _), .slice _ _ n _ => some (aint n)
  | some (.map _ _), .map0 => some (aint 0)
  | some (.map _ _), .map r => match h.get r with
    | some (.map es _) => some (aint es.length)
    | _ => none
  | _, _ => none
def capA (t : TypeId) (x : AV) : Option AV :=
  match P.underlying t, x with
  | some (.array n _), _ => some (aint n)
  | some (.slice _), .slice0 => some (aint 0)
  | some (.slice _), .slice _ _ _ (.k c) => some (aint c)
  | _, _ => none
def foldI (f : Int → Int → Int) : AV → List AV → Option AV
  | v, [] => some v
  | .int k x, .int _ y :: l => foldI f (.int k (f x y)) l
  | _, _ => none

/-- the first n elements of a slice or string, as cells -/
def firstA (h : Heap) (s n : Nat) : AV → Option (List AV)
  | .slice i off _ _ => h.loadN i off (n * s)
  | .slice0 => if n = 0 then some [] else none
  | .sliceZ => if n = 0 then some [] else none
  | .sliceE _ _ _ => if n = 0 then some [] else none
  | .str b => if s = 1 then some ((b.take n).map fun c => .int .u8 c.toNat) else none
  | _ => none
def lenOfA : AV → Option Nat
  | .slice _ _ n _ => some n
  | .slice0 => some 0
  | .sliceZ => some 0
  | .sliceE _ _ _ => some 0
  | .str s => some s.length
  | _ => none
def bytesT (t : TypeId) : Option Nat := (P.info? t).map (·.bytes)
def isIntT (t : TypeId) : Bool := match P.underlying t with
  | some (.int _) => true
  | _ => false
def isSeqD : TypeDesc → Bool
  | .slice _ => true
  | .string => true
  | _ => false
/-- what is appended: how many elements, and their cells -/
def evNews (h : Heap) (tx : TypeId) (x : AV) (sz : Nat) : Option (Nat × List AV) :=
  match P.underlying tx with
  | some d =>
    if isSeqD d then
      match lenOfA x with
      | some n => (firstA h sz n x).map fun l => (n, l)
      | none => none
    else none
  | none => none
def evGrow (h : Heap) (e : TypeId) (sz n : Nat) (l : List AV) : Option (AV × Heap) := some (.slice h.next 0 n (.m 0), (h.new (.row l e sz)).2)
def evOnto (h : Heap) (e : TypeId) (sz : Nat) (s : AV) (n : Nat) (new : List AV) : Option (AV × Heap) :=
  match s with
  | .slice0 => if n = 0 then some (.slice0, h) else evGrow h e sz n new
  | .slice i off len (.k c) =>
    if len + n ≤ c then (h.storeN i (off + len * sz) new).map fun h => (.slice i off (len + n) (.k c), h)
    else if len + n ≤ 1000000 then
      match h.loadN i off (len * sz) with
      | some old => evGrow h e sz (len + n) (old ++ new)
      | none => none
    else none
  | .slice i off len (.m d) =>
    if len + n + d ≤ knownN h i sz then (h.storeN i (off + len * sz) new).map fun h => (.slice i off (len + n) (.m d), h)
    else if len + n ≤ 1000000 ∧ off = 0 ∧ d = 0 then
      match h.get i, h.loadN i 0 (len * sz) with
      | some (.row _ e' sz'), some old =>
        if e' = e ∧ sz' = sz then (h.take i (.row (old ++ new) e sz)).map fun r => (.slice r.1 0 (len + n) (.m 0), r.2) else none
      | _, _ => none
    else if len + n ≤ 1000000 ∧ off = d * sz ∧ d + len ≤ knownN h i sz then
      match h.get i, h.loadN i off (len * sz) with
      | some (.row _ e' sz'), some old =>
        if e' = e ∧ sz' = sz then (h.take i (.row (old ++ new) e sz)).map fun r => (.slice r.1 0 (len + n) (.m 0), r.2) else none
      | _, _ => none
    else none
  | .sliceE i off d =>
    if n = 0 then some (.sliceE i off d, h)
    else if n ≤ 1000000 ∧ off = d * sz ∧ d ≤ knownN h i sz then
      match h.get i with
      | some (.row _ e' sz') => if e' = e ∧ sz' = sz then (h.take i (.row new e sz)).map fun r => (.slice r.1 0 n (.m 0), r.2) else none
      | _ => none
    else none
  | _ => none
def evAppend (h : Heap) (ts : Array TypeId) (xs : List AV) : Option (AV × Heap) :=
  match xs, ts[0]?, ts[1]? with
  | [s, x], some t, some tx =>
    match P.underlying t with
    | some (.slice e) =>
      match sizeT P e, bytesT P e, zeroT P e with
      | some sz, some bytes, some z =>
        match evNews P h tx x sz with
        | some (n, new) => if 0 < sz ∧ z.cells.length = sz ∧ bytes ≤ 1000000 ∧ n ≤ 1000000 ∧ new.length = n * sz ∧ new.all okCell then evOnto h e sz s n new else none
        | none => none
      | _, _, _ => none
    | _ => none
  | _, _, _ => none

def evBuiltin (h : Heap) (b : Builtin) (ts : Array TypeId) (xs : List AV) : Option (AV × Heap) :=
  match b with
  | .append => evAppend P h ts xs
  | .len => match ts[0]?, xs with
    | some t, [x] => (lenA P t h x).map fun v => (v, h)
    | _, _ => none
  | .cap => match ts[0]?, xs with
    | some t, [x] => (capA P t x).map fun v => (v, h)
    | _, _ => none
  | .max => match xs with
    | x :: l => (foldI (fun x y => if y > x then y else x) x l).map fun v => (v, h)
    | [] => none
  | .min => match xs with
    | x :: l => (foldI (fun x y => if y < x then y else x) x l).map fun v => (v, h)
    | [] => none
  | .copy => match (ts[0]?).bind P.underlying, xs with
    | some (.slice e), [d, s] =>
      match sizeT P e, lenOfA s, d with
      | some sz, some n, .slice i off len _ =>
        match firstA h sz (Nat.min n len) s with
        | some c => if c.all okCell then (h.storeN i off c).map fun h => (aint (Nat.min n len), h) else none
        | none => none
      | _, _, _ => none
    | _, _ => none
  | .clear => match (ts[0]?).bind P.underlying, xs with
    | some (.slice e), [.slice i off len _] =>
      if len = 0 then none else
      match zeroT P e with
      | some z => if (rep z.cells len).all okCell then (h.storeN i off (rep z.cells len)).map fun h => (.tup [], h) else none
      | none => none
    | _, _ => none
  | _ => none

def evConv (src dst : TypeId) (x : AV) : Option AV :=
  match P.underlying src, P.underlying dst, x with
  | some _, some (.int k), .int _ n => some (.int k (k.wrap n))
  | some _, some .string, .str s => some (.str s)
  | _, _, _ => none

def mapO (a : Operand → Option AV) : List Operand → Option (List AV)
  | [] => some []
  | x :: l => match a x, mapO a l with
    | some v, some vs => some (v :: vs)
    | _, _ => none
def mapP (a : Operand → Option AV) : List (Nat × Operand) → Option (List (Nat × AV))
  | [] => some []
  | (i, x) :: l => match a x, mapP a l with
    | some v, some vs => some ((i, v) :: vs)
    | _, _ => none
def optO (a : Operand → Option AV) : Option Operand → Option (Option AV)
  | none => some none
  | some x => (a x).map some

def plainV (r : Option AV) (h : Heap) : Option (ANext × Heap) := r.map fun v => (.value v, h)
def newV (h : Heap) (o : AObj) (f : Nat → AV) : Option (ANext × Heap) := let r := h.new o; some (.value (f r.1), r.2)

/-! one definition for each kind of operation -/
abbrev ORes := Option (ANext × Heap)
def oPick (h : Heap) (a : Operand → Option AV) (c x y : Operand) : ORes := match a c with
  | some (.bool b) => plainV (if b then a x else a y) h
  | _ => none
def oAlloc (h : Heap) (t : TypeId) : ORes := match zeroT P t with
  | some z => newV h (.cells z.cells t) fun i => .ptr i 0
  | none => none
def oBox (h : Heap) (a : Operand → Option AV) (t : TypeId) (x : Operand) : ORes := match a x with
  | some v => newV h (.cells v.cells t) fun i => .ptr i 0
  | none => none
def oBuild (h : Heap) (a : Operand → Option AV) (t : TypeId) (ps : Array (Nat × Operand)) : ORes := match mapP a ps.toList with
  | some l => plainV (evBuild P t l) h
  | none => none
def oBuildSlice (h : Heap) (a : Operand → Option AV) (t : TypeId) (n : Nat) (ps : Array (Nat × Operand)) : ORes := match mapP a ps.toList with
  | some l => match evBuildSlice P t n l with
    | some (c, e) => newV h (.cells c e) fun i => .slice i 0 n (.k n)
    | none => none
  | none => none
def oLoad (h : Heap) (a : Operand → Option AV) (t : TypeId) (x : Operand) : ORes := match a x with
  | some (.ptr i off) => plainV (evLoad P h t i off) h
  | _ => none
def oStore (h : Heap) (a : Operand → Option AV) (t : TypeId) (x y : Operand) : ORes := match a x, a y with
  | some (.ptr i off), some v => (evStore P h t i off v).map fun h => (.skip, h)
  | _, _ => none
def oNilCheck (h : Heap) (a : Operand → Option AV) (x : Operand) : ORes := match a x with
  | some (.ptr i off) => some (.value (.ptr i off), h)
  | some (.fn (.func f) l c) => some (.value (.fn (.func f) l c), h)
  | _ => none
def oBin (h : Heap) (a : Operand → Option AV) (op : BinOp) (t : TypeId) (x y : Operand) : ORes := match a x, a y with
  | some v, some u => plainV (evBin P op t v u) h
  | _, _ => none
def oUn (h : Heap) (a : Operand → Option AV) (op : UnOp) (x : Operand) : ORes := match a x with
  | some v => plainV (evUn op v) h
  | none => none
def oConv (h : Heap) (a : Operand → Option AV) (s d : TypeId) (x : Operand) : ORes := match a x with
  | some v => plainV (evConv P s d v) h
  | none => none
def oMakeFunc (h : Heap) (a : Operand → Option AV) (f : Nat) (fs cs : Array Operand) : ORes := match mapO a fs.toList, mapO a cs.toList with
  | some l, some c => some (.value (.fn (.func f) l c), h)
  | _, _ => none
def oMakeMap (h : Heap) (a : Operand → Option AV) (t : TypeId) (r : Option Operand) : ORes := match optO a r with
  | some none => newV h (.map [] 0) fun i => .map i
  | some (some (.int _ _)) => match P.underlying t with
    | some (.map _ _) => newV h (.map [] 0) fun i => .map i
    | _ => none
  | _ => none
def oMakeSlice (h : Heap) (a : Operand → Option AV) (t : TypeId) (l c : Operand) : ORes := match a l, a c, P.underlying t with
  | some (.int .i64 n), some (.int .i64 m), some (.slice e) =>
    match sizeT P e, zeroT P e, bytesT P e with
    | some s, some z, some by_ =>
      if 0 ≤ n ∧ n ≤ m ∧ m ≤ 65536 ∧ z.cells.length = s ∧ 0 < s ∧ by_ ≤ 1000000 then
        newV h (.cells (rep z.cells m.toNat) e) fun i => .slice i 0 n.toNat (.k m.toNat)
      else none
    | _, _, _ => none
  | _, _, _ => none
def oSlice (h : Heap) (a : Operand → Option AV) (t : TypeId) (x : Operand) (lo hi mx : Option Operand) : ORes := match a x, optO a lo, optO a hi, optO a mx with
  | some v, some l, some r, some m => plainV (evSlice P h t v l r m) h
  | _, _, _, _ => none
def oFieldAddr (h : Heap) (a : Operand → Option AV) (t : TypeId) (x : Operand) (f : Nat) : ORes := match a x with
  | some v => plainV (evFieldAddr P t v f) h
  | none => none
def oField (h : Heap) (a : Operand → Option AV) (t : TypeId) (x : Operand) (f : Nat) : ORes := match a x with
  | some v => plainV (evField P t v f) h
  | none => none
def oIndexAddr (h : Heap) (a : Operand → Option AV) (t : TypeId) (x i : Operand) : ORes := match a x, a i with
  | some v, some u => plainV (evIndexAddr P t v u) h
  | _, _ => none
def oIndex (h : Heap) (a : Operand → Option AV) (t : TypeId) (x i : Operand) : ORes := match a x, a i with
  | some v, some u => plainV (evIndex P t v u) h
  | _, _ => none
def oLookup (h : Heap) (a : Operand → Option AV) (t : TypeId) (x i : Operand) (ok : Bool) : ORes := match a x, a i with
  | some v, some u => plainV (evLookup P h t v u ok) h
  | _, _ => none
def oUpdate (h : Heap) (a : Operand → Option AV) (t : TypeId) (m k x : Operand) : ORes := match a m, a k, a x with
  | some v, some u, some y => (evUpdate P h t v u y).map fun h => (.skip, h)
  | _, _, _ => none
def oExtract (h : Heap) (a : Operand → Option AV) (t : Operand) (ix : Nat) : ORes := match a t with
  | some (.tup l) => plainV (nthN ix l) h
  | _ => none
def oCall (h : Heap) (a : Operand → Option AV) (c : Call) : ORes := match c.callee with
  | .builtin b => match mapO a c.args.toList with
    | some l => (evBuiltin P h b c.argTypes l).map fun r => (.value r.1, r.2)
    | none => none
  | .value f => match a f, mapO a c.args.toList with
    | some (.fn (.func g) l cs), some xs => some (.enter g (l ++ xs ++ cs), h)
    | some (.fn (.yield g) [] []), some xs => some (.round g xs, h)
    | _, _ => none
  | .invoke _ _ => none

/-! ranging over a map that has one entry left at most -/
def oRange (h : Heap) (a : Operand → Option AV) (t : TypeId) (x : Operand) : ORes := match a x with
  | some (.map r) => match P.underlying t, h.get r with
    | some (.map _ _), some (.map _ ck) => newV h (.iter r ck [] ck) fun i => .ptr i 0
    | _, _ => none
  | _ => none
def leftE (seen : List Nat) : List (AV × AV × Nat) → List (AV × AV × Nat)
  | [] => []
  | e :: l => if seen.contains e.2.2 then leftE seen l else e :: leftE seen l
def goneE (st : Nat) (seen : List Nat) (es : List (AV × AV × Nat)) : Bool := !seen.isEmpty && (!es.isEmpty && es.all fun e => Nat.ble st e.2.2)
def oNext (h : Heap) (a : Operand → Option AV) (x : Operand) : ORes := match a x with
  | some (.ptr i 0) => match h.get i with
    | some (.iter m since seen st) => match h.get m with
      | some (.map es ck) => if goneE st seen es then none else match leftE seen es with
        | [] => some (.value (.tup [.bool false]), h)
        | [e] => if Nat.blt e.2.2 since then (h.set i (.iter m since (seen ++ [e.2.2]) ck)).map fun g => (.value (.tup [.bool true, e.1, e.2.1]), g) else none
        | _ => none
      | _ => none
    | _ => none
  | _ => none
def bornE (n : Nat) : List (AV × AV × Nat) → Option (AV × AV × Nat)
  | [] => none
  | e :: l => if Nat.beq e.2.2 n then some e else bornE n l
def oEntry (h : Heap) (a : Operand → Option AV) (x : Operand) : ORes := match a x with
  | some (.ptr i 0) => match h.get i with
    | some (.iter m _ seen st) => match seen.getLast?, h.get m with
      | some b, some (.map es ck) => if Nat.beq ck st then (match bornE b es with
        | some e => some (.value (.tup [e.1, e.2.1]), h)
        | none => none) else none
      | _, _ => none
    | _ => none
  | _ => none
/-- one operation -/
def evOp (h : Heap) (a : Operand → Option AV) (o : Oper) : ORes :=
  match o.op with
  | .move x => plainV (a x) h
  | .assign x => plainV (a x) h
  | .pick c x y => oPick h a c x y
  | .alloc t => oAlloc P h t
  | .box t x => oBox h a t x
  | .build t ps => oBuild P h a t ps
  | .buildSlice t n ps => oBuildSlice P h a t n ps
  | .load t x => oLoad P h a t x
  | .store t x y => oStore P h a t x y
  | .nilCheck x => oNilCheck h a x
  | .binOp op t x y _ => oBin P h a op t x y
  | .unOp op _ x => oUn h a op x
  | .convert s d x => oConv P h a s d x
  | .makeFunc (.func f) fs cs => oMakeFunc h a f fs cs
  | .makeMap t r => oMakeMap P h a t r
  | .makeSlice t l c => oMakeSlice P h a t l c
  | .slice t x lo hi mx => oSlice P h a t x lo hi mx
  | .fieldAddr t x f => oFieldAddr P h a t x f
  | .field t x f => oField P h a t x f
  | .indexAddr t x i => oIndexAddr P h a t x i
  | .index t x i => oIndex P h a t x i
  | .lookup t x i ok => oLookup P h a t x i ok
  | .mapUpdate t m k x => oUpdate P h a t m k x
  | .insert t m k x => oUpdate P h a t m k x
  | .extract t ix => oExtract h a t ix
  | .range t x => oRange P h a t x
  | .next x false => oNext h a x
  | .entry x => oEntry h a x
  | .call c => oCall P h a c
  | _ => none

/-! ### code -/
inductive Ex where
  | normal
  | exit (id : Nat)
  | ret
def Ex.jump : Ex → Option Code
  | .normal => none
  | .exit id => some (.exit id)
  | .ret => some .ret

def yieldedA (ops : Array Oper) (a : AAct) (j : Nat) : Option Bool :=
  match (ops[j]?).bind (·.dst) with
  | some t => if Nat.blt t a.size then (match a.at t with | .bool b => some b | _ => none) else none
  | none => none
def wantedA (ops : Array Oper) (a : AAct) (o : Oper) : Bool :=
  match o.guard with
  | none => true
  | some (j, want) => match yieldedA ops a j with
    | some b => b == want
    | none => false

/-- 0: touches no memory; 1: reads, or makes memory of its own; 2: writes; 3: a load -/
def kindOf : Op → Nat
  | .move _ | .assign _ | .pick .. | .build .. | .nilCheck _ | .binOp .. | .unOp .. | .convert .. | .makeFunc .. | .fieldAddr .. | .field .. | .indexAddr .. | .index .. | .extract .. => 0
  | .load .. => 3
  | .slice .. => 3
  | .store .. | .mapUpdate .. | .insert .. | .mapEntry .. | .entryStore .. | .next .. => 2
  | .call { callee := .builtin .append, .. } | .call { callee := .builtin .copy, .. } => 2
  | .call { callee := .builtin .max, .. } | .call { callee := .builtin .min, .. } => 0
  | .call { callee := .builtin .len, .. } => 3
  | _ => 1

def masksOf (ops : List Oper) : List Nat → List Nat      -- in reverse order
  | acc => match ops with
    | [] => acc
    | o :: rest => masksOf rest ((o.after.toList.foldl (fun s e => if Region.binds .any e then s ||| 2 ^ e.on ||| (acc.getD (acc.length - 1 - e.on) 0) else s) 0) :: acc)
def edgesOk : List Oper → Nat → Bool
  | [], _ => true
  | o :: rest, i => (o.after.toList.all fun e => !Region.binds .any e || Nat.blt e.on i) && edgesOk rest (i + 1)

def tmpsOf (ops : Array Oper) (o : Oper) : List Nat :=
  (o.op.operands.toList.filterMap fun | .tmp t => some t | _ => none) ++
  (match o.guard with
   | some (g, _) => ((ops[g]?).bind (·.dst)).toList
   | none => [])
def apartA (ops : Array Oper) (x y : Oper) : Bool :=
  (match x.dst with
   | some d => !(tmpsOf ops y).contains d && y.dst != some d
   | none => true) &&
  (match y.dst with
   | some d => !(tmpsOf ops x).contains d
   | none => true)
/-- each two operations without an order name no temporary in common that one writes -/
def apartAll (ops : Array Oper) (masks : List Nat) : List Oper → Nat → Bool
  | [], _ => true
  | o :: rest, i => ((List.range i).all fun k => (masks.getD i 0).testBit k || (match ops[k]? with | some x => apartA ops x o | none => true)) && apartAll ops masks rest (i + 1)
def staticOk (ops : Array Oper) : Bool :=
  edgesOk ops.toList 0 && apartAll ops (masksOf ops.toList []).reverse ops.toList 0

/-- an operation that stands in order with all others that touch memory may write -/
def soloAt (ops : Array Oper) (masks : List Nat) (i : Nat) : Bool :=
  (List.range ops.size).all fun k => k == i || (masks.getD i 0).testBit k || (masks.getD k 0).testBit i || (match ops[k]? with | some o => kindOf o.op == 0 | none => true)
/-- something new: it reads no memory -/
def makes : Op → Bool
  | .alloc .. | .buildSlice .. | .box .. => true
  | _ => false
/-- an operation that writes stands before it without an order -/
def behindW (ops : Array Oper) (masks : List Nat) (i : Nat) : Bool :=
  (List.range i).any fun k => !(masks.getD i 0).testBit k && (match ops[k]? with | some o => kindOf o.op == 2 | none => false)
/-- 4: reads no memory and may be done at any time behind one that writes -/
def kindsOf (ops : Array Oper) (masks : List Nat) : List Nat :=
  (List.range ops.size).map fun i => match ops[i]? with
    | some o => if kindOf o.op == 1 && soloAt ops masks i then 2 else if kindOf o.op == 1 && makes o.op && behindW ops masks i then 4 else kindOf o.op
    | none => 0

/-- what is known of an operation that has been done: its kind, the block that it loads from or stores into, the numbers of its own blocks -/
structure Rec where
  ty : Nat
  blk : Option Nat
  n0 : Nat
  n1 : Nat
/-- the block that an append writes into: 0 for none, i + 1 for block i -/
def blkS : Option AV → Option Nat
  | some (.slice i _ _ _) => some (i + 1)
  | some (.sliceE i _ _) => some (i + 1)
  | some .slice0 => some 0
  | _ => none
def blkC (a : Operand → Option AV) (c : Call) : Option Nat := match c.callee, c.args.toList with
  | .builtin .append, x :: _ => blkS (a x)
  | .builtin .len, x :: _ => (match a x with
    | some (.map i) => some (i + 1)
    | some _ => some 0
    | none => none)
  | _, _ => none
/-- the block that an operation loads from or writes into: 0 for none, i + 1 for block i; nothing where it is not known -/
def blkOf (a : Operand → Option AV) : Op → Option Nat
  | .load _ x | .store _ x _ => match a x with
    | some (.ptr i _) => some (i + 1)
    | _ => none
  | .call c => blkC a c
  | .slice _ x _ _ _ => match a x with
    | some (.slice i _ _ (.m _)) => some (i + 1)
    | some _ => some 0
    | none => none
  | _ => none
/-- may these two stand in either order? -/
def free (x y : Rec) : Bool :=
  if x.ty = 0 ∨ y.ty = 0 ∨ y.ty = 4 then true
  else if x.ty = 2 then y.ty = 3 && (match x.blk, y.blk with | some i, some k => i != k | _, _ => false)
  else if y.ty = 2 then x.ty = 3 && (match x.blk, y.blk with | some i, some k => i != k | _, _ => false)
  else true
def freeAll (m : Nat) (r : Rec) : List Rec → Nat → Bool          -- the records in reverse order; the number of the first
  | [], _ => true
  | x :: l, i => (m.testBit (i - 1) || free x r) && freeAll m r l (i - 1)
/-- the blocks of those that need not have been done -/
def hideOf (m : Nat) : List Rec → Nat → List (Nat × Nat)
  | [], _ => []
  | x :: l, i => if m.testBit (i - 1) || Nat.ble x.n1 x.n0 then hideOf m l (i - 1) else (x.n0, x.n1) :: hideOf m l (i - 1)

inductive Job where
  | code (rnd : Option Nat) (c : Code)
  | ops (ops : Array Oper) (l : List Oper)
  | drawn (ops : Array Oper) (masks kinds : List Nat) (l : List Oper) (recs : List Rec)
  | call (f : Nat) (args : List AV)
  | round (l : Nat) (args : List AV)

structure Out where
  ex : Ex
  v : AV
  a : AAct
  h : Heap

def initT (l : List AV) (i : Nat) : T AV := match l with
  | [] => .nil
  | v :: r => (initT r (i + 1)).set i v
def setAll (t : T AV) (size : Nat) : List Nat → List AV → T AV
  | p :: ps, v :: vs => setAll (if Nat.blt p size then t.set p v else t) size ps vs
  | _, _ => t
def shutAll (h : Heap) : List Nat → Option Heap
  | [] => some h
  | d :: ds => match h.get d with
    | some (.deferred true) => match h.set d (.deferred false) with
      | some h => shutAll h ds
      | none => none
    | _ => none
def resultsA (h : Heap) (a : AAct) : List ResultVar → Option (List AV)
  | [] => some []
  | .tmp t :: l => match resultsA h a l with
    | some vs => some (a.at t :: vs)
    | none => none
  | .cell p t :: l => match a.at p with
    | .ptr i off => match evLoad P h t i off, resultsA h a l with
      | some v, some vs => some (v :: vs)
      | _, _ => none
    | _ => none
def oneOf : List AV → AV
  | [v] => v
  | l => .tup l

def enters (f : Nat) : Option Func := match P.funcs[f]? with
  | some fn => if fn.body.isSome && !(fn.name == "runtime.NumGoroutine") then some fn else none
  | none => none

abbrev Runs := Job → AAct → Heap → Option Out
def rSeq (r : Runs) (rnd : Option Nat) (x y : Code) (a : AAct) (h : Heap) : Option Out :=
  match r (.code rnd x) a h with
  | some ⟨.normal, _, a, h⟩ => r (.code rnd y) a h
  | o => o
def rCond (r : Runs) (rnd : Option Nat) (c : Operand) (x y : Code) (a : AAct) (h : Heap) : Option Out :=
  match a.eval c with
  | some (.bool b) => r (.code rnd (if b then x else y)) a h
  | _ => none
def rBlock (r : Runs) (rnd : Option Nat) (id : Nat) (b : Code) (a : AAct) (h : Heap) : Option Out :=
  match r (.code rnd b) a h with
  | some ⟨.exit k, _, a, h⟩ => if k = id then some ⟨.normal, aundef, a, h⟩ else some ⟨.exit k, aundef, a, h⟩
  | o => o
/-- the block for deferred calls, its mark, and what is there then -/
def enterA (h : Heap) : Option Nat → Option (Nat × List Nat × Heap)
  | none => some (h.next, [h.next], (h.new (.deferred true)).2)
  | some l => match h.get l with
    | some (.loop r) => some (r.defers, [], h)
    | _ => none
def leaveA (h : Heap) (l : Nat) : Option (Option Code × Heap) :=
  match h.get l with
  | some (.loop q) => if q.state = .busy then none else (h.set l (.loop { q with state := .exhausted })).map fun h => (q.pending, h)
  | _ => none
def rLeave (r : Runs) (rnd : Option Nat) (a : AAct) : Option (Option Code × Heap) → Option Out
  | some (none, h) => some ⟨.normal, aundef, a, h⟩
  | some (some c, h) => r (.code rnd c) a h
  | none => none
def rRange (r : Runs) (rnd : Option Nat) (f : Operand) (ps : Array Tmp) (assign body : Code) (a : AAct) (h : Heap) : Option Out :=
  match a.eval f, enterA h rnd with
  | some (.fn (.func g) fs cs), some (d, mark, h) =>
    match r (.call g (fs ++ [.fn (.yield h.next) [] []] ++ cs)) a (h.new (.loop ⟨.ready, none, a.tmps, a.size, ps, assign, body, d⟩)).2 with
    | some o => rLeave r rnd { a with defers := mark ++ a.defers } (leaveA o.h h.next)
    | none => none
  | _, _ => none
def rCode (r : Runs) (rnd : Option Nat) (c : Code) (a : AAct) (h : Heap) : Option Out :=
  match c with
  | .skip => some ⟨.normal, aundef, a, h⟩
  | .label _ => some ⟨.normal, aundef, a, h⟩
  | .region _ ops false => r (.ops ops ops.toList) a h
  | .region _ ops true => if staticOk ops then r (.drawn ops (masksOf ops.toList []).reverse (kindsOf ops (masksOf ops.toList []).reverse) ops.toList []) a h else none
  | .seq x y => rSeq r rnd x y a h
  | .cond c x y => rCond r rnd c x y a h
  | .block id b => rBlock r rnd id b a h
  | .loop b => match r (.code rnd b) a h with
    | some ⟨.normal, _, a, h⟩ => r (.code rnd (.loop b)) a h
    | o => o
  | .rangeFunc f ps assign body => rRange r rnd f ps assign body a h
  | .exit id => some ⟨.exit id, aundef, a, h⟩
  | .ret => some ⟨.ret, aundef, a, h⟩
  | .scope b => r (.code rnd b) a h
  | _ => none
/-- an operation with the call that it makes: its value and the memory behind it -/
def rOp2 (r : Runs) (a : AAct) : ANext × Heap → Option (AV × Heap)
  | (.value v, g) => some (v, g)
  | (.skip, g) => some (aundef, g)
  | (.enter f args, g) => (r (.call f args) a g).map fun o => (o.v, o.h)
  | (.round l args, g) => (r (.round l args) a g).map fun o => (o.v, o.h)
def rOp (r : Runs) (h : Heap) (a : AAct) (o : Oper) : Option (AV × Heap) :=
  match evOp P h a.eval o with
  | some x => if Nat.ble h.next x.2.next then rOp2 r a x else none
  | none => none
def rPut (r : Runs) (a : AAct) (d : Option Tmp) (j : Job) : Option (AV × Heap) → Option Out
  | some (v, h) => match a.put d v with
    | some a => r j a h
    | none => none
  | none => none
def rOps (r : Runs) (ops : Array Oper) (a : AAct) (h : Heap) : List Oper → Option Out
  | [] => some ⟨.normal, aundef, a, h⟩
  | o :: l => rPut r a o.dst (.ops ops l) (if wantedA ops a o then rOp P r h a o else some (aundef, h))
def rDrawnAt (r : Runs) (ops : Array Oper) (masks kinds : List Nat) (o : Oper) (l : List Oper) (recs : List Rec) (a : AAct) (h : Heap) (m ty : Nat) : Option Out :=
  match rOp P r (if ty = 1 then { h with lo := h.next, hid := hideOf m recs recs.length ++ h.hid } else if ty = 3 then { h with hid := hideOf m recs recs.length ++ h.hid } else if ty = 4 then { h with lo := h.next, hid := [(0, h.next)] } else h) a o with
  | some (v, g) =>
    if freeAll m ⟨ty, blkOf a.eval o.op, h.next, g.next⟩ recs recs.length then
      rPut r a o.dst (.drawn ops masks kinds l (⟨ty, blkOf a.eval o.op, h.next, g.next⟩ :: recs)) (some (v, { g with lo := h.lo, hid := h.hid }))
    else none
  | none => none
def rDrawn (r : Runs) (ops : Array Oper) (masks kinds : List Nat) (recs : List Rec) (a : AAct) (h : Heap) : List Oper → Option Out
  | [] => some ⟨.normal, aundef, a, h⟩
  | o :: l =>
    if wantedA ops a o then rDrawnAt P r ops masks kinds o l recs a h (masks.getD recs.length 0) (kinds.getD recs.length 0)
    else rPut r a o.dst (.drawn ops masks kinds l (⟨0, none, h.next, h.next⟩ :: recs)) (some (aundef, h))
def rEnd (fn : Func) : Option Out → Option Out
  | some ⟨.exit _, _, _, _⟩ => none
  | some ⟨_, _, a, h⟩ => match shutAll h a.defers with
    | some h => match resultsA P h a fn.results.toList with
      | some l => some ⟨.normal, oneOf l, a, h⟩
      | none => none
    | none => none
  | none => none
def rCall (r : Runs) (f : Nat) (args : List AV) (h : Heap) : Option Out :=
  match enters P f with
  | some fn => match fn.body with
    | some c => rEnd P fn (r (.code none c) ⟨initT args 0, if Nat.ble args.length fn.ntmps then fn.ntmps else args.length, []⟩ h)
    | none => none
  | none => none
def busyA (h : Heap) (l : Nat) : Option Heap :=
  match h.get l with
  | some (.loop q) => if q.state = .ready then h.set l (.loop { q with state := .busy }) else none
  | _ => none
def Ex.isNormal : Ex → Bool
  | .normal => true
  | _ => false
def endA (h : Heap) (l : Nat) (e : Ex) : Option Heap :=
  match h.get l with
  | some (.loop q) => h.set l (.loop { q with state := (if e.isNormal then .ready else .done), pending := e.jump })
  | _ => none
def rEndR (l : Nat) : Option Out → Option Out
  | some ⟨ex, _, a, h⟩ => match endA h l ex with
    | some h => some ⟨.normal, .bool ex.isNormal, a, h⟩
    | none => none
  | none => none
def rBody (r : Runs) (l : Nat) (body : Code) : Option Out → Option Out
  | some ⟨.normal, _, a, h⟩ => match busyA h l with
    | some h => rEndR l (r (.code (some l) body) a h)
    | none => none
  | _ => none
def rRound (r : Runs) (l : Nat) (args : List AV) (h : Heap) : Option Out :=
  match h.get l with
  | some (.loop q) =>
    if args.length = q.params.size ∧ q.state = .ready then rBody r l q.body (r (.code (some l) q.assign) ⟨setAll q.tmps q.size q.params.toList args, q.size, []⟩ h) else none
  | _ => none
def chk (h : Heap) : Option Out → Option Out
  | some o => if Nat.ble h.next o.h.next then some o else none
  | none => none
def stepR (r : Runs) : Runs := fun j a h => chk h <|
  match j with
  | .code rnd c => rCode r rnd c a h
  | .ops ops l => rOps P r ops a h l
  | .drawn ops masks kinds l recs => rDrawn P r ops masks kinds recs a h l
  | .call f args => rCall P r f args h
  | .round l args => rRound r l args h
def run (n : Nat) : Runs := Nat.rec (fun _ _ _ => none) (fun _ r => stepR P r) n

def emptyH : Heap := ⟨.nil, 0, 0, []⟩
def calls (n f : Nat) (args : List AV) : Option AV := (run P n (.call f args) ⟨.nil, 0, []⟩ emptyH).map (·.v)
def saysTrue (n f : Nat) : Bool := match calls P n f [] with
  | some (.bool true) => true
  | _ => false
end Go.Proofs.YtkebbdpfjhhdhaaGreat.Ev

/- What the calculator's values and memory stand for. -/
namespace Go.Proofs.YtkebbdpfjhhdhaaGreat.Ev

/-! ### the tree -/
theorem half_lt {k f : Nat} (h : k + 1 < f + 1) : Nat.div k 2 < f := Nat.lt_of_le_of_lt (Nat.div_le_self k 2) (by omega)
theorem half_inj {m k : Nat} (h : Nat.beq (Nat.mod m 2) 0 = Nat.beq (Nat.mod k 2) 0) (e : Nat.div m 2 = Nat.div k 2) : m = k := by
  have e' : m / 2 = k / 2 := e
  have h' : (m % 2 = 0) ↔ (k % 2 = 0) := by
    have := congrArg (· = true) h
    simp only [Nat.beq_eq] at this
    exact iff_of_eq this
  omega
theorem T.get_put {α : Type} (x : Option α) : ∀ (f : Nat) (t : T α) (n m : Nat), n < f → (T.put x f t n).get m = if m = n then x else t.get m
  | 0, _, _, _, h => absurd h (Nat.not_lt_zero _)
  | f + 1, .nil, 0, m, _ => by
    cases m with
    | zero => simp [T.put, T.get]
    | succ m => simp only [T.put, T.get]; cases Nat.beq (Nat.mod m 2) 0 <;> simp
  | f + 1, .nil, k + 1, m, h => by
    have ih := T.get_put x f .nil (Nat.div k 2)
    cases m with
    | zero => simp only [T.put]; cases Nat.beq (Nat.mod k 2) 0 <;> simp [T.get]
    | succ m =>
      have h2 := half_inj (m := m) (k := k)
      cases hk : Nat.beq (Nat.mod k 2) 0 <;> cases hm : Nat.beq (Nat.mod m 2) 0 <;> simp only [T.put, T.get, hk, hm, cond_true, cond_false, ih _ (half_lt h)]
      · by_cases e : Nat.div m 2 = Nat.div k 2
        · simp [h2 (by rw [hk, hm]) e]
        · rw [if_neg e, if_neg (fun e' => e (by cases e'; rfl))]
      · rw [if_neg (fun e' => by cases e'; rw [hk] at hm; cases hm)]
      · rw [if_neg (fun e' => by cases e'; rw [hk] at hm; cases hm)]
      · by_cases e : Nat.div m 2 = Nat.div k 2
        · simp [h2 (by rw [hk, hm]) e]
        · rw [if_neg e, if_neg (fun e' => e (by cases e'; rfl))]
  | f + 1, .node l v r, 0, m, _ => by
    cases m with
    | zero => simp [T.put, T.get]
    | succ m => simp [T.put, T.get]
  | f + 1, .node l v r, k + 1, m, h => by
    have ihl := T.get_put x f l (Nat.div k 2)
    have ihr := T.get_put x f r (Nat.div k 2)
    cases m with
    | zero => simp only [T.put]; cases Nat.beq (Nat.mod k 2) 0 <;> simp [T.get]
    | succ m =>
      have h2 := half_inj (m := m) (k := k)
      cases hk : Nat.beq (Nat.mod k 2) 0 <;> cases hm : Nat.beq (Nat.mod m 2) 0 <;> simp only [T.put, T.get, hk, hm, cond_true, cond_false, ihl _ (half_lt h), ihr _ (half_lt h)]
      · by_cases e : Nat.div m 2 = Nat.div k 2
        · simp [h2 (by rw [hk, hm]) e]
        · rw [if_neg e, if_neg (fun e' => e (by cases e'; rfl))]
      · rw [if_neg (fun e' => by cases e'; rw [hk] at hm; cases hm)]
      · rw [if_neg (fun e' => by cases e'; rw [hk] at hm; cases hm)]
      · by_cases e : Nat.div m 2 = Nat.div k 2
        · simp [h2 (by rw [hk, hm]) e]
        · rw [if_neg e, if_neg (fun e' => e (by cases e'; rfl))]
theorem T.get_set {α : Type} (t : T α) (n m : Nat) (x : α) : (t.set n x).get m = if m = n then some x else t.get m := T.get_put _ _ _ _ _ (Nat.lt_succ_self n)
theorem T.get_del {α : Type} (t : T α) (n m : Nat) : (t.del n).get m = if m = n then none else t.get m := T.get_put _ _ _ _ _ (Nat.lt_succ_self n)

/-! ### lists -/
theorem takeN_eq {α : Type} : ∀ {n : Nat} {l r : List α}, takeN n l = some r → n ≤ l.length ∧ r = l.take n
  | 0, l, r, h => by simp [takeN] at h; simp [h]
  | n + 1, [], r, h => by simp [takeN] at h
  | n + 1, x :: l, r, h => by
    simp only [takeN, Option.map_eq_some_iff] at h
    obtain ⟨q, hq, rfl⟩ := h
    obtain ⟨h1, rfl⟩ := takeN_eq hq
    exact ⟨by simp; omega, by simp⟩
theorem dropN_eq {α : Type} : ∀ (n : Nat) (l : List α), dropN n l = l.drop n
  | 0, l => by simp [dropN]
  | n + 1, [] => by simp [dropN]
  | n + 1, x :: l => by simp [dropN, dropN_eq n l]
theorem nthN_eq {α : Type} : ∀ (n : Nat) (l : List α), nthN n l = l[n]?
  | _, [] => by simp [nthN]
  | 0, x :: l => by simp [nthN]
  | n + 1, x :: l => by simp [nthN, nthN_eq n l]
theorem overN_eq {α : Type} : ∀ {n : Nat} {xs l r : List α}, overN n xs l = some r → n + xs.length ≤ l.length ∧ r = l.take n ++ xs ++ l.drop (n + xs.length)
  | 0, [], l, r, h => by simp [overN] at h; simp [h]
  | 0, x :: xs, [], r, h => by simp [overN] at h
  | 0, x :: xs, y :: l, r, h => by
    simp only [overN, Option.map_eq_some_iff] at h
    obtain ⟨q, hq, rfl⟩ := h
    obtain ⟨h1, rfl⟩ := overN_eq hq
    exact ⟨by simp at h1 ⊢; omega, by simp⟩
  | n + 1, xs, [], r, h => by simp [overN] at h
  | n + 1, xs, y :: l, r, h => by
    simp only [overN, Option.map_eq_some_iff] at h
    obtain ⟨q, hq, rfl⟩ := h
    obtain ⟨h1, rfl⟩ := overN_eq hq
    refine ⟨by simp at h1 ⊢; omega, ?_⟩
    rw [show n + 1 + xs.length = (n + xs.length) + 1 from by omega]
    simp

/-! ### values -/
/-- a block, and how far it may be filled, and where what is seen of it begins -/
abbrev Env := Nat → Option (Nat × Nat × Nat)
instance : OfNat (Nat × Nat) 0 := ⟨(0, 0)⟩
def Env.le (E E' : Env) : Prop := ∀ i x, E i = some x → E' i = some x
theorem Env.le_refl (E : Env) : E.le E := fun _ _ h => h
theorem Env.le_trans {E E' E'' : Env} (h : E.le E') (h' : E'.le E'') : E.le E'' := fun i x hx => h' i x (h i x hx)

mutual
def VR (E : Env) : AV → Value → Prop
  | .bool b, V => V = .bool b
  | .int k n, V => V = .int k n
  | .str s, V => V = .string ⟨s.toArray⟩
  | .ptr0, V => V = .pointer none
  | .ptr i off, V => ∃ b c, E i = some (b, c) ∧ V = .pointer (some ⟨b, off + c.2, none⟩)
  | .slice0, V => V = .slice none 0 0
  | .sliceZ, V => ∃ A c, V = .slice A 0 c
  | .sliceE i off d, V => ∃ b c, E i = some (b, c) ∧ ∃ o, (o = off + c.2 ∨ c.1 - d = 0) ∧ V = .slice (some ⟨b, o, none⟩) 0 (c.1 - d)
  | .slice i off len cap, V => ∃ b c, E i = some (b, c) ∧ V = .slice (some ⟨b, off + c.2, none⟩) len (match cap with | .k n => n | .m d => c.1 - d)
  | .map0, V => V = .map none
  | .map i, V => ∃ b c, E i = some (b, c) ∧ V = .map (some b)
  | .fn f a c, V => ∃ fn As Cs, V = .func fn As.toArray Cs.toArray ∧ VRs E a As ∧ VRs E c Cs ∧ (match f with | .func g => fn = .func g | .yield l => ∃ b d, E l = some (b, d) ∧ fn = .yield b)
  | .fn0, V => V = .nilFunc
  | .nilI, V => V = .nilIface
  | .iface t v, V => ∃ U, V = .iface t U ∧ VR E v U
  | .agg l, V => ∃ L, V = .agg L.toArray ∧ VRs E l L
  | .tup l, V => ∃ L, V = .tuple L.toArray ∧ VRs E l L
def VRs (E : Env) : List AV → List Value → Prop
  | [], L => L = []
  | v :: l, L => ∃ V L', L = V :: L' ∧ VR E v V ∧ VRs E l L'
end

mutual
theorem VR.mono {E E' : Env} (h : E.le E') : ∀ {v : AV} {V : Value}, VR E v V → VR E' v V
  | .bool _, _, hv | .int _ _, _, hv | .str _, _, hv | .ptr0, _, hv | .slice0, _, hv | .sliceZ, _, hv | .map0, _, hv | .fn0, _, hv | .nilI, _, hv => by simpa only [VR] using hv
  | .ptr _ _, _, hv => by simp only [VR] at hv ⊢; obtain ⟨b, c, e, rfl⟩ := hv; exact ⟨b, c, h _ _ e, rfl⟩
  | .slice _ _ _ _, _, hv => by simp only [VR] at hv ⊢; obtain ⟨b, c, e, rfl⟩ := hv; exact ⟨b, c, h _ _ e, rfl⟩
  | .sliceE _ _ _, _, hv => by simp only [VR] at hv ⊢; obtain ⟨b, c, e, o, ho, rfl⟩ := hv; exact ⟨b, c, h _ _ e, o, ho, rfl⟩
  | .map _, _, hv => by simp only [VR] at hv ⊢; obtain ⟨b, c, e, rfl⟩ := hv; exact ⟨b, c, h _ _ e, rfl⟩
  | .fn f a c, _, hv => by
    simp only [VR] at hv ⊢
    obtain ⟨fn, As, Cs, rfl, h1, h2, h3⟩ := hv
    refine ⟨fn, As, Cs, rfl, VRs.mono h h1, VRs.mono h h2, ?_⟩
    cases f with
    | func g => exact h3
    | yield l => obtain ⟨b, d, e, rfl⟩ := h3; exact ⟨b, d, h _ _ e, rfl⟩
  | .iface t v, _, hv => by simp only [VR] at hv ⊢; obtain ⟨U, rfl, h1⟩ := hv; exact ⟨U, rfl, VR.mono h h1⟩
  | .agg l, _, hv => by simp only [VR] at hv ⊢; obtain ⟨L, rfl, h1⟩ := hv; exact ⟨L, rfl, VRs.mono h h1⟩
  | .tup l, _, hv => by simp only [VR] at hv ⊢; obtain ⟨L, rfl, h1⟩ := hv; exact ⟨L, rfl, VRs.mono h h1⟩
theorem VRs.mono {E E' : Env} (h : E.le E') : ∀ {l : List AV} {L : List Value}, VRs E l L → VRs E' l L
  | [], _, hv => by simpa only [VRs] using hv
  | v :: l, _, hv => by simp only [VRs] at hv ⊢; obtain ⟨V, L, rfl, h1, h2⟩ := hv; exact ⟨V, L, rfl, VR.mono h h1, VRs.mono h h2⟩
end

theorem VRs.nil {E : Env} : VRs E [] [] := by simp only [VRs]
theorem VRs.cons {E : Env} {v V l L} (h : VR E v V) (h' : VRs E l L) : VRs E (v :: l) (V :: L) := by simp only [VRs]; exact ⟨V, L, rfl, h, h'⟩
theorem VRs.len {E : Env} : ∀ {l L}, VRs E l L → L.length = l.length
  | [], _, h => by simp only [VRs] at h; simp [h]
  | v :: l, _, h => by simp only [VRs] at h; obtain ⟨V, L, rfl, _, h2⟩ := h; simp [h2.len]
theorem VRs.append {E : Env} : ∀ {l L m M}, VRs E l L → VRs E m M → VRs E (l ++ m) (L ++ M)
  | [], _, _, _, h, h' => by simp only [VRs] at h; subst h; simpa using h'
  | v :: l, _, _, _, h, h' => by simp only [VRs] at h; obtain ⟨V, L, rfl, h1, h2⟩ := h; exact VRs.cons h1 (h2.append h')
theorem VRs.take {E : Env} : ∀ {l L} (n : Nat), VRs E l L → VRs E (l.take n) (L.take n)
  | [], _, n, h => by simp only [VRs] at h; subst h; simp [VRs.nil]
  | v :: l, _, 0, h => by simp [VRs.nil]
  | v :: l, _, n + 1, h => by simp only [VRs] at h; obtain ⟨V, L, rfl, h1, h2⟩ := h; simpa using VRs.cons h1 (h2.take n)
theorem VRs.drop {E : Env} : ∀ {l L} (n : Nat), VRs E l L → VRs E (l.drop n) (L.drop n)
  | [], _, n, h => by simp only [VRs] at h; subst h; simp [VRs.nil]
  | v :: l, _, 0, h => by simpa using h
  | v :: l, _, n + 1, h => by simp only [VRs] at h; obtain ⟨V, L, rfl, h1, h2⟩ := h; simpa using h2.drop n
theorem VRs.get {E : Env} : ∀ {l L} {n : Nat} {v : AV}, VRs E l L → l[n]? = some v → ∃ V, L[n]? = some V ∧ VR E v V
  | [], _, n, v, h, hv => by simp at hv
  | w :: l, _, 0, v, h, hv => by simp only [VRs] at h; obtain ⟨V, L, rfl, h1, h2⟩ := h; simp at hv; subst hv; exact ⟨V, by simp, h1⟩
  | w :: l, _, n + 1, v, h, hv => by simp only [VRs] at h; obtain ⟨V, L, rfl, h1, h2⟩ := h; simp at hv; simpa using h2.get hv
theorem VRs.rep {E : Env} {l L} (h : VRs E l L) : ∀ n, VRs E (rep l n) (List.replicate n L).flatten
  | 0 => by simpa [Ev.rep] using VRs.nil
  | n + 1 => by rw [List.replicate_succ, List.flatten_cons]; exact h.append (VRs.rep h n)
theorem VRs.split {E : Env} : ∀ {l m L}, VRs E (l ++ m) L → ∃ A B, L = A ++ B ∧ VRs E l A ∧ VRs E m B
  | [], m, L, h => ⟨[], L, rfl, VRs.nil, h⟩
  | v :: l, m, L, h => by
    simp only [List.cons_append, VRs] at h
    obtain ⟨V, L, rfl, h1, h2⟩ := h
    obtain ⟨A, B, rfl, h3, h4⟩ := VRs.split h2
    exact ⟨V :: A, B, rfl, VRs.cons h1 h3, h4⟩

/-- a value's cells -/
theorem VR.cells {E : Env} {v : AV} {V : Value} (h : VR E v V) : VRs E v.cells V.cells.toList := by
  cases v with
  | agg l => simp only [VR] at h; obtain ⟨L, rfl, h1⟩ := h; simpa [AV.cells, Value.cells] using h1
  | fn f a c => 
    have h0 := h
    simp only [VR] at h; obtain ⟨fn, As, Cs, rfl, h1⟩ := h; exact VRs.cons h0 VRs.nil
  | tup l => have h0 := h; simp only [VR] at h; obtain ⟨L, rfl, h1⟩ := h; exact VRs.cons h0 VRs.nil
  | iface t v => have h0 := h; simp only [VR] at h; obtain ⟨L, rfl, h1⟩ := h; exact VRs.cons h0 VRs.nil
  | ptr i o => have h0 := h; simp only [VR] at h; obtain ⟨b, c, e, rfl⟩ := h; exact VRs.cons h0 VRs.nil
  | slice i o n c => have h0 := h; simp only [VR] at h; obtain ⟨b, c, e, rfl⟩ := h; exact VRs.cons h0 VRs.nil
  | map i => have h0 := h; simp only [VR] at h; obtain ⟨b, c, e, rfl⟩ := h; exact VRs.cons h0 VRs.nil
  | bool b => have h0 := h; simp only [VR] at h; subst h; exact VRs.cons h0 VRs.nil
  | int k n => have h0 := h; simp only [VR] at h; subst h; exact VRs.cons h0 VRs.nil
  | str s => have h0 := h; simp only [VR] at h; subst h; exact VRs.cons h0 VRs.nil
  | ptr0 => have h0 := h; simp only [VR] at h; subst h; exact VRs.cons h0 VRs.nil
  | slice0 => have h0 := h; simp only [VR] at h; subst h; exact VRs.cons h0 VRs.nil
  | sliceZ => have h0 := h; simp only [VR] at h; obtain ⟨A, c, rfl⟩ := h; exact VRs.cons h0 VRs.nil
  | sliceE i o d => have h0 := h; simp only [VR] at h; obtain ⟨b, c, e, o, ho, rfl⟩ := h; exact VRs.cons h0 VRs.nil
  | map0 => have h0 := h; simp only [VR] at h; subst h; exact VRs.cons h0 VRs.nil
  | fn0 => have h0 := h; simp only [VR] at h; subst h; exact VRs.cons h0 VRs.nil
  | nilI => have h0 := h; simp only [VR] at h; subst h; exact VRs.cons h0 VRs.nil

theorem mapM_VRs {E : Env} {d : Nat} (ih : ∀ {x : Value} {v : AV}, abs d x = some v → VR E v x) : ∀ {L : List Value} {l : List AV}, L.mapM (abs d) = some l → VRs E l L
  | [], l, h => by simp at h; subst h; exact VRs.nil
  | x :: L, l, h => by
    rw [List.mapM_cons] at h
    simp only [Option.bind_eq_bind, Option.bind_eq_some_iff, Option.pure_def, Option.some.injEq] at h
    obtain ⟨v, hv, l', hl, rfl⟩ := h
    exact VRs.cons (ih hv) (mapM_VRs ih hl)
theorem abs_VR {E : Env} : ∀ {d : Nat} {x : Value} {v : AV}, abs d x = some v → VR E v x
  | d, x, v, h => by
    unfold abs at h
    split at h
    · cases h; simp [VR]
    · cases h; simp [VR]
    · cases h; rename_i s; simp only [VR]
    · cases h; simp [VR]
    · cases h; simp [VR]
    · cases h; simp [VR]
    · cases h; simp [VR]
    · cases h; simp [VR]
    · rename_i d cs
      simp only [Option.map_eq_some_iff] at h
      obtain ⟨l, hl, rfl⟩ := h
      simp only [VR]
      exact ⟨cs.toList, rfl, mapM_VRs (fun h => abs_VR h) hl⟩
    · rename_i d cs
      simp only [Option.map_eq_some_iff] at h
      obtain ⟨l, hl, rfl⟩ := h
      simp only [VR]
      exact ⟨cs.toList, rfl, mapM_VRs (fun h => abs_VR h) hl⟩
    · cases h
end Go.Proofs.YtkebbdpfjhhdhaaGreat.Ev

/- The calculator's memory and the model's. -/
namespace Go.Proofs.YtkebbdpfjhhdhaaGreat.Ev

def TR (E : Env) (t : T AV) (size : Nat) (A : Array Value) : Prop := A.size = size ∧ ∀ i, VR E ((t.get i).getD aundef) (A.getD i undef)
theorem VR.undef {E : Env} : VR E aundef undef := by unfold aundef; simp only [VR]; exact ⟨[], rfl, VRs.nil⟩
theorem TR.mono {E E' : Env} (h : E.le E') {t size A} (k : TR E t size A) : TR E' t size A := ⟨k.1, fun i => (k.2 i).mono h⟩
theorem TR.set {E : Env} {t size A} (k : TR E t size A) {d : Nat} (hd : d < size) {v V} (hv : VR E v V) : TR E (t.set d v) size (A.setIfInBounds d V) := by
  refine ⟨by simp [k.1], fun i => ?_⟩
  rw [T.get_set]
  by_cases e : i = d
  · subst e
    have : i < A.size := by rw [k.1]; exact hd
    simpa [Array.getD, this] using hv
  · rw [if_neg e]
    have := k.2 i
    simpa [Array.getElem?_setIfInBounds_ne (Ne.symm e)] using this

structure LR (E : Env) (r : ALoop) (R : Loop) : Prop where
  state : R.state = r.state
  pending : R.pending = r.pending
  tm : TR E r.tmps r.size R.tmps
  params : R.params = r.params
  assign : R.assign = r.assign
  body : R.body = r.body
  defers : ∃ c, E r.defers = some (R.defers, c)
theorem LR.mono {E E' : Env} (h : E.le E') {r R} (k : LR E r R) : LR E' r R :=
  ⟨k.state, k.pending, k.tm.mono h, k.params, k.assign, k.body, k.defers.elim fun c hc => ⟨c, h _ _ hc⟩⟩

structure ER (E : Env) (e : AV × AV × Nat) (F : MapEntry) : Prop where
  key : VR E e.1 F.key
  val : VR E e.2.1 F.val
  born : F.born = e.2.2
def ERs (E : Env) : List (AV × AV × Nat) → List MapEntry → Prop
  | [], L => L = []
  | e :: l, L => ∃ F L', L = F :: L' ∧ ER E e F ∧ ERs E l L'
theorem ERs.mono {E E' : Env} (h : E.le E') : ∀ {l L}, ERs E l L → ERs E' l L
  | [], _, k => k
  | _ :: _, _, ⟨F, L, e, k, k'⟩ => ⟨F, L, e, ⟨k.key.mono h, k.val.mono h, k.born⟩, ERs.mono h k'⟩

def OR (E : Env) (i : Nat) : AObj → Obj → Prop
  | .cells l t, O => ∃ L b c, VRs E l L ∧ O = .cells L.toArray t (0, 0) ∧ E i = some (b, c) ∧ c.2 = 0
  | .row l t sz, O => ∃ Z L X b c, VRs E l L ∧ O = .cells (Z ++ (L ++ X)).toArray t (0, 0) ∧ E i = some (b, c) ∧ (L ++ X).length = c.1 * sz ∧ 0 < sz ∧ Z.length = c.2
  | .view f, O => ∃ C t fr b c, O = .cells C t fr ∧ E i = some (b, c) ∧ ∀ o v, f o = some v → ∃ V, C[o + c.2]? = some V ∧ VR E v V
  | .map es ck, O => ∃ Es, ERs E es Es ∧ O = .map Es.toArray ck
  | .loop r, O => ∃ R, LR E r R ∧ O = .loop R
  | .deferred b, O => O = .deferred (if b then some [] else none)
  | .iter m since seen st, O => ∃ b c d, E i = some (d, c) ∧ c.2 = 0 ∧ (∃ c, E m = some (b, c)) ∧ O = .mapIter (some b) since seen.toArray st
theorem OR.mono {E E' : Env} (h : E.le E') {i} : ∀ {o O}, OR E i o O → OR E' i o O
  | .cells _ _, _, ⟨L, b, c, k, e, k2, k3⟩ => ⟨L, b, c, k.mono h, e, h _ _ k2, k3⟩
  | .row _ _ _, _, ⟨Z, L, X, b, c, k, e, k2, k3⟩ => ⟨Z, L, X, b, c, k.mono h, e, h _ _ k2, k3⟩
  | .view _, _, ⟨C, t, fr, b, c, e, k2, k⟩ => ⟨C, t, fr, b, c, e, h _ _ k2, fun o v hv => (k o v hv).elim fun V hV => ⟨V, hV.1, hV.2.mono h⟩⟩
  | .map _ _, _, ⟨L, k, e⟩ => ⟨L, k.mono h, e⟩
  | .loop _, _, ⟨L, k, e⟩ => ⟨L, k.mono h, e⟩
  | .deferred _, _, e => e
  | .iter _ _ _ _, _, ⟨b, c, d, k1, k2, k3, e⟩ => ⟨b, c, d, h _ _ k1, k2, k3.elim fun c hc => ⟨c, h _ _ hc⟩, e⟩

/-- memory: what is seen is there; the numbers from 'next' up to 'top' are free -/
structure HR (top : Nat) (E : Env) (h : Heap) (W : World) : Prop where
  obj : ∀ i o, h.get i = some o → ∃ b c O, E i = some (b, c) ∧ W.heap[b]? = some O ∧ OR E i o O
  inj : ∀ i k b c d, (h.get i).isSome → (h.get k).isSome → E i = some (b, c) → E k = some (b, d) → i = k
  lt : ∀ i, h.next ≤ i → i < top → E i = none
  hid : ∀ r ∈ h.hid, r.2 ≤ h.next
  clean : ∀ i, h.next ≤ i → h.t.get i = none

structure Ext (E E' : Env) (h h' : Heap) (W W' : World) : Prop where
  le : E.le E'
  nx : h.next ≤ h'.next
  hid : h'.hid = h.hid
  lo : h'.lo = h.lo
  keepA : ∀ i, i < h.next → i < h.lo ∨ h.hidden i = true → h'.t.get i = h.t.get i
  dead : ∀ i, i < h.next → (h'.get i).isSome → (h.get i).isSome
  fresh : ∀ i b c, E i = none → E' i = some (b, c) → h.next ≤ i ∧ i < h'.next ∧ (W.heap.size ≤ b ∨ ∃ k d, h.lo ≤ k ∧ (h.get k).isSome ∧ E k = some (b, d))
  size : W.heap.size ≤ W'.heap.size
  keepC : ∀ b, b < W.heap.size → (∀ k d, h.lo ≤ k → (h.get k).isSome → E k ≠ some (b, d)) → W'.heap[b]? = W.heap[b]?
  os : W'.os = W.os
  tape : W'.tape = W.tape
  output : W'.output = W.output

theorem Ext.refl (E : Env) (h : Heap) (W : World) : Ext E E h h W W :=
  ⟨E.le_refl, Nat.le_refl _, rfl, rfl, fun _ _ _ => rfl, fun _ _ k => k, fun i b c h1 h2 => (by rw [h1] at h2; cases h2), Nat.le_refl _, fun _ _ _ => rfl, rfl, rfl, rfl⟩
theorem Heap.hidden_eq {h h' : Heap} (e : h'.hid = h.hid) (i : Nat) : h'.hidden i = h.hidden i := by unfold Heap.hidden; rw [e]
theorem Heap.get_some {h : Heap} {i : Nat} (k : (h.get i).isSome) : h.hidden i = false ∧ h.get i = h.t.get i := by
  unfold Heap.get at k ⊢
  cases hh : h.hidden i
  · simp
  · rw [hh] at k; simp at k
theorem Heap.get_lt {top E h W} (k : HR top E h W) {i : Nat} (hs : (h.get i).isSome) : i < h.next := by
  rcases Nat.lt_or_ge i h.next with g | g
  · exact g
  · rw [(Heap.get_some hs).2, k.clean i g] at hs; cases hs
/-- what is seen and known behind a step was so before, or the step made it -/
theorem Ext.back {E E' : Env} {h h' : Heap} {W W' : World} {top : Nat} (hr : HR top E h W) (hr' : HR top E' h' W') (ht : h'.next ≤ top) (k : Ext E E' h h' W W') {q b : Nat} {d : Nat × Nat} (hq : (h'.get q).isSome) (hE : E q = some (b, d)) : (h.get q).isSome := by
  have g := Heap.get_lt hr' hq
  rcases Nat.lt_or_ge q h.next with g2 | g2
  · exact k.dead q g2 hq
  · rw [hr.lt q g2 (Nat.lt_of_lt_of_le g ht)] at hE; cases hE
theorem Ext.trans {E E' E'' : Env} {h h' h'' : Heap} {W W' W'' : World} {top : Nat} (hr : HR top E h W) (hr' : HR top E' h' W') (ht : h'.next ≤ top) (k : Ext E E' h h' W W') (k' : Ext E' E'' h' h'' W' W'') : Ext E E'' h h'' W W'' := by
  refine ⟨E.le_trans k.le k'.le, Nat.le_trans k.nx k'.nx, k'.hid.trans k.hid, k'.lo.trans k.lo, fun i hi hx => ?_, fun i hi hs => k.dead i hi (k'.dead i (Nat.lt_of_lt_of_le hi k.nx) hs), fun i b c h1 h2 => ?_, Nat.le_trans k.size k'.size, fun b hb hk => ?_, k'.os.trans k.os, k'.tape.trans k.tape, k'.output.trans k.output⟩
  · rw [k'.keepA i (Nat.lt_of_lt_of_le hi k.nx) (by rw [k.lo, Heap.hidden_eq k.hid]; exact hx), k.keepA i hi hx]
  · cases h3 : E' i with
    | some x =>
      have := k'.le i x h3
      rw [this] at h2
      cases h2
      obtain ⟨g1, g2, g3⟩ := k.fresh i b c h1 h3
      exact ⟨g1, Nat.lt_of_lt_of_le g2 k'.nx, g3⟩
    | none =>
      obtain ⟨g1, g2, g3⟩ := k'.fresh i b c h3 h2
      refine ⟨Nat.le_trans k.nx g1, g2, ?_⟩
      rcases g3 with g3 | ⟨q, d, q1, q2, q3⟩
      · exact .inl (Nat.le_trans k.size g3)
      · cases h4 : E q with
        | some x =>
          have h5 := k.le q x h4
          rw [h5] at q3
          cases q3
          exact .inr ⟨q, d, by rw [k.lo] at q1; exact q1, k.back hr hr' ht q2 h4, h4⟩
        | none => exact (k.fresh q b d h4 q3).2.2
  · have h1 := k.keepC b hb hk
    refine (k'.keepC b (Nat.lt_of_lt_of_le hb k.size) fun q d q1 q2 q3 => ?_).trans h1
    cases h4 : E q with
    | some x =>
      have h5 := k.le q x h4
      rw [h5] at q3
      cases q3
      exact hk q d (by rw [k.lo] at q1; exact q1) (k.back hr hr' ht q2 h4) h4
    | none =>
      rcases (k.fresh q b d h4 q3).2.2 with g | ⟨q', d', g1, g2, g3⟩
      · omega
      · exact hk q' d' g1 g2 g3

/-! the two ways in which memory changes -/
theorem HR.block_lt {top E h W} (k : HR top E h W) {i o b c} (hs : h.get i = some o) (hE : E i = some (b, c)) : b < W.heap.size := by
  obtain ⟨b', c', O, e1, e2, _⟩ := k.obj i o hs
  rw [hE] at e1
  cases e1
  exact (Array.getElem?_eq_some_iff.1 e2).1
def Env.put (E : Env) (i : Nat) (x : Nat × Nat × Nat) : Env := fun k => if k = i then some x else E k
theorem Env.put_le {E : Env} {i x} (h : E i = none) : E.le (E.put i x) := fun k y hy => by
  unfold Env.put
  rw [if_neg (fun e => by rw [e, h] at hy; cases hy)]
  exact hy
theorem HR.newHid {h : Heap} {top E W} (k : HR top E h W) : h.hidden h.next = false := by
  unfold Heap.hidden
  rw [List.any_eq_false]
  intro r hr
  have := k.hid r hr
  simp only [Bool.and_eq_true, not_and, Bool.not_eq_true]
  intro _
  cases hb : Nat.blt h.next r.2
  · rfl
  · have : h.next < r.2 := by simpa [Nat.blt_eq] using hb
    omega
theorem Heap.get_new (h : Heap) (o : AObj) (hn : h.hidden h.next = false) (i : Nat) : (h.new o).2.get i = if i = h.next then some o else h.get i := by
  unfold Heap.get
  have e : (h.new o).2.hidden i = h.hidden i := rfl
  rw [e]
  show (if h.hidden i = true then none else (h.t.set h.next o).get i) = _
  rw [T.get_set]
  by_cases hi : i = h.next
  · subst hi; rw [hn]; simp
  · simp [hi]

/-- a new block -/
theorem HR.new {top : Nat} {E : Env} {h : Heap} {W : World} (k : HR top E h W) (ht : h.next + 1 ≤ top) (o : AObj) (O : Obj) (c : Nat × Nat) (ho : OR (E.put h.next (W.heap.size, c)) h.next o O) :
    HR top (E.put h.next (W.heap.size, c)) (h.new o).2 (W.alloc O) ∧ Ext E (E.put h.next (W.heap.size, c)) h (h.new o).2 W (W.alloc O) ∧ (E.put h.next (W.heap.size, c)) h.next = some (W.heap.size, c) := by
  have hE : E h.next = none := k.lt _ (Nat.le_refl _) (by omega)
  have hle := Env.put_le (x := (W.heap.size, c)) hE
  have hn := k.newHid
  have hg := h.get_new o hn
  have hold : ∀ i, (h.get i).isSome → i ≠ h.next := fun i hi e => by have := Heap.get_lt k hi; omega
  have hput : ∀ i, i ≠ h.next → (E.put h.next (W.heap.size, c)) i = E i := fun i hi => if_neg hi
  have hself : (E.put h.next (W.heap.size, c)) h.next = some (W.heap.size, c) := if_pos rfl
  have hsz : ∀ i b d, (h.get i).isSome → E i = some (b, d) → b < W.heap.size := fun i b d hi he => by
    obtain ⟨oo, hoo⟩ := Option.isSome_iff_exists.1 hi
    exact k.block_lt hoo he
  refine ⟨⟨fun i o' hi => ?_, fun i q b d d' hi hq ei eq => ?_, fun i h1 h2 => ?_, fun r hr => ?_, fun i hi => ?_⟩, ⟨hle, Nat.le_succ _, rfl, rfl, fun i hi _ => ?_, fun i hi hs => ?_, fun i b d h1 h2 => ?_, by simp, fun b hb _ => ?_, rfl, rfl, rfl⟩, hself⟩
  · rw [hg] at hi
    by_cases e : i = h.next
    · subst e
      simp at hi
      subst hi
      exact ⟨W.heap.size, c, O, hself, World.alloc_heap_new W O, ho⟩
    · rw [if_neg e] at hi
      obtain ⟨b, d, O', e1, e2, e3⟩ := k.obj i o' hi
      exact ⟨b, d, O', hle _ _ e1, (RowKit.Below.heap_alloc W O b (Array.getElem?_eq_some_iff.1 e2).1).trans e2, e3.mono hle⟩
  · rw [hg] at hi hq
    by_cases e : i = h.next <;> by_cases e' : q = h.next
    · omega
    · subst e
      rw [if_neg e'] at hq
      rw [hself] at ei
      rw [hput q e'] at eq
      cases ei
      have := hsz q _ _ hq eq
      omega
    · subst e'
      rw [if_neg e] at hi
      rw [hself] at eq
      rw [hput i e] at ei
      cases eq
      have := hsz i _ _ hi ei
      omega
    · rw [if_neg e] at hi
      rw [if_neg e'] at hq
      rw [hput i e] at ei
      rw [hput q e'] at eq
      exact k.inj i q b d d' hi hq ei eq
  · have h1' : h.next + 1 ≤ i := h1
    rw [hput i (by omega)]
    exact k.lt i (by omega) h2
  · exact Nat.le_succ_of_le (k.hid r hr)
  · have hi' : h.next + 1 ≤ i := hi
    show (h.t.set h.next o).get i = none
    rw [T.get_set, if_neg (by omega)]
    exact k.clean i (by omega)
  · show (h.t.set h.next o).get i = _
    rw [T.get_set, if_neg (by omega)]
  · rw [hg, if_neg (by omega)] at hs
    exact hs
  · by_cases e : i = h.next
    · subst e
      rw [hself] at h2
      cases h2
      exact ⟨Nat.le_refl _, Nat.lt_succ_self _, .inl (Nat.le_refl _)⟩
    · rw [hput i e, h1] at h2; cases h2
  · exact RowKit.Below.heap_alloc W O b hb

theorem Heap.set_eq {h g : Heap} {i : Nat} {o : AObj} (e : h.set i o = some g) : h.lo ≤ i ∧ (h.get i).isSome ∧ g = { h with t := h.t.set i o } := by
  unfold Heap.set at e
  split at e
  · rename_i hl
    split at e
    · rename_i hs
      cases e
      exact ⟨by simpa using hl, by rw [hs]; rfl, rfl⟩
    · cases e
  · cases e
theorem Heap.get_set {h : Heap} {i : Nat} {o : AObj} (hs : (h.get i).isSome) (q : Nat) : ({ h with t := h.t.set i o } : Heap).get q = if q = i then some o else h.get q := by
  have hh := (Heap.get_some hs).1
  unfold Heap.get
  have e : ({ h with t := h.t.set i o } : Heap).hidden q = h.hidden q := rfl
  rw [e]
  show (if h.hidden q = true then none else (h.t.set i o).get q) = _
  rw [T.get_set]
  by_cases hq : q = i
  · subst hq; rw [hh]; simp
  · simp [hq]

/-- a block that is written over -/
theorem HR.set {top : Nat} {E : Env} {h g : Heap} {W : World} (k : HR top E h W) {i : Nat} {o : AObj} (e : h.set i o = some g) {b : Nat} {c : Nat × Nat} (hE : E i = some (b, c)) (W' : World) (O : Obj)
    (hO : W'.heap[b]? = some O) (ho : OR E i o O) (hW : ∀ q, q ≠ b → W'.heap[q]? = W.heap[q]?) (hz : W'.heap.size = W.heap.size) (h1 : W'.os = W.os) (h2 : W'.tape = W.tape) (h3 : W'.output = W.output) :
    HR top E g W' ∧ Ext E E h g W W' := by
  obtain ⟨hl, hs, rfl⟩ := Heap.set_eq e
  have hg := Heap.get_set (o := o) hs
  have hi := Heap.get_lt k hs
  have hsome : ∀ q, (({ h with t := h.t.set i o } : Heap).get q).isSome → (h.get q).isSome := fun q hq => by
    rw [hg] at hq
    by_cases e : q = i
    · subst e; exact hs
    · rwa [if_neg e] at hq
  refine ⟨⟨fun q o' hq => ?_, fun q r b' d d' hq hr eq er => k.inj q r b' d d' (hsome q hq) (hsome r hr) eq er, k.lt, k.hid, fun q hq => ?_⟩, ⟨E.le_refl, Nat.le_refl _, rfl, rfl, fun q hq hx => ?_, fun q _ hq => hsome q hq, fun q b' d e1 e2 => (by rw [e1] at e2; cases e2), by omega, fun q hq hk => ?_, h1, h2, h3⟩⟩
  · rw [hg] at hq
    by_cases eq : q = i
    · subst eq
      simp at hq
      subst hq
      exact ⟨b, c, O, hE, hO, ho⟩
    · rw [if_neg eq] at hq
      obtain ⟨b', d, O', e1, e2, e3⟩ := k.obj q o' hq
      refine ⟨b', d, O', e1, ?_, e3⟩
      rw [hW b' (fun hb => by subst hb; exact eq (k.inj q i _ _ _ (by rw [hq]; rfl) hs e1 hE))]
      exact e2
  · show (h.t.set i o).get q = none
    rw [T.get_set, if_neg (by have : h.next ≤ q := hq; omega)]
    exact k.clean q hq
  · show (h.t.set i o).get q = _
    rw [T.get_set, if_neg]
    rintro rfl
    rcases hx with hx | hx
    · omega
    · rw [(Heap.get_some hs).1] at hx; cases hx
  · exact hW q (fun hb => by subst hb; exact hk i c hl hs hE)
end Go.Proofs.YtkebbdpfjhhdhaaGreat.Ev

/- Operations that touch no memory. -/
namespace Go.Proofs.YtkebbdpfjhhdhaaGreat.Ev
variable {P : Program}

def OpR (E : Env) (a : AAct) (A : Act) (l : List Operand) : Prop := ∀ x ∈ l, ∀ v, a.eval x = some v → VR E v (A.eval x)
theorem OpR.one {E a A x} (h : OpR E a A [x]) {v} (hv : a.eval x = some v) : VR E v (A.eval x) := h x (List.mem_singleton.2 rfl) v hv
theorem OpR.sub {E a A l m} (h : OpR E a A l) (hm : ∀ x ∈ m, x ∈ l) : OpR E a A m := fun x hx => h x (hm x hx)
theorem OpR.list {E a A} : ∀ {l : List Operand} {vs : List AV}, OpR E a A l → mapO a.eval l = some vs → VRs E vs (l.map A.eval)
  | [], vs, _, h => by simp [mapO] at h; subst h; exact VRs.nil
  | x :: l, vs, hR, h => by
    simp only [mapO] at h
    split at h
    · rename_i v ws hv hws
      cases h
      exact VRs.cons (hR x (by simp) v hv) (OpR.list (hR.sub (by simp; exact fun _ h => .inr h)) hws)
    · cases h

theorem run_size {t s} (h : sizeT P t = some s) (w : World) : (sizeOf t).run P w = .ok s w := by
  unfold sizeT at h
  cases hi : P.info? t with
  | none => rw [hi] at h; cases h
  | some i => rw [hi] at h; simp at h; subst h; simp [sizeOf, typeInfo, hi]
theorem run_aggT {t b} (h : isAggT P t = some b) (w : World) : (isAgg t).run P w = .ok b w := by
  unfold isAggT at h
  split at h <;> cases h
  · rename_i hu; simp [isAgg, run_underlying hu]
  · rename_i hu; simp [isAgg, run_underlying hu]
  · rename_i d h1 h2 hu; simp only [isAgg, Sem.run_bind, run_underlying hu, Result.andThen_ok]
    rfl
theorem run_zeroT {t z} (h : zeroT P t = some z) (w : World) : ∃ Z, (zeroValue t).run P w = .ok Z w ∧ (∀ E, VR E z Z) ∧ ∃ i, P.info? t = some i ∧ i.zero = some Z := by
  unfold zeroT at h
  cases hi : P.info? t with
  | none => rw [hi] at h; simp at h
  | some i =>
    rw [hi] at h
    cases hz : i.zero with
    | none => simp [hz] at h
    | some Z => simp [hz] at h; exact ⟨Z, by simp [zeroValue, typeInfo, hi, hz], fun E => abs_VR h, i, rfl, hz⟩

theorem VRs.arr {E : Env} {l : List AV} {L : List Value} {n : Nat} {v : AV} (h : VRs E l L) (hv : l[n]? = some v) : ∃ V, (L.toArray)[n]? = some V ∧ VR E v V := by
  obtain ⟨V, h1, h2⟩ := h.get hv
  exact ⟨V, by simpa using h1, h2⟩
theorem run_partE {E : Env} {t l off v L} (h : partE P t l off = some v) (hl : VRs E l L) (w : World) : ∃ V, (part t L.toArray off).run P w = .ok V w ∧ VR E v V := by
  unfold partE at h
  split at h
  · rename_i s ha hs
    simp only [Option.map_eq_some_iff] at h
    obtain ⟨q, hq, rfl⟩ := h
    rw [dropN_eq] at hq
    obtain ⟨h1, rfl⟩ := takeN_eq hq
    refine ⟨.agg (L.toArray.extract off (off + s)), by simp [part, run_aggT ha, run_size hs], ?_⟩
    simp only [VR]
    exact ⟨(L.drop off).take s, by simp [List.extract_toArray, List.extract], (hl.drop off).take s⟩
  · rename_i ha
    rw [nthN_eq] at h
    obtain ⟨V, h1, h2⟩ := hl.arr h
    simp at h1
    exact ⟨V, by simp [part, run_aggT ha, h1], h2⟩
  · cases h
theorem run_partA {E : Env} {t l off v L} (h : partA P t l off = some v) (hl : VRs E l L) (w : World) : ∃ V, (part t L.toArray off).run P w = .ok V w ∧ VR E v V := run_partE h hl w

/-! equality -/
theorem eqFs_run {E : Env} {w : World} {d D : Nat} (ih : ∀ {t x y b X Y}, eqT P d t x y = some b → VR E x X → VR E y Y → (Op.equalIn D t X Y).run P w = .ok b w) {xs ys : List AV} {Xs Ys : List Value} (hx : VRs E xs Xs) (hy : VRs E ys Ys) :
    ∀ {fs : List Field} {b}, eqFs P (eqT P d) fs xs ys = some b → (Op.eqFields D Xs.toArray Ys.toArray fs).run P w = .ok b w
  | [], b, h => by simp [eqFs] at h; subst h; simp [Op.eqFields]
  | f :: fs, b, h => by
    simp only [eqFs] at h
    split at h
    · cases h
    · rename_i hn
      split at h
      · rename_i x y h1 h2
        obtain ⟨X, r1, v1⟩ := run_partE h1 hx w
        obtain ⟨Y, r2, v2⟩ := run_partE h2 hy w
        simp only [Op.eqFields, ne_eq, hn, not_false_eq_true, if_true, Sem.run_bind, r1, r2, Result.andThen_ok]
        split at h
        · rename_i h3
          have := ih h3 v1 v2
          simp only [this, Result.andThen_ok, Bool.not_true, Bool.false_eq_true, if_false]
          exact eqFs_run ih hx hy h
        · rename_i r h3
          cases b with
          | true => exact absurd h h3
          | false =>
            have := ih h v1 v2
            simp [this]
      · cases h

theorem cellsOf_one {e : TypeId} (hs : sizeT P e = some 1) : P.cellsOf e = 1 := by
  unfold Program.cellsOf
  unfold sizeT at hs
  rw [hs]
  rfl
theorem info_of {e : TypeId} {s : Nat} (hs : sizeT P e = some s) : ∃ i, P.info? e = some i := by
  unfold sizeT at hs
  cases hi : P.info? e with
  | none => rw [hi] at hs; cases hs
  | some i => exact ⟨i, rfl⟩
theorem partE_int {e : TypeId} {j : IntKind} (he : P.underlying e = some (.int j)) {l : List AV} {k : Nat} {v : AV} (hv : l[k]? = some v) : partE P e l k = some v := by
  unfold partE isAggT
  rw [he]
  simp only [nthN_eq, hv]
theorem eqItems_run {E : Env} {w : World} {D : Nat} {e : TypeId} {j : IntKind} (he : P.underlying e = some (.int j)) {xs ys : List AV} {Xs Ys : List Value} (hx : VRs E xs Xs) (hy : VRs E ys Ys) :
    ∀ (m k : Nat) (b : Bool), sameI (xs.drop k) (ys.drop k) = some b → (xs.drop k).length = m → (Op.eqItems (D + 1) e 1 Xs.toArray Ys.toArray (List.range' k m)).run P w = .ok b w
  | 0, k, b, h, hm => by
    have hn : xs.drop k = [] := List.length_eq_zero_iff.1 hm
    rw [hn] at h
    cases hy' : ys.drop k with
    | nil => rw [hy'] at h; simp [sameI] at h; subst h; simp [Op.eqItems]
    | cons y r => rw [hy'] at h; simp [sameI] at h
  | m + 1, k, b, h, hm => by
    have hk : k < xs.length := by rw [List.length_drop] at hm; omega
    rw [List.length_drop] at hm
    rw [List.drop_eq_getElem_cons hk] at h
    cases hy' : ys.drop k with
    | nil => rw [hy'] at h; cases hh : xs[k] <;> rw [hh] at h <;> simp [sameI] at h
    | cons y r =>
      have hky : k < ys.length := by
        rcases Nat.lt_or_ge k ys.length with h1 | h1
        · exact h1
        · rw [List.drop_eq_nil_of_le h1] at hy'; cases hy'
      have hye := List.drop_eq_getElem_cons hky
      rw [hy'] at hye
      obtain ⟨e1, e2⟩ := List.cons.inj hye
      rw [hy', e2] at h
      cases hxk : xs[k] with
      | int i a =>
        cases y with
        | int i2 c =>
          rw [hxk] at h
          simp only [sameI] at h
          split at h
          · rename_i hi
            subst hi
            split at h
            · rename_i r0 hr
              cases h
              obtain ⟨X, p1, v1⟩ := run_partE (partE_int he (l := xs) (k := k) (v := .int i a) (by rw [List.getElem?_eq_getElem hk, hxk])) hx w
              obtain ⟨Y, p2, v2⟩ := run_partE (partE_int he (l := ys) (k := k) (v := .int i c) (by rw [List.getElem?_eq_getElem hky, ← e1])) hy w
              simp only [VR] at v1 v2
              subst v1 v2
              have p3 : (Op.equalIn (D + 1) e (.int i a) (.int i c)).run P w = .ok (a == c) w := by simp [Op.equalIn, run_underlying he]
              rw [List.range'_succ]
              simp only [Op.eqItems, Nat.mul_one, Sem.run_bind, p1, p2, p3, Result.andThen_ok]
              have ih := eqItems_run (w := w) (D := D) he hx hy m (k + 1) r0 hr (by rw [List.length_drop]; omega)
              cases hac : a == c
              · simp
              · simpa using ih
            · cases h
          · cases h
        | _ => rw [hxk] at h; simp [sameI] at h
      | _ => rw [hxk] at h; simp [sameI] at h
theorem arr_run {E : Env} {w : World} {D n : Nat} {t e : TypeId} {j : IntKind} (ht : P.underlying t = some (.array n e)) (he : P.underlying e = some (.int j)) (hs : sizeT P e = some 1) {xs ys : List AV} {Xs Ys : List Value} (hx : VRs E xs Xs) (hy : VRs E ys Ys) {b : Bool} (h : sameI xs ys = some b) (hl : xs.length = n) :
    (Op.equalIn (D + 2) t (.agg Xs.toArray) (.agg Ys.toArray)).run P w = .ok b w := by
  obtain ⟨i, hi⟩ := info_of hs
  rw [run_equalIn_array w (D + 1) _ _ ht hi, cellsOf_one hs, List.range_eq_range']
  exact eqItems_run he hx hy n 0 b (by simpa using h) (by simpa using hl)
theorem fieldsOf_eq {t fs} (h : P.underlying t = some (.struct fs)) : P.fieldsOf t = fs := by unfold Program.fieldsOf; rw [h]
theorem eqT_run {E : Env} {w : World} : ∀ {d D : Nat} {t x y b X Y}, eqT P d t x y = some b → d ≤ D → VR E x X → VR E y Y → (Op.equalIn D t X Y).run P w = .ok b w
  | 0, _, _, _, _, _, _, _, h, _, _, _ => by simp [eqT] at h
  | d + 1, 0, _, _, _, _, _, _, _, hD, _, _ => by omega
  | d + 1, D + 1, t, x, y, b, X, Y, h, hD, hx, hy => by
    unfold eqT at h
    split at h
    · rename_i hu; cases h; simp only [VR] at hx hy; subst hx hy; simp [Op.equalIn, run_underlying hu]
    · rename_i hu; split at h
      · rename_i he; cases h; simp only [VR] at hx hy; subst hx hy; simp [Op.equalIn, run_underlying hu, he]
      · cases h
    · rename_i hu; cases h; simp only [VR] at hx hy; subst hx hy
      rw [run_equalIn_string w D t _ _ hu]; simp [ByteArray.toList_eq]
    · rename_i hu; cases h; simp only [VR] at hx hy; subst hx hy; simp [Op.equalIn, run_underlying hu]
    · rename_i hu; cases h; simp only [VR] at hx hy; subst hx; obtain ⟨_, _, _, rfl⟩ := hy; simp [Op.equalIn, run_underlying hu]
    · rename_i hu; cases h; simp only [VR] at hx hy; subst hy; obtain ⟨_, _, _, rfl⟩ := hx; simp [Op.equalIn, run_underlying hu]
    · rename_i hu; cases h; simp only [VR] at hx hy; subst hx hy; simp [Op.equalIn, run_underlying hu]
    · rename_i hu; cases h; simp only [VR] at hx hy; subst hx; obtain ⟨_, _, _, rfl⟩ := hy; simp [Op.equalIn, run_underlying hu]
    · rename_i hu; cases h; simp only [VR] at hx hy; subst hy; obtain ⟨_, _, _, rfl⟩ := hx; simp [Op.equalIn, run_underlying hu]
    · rename_i hu; cases h; simp only [VR] at hx hy; subst hx hy; simp [Op.equalIn, run_underlying hu]
    · rename_i hu; cases h; simp only [VR] at hx hy; subst hx; obtain ⟨_, _, _, rfl⟩ := hy; simp [Op.equalIn, run_underlying hu]
    · rename_i hu; cases h; simp only [VR] at hx hy; subst hy; obtain ⟨_, _, _, rfl⟩ := hx; simp [Op.equalIn, run_underlying hu]
    · rename_i hu; cases h; simp only [VR] at hx hy; subst hx hy; simp [Op.equalIn, run_underlying hu]
    · rename_i hu; cases h; simp only [VR] at hx hy; subst hx; obtain ⟨_, _, _, rfl, _⟩ := hy; simp [Op.equalIn, run_underlying hu]
    · rename_i hu; cases h; simp only [VR] at hx hy; subst hy; obtain ⟨_, _, _, rfl, _⟩ := hx; simp [Op.equalIn, run_underlying hu]
    · rename_i fs xs ys hu
      split at h
      · cases h
      · rename_i hp
        simp only [VR] at hx hy
        obtain ⟨Xs, rfl, hx⟩ := hx
        obtain ⟨Ys, rfl, hy⟩ := hy
        rw [run_equalIn_struct w D t _ _ (by rw [fieldsOf_eq hu]; exact hu) (by simpa using hp), fieldsOf_eq hu]
        exact eqFs_run (fun h k k' => eqT_run h (by omega) k k') hx hy h
    · rename_i n e xs ys hu
      split at h
      · rename_i j hej hse
        split at h
        · cases h
        · rename_i hd0
          split at h
          · rename_i hln
            simp only [VR] at hx hy
            obtain ⟨Xs, rfl, hx⟩ := hx
            obtain ⟨Ys, rfl, hy⟩ := hy
            obtain ⟨D', rfl⟩ : ∃ D', D = D' + 1 := ⟨D - 1, by omega⟩
            exact arr_run hu hej hse hx hy h hln.1
          · cases h
      · cases h
    · cases h

/-! the operations, one by one: what each comes to in whatever world -/
/-- run without memory -/
def PureR (P : Program) (E : Env) (v : Option AV) (s : Sem Value) : Prop := ∀ u, v = some u → ∀ w, ∃ V, s.run P w = .ok V w ∧ VR E u V

theorem evInt_run {E : Env} {op k x y} (hk : op ≠ .shl ∧ op ≠ .shr) (t : TypeId) : PureR P E (evInt op k x y) (binOp op t (.int k x) (.int k y)) := by
  intro u hu w
  cases op <;> simp only [evInt] at hu
  case shl => exact absurd rfl hk.1
  case shr => exact absurd rfl hk.2
  case quo =>
    split at hu
    · cases hu
    · rename_i h; cases hu; exact ⟨_, by simp [binOp, Op.intDiv, h], rfl⟩
  case rem =>
    split at hu
    · cases hu
    · rename_i h; cases hu; exact ⟨_, by simp [binOp, Op.intDiv, h], rfl⟩
  all_goals (cases hu; exact ⟨_, by simp [binOp, Op.intArith, Op.intBits, Op.intCmp], rfl⟩)
theorem evShift_run {E : Env} {op k j x y} (t : TypeId) (hk : op = .shl ∨ op = .shr) : PureR P E (evShift op k x y) (binOp op t (.int k x) (.int j y)) := by
  intro u hu w
  unfold evShift at hu
  split at hu
  · cases hu
  · rename_i h
    rcases hk with rfl | rfl <;> (simp only at hu; cases hu; exact ⟨_, by simp [binOp, Op.shift, h], rfl⟩)
theorem toList_mk (l : List UInt8) : (⟨l.toArray⟩ : ByteArray).toList = l := by rw [ByteArray.toList_eq]
theorem evStr_run {E : Env} {op x y} (t : TypeId) : PureR P E (evStr op x y) (binOp op t (.string ⟨x.toArray⟩) (.string ⟨y.toArray⟩)) := by
  intro u hu w
  have hs : ∀ l : List UInt8, (⟨l.toArray⟩ : ByteArray).size = l.length := fun l => by show (l.toArray).size = _; simp
  cases op <;> simp only [evStr] at hu <;> try (cases hu; done)
  case add =>
    split at hu
    · rename_i hl
      cases hu
      refine ⟨.string ⟨(x ++ y).toArray⟩, ?_, by simp only [VR]⟩
      have h2 : ¬ ((x.length + y.length : Nat) : Int) > IntKind.i64.max := by unfold IntKind.max; simp [IntKind.signed, IntKind.bits]; omega
      have h3 : (⟨x.toArray⟩ ++ ⟨y.toArray⟩ : ByteArray) = ⟨(x ++ y).toArray⟩ := by
        apply ByteArray.ext; simp
      simp only [binOp, Op.stringOp, hs, if_neg h2, Sem.run_pure, h3]
    · cases hu
  all_goals (cases hu; exact ⟨_, by simp [binOp, Op.stringOp], rfl⟩)
end Go.Proofs.YtkebbdpfjhhdhaaGreat.Ev

/- Operations that touch no memory, end. -/
namespace Go.Proofs.YtkebbdpfjhhdhaaGreat.Ev
variable {P : Program}

theorem eq_run {E : Env} {d t x y b} (h : eqT P d t x y = some b) (hd : d ≤ 10000) {X Y} (hx : VR E x X) (hy : VR E y Y) (w : World) :
    (binOp .eql t X Y).run P w = .ok (.bool b) w ∧ (binOp .neq t X Y).run P w = .ok (.bool !b) w := by
  have key := eqT_run (w := w) h hd hx hy
  cases d with
  | zero => simp [eqT] at h
  | succ d =>
  unfold eqT at h
  split at h
  · simp only [VR] at hx hy; subst hx hy; constructor <;> simp [binOp, Op.equal, Op.maxDepth, key]
  · split at h
    · rename_i he; cases h; simp only [VR] at hx hy; subst hx hy; subst he; constructor <;> simp [binOp, Op.intCmp, bne]
    · cases h
  · cases h; simp only [VR] at hx hy; subst hx hy; constructor <;> simp [binOp, Op.stringOp]
  · simp only [VR] at hx hy; subst hx hy; constructor <;> simp [binOp, Op.equal, Op.maxDepth, key]
  · simp only [VR] at hx hy; subst hx; obtain ⟨_, _, _, rfl⟩ := hy; constructor <;> simp [binOp, Op.equal, Op.maxDepth, key]
  · simp only [VR] at hx hy; subst hy; obtain ⟨_, _, _, rfl⟩ := hx; constructor <;> simp [binOp, Op.equal, Op.maxDepth, key]
  · simp only [VR] at hx hy; subst hx hy; constructor <;> simp [binOp, Op.equal, Op.maxDepth, key]
  · simp only [VR] at hx hy; subst hx; obtain ⟨_, _, _, rfl⟩ := hy; constructor <;> simp [binOp, Op.equal, Op.maxDepth, key]
  · simp only [VR] at hx hy; subst hy; obtain ⟨_, _, _, rfl⟩ := hx; constructor <;> simp [binOp, Op.equal, Op.maxDepth, key]
  · simp only [VR] at hx hy; subst hx hy; constructor <;> simp [binOp, Op.equal, Op.maxDepth, key]
  · simp only [VR] at hx hy; subst hx; obtain ⟨_, _, _, rfl⟩ := hy; constructor <;> simp [binOp, Op.equal, Op.maxDepth, key]
  · simp only [VR] at hx hy; subst hy; obtain ⟨_, _, _, rfl⟩ := hx; constructor <;> simp [binOp, Op.equal, Op.maxDepth, key]
  · simp only [VR] at hx hy; subst hx hy; constructor <;> simp [binOp, Op.equal, Op.maxDepth, key]
  · simp only [VR] at hx hy; subst hx; obtain ⟨_, _, _, rfl, _⟩ := hy; constructor <;> simp [binOp, Op.equal, Op.maxDepth, key]
  · simp only [VR] at hx hy; subst hy; obtain ⟨_, _, _, rfl, _⟩ := hx; constructor <;> simp [binOp, Op.equal, Op.maxDepth, key]
  · simp only [VR] at hx hy; obtain ⟨_, rfl, _⟩ := hx; obtain ⟨_, rfl, _⟩ := hy; constructor <;> simp [binOp, Op.equal, Op.maxDepth, key]
  · simp only [VR] at hx hy; obtain ⟨_, rfl, _⟩ := hx; obtain ⟨_, rfl, _⟩ := hy; constructor <;> simp [binOp, Op.equal, Op.maxDepth, key]
  · cases h

theorem guard_run {E : Env} {t : TypeId} {x : AV} (hg : guardOk P t x = true) (hn : x ≠ .nilI) {X Y : Value} (hx : VR E x X) (op : BinOp) (o q : Operand) (w : World) : (eqGuard op t o q X Y).run P w = .ok () w := by
  cases x with
  | agg l =>
    simp only [VR] at hx
    obtain ⟨L, rfl, _⟩ := hx
    simp only [guardOk, Bool.not_eq_true'] at hg
    cases op <;> simp [eqGuard] <;> cases Y <;> simp [hg]
  | nilI => exact absurd rfl hn
  | fn f a c => simp only [VR] at hx; obtain ⟨_, _, _, rfl, _⟩ := hx; cases op <;> simp [eqGuard]
  | iface t v => simp only [VR] at hx; obtain ⟨_, rfl, _⟩ := hx; cases op <;> simp [eqGuard]
  | tup l => simp only [VR] at hx; obtain ⟨_, rfl, _⟩ := hx; cases op <;> simp [eqGuard]
  | ptr i o => simp only [VR] at hx; obtain ⟨_, _, _, rfl⟩ := hx; cases op <;> simp [eqGuard]
  | slice i o n c => simp only [VR] at hx; obtain ⟨_, _, _, rfl⟩ := hx; cases op <;> simp [eqGuard]
  | map i => simp only [VR] at hx; obtain ⟨_, _, _, rfl⟩ := hx; cases op <;> simp [eqGuard]
  | sliceZ => simp only [VR] at hx; obtain ⟨_, _, rfl⟩ := hx; cases op <;> simp [eqGuard]
  | sliceE i o d => simp only [VR] at hx; obtain ⟨_, _, _, _, _, rfl⟩ := hx; cases op <;> simp [eqGuard]
  | _ => simp only [VR] at hx; subst hx; cases op <;> simp [eqGuard]

theorem evBin_run {E : Env} {op t x y X Y} (hx : VR E x X) (hy : VR E y Y) (o q : Operand) : PureR P E (evBin P op t x y) (do eqGuard op t o q X Y; binOp op t X Y) := by
  intro u hu w
  unfold evBin at hu
  split at hu
  · rename_i k a j b
    simp only [VR] at hx hy
    subst hx hy
    have hg : (eqGuard op t o q (.int k a) (.int j b)).run P w = .ok () w := by cases op <;> simp [eqGuard]
    simp only [Sem.run_bind, hg, Result.andThen_ok]
    split at hu
    · rename_i hop; exact evShift_run t hop u hu w
    · rename_i hop
      split at hu
      · rename_i hk; subst hk; exact evInt_run ⟨fun e => hop (.inl e), fun e => hop (.inr e)⟩ t u hu w
      · cases hu
  · simp only [VR] at hx hy
    subst hx hy
    have hg : ∀ x y : ByteArray, (eqGuard op t o q (.string x) (.string y)).run P w = .ok () w := fun x y => by cases op <;> simp [eqGuard]
    simp only [Sem.run_bind, hg, Result.andThen_ok]
    exact evStr_run t u hu w
  · unfold evEq at hu
    split at hu
    · split at hu
      · rename_i hg
        simp only [Option.map_eq_some_iff] at hu
        obtain ⟨b, hb, rfl⟩ := hu
        have hn : x ≠ .nilI := by rintro rfl; simp [eqT] at hb
        simp only [Sem.run_bind, guard_run hg hn hx, Result.andThen_ok]
        exact ⟨.bool b, (eq_run hb (by omega) hx hy w).1, rfl⟩
      · cases hu
    · split at hu
      · rename_i hg
        simp only [Option.map_eq_some_iff] at hu
        obtain ⟨b, hb, rfl⟩ := hu
        have hn : x ≠ .nilI := by rintro rfl; simp [eqT] at hb
        simp only [Sem.run_bind, guard_run hg hn hx, Result.andThen_ok]
        exact ⟨.bool !b, (eq_run hb (by omega) hx hy w).2, rfl⟩
      · cases hu
    · cases hu

theorem evUn_run {E : Env} {op x X} (hx : VR E x X) : PureR P E (evUn op x) (Op.unary op X) := by
  intro u hu w
  unfold evUn at hu
  split at hu
  · simp only [VR] at hx; subst hx; simp only [evInt] at hu; cases hu; exact ⟨_, by simp [Op.unary, Op.intArith], rfl⟩
  · simp only [VR] at hx; subst hx; simp only [evInt] at hu; cases hu; exact ⟨_, by simp [Op.unary, Op.intBits], rfl⟩
  · simp only [VR] at hx; subst hx; cases hu; exact ⟨_, by simp [Op.unary], rfl⟩
  · cases hu

/-! building -/
def PRs (E : Env) : List (Nat × AV) → List (Nat × Value) → Prop
  | [], L => L = []
  | p :: l, L => ∃ V L', L = (p.1, V) :: L' ∧ VR E p.2 V ∧ PRs E l L'
theorem OpR.parts {E a A} : ∀ {l : List (Nat × Operand)} {vs}, OpR E a A (l.map (·.2)) → mapP a.eval l = some vs → PRs E vs (l.map fun p => (p.1, A.eval p.2))
  | [], vs, _, h => by simp [mapP] at h; subst h; simp [PRs]
  | (i, x) :: l, vs, hR, h => by
    simp only [mapP] at h
    split at h
    · rename_i v ws hv hws
      cases h
      exact ⟨_, _, rfl, hR x (by simp) v hv, OpR.parts (hR.sub (by simp; exact fun _ _ h => .inr ⟨_, h⟩)) hws⟩
    · cases h
theorem fold_set (l : List Value) : ∀ (off k : Nat) (cs : Array Value), ((l.zipIdx k).foldl (fun (cs : Array Value) (p : Value × Nat) => cs.setIfInBounds (off + p.2) p.1) cs).toList = cs.toList.take (off + k) ++ (l.take (cs.size - (off + k))) ++ cs.toList.drop (off + k + l.length) := by
  induction l with
  | nil => intro off k cs; simp
  | cons v l ih =>
    intro off k cs
    rw [List.zipIdx_cons, List.foldl_cons, ih]
    simp only [Array.size_setIfInBounds, Array.toList_setIfInBounds]
    by_cases h : off + k < cs.size
    · have h' : off + k < cs.toList.length := by simpa using h
      rw [show off + (k + 1) = off + k + 1 from by omega, List.take_set, List.drop_set_of_lt (by omega)]
      rw [List.take_succ_eq_append_getElem (by simpa using h'), List.set_append_right _ _ (by simp; omega)]
      have e1 : min (off + k) cs.toList.length = off + k := by omega
      simp only [List.length_take, e1, Nat.sub_self, List.set_cons_zero, List.append_assoc, List.singleton_append, List.length_cons]
      rw [show cs.size - (off + k) = (cs.size - (off + k + 1)) + 1 from by omega, List.take_succ_cons]
      simp [Nat.add_assoc, Nat.add_comm 1]
    · have h' : cs.toList.length ≤ off + k := by simpa using h
      rw [List.set_eq_of_length_le h']
      rw [List.take_of_length_le (by omega), List.take_of_length_le (l := cs.toList) (i := off + k) h', show cs.size - (off + (k + 1)) = 0 from by omega, show cs.size - (off + k) = 0 from by omega]
      rw [List.drop_eq_nil_of_le (by omega), List.drop_eq_nil_of_le (by omega)]
      simp
theorem fill_run {E : Env} {place : Nat → Option (Nat × Nat)} : ∀ {parts : List (Nat × AV)} {Parts : List (Nat × Value)} {cells r : List AV} {Cells : List Value}, fillA place cells parts = some r → PRs E parts Parts → VRs E cells Cells →
    ∃ R, Instr.fill place Cells.toArray Parts = some R.toArray ∧ VRs E r R
  | [], Parts, cells, r, Cells, h, hp, hc => by
    simp [fillA] at h; subst h; simp only [PRs] at hp; subst hp
    exact ⟨Cells, by simp [Instr.fill], hc⟩
  | (i, v) :: parts, _, cells, r, Cells, h, hp, hc => by
    simp only [PRs] at hp
    obtain ⟨V, L, rfl, hv, hp⟩ := hp
    simp only [fillA] at h
    split at h
    · cases h
    · rename_i off size hpl
      split at h
      · rename_i hs
        split at h
        · rename_i c hov
          obtain ⟨h1, rfl⟩ := overN_eq hov
          have hcv := hv.cells
          have l1 : V.cells.size = size := by rw [← hs, ← hcv.len]; simp
          have l2 := hc.len
          have l3 := hcv.len
          obtain ⟨R, h2, h3⟩ := fill_run (Cells := Cells.take off ++ V.cells.toList ++ Cells.drop (off + v.cells.length)) h hp (((hc.take off).append hcv).append (hc.drop _))
          refine ⟨R, ?_, h3⟩
          simp only [Instr.fill, hpl, l1, ne_eq, not_true_eq_false, decide_false, Bool.false_or]
          have e1 : ¬ (off + size > Cells.toArray.size) := by simp; omega
          simp only [e1, decide_false, Bool.false_eq_true, if_false]
          rw [← h2]
          congr 1
          apply Array.ext'
          have := fold_set V.cells.toList off 0 Cells.toArray
          rw [← Array.foldl_toList, Array.toList_zipIdx]
          rw [this]
          simp only [Nat.add_zero, List.append_assoc]
          rw [List.take_of_length_le (l := V.cells.toList) (by simp; omega), l3]
        · cases h
      · cases h
end Go.Proofs.YtkebbdpfjhhdhaaGreat.Ev

/- Operations that touch no memory, all of them. -/
namespace Go.Proofs.YtkebbdpfjhhdhaaGreat.Ev
variable {P : Program}

theorem evBuild_run {E : Env} {t parts Parts} (hp : PRs E parts Parts) : PureR P E (evBuild P t parts) (Instr.build t Parts.toArray) := by
  intro u hu w
  unfold evBuild at hu
  split at hu
  · rename_i z fs hz ht
    obtain ⟨Z, hZ, vZ, i, hi, hiz⟩ := run_zeroT hz w
    split at hu
    · rename_i places hpl
      simp only [Option.map_eq_some_iff] at hu
      obtain ⟨r, hr, rfl⟩ := hu
      obtain ⟨R, h1, h2⟩ := fill_run hr hp (vZ E).cells
      simp only [Array.toArray_toList, nthN_eq] at h1
      refine ⟨.agg R.toArray, ?_, by simp only [VR]; exact ⟨R, rfl, h2⟩⟩
      apply run_build
      unfold Program.built
      simp only [hi, ht, hiz, hpl]
      simpa using h1
    · cases hu
  · rename_i z n e hz ht
    obtain ⟨Z, hZ, vZ, i, hi, hiz⟩ := run_zeroT hz w
    simp only [Option.bind_eq_some_iff, Option.map_eq_some_iff] at hu
    obtain ⟨s, hs, r, hr, rfl⟩ := hu
    obtain ⟨R, h1, h2⟩ := fill_run hr hp (vZ E).cells
    simp only [Array.toArray_toList] at h1
    refine ⟨.agg R.toArray, ?_, by simp only [VR]; exact ⟨R, rfl, h2⟩⟩
    simp [Instr.build, run_underlying ht, hZ, run_size hs, h1]
  · cases hu

theorem evConv_run {E : Env} {s d x X} (hx : VR E x X) : PureR P E (evConv P s d x) (convert s d X) := by
  intro u hu w
  unfold evConv at hu
  split at hu
  · rename_i ds k j n hs hd
    cases hu; simp only [VR] at hx; subst hx
    refine ⟨_, ?_, rfl⟩
    simp [convert, run_underlying hs, run_underlying hd, Conv.intToInt]
  · rename_i ds q hs hd
    cases hu; simp only [VR] at hx; subst hx
    refine ⟨_, ?_, rfl⟩
    simp [convert, run_underlying hs, run_underlying hd]
  · cases hu

theorem evField_run {E : Env} {t x f X} (hx : VR E x X) : PureR P E (evField P t x f) (Instr.field t X f) := by
  intro u hu w
  unfold evField at hu
  split at hu
  · rename_i fs cs ht
    simp only [Option.bind_eq_some_iff] at hu
    obtain ⟨fd, hfd, hp⟩ := hu
    simp only [VR] at hx
    obtain ⟨L, rfl, hl⟩ := hx
    obtain ⟨V, h1, h2⟩ := run_partA hp hl w
    exact ⟨V, by simp [Instr.field, run_underlying ht, hfd, asAgg, h1], h2⟩
  · cases hu

theorem add_none (b off n : Nat) : (⟨b, off, none⟩ : Addr).add n = ⟨b, off + n, none⟩ := by
  unfold Addr.add
  split
  · rename_i h; subst h; rfl
  · rfl

theorem evFieldAddr_run {E : Env} {t x f X} (hx : VR E x X) : PureR P E (evFieldAddr P t x f) (Instr.fieldAt t X f) := by
  intro u hu w
  unfold evFieldAddr at hu
  split at hu
  · rename_i fs i off ht
    split at hu
    · rename_i fd hfd
      simp only [Option.bind_eq_some_iff] at hu
      obtain ⟨s, hs, hu⟩ := hu
      split at hu
      · cases hu
      · rename_i h0
        cases hu
        simp only [VR] at hx
        obtain ⟨b, c, hE, rfl⟩ := hx
        refine ⟨.pointer (some ⟨b, off + fd.offset + c.2, none⟩), ?_, by simp only [VR]; exact ⟨b, c, hE, rfl⟩⟩
        simp [Instr.fieldAt, run_underlying ht, hfd, Instr.sureAddr, fieldPlace, run_size hs, h0, add_none, Nat.add_right_comm off c.2 fd.offset]
    · cases hu
  · cases hu

theorem evIndexAddr_run {E : Env} {t x i X I} (hx : VR E x X) (hi : VR E i I) : PureR P E (evIndexAddr P t x i) (Instr.indexAt t X I) := by
  intro u hu w
  unfold evIndexAddr at hu
  split at hu
  · rename_i k n
    simp only [VR] at hi; subst hi
    split at hu
    · rename_i len e b off ht
      simp only [Option.bind_eq_some_iff] at hu
      obtain ⟨s, hs, hu⟩ := hu
      split at hu
      · rename_i hr
        cases hu
        simp only [VR] at hx
        obtain ⟨bb, c, hE, rfl⟩ := hx
        refine ⟨.pointer (some ⟨bb, off + n.toNat * s + c.2, none⟩), ?_, by simp only [VR]; exact ⟨bb, c, hE, rfl⟩⟩
        simp [Instr.indexAt, asIntOf, run_underlying ht, Instr.sureAddr, hr, run_size hs, add_none, Nat.add_right_comm off c.2 (n.toNat * s)]
      · cases hu
    · rename_i e b off len cap ht
      simp only [Option.bind_eq_some_iff] at hu
      obtain ⟨s, hs, hu⟩ := hu
      split at hu
      · rename_i hr
        cases hu
        simp only [VR] at hx
        obtain ⟨bb, c, hE, rfl⟩ := hx
        refine ⟨.pointer (some ⟨bb, off + n.toNat * s + c.2, none⟩), ?_, by simp only [VR]; exact ⟨bb, c, hE, rfl⟩⟩
        simp [Instr.indexAt, asIntOf, run_underlying ht, hr, run_size hs, add_none, Nat.add_right_comm off c.2 (n.toNat * s)]
      · cases hu
    · cases hu
  · cases hu

theorem evIndex_run {E : Env} {t x i X I} (hx : VR E x X) (hi : VR E i I) : PureR P E (evIndex P t x i) (Instr.index t X I) := by
  intro u hu w
  unfold evIndex at hu
  split at hu
  · rename_i k n
    simp only [VR] at hi; subst hi
    split at hu
    · rename_i len e cs ht
      simp only [Option.bind_eq_some_iff] at hu
      obtain ⟨s, hs, hu⟩ := hu
      split at hu
      · rename_i hr
        simp only [VR] at hx
        obtain ⟨L, rfl, hl⟩ := hx
        obtain ⟨V, h1, h2⟩ := run_partA hu hl w
        exact ⟨V, by simp [Instr.index, asIntOf, run_underlying ht, hr, run_size hs, h1], h2⟩
      · cases hu
    · rename_i s ht
      split at hu
      · rename_i hr
        simp only [Option.map_eq_some_iff] at hu
        obtain ⟨c, hc, rfl⟩ := hu
        rw [nthN_eq] at hc
        simp only [VR] at hx
        subst hx
        refine ⟨_, ?_, rfl⟩
        have hb : (⟨s.toArray⟩ : ByteArray)[n.toNat]? = some c := by
          have h1 : n.toNat < s.length := (List.getElem?_eq_some_iff.1 hc).1
          have h2 : n.toNat < (⟨s.toArray⟩ : ByteArray).size := by show _ < (s.toArray).size; simpa using h1
          have h3 : (⟨s.toArray⟩ : ByteArray)[n.toNat]'h2 = c := (List.getElem?_eq_some_iff.1 hc).2
          exact (getElem?_pos (⟨s.toArray⟩ : ByteArray) n.toNat h2).trans (congrArg some h3)
        simp [Instr.index, asIntOf, run_underlying ht, hr, hb]
      · cases hu
    · cases hu
  · cases hu

theorem foldI_run {E : Env} {f : Int → Int → Int} {g : Value → Value → Sem Value} (hg : ∀ (k j : IntKind) (x y : Int) (w : World), (g (.int k x) (.int j y)).run P w = .ok (.int k (f x y)) w) : ∀ {l : List AV} {x u : AV} {L : List Value} {X : Value}, foldI f x l = some u → VR E x X → VRs E l L → ∀ w, ∃ V, (L.foldlM g X).run P w = .ok V w ∧ VR E u V
  | [], x, u, L, X, h, hx, hl, w => by
    simp [foldI] at h; subst h; simp only [VRs] at hl; subst hl; exact ⟨X, by simp, hx⟩
  | y :: l, x, u, L, X, h, hx, hl, w => by
    simp only [VRs] at hl
    obtain ⟨Y, L, rfl, hy, hl⟩ := hl
    unfold foldI at h
    split at h
    · rename_i heq; cases heq
    · rename_i k a j b l' heq
      cases heq
      simp only [VR] at hx hy
      subst hx hy
      obtain ⟨V, h1, h2⟩ := foldI_run hg h (X := .int k (f a b)) (by simp only [VR]) hl w
      exact ⟨V, by simp [List.foldlM_cons, hg, h1], h2⟩
    · cases h
end Go.Proofs.YtkebbdpfjhhdhaaGreat.Ev
