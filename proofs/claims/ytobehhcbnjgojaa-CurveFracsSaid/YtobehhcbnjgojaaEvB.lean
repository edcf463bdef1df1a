import Derived.Test.YtobehhcbnjgojaaEvA
namespace Go.Proofs.Ytobehhcbnjgojaa.Ev
variable (P : Program)

def aint (n : Int) : AV := .int .i64 n
def asI : AV → Option Int
  | .int _ n => some n
  | _ => none

def evInt (op : BinOp) (k : IntKind) (x y : Int) : Option AV :=
  match op with
  | .add => some (.int k (k.wrap (x + y)))
  | .sub => some (.int k (k.wrap (x - y)))
  | .mul => some (.int k (k.wrap (x * y)))
  | .quo => if y = 0 then none else some (.int k (k.wrap (x.tdiv y)))
  | .rem => if y = 0 then none else some (.int k (x.tmod y))
  | .and => some (.int k (k.wrap (BitVec.ofInt k.bits x &&& BitVec.ofInt k.bits y).toNat))
  | .or => some (.int k (k.wrap (BitVec.ofInt k.bits x ||| BitVec.ofInt k.bits y).toNat))
  | .xor => some (.int k (k.wrap (BitVec.ofInt k.bits x ^^^ BitVec.ofInt k.bits y).toNat))
  | .andNot => some (.int k (k.wrap (BitVec.ofInt k.bits x &&& ~~~ BitVec.ofInt k.bits y).toNat))
  | .eql => some (.bool (x == y))
  | .neq => some (.bool (x != y))
  | .lss => some (.bool (x < y))
  | .leq => some (.bool (x ≤ y))
  | .gtr => some (.bool (x > y))
  | .geq => some (.bool (x ≥ y))
  | _ => none
def evShift (op : BinOp) (k : IntKind) (x y : Int) : Option AV :=
  if y < 0 then none else
  match op with
  | .shl => some (.int k (k.wrap (x * 2 ^ (min y.toNat k.bits))))
  | .shr => some (.int k (x.fdiv (2 ^ (min y.toNat k.bits))))
  | _ => none
def evStr (op : BinOp) (x y : List UInt8) : Option AV :=
  match op with
  | .add => if x.length + y.length ≤ 1000000 then some (.str (x ++ y)) else none
  | .eql => some (.bool (x == y))
  | .neq => some (.bool !(x == y))
  | .lss => some (.bool (Op.bytesLess x y))
  | .leq => some (.bool (Op.bytesLess x y || x == y))
  | .gtr => some (.bool !(Op.bytesLess x y || x == y))
  | .geq => some (.bool !(Op.bytesLess x y))
  | _ => none
def isEq : BinOp → Bool
  | .eql | .neq => true
  | _ => false
def guardOk (t : TypeId) : AV → Bool
  | .agg _ => !(P.eqGuardType P.depth t)
  | _ => true
def evEq (op : BinOp) (t : TypeId) (x y : AV) : Option AV :=
  match op with
  | .eql => if guardOk P t x then (eqT P 40 t x y).map .bool else none
  | .neq => if guardOk P t x then (eqT P 40 t x y).map fun b => .bool !b else none
  | _ => none
def evBin (op : BinOp) (t : TypeId) (x y : AV) : Option AV :=
  match x, y with
  | .int k a, .int j b => if op = .shl ∨ op = .shr then evShift op k a b else if k = j then evInt op k a b else none
  | .str a, .str b => evStr op a b
  | x, y => evEq P op t x y
def evUn (op : UnOp) (x : AV) : Option AV :=
  match op, x with
  | .neg, .int k n => evInt .sub k 0 n
  | .xor, .int k n => evInt .xor k (if k.signed then -1 else k.max) n
  | .not, .bool b => some (.bool !b)
  | _, _ => none

/-- the place of a part: offset and size -/
def fillA (place : Nat → Option (Nat × Nat)) (cells : List AV) : List (Nat × AV) → Option (List AV)
  | [] => some cells
  | (i, v) :: rest =>
    match place i with
    | none => none
    | some (off, size) =>
      if v.cells.length = size then
        match overN off v.cells cells with
        | some c => fillA place c rest
        | none => none
      else none
def evBuild (t : TypeId) (parts : List (Nat × AV)) : Option AV :=
  match zeroT P t, P.underlying t with
  | some z, some (.struct fs) =>
    match fs.toList.mapM (fun f => (P.info? f.type).map fun i => (f.offset, i.size)) with
    | some places => (fillA (fun i => nthN i places) z.cells parts).map .agg
    | none => none
  | some z, some (.array _ e) => (sizeT P e).bind fun s => (fillA (fun i => some (i * s, s)) z.cells parts).map .agg
  | _, _ => none
def rep {α : Type} (l : List α) : Nat → List α
  | 0 => []
  | n + 1 => l ++ rep l n
def evBuildSlice (t : TypeId) (len : Nat) (parts : List (Nat × AV)) : Option (List AV × TypeId) :=
  match P.underlying t with
  | some (.slice e) =>
    match sizeT P e, zeroT P e with
    | some s, some z =>
      if z.cells.length = s ∧ 0 < s ∧ len * s ≤ 65536 then (fillA (fun i => some (i * s, s)) (rep z.cells len) parts).map fun c => (c, e) else none
    | _, _ => none
  | _ => none

def partA (t : TypeId) (l : List AV) (off : Nat) : Option AV :=
  match isAggT P t, sizeT P t with
  | some true, some s => (takeN s (dropN off l)).map .agg
  | some false, _ => nthN off l
  | _, _ => none
def evLoad (h : Heap) (t : TypeId) (i off : Nat) : Option AV :=
  match isAggT P t, sizeT P t with
  | some true, some s => (h.loadN i off s).map .agg
  | some false, _ => (h.row i).bind (nthN off)
  | _, _ => none
def okCell : AV → Bool
  | .agg _ => false
  | .tup _ => false
  | _ => true
def evStore (h : Heap) (t : TypeId) (i off : Nat) (v : AV) : Option Heap :=
  match sizeT P t with
  | some s => if v.cells.length = s ∧ v.cells.all okCell then h.storeN i off v.cells else none
  | none => none

/-- how many elements a row has for sure -/
def knownN (h : Heap) (i sz : Nat) : Nat := match h.get i with
  | some (.row l _ s) => if s = sz then l.length / sz else 0
  | _ => 0
def boundIn (v : AV) (most : Nat) : Option Nat :=
  match v with
  | .int _ n => if 0 ≤ n ∧ n ≤ (most : Int) then some n.toNat else none
  | _ => none
def optB (v : Option AV) (most dflt : Nat) : Option Nat :=
  match v with
  | none => some dflt
  | some v => boundIn v most
def evSliceK (s len cap i off : Nat) (lo hi mx : Option AV) : Option AV :=
  match optB mx cap cap with
  | some m => match optB hi m len with
    | some b => match optB lo b 0 with
      | some a => some (.slice i (if m = a then off else off + a * s) (b - a) (.k (m - a)))
      | none => none
    | none => none
  | none => none
def evSliceM (s len known d i off : Nat) (lo hi : Option AV) : Option AV :=
  match optB hi (known - d) len with
  | some b => match optB lo b 0 with
    | some a => if a = 0 ∨ a + d < known then some (.slice i (off + a * s) (b - a) (.m (d + a))) else none
    | none => none
  | none => none
def evSliceX (s known d i off : Nat) (lo hi : Option AV) (mx : AV) : Option AV :=
  match boundIn mx (known - d) with
  | some m => match hi with
    | some hv => match boundIn hv m with
      | some b => match optB lo b 0 with
        | some a => some (.slice i (if m = a then off else off + a * s) (b - a) (.k (m - a)))
        | none => none
      | none => none
    | none => none
  | none => none
def evSlice (h : Heap) (t : TypeId) (x : AV) (lo hi mx : Option AV) : Option AV :=
  if mx.isSome && hi.isNone then none else
  match P.underlying t, x with
  | some .string, .str s =>
    match mx, optB hi s.length s.length with
    | none, some b => (optB lo b 0).map fun a => .str (List.take (b - a) (List.drop a s))
    | _, _ => none
  | some (.slice e), .slice0 =>
    match sizeT P e, optB mx 0 0 with
    | some _, some m => match optB hi m 0 with
      | some b => match optB lo b 0 with
        | some _ => some .slice0
        | none => none
      | none => none
    | _, _ => none
  | some (.slice e), .slice i off len (.k cap) => (sizeT P e).bind fun s => evSliceK s len cap i off lo hi mx
  | some (.slice e), .slice i off len (.m d) =>
    match sizeT P e, mx with
    | some s, none => evSliceM s len (knownN h i s) d i off lo hi
    | some s, some v => evSliceX s (knownN h i s) d i off lo hi v
    | _, _ => none
  | some (.array n e), .ptr i off => (sizeT P e).bind fun s => evSliceK s n n i off lo hi mx
  | _, _ => none

def evIndexAddr (t : TypeId) (x ix : AV) : Option AV :=
  match ix with
  | .int _ i =>
    match P.underlying t, x with
    | some (.array len e), .ptr b off => (sizeT P e).bind fun s => if 0 ≤ i ∧ i < len then some (.ptr b (off + i.toNat * s)) else none
    | some (.slice e), .slice b off len _ => (sizeT P e).bind fun s => if 0 ≤ i ∧ i < len then some (.ptr b (off + i.toNat * s)) else none
    | _, _ => none
  | _ => none
def evIndex (t : TypeId) (x ix : AV) : Option AV :=
  match ix with
  | .int _ i =>
    match P.underlying t, x with
    | some (.array len e), .agg cs => (sizeT P e).bind fun s => if 0 ≤ i ∧ i < len then partA P e cs (i.toNat * s) else none
    | some .string, .str s => if 0 ≤ i then (nthN i.toNat s).map fun b => .int .u8 b.toNat else none
    | _, _ => none
  | _ => none
def evFieldAddr (t : TypeId) (x : AV) (f : Nat) : Option AV :=
  match P.underlying t, x with
  | some (.struct fs), .ptr i off => match fs[f]? with
    | some fd => (sizeT P fd.type).bind fun s => if s = 0 then none else some (.ptr i (off + fd.offset))
    | none => none
  | _, _ => none
def evField (t : TypeId) (x : AV) (f : Nat) : Option AV :=
  match P.underlying t, x with
  | some (.struct fs), .agg cs => (fs[f]?).bind fun fd => partA P fd.type cs fd.offset
  | _, _ => none

/-! maps with keys of one cell -/
def plainKey (t : TypeId) : Bool := match P.underlying t with
  | some (.int _) | some .string | some .bool => true
  | _ => false
def sameKey : AV → AV → Option Bool
  | .int j a, .int k b => if j = k then some (a == b) else none
  | .str a, .str b => some (a == b)
  | .bool a, .bool b => some (a == b)
  | _, _ => none
def findE (k : AV) : List (AV × AV × Nat) → Nat → Option (Option (Nat × AV × Nat))
  | [], _ => some none
  | e :: es, i => match sameKey k e.1 with
    | some true => some (some (i, e.2))
    | some false => findE k es (i + 1)
    | none => none
def setE : Nat → AV → AV → List (AV × AV × Nat) → List (AV × AV × Nat)
  | _, _, _, [] => []
  | 0, k, v, e :: es => (k, v, e.2.2) :: es
  | n + 1, k, v, e :: es => e :: setE n k v es
def keyFits (t : TypeId) (k : AV) : Bool := match P.underlying t, k with
  | some (.int j), .int i _ => i == j
  | some .string, .str _ => true
  | some .bool, .bool _ => true
  | _, _ => false
def evLookup (h : Heap) (t : TypeId) (x k : AV) (ok : Bool) : Option AV :=
  match P.underlying t with
  | some (.map kt et) =>
    if keyFits P kt k then
      match x with
      | .map0 => (zeroT P et).map fun z => if ok then .tup [z, .bool false] else z
      | .map r => match h.get r with
        | some (.map es _) => match findE k es 0 with
          | some (some (_, v, _)) => some (if ok then .tup [v, .bool true] else v)
          | some none => (zeroT P et).map fun z => if ok then .tup [z, .bool false] else z
          | none => none
        | _ => none
      | _ => none
    else none
  | _ => none
def evUpdate (h : Heap) (t : TypeId) (x k v : AV) : Option Heap :=
  match P.underlying t, x with
  | some (.map kt _), .map r =>
    if keyFits P kt k then
      match h.get r with
      | some (.map es c) => match findE k es 0 with
        | some (some (i, _)) => h.set r (.map (setE i k v es) c)
        | some none => h.set r (.map (es ++ [(k, v, c)]) (c + 1))
        | none => none
      | _ => none
    else none
  | _, _ => none

def lenA (t : TypeId) (h : Heap) (x : AV) : Option AV :=
  match P.underlying t, x with
  | some .string, .str s => some (aint s.length)
  | some (.array n _), _ => some (aint n)
  | some (.slice _), .slice0 => some (aint 0)
  | some (.slice _), .slice _ _ n _ => some (aint n)
  | some (.map _ _), .map0 => some (aint 0)
  | some (.map _ _), .map r => match h.get r with
    | some (.map es _) => some (aint es.length)
    | _ => none
  | _, _ => none
def capA (t : TypeId) (x : AV) : Option AV :=
  match P.underlying t, x with
  | some (.array n _), _ => some (aint n)
  | some (.slice _), .slice0 => some (aint 0)
  | some (.slice _), .slice _ _ _ (.k c) => some (aint c)
  | _, _ => none
def foldI (f : Int → Int → Int) : AV → List AV → Option AV
  | v, [] => some v
  | .int k x, .int _ y :: l => foldI f (.int k (f x y)) l
  | _, _ => none

/-- the first n elements of a slice or string, as cells -/
def firstA (h : Heap) (s n : Nat) : AV → Option (List AV)
  | .slice i off _ _ => h.loadN i off (n * s)
  | .slice0 => if n = 0 then some [] else none
  | .str b => if s = 1 then some ((b.take n).map fun c => .int .u8 c.toNat) else none
  | _ => none
def lenOfA : AV → Option Nat
  | .slice _ _ n _ => some n
  | .slice0 => some 0
  | .str s => some s.length
  | _ => none
def bytesT (t : TypeId) : Option Nat := (P.info? t).map (·.bytes)
def isIntT (t : TypeId) : Bool := match P.underlying t with
  | some (.int _) => true
  | _ => false
def isSeqD : TypeDesc → Bool
  | .slice _ => true
  | .string => true
  | _ => false
/-- what is appended: how many elements, and their cells -/
def evNews (h : Heap) (tx : TypeId) (x : AV) (sz : Nat) : Option (Nat × List AV) :=
  match P.underlying tx with
  | some d =>
    if isSeqD d then
      match lenOfA x with
      | some n => (firstA h sz n x).map fun l => (n, l)
      | none => none
    else none
  | none => none
def evGrow (h : Heap) (e : TypeId) (sz n : Nat) (l : List AV) : Option (AV × Heap) := some (.slice h.next 0 n (.m 0), (h.new (.row l e sz)).2)
def evOnto (h : Heap) (e : TypeId) (sz : Nat) (s : AV) (n : Nat) (new : List AV) : Option (AV × Heap) :=
  match s with
  | .slice0 => if n = 0 then some (.slice0, h) else evGrow h e sz n new
  | .slice i off len (.k c) =>
    if len + n ≤ c then (h.storeN i (off + len * sz) new).map fun h => (.slice i off (len + n) (.k c), h)
    else if len + n ≤ 1000000 then
      match h.loadN i off (len * sz) with
      | some old => evGrow h e sz (len + n) (old ++ new)
      | none => none
    else none
  | .slice i off len (.m d) =>
    if len + n + d ≤ knownN h i sz then (h.storeN i (off + len * sz) new).map fun h => (.slice i off (len + n) (.m d), h)
    else if len + n ≤ 1000000 ∧ off = 0 ∧ d = 0 then
      match h.get i, h.loadN i 0 (len * sz) with
      | some (.row _ e' sz'), some old =>
        if e' = e ∧ sz' = sz then (h.take i (.row (old ++ new) e sz)).map fun r => (.slice r.1 0 (len + n) (.m 0), r.2) else none
      | _, _ => none
    else none
  | _ => none
def evAppend (h : Heap) (ts : Array TypeId) (xs : List AV) : Option (AV × Heap) :=
  match xs, ts[0]?, ts[1]? with
  | [s, x], some t, some tx =>
    match P.underlying t with
    | some (.slice e) =>
      match sizeT P e, bytesT P e, zeroT P e with
      | some sz, some bytes, some z =>
        match evNews P h tx x sz with
        | some (n, new) => if 0 < sz ∧ z.cells.length = sz ∧ bytes ≤ 1000000 ∧ n ≤ 1000000 ∧ new.length = n * sz ∧ new.all okCell then evOnto h e sz s n new else none
        | none => none
      | _, _, _ => none
    | _ => none
  | _, _, _ => none

def evBuiltin (h : Heap) (b : Builtin) (ts : Array TypeId) (xs : List AV) : Option (AV × Heap) :=
  match b with
  | .append => evAppend P h ts xs
  | .len => match ts[0]?, xs with
    | some t, [x] => (lenA P t h x).map fun v => (v, h)
    | _, _ => none
  | .cap => match ts[0]?, xs with
    | some t, [x] => (capA P t x).map fun v => (v, h)
    | _, _ => none
  | .max => match xs with
    | x :: l => (foldI (fun x y => if y > x then y else x) x l).map fun v => (v, h)
    | [] => none
  | .min => match xs with
    | x :: l => (foldI (fun x y => if y < x then y else x) x l).map fun v => (v, h)
    | [] => none
  | .copy => match (ts[0]?).bind P.underlying, xs with
    | some (.slice e), [d, s] =>
      match sizeT P e, lenOfA s, d with
      | some sz, some n, .slice i off len _ =>
        match firstA h sz (Nat.min n len) s with
        | some c => if c.all okCell then (h.storeN i off c).map fun h => (aint (Nat.min n len), h) else none
        | none => none
      | _, _, _ => none
    | _, _ => none
  | _ => none

def evConv (src dst : TypeId) (x : AV) : Option AV :=
  match P.underlying src, P.underlying dst, x with
  | some _, some (.int k), .int _ n => some (.int k (k.wrap n))
  | some _, some .string, .str s => some (.str s)
  | _, _, _ => none

def mapO (a : AAct) : List Operand → Option (List AV)
  | [] => some []
  | x :: l => match a.eval x, mapO a l with
    | some v, some vs => some (v :: vs)
    | _, _ => none
def mapP (a : AAct) : List (Nat × Operand) → Option (List (Nat × AV))
  | [] => some []
  | (i, x) :: l => match a.eval x, mapP a l with
    | some v, some vs => some ((i, v) :: vs)
    | _, _ => none
def optO (a : AAct) : Option Operand → Option (Option AV)
  | none => some none
  | some x => (a.eval x).map some

def plainV (r : Option AV) (h : Heap) : Option (ANext × Heap) := r.map fun v => (.value v, h)
def newV (h : Heap) (o : AObj) (f : Nat → AV) : Option (ANext × Heap) := let r := h.new o; some (.value (f r.1), r.2)

/-! one definition for each kind of operation -/
abbrev ORes := Option (ANext × Heap)
def oPick (h : Heap) (a : AAct) (c x y : Operand) : ORes := match a.eval c with
  | some (.bool b) => plainV (if b then a.eval x else a.eval y) h
  | _ => none
def oAlloc (h : Heap) (t : TypeId) : ORes := match zeroT P t with
  | some z => newV h (.cells z.cells t) fun i => .ptr i 0
  | none => none
def oBox (h : Heap) (a : AAct) (t : TypeId) (x : Operand) : ORes := match a.eval x with
  | some v => newV h (.cells v.cells t) fun i => .ptr i 0
  | none => none
def oBuild (h : Heap) (a : AAct) (t : TypeId) (ps : Array (Nat × Operand)) : ORes := match mapP a ps.toList with
  | some l => plainV (evBuild P t l) h
  | none => none
def oBuildSlice (h : Heap) (a : AAct) (t : TypeId) (n : Nat) (ps : Array (Nat × Operand)) : ORes := match mapP a ps.toList with
  | some l => match evBuildSlice P t n l with
    | some (c, e) => newV h (.cells c e) fun i => .slice i 0 n (.k n)
    | none => none
  | none => none
def oLoad (h : Heap) (a : AAct) (t : TypeId) (x : Operand) : ORes := match a.eval x with
  | some (.ptr i off) => plainV (evLoad P h t i off) h
  | _ => none
def oStore (h : Heap) (a : AAct) (t : TypeId) (x y : Operand) : ORes := match a.eval x, a.eval y with
  | some (.ptr i off), some v => (evStore P h t i off v).map fun h => (.skip, h)
  | _, _ => none
def oNilCheck (h : Heap) (a : AAct) (x : Operand) : ORes := match a.eval x with
  | some (.ptr i off) => some (.value (.ptr i off), h)
  | some (.fn (.func f) l c) => some (.value (.fn (.func f) l c), h)
  | _ => none
def oBin (h : Heap) (a : AAct) (op : BinOp) (t : TypeId) (x y : Operand) : ORes := match a.eval x, a.eval y with
  | some v, some u => plainV (evBin P op t v u) h
  | _, _ => none
def oUn (h : Heap) (a : AAct) (op : UnOp) (x : Operand) : ORes := match a.eval x with
  | some v => plainV (evUn op v) h
  | none => none
def oConv (h : Heap) (a : AAct) (s d : TypeId) (x : Operand) : ORes := match a.eval x with
  | some v => plainV (evConv P s d v) h
  | none => none
def oMakeFunc (h : Heap) (a : AAct) (f : Nat) (fs cs : Array Operand) : ORes := match mapO a fs.toList, mapO a cs.toList with
  | some l, some c => some (.value (.fn (.func f) l c), h)
  | _, _ => none
def oMakeMap (h : Heap) (a : AAct) (t : TypeId) (r : Option Operand) : ORes := match optO a r with
  | some none => newV h (.map [] 0) fun i => .map i
  | some (some (.int _ _)) => match P.underlying t with
    | some (.map _ _) => newV h (.map [] 0) fun i => .map i
    | _ => none
  | _ => none
def oMakeSlice (h : Heap) (a : AAct) (t : TypeId) (l c : Operand) : ORes := match a.eval l, a.eval c, P.underlying t with
  | some (.int .i64 n), some (.int .i64 m), some (.slice e) =>
    match sizeT P e, zeroT P e, bytesT P e with
    | some s, some z, some by_ =>
      if 0 ≤ n ∧ n ≤ m ∧ m ≤ 65536 ∧ z.cells.length = s ∧ 0 < s ∧ by_ ≤ 1000000 then
        newV h (.cells (rep z.cells m.toNat) e) fun i => .slice i 0 n.toNat (.k m.toNat)
      else none
    | _, _, _ => none
  | _, _, _ => none
def oSlice (h : Heap) (a : AAct) (t : TypeId) (x : Operand) (lo hi mx : Option Operand) : ORes := match a.eval x, optO a lo, optO a hi, optO a mx with
  | some v, some l, some r, some m => plainV (evSlice P h t v l r m) h
  | _, _, _, _ => none
def oFieldAddr (h : Heap) (a : AAct) (t : TypeId) (x : Operand) (f : Nat) : ORes := match a.eval x with
  | some v => plainV (evFieldAddr P t v f) h
  | none => none
def oField (h : Heap) (a : AAct) (t : TypeId) (x : Operand) (f : Nat) : ORes := match a.eval x with
  | some v => plainV (evField P t v f) h
  | none => none
def oIndexAddr (h : Heap) (a : AAct) (t : TypeId) (x i : Operand) : ORes := match a.eval x, a.eval i with
  | some v, some u => plainV (evIndexAddr P t v u) h
  | _, _ => none
def oIndex (h : Heap) (a : AAct) (t : TypeId) (x i : Operand) : ORes := match a.eval x, a.eval i with
  | some v, some u => plainV (evIndex P t v u) h
  | _, _ => none
def oLookup (h : Heap) (a : AAct) (t : TypeId) (x i : Operand) (ok : Bool) : ORes := match a.eval x, a.eval i with
  | some v, some u => plainV (evLookup P h t v u ok) h
  | _, _ => none
def oUpdate (h : Heap) (a : AAct) (t : TypeId) (m k x : Operand) : ORes := match a.eval m, a.eval k, a.eval x with
  | some v, some u, some y => (evUpdate P h t v u y).map fun h => (.skip, h)
  | _, _, _ => none
def oExtract (h : Heap) (a : AAct) (t : Operand) (ix : Nat) : ORes := match a.eval t with
  | some (.tup l) => plainV (nthN ix l) h
  | _ => none
def oCall (h : Heap) (a : AAct) (c : Call) : ORes := match c.callee with
  | .builtin b => match mapO a c.args.toList with
    | some l => (evBuiltin P h b c.argTypes l).map fun r => (.value r.1, r.2)
    | none => none
  | .value f => match a.eval f, mapO a c.args.toList with
    | some (.fn (.func g) l cs), some xs => some (.enter g (l ++ xs ++ cs), h)
    | some (.fn (.yield g) [] []), some xs => some (.round g xs, h)
    | _, _ => none
  | .invoke _ _ => none

/-- one operation -/
def evOp (h : Heap) (a : AAct) (o : Oper) : ORes :=
  match o.op with
  | .move x => plainV (a.eval x) h
  | .assign x => plainV (a.eval x) h
  | .pick c x y => oPick h a c x y
  | .alloc t => oAlloc P h t
  | .box t x => oBox h a t x
  | .build t ps => oBuild P h a t ps
  | .buildSlice t n ps => oBuildSlice P h a t n ps
  | .load t x => oLoad P h a t x
  | .store t x y => oStore P h a t x y
  | .nilCheck x => oNilCheck h a x
  | .binOp op t x y _ => oBin P h a op t x y
  | .unOp op _ x => oUn h a op x
  | .convert s d x => oConv P h a s d x
  | .makeFunc (.func f) fs cs => oMakeFunc h a f fs cs
  | .makeMap t r => oMakeMap P h a t r
  | .makeSlice t l c => oMakeSlice P h a t l c
  | .slice t x lo hi mx => oSlice P h a t x lo hi mx
  | .fieldAddr t x f => oFieldAddr P h a t x f
  | .field t x f => oField P h a t x f
  | .indexAddr t x i => oIndexAddr P h a t x i
  | .index t x i => oIndex P h a t x i
  | .lookup t x i ok => oLookup P h a t x i ok
  | .mapUpdate t m k x => oUpdate P h a t m k x
  | .insert t m k x => oUpdate P h a t m k x
  | .extract t ix => oExtract h a t ix
  | .call c => oCall P h a c
  | _ => none

/-! ### code -/
inductive Ex where
  | normal
  | exit (id : Nat)
  | ret
def Ex.jump : Ex → Option Code
  | .normal => none
  | .exit id => some (.exit id)
  | .ret => some .ret

def yieldedA (ops : Array Oper) (a : AAct) (j : Nat) : Option Bool :=
  match (ops[j]?).bind (·.dst) with
  | some t => if Nat.blt t a.size then (match a.at t with | .bool b => some b | _ => none) else none
  | none => none
def wantedA (ops : Array Oper) (a : AAct) (o : Oper) : Bool :=
  match o.guard with
  | none => true
  | some (j, want) => match yieldedA ops a j with
    | some b => b == want
    | none => false

/-- 0: touches no memory; 1: reads, or makes memory of its own; 2: writes; 3: a load -/
def kindOf : Op → Nat
  | .move _ | .assign _ | .pick .. | .build .. | .nilCheck _ | .binOp .. | .unOp .. | .convert .. | .makeFunc .. | .fieldAddr .. | .field .. | .indexAddr .. | .index .. | .extract .. => 0
  | .load .. => 3
  | .store .. | .mapUpdate .. | .insert .. | .mapEntry .. | .entryStore .. => 2
  | .call { callee := .builtin .append, .. } | .call { callee := .builtin .copy, .. } => 2
  | .call { callee := .builtin .max, .. } | .call { callee := .builtin .min, .. } => 0
  | _ => 1

def masksOf (ops : List Oper) : List Nat → List Nat      -- in reverse order
  | acc => match ops with
    | [] => acc
    | o :: rest => masksOf rest ((o.after.toList.foldl (fun s e => if Region.binds .any e then s ||| 2 ^ e.on ||| (acc.getD (acc.length - 1 - e.on) 0) else s) 0) :: acc)
def edgesOk : List Oper → Nat → Bool
  | [], _ => true
  | o :: rest, i => (o.after.toList.all fun e => !Region.binds .any e || Nat.blt e.on i) && edgesOk rest (i + 1)

def tmpsOf (ops : Array Oper) (o : Oper) : List Nat :=
  (o.op.operands.toList.filterMap fun | .tmp t => some t | _ => none) ++
  (match o.guard with
   | some (g, _) => ((ops[g]?).bind (·.dst)).toList
   | none => [])
def apartA (ops : Array Oper) (x y : Oper) : Bool :=
  (match x.dst with
   | some d => !(tmpsOf ops y).contains d && y.dst != some d
   | none => true) &&
  (match y.dst with
   | some d => !(tmpsOf ops x).contains d
   | none => true)
/-- each two operations without an order name no temporary in common that one writes -/
def apartAll (ops : Array Oper) (masks : List Nat) : List Oper → Nat → Bool
  | [], _ => true
  | o :: rest, i => ((List.range i).all fun k => (masks.getD i 0).testBit k || (match ops[k]? with | some x => apartA ops x o | none => true)) && apartAll ops masks rest (i + 1)
def staticOk (ops : Array Oper) : Bool :=
  edgesOk ops.toList 0 && apartAll ops (masksOf ops.toList []).reverse ops.toList 0

/-- an operation that stands in order with all others that touch memory may write -/
def soloAt (ops : Array Oper) (masks : List Nat) (i : Nat) : Bool :=
  (List.range ops.size).all fun k => k == i || (masks.getD i 0).testBit k || (masks.getD k 0).testBit i || (match ops[k]? with | some o => kindOf o.op == 0 | none => true)
def kindsOf (ops : Array Oper) (masks : List Nat) : List Nat :=
  (List.range ops.size).map fun i => match ops[i]? with
    | some o => if kindOf o.op == 1 && soloAt ops masks i then 2 else kindOf o.op
    | none => 0

/-- what is known of an operation that has been done: its kind, the block that it loads from or stores into, the numbers of its own blocks -/
structure Rec where
  ty : Nat
  blk : Option Nat
  n0 : Nat
  n1 : Nat
def blkOf (a : AAct) : Op → Option Nat
  | .load _ x | .store _ x _ => match a.eval x with
    | some (.ptr i _) => some i
    | _ => none
  | _ => none
/-- may these two stand in either order? -/
def free (x y : Rec) : Bool :=
  if x.ty = 0 ∨ y.ty = 0 then true
  else if x.ty = 2 then y.ty = 3 && (match x.blk, y.blk with | some i, some k => i != k | _, _ => false)
  else if y.ty = 2 then x.ty = 3 && (match x.blk, y.blk with | some i, some k => i != k | _, _ => false)
  else true
def freeAll (m : Nat) (r : Rec) : List Rec → Nat → Bool          -- the records in reverse order; the number of the first
  | [], _ => true
  | x :: l, i => (m.testBit (i - 1) || free x r) && freeAll m r l (i - 1)
/-- the blocks of those that need not have been done -/
def hideOf (m : Nat) : List Rec → Nat → List (Nat × Nat)
  | [], _ => []
  | x :: l, i => if m.testBit (i - 1) || Nat.ble x.n1 x.n0 then hideOf m l (i - 1) else (x.n0, x.n1) :: hideOf m l (i - 1)

inductive Job where
  | code (rnd : Option Nat) (c : Code)
  | ops (ops : Array Oper) (l : List Oper)
  | drawn (ops : Array Oper) (masks kinds : List Nat) (l : List Oper) (recs : List Rec)
  | call (f : Nat) (args : List AV)
  | round (l : Nat) (args : List AV)

structure Out where
  ex : Ex
  v : AV
  a : AAct
  h : Heap

def initT (l : List AV) (i : Nat) : T AV := match l with
  | [] => .nil
  | v :: r => (initT r (i + 1)).set i v
def setAll (t : T AV) (size : Nat) : List Nat → List AV → T AV
  | p :: ps, v :: vs => setAll (if Nat.blt p size then t.set p v else t) size ps vs
  | _, _ => t
def shutAll (h : Heap) : List Nat → Option Heap
  | [] => some h
  | d :: ds => match h.get d with
    | some (.deferred true) => match h.set d (.deferred false) with
      | some h => shutAll h ds
      | none => none
    | _ => none
def resultsA (h : Heap) (a : AAct) : List ResultVar → Option (List AV)
  | [] => some []
  | .tmp t :: l => match resultsA h a l with
    | some vs => some (a.at t :: vs)
    | none => none
  | .cell p t :: l => match a.at p with
    | .ptr i off => match evLoad P h t i off, resultsA h a l with
      | some v, some vs => some (v :: vs)
      | _, _ => none
    | _ => none
def oneOf : List AV → AV
  | [v] => v
  | l => .tup l

def enters (f : Nat) : Option Func := match P.funcs[f]? with
  | some fn => if fn.body.isSome && !(fn.name == "runtime.NumGoroutine") then some fn else none
  | none => none

abbrev Runs := Job → AAct → Heap → Option Out
def rSeq (r : Runs) (rnd : Option Nat) (x y : Code) (a : AAct) (h : Heap) : Option Out :=
  match r (.code rnd x) a h with
  | some ⟨.normal, _, a, h⟩ => r (.code rnd y) a h
  | o => o
def rCond (r : Runs) (rnd : Option Nat) (c : Operand) (x y : Code) (a : AAct) (h : Heap) : Option Out :=
  match a.eval c with
  | some (.bool b) => r (.code rnd (if b then x else y)) a h
  | _ => none
def rBlock (r : Runs) (rnd : Option Nat) (id : Nat) (b : Code) (a : AAct) (h : Heap) : Option Out :=
  match r (.code rnd b) a h with
  | some ⟨.exit k, _, a, h⟩ => if k = id then some ⟨.normal, aundef, a, h⟩ else some ⟨.exit k, aundef, a, h⟩
  | o => o
/-- the block for deferred calls, its mark, and what is there then -/
def enterA (h : Heap) : Option Nat → Option (Nat × List Nat × Heap)
  | none => some (h.next, [h.next], (h.new (.deferred true)).2)
  | some l => match h.get l with
    | some (.loop r) => some (r.defers, [], h)
    | _ => none
def leaveA (h : Heap) (l : Nat) : Option (Option Code × Heap) :=
  match h.get l with
  | some (.loop q) => if q.state = .busy then none else (h.set l (.loop { q with state := .exhausted })).map fun h => (q.pending, h)
  | _ => none
def rLeave (r : Runs) (rnd : Option Nat) (a : AAct) : Option (Option Code × Heap) → Option Out
  | some (none, h) => some ⟨.normal, aundef, a, h⟩
  | some (some c, h) => r (.code rnd c) a h
  | none => none
def rRange (r : Runs) (rnd : Option Nat) (f : Operand) (ps : Array Tmp) (assign body : Code) (a : AAct) (h : Heap) : Option Out :=
  match a.eval f, enterA h rnd with
  | some (.fn (.func g) fs cs), some (d, mark, h) =>
    match r (.call g (fs ++ [.fn (.yield h.next) [] []] ++ cs)) a (h.new (.loop ⟨.ready, none, a.tmps, a.size, ps, assign, body, d⟩)).2 with
    | some o => rLeave r rnd { a with defers := mark ++ a.defers } (leaveA o.h h.next)
    | none => none
  | _, _ => none
def rCode (r : Runs) (rnd : Option Nat) (c : Code) (a : AAct) (h : Heap) : Option Out :=
  match c with
  | .skip => some ⟨.normal, aundef, a, h⟩
  | .label _ => some ⟨.normal, aundef, a, h⟩
  | .region _ ops false => r (.ops ops ops.toList) a h
  | .region _ ops true => if staticOk ops then r (.drawn ops (masksOf ops.toList []).reverse (kindsOf ops (masksOf ops.toList []).reverse) ops.toList []) a h else none
  | .seq x y => rSeq r rnd x y a h
  | .cond c x y => rCond r rnd c x y a h
  | .block id b => rBlock r rnd id b a h
  | .loop b => match r (.code rnd b) a h with
    | some ⟨.normal, _, a, h⟩ => r (.code rnd (.loop b)) a h
    | o => o
  | .rangeFunc f ps assign body => rRange r rnd f ps assign body a h
  | .exit id => some ⟨.exit id, aundef, a, h⟩
  | .ret => some ⟨.ret, aundef, a, h⟩
  | _ => none
/-- an operation with the call that it makes: its value and the memory behind it -/
def rOp2 (r : Runs) (a : AAct) : ANext × Heap → Option (AV × Heap)
  | (.value v, g) => some (v, g)
  | (.skip, g) => some (aundef, g)
  | (.enter f args, g) => (r (.call f args) a g).map fun o => (o.v, o.h)
  | (.round l args, g) => (r (.round l args) a g).map fun o => (o.v, o.h)
def rOp (r : Runs) (h : Heap) (a : AAct) (o : Oper) : Option (AV × Heap) :=
  match evOp P h a o with
  | some x => if Nat.ble h.next x.2.next then rOp2 r a x else none
  | none => none
def rPut (r : Runs) (a : AAct) (d : Option Tmp) (j : Job) : Option (AV × Heap) → Option Out
  | some (v, h) => match a.put d v with
    | some a => r j a h
    | none => none
  | none => none
def rOps (r : Runs) (ops : Array Oper) (a : AAct) (h : Heap) : List Oper → Option Out
  | [] => some ⟨.normal, aundef, a, h⟩
  | o :: l => rPut r a o.dst (.ops ops l) (if wantedA ops a o then rOp P r h a o else some (aundef, h))
def rDrawnAt (r : Runs) (ops : Array Oper) (masks kinds : List Nat) (o : Oper) (l : List Oper) (recs : List Rec) (a : AAct) (h : Heap) (m ty : Nat) : Option Out :=
  match rOp P r (if ty = 1 then { h with lo := h.next, hid := hideOf m recs recs.length ++ h.hid } else if ty = 3 then { h with hid := hideOf m recs recs.length ++ h.hid } else h) a o with
  | some (v, g) =>
    if freeAll m ⟨ty, blkOf a o.op, h.next, g.next⟩ recs recs.length then
      rPut r a o.dst (.drawn ops masks kinds l (⟨ty, blkOf a o.op, h.next, g.next⟩ :: recs)) (some (v, { g with lo := h.lo, hid := h.hid }))
    else none
  | none => none
def rDrawn (r : Runs) (ops : Array Oper) (masks kinds : List Nat) (recs : List Rec) (a : AAct) (h : Heap) : List Oper → Option Out
  | [] => some ⟨.normal, aundef, a, h⟩
  | o :: l =>
    if wantedA ops a o then rDrawnAt P r ops masks kinds o l recs a h (masks.getD recs.length 0) (kinds.getD recs.length 0)
    else rPut r a o.dst (.drawn ops masks kinds l (⟨0, none, h.next, h.next⟩ :: recs)) (some (aundef, h))
def rEnd (fn : Func) : Option Out → Option Out
  | some ⟨.exit _, _, _, _⟩ => none
  | some ⟨_, _, a, h⟩ => match shutAll h a.defers with
    | some h => match resultsA P h a fn.results.toList with
      | some l => some ⟨.normal, oneOf l, a, h⟩
      | none => none
    | none => none
  | none => none
def rCall (r : Runs) (f : Nat) (args : List AV) (h : Heap) : Option Out :=
  match enters P f with
  | some fn => match fn.body with
    | some c => rEnd P fn (r (.code none c) ⟨initT args 0, if Nat.ble args.length fn.ntmps then fn.ntmps else args.length, []⟩ h)
    | none => none
  | none => none
def busyA (h : Heap) (l : Nat) : Option Heap :=
  match h.get l with
  | some (.loop q) => if q.state = .ready then h.set l (.loop { q with state := .busy }) else none
  | _ => none
def Ex.isNormal : Ex → Bool
  | .normal => true
  | _ => false
def endA (h : Heap) (l : Nat) (e : Ex) : Option Heap :=
  match h.get l with
  | some (.loop q) => h.set l (.loop { q with state := (if e.isNormal then .ready else .done), pending := e.jump })
  | _ => none
def rEndR (l : Nat) : Option Out → Option Out
  | some ⟨ex, _, a, h⟩ => match endA h l ex with
    | some h => some ⟨.normal, .bool ex.isNormal, a, h⟩
    | none => none
  | none => none
def rBody (r : Runs) (l : Nat) (body : Code) : Option Out → Option Out
  | some ⟨.normal, _, a, h⟩ => match busyA h l with
    | some h => rEndR l (r (.code (some l) body) a h)
    | none => none
  | _ => none
def rRound (r : Runs) (l : Nat) (args : List AV) (h : Heap) : Option Out :=
  match h.get l with
  | some (.loop q) =>
    if args.length = q.params.size ∧ q.state = .ready then rBody r l q.body (r (.code (some l) q.assign) ⟨setAll q.tmps q.size q.params.toList args, q.size, []⟩ h) else none
  | _ => none
def chk (h : Heap) : Option Out → Option Out
  | some o => if Nat.ble h.next o.h.next then some o else none
  | none => none
def stepR (r : Runs) : Runs := fun j a h => chk h <|
  match j with
  | .code rnd c => rCode r rnd c a h
  | .ops ops l => rOps P r ops a h l
  | .drawn ops masks kinds l recs => rDrawn P r ops masks kinds recs a h l
  | .call f args => rCall P r f args h
  | .round l args => rRound r l args h
def run (n : Nat) : Runs := Nat.rec (fun _ _ _ => none) (fun _ r => stepR P r) n

def emptyH : Heap := ⟨.nil, 0, 0, []⟩
def calls (n f : Nat) (args : List AV) : Option AV := (run P n (.call f args) ⟨.nil, 0, []⟩ emptyH).map (·.v)
def saysTrue (n f : Nat) : Bool := match calls P n f [] with
  | some (.bool true) => true
  | _ => false
end Go.Proofs.Ytobehhcbnjgojaa.Ev
