/- A symbolic run of the model over calls whose inputs are closed: definitions. -/
import GoSem.Machine.Return
namespace Go.Ax
open Go
noncomputable section

/-- Reckon a number before it goes on. -/
def forceNat {α : Type} (n : Nat) (k : Nat → α) : α := Nat.rec (k 0) (fun m _ => k (m + 1)) n
def forceInt {α : Type} (n : Int) (k : Int → α) : α := Int.rec (fun a => forceNat a fun a => k (.ofNat a)) (fun a => forceNat a fun a => k (.negSucc a)) n

/-- A map from numbers, for quick reckoning: a tree of eights, as deep as its numbers want. -/
structure N (β : Type) where
  (a b c d e f g h : β)
def D (α : Type) (k : Nat) : Type := Nat.rec (Option α) (fun _ b => N b) k
inductive T (α : Type) where
  | leaf
  | tree (k : Nat) (x : D α k)
/-- Functions that the kernel finds once for each number. -/
inductive P1 (β : Type) where
  | mk (g : N β → β)
inductive U1 (β α : Type) where
  | mk (g : N β → (β → (β → T α) → T α) → (N β → T α) → T α)
inductive GD (β α : Type) where
  | mk (g : β → Option α)
inductive SD (β α : Type) where
  | mk (g : β → α → (β → T α) → T α)
inductive ST (β α : Type) where
  | mk (g : β → α → T α)
def dig {β : Type} (a b c d e f g h : β) (n : Nat) : β :=
  Nat.rec a (fun n _ => Nat.rec b (fun n _ => Nat.rec c (fun n _ => Nat.rec d (fun n _ => Nat.rec e (fun n _ => Nat.rec f (fun n _ => Nat.rec g (fun _ _ => h) n) n) n) n) n) n) n
def p1 {β : Type} (n : Nat) : P1 β := dig (.mk fun t => N.rec (fun a _ _ _ _ _ _ _ => a) t) (.mk fun t => N.rec (fun _ b _ _ _ _ _ _ => b) t) (.mk fun t => N.rec (fun _ _ c _ _ _ _ _ => c) t) (.mk fun t => N.rec (fun _ _ _ d _ _ _ _ => d) t) (.mk fun t => N.rec (fun _ _ _ _ e _ _ _ => e) t) (.mk fun t => N.rec (fun _ _ _ _ _ f _ _ => f) t) (.mk fun t => N.rec (fun _ _ _ _ _ _ g _ => g) t) (.mk fun t => N.rec (fun _ _ _ _ _ _ _ h => h) t) n
def u1 {β α : Type} (n : Nat) : U1 β α := dig (.mk fun t k q => N.rec (fun a b c d e f g h => k a fun a' => q ⟨a', b, c, d, e, f, g, h⟩) t) (.mk fun t k q => N.rec (fun a b c d e f g h => k b fun b' => q ⟨a, b', c, d, e, f, g, h⟩) t) (.mk fun t k q => N.rec (fun a b c d e f g h => k c fun c' => q ⟨a, b, c', d, e, f, g, h⟩) t) (.mk fun t k q => N.rec (fun a b c d e f g h => k d fun d' => q ⟨a, b, c, d', e, f, g, h⟩) t) (.mk fun t k q => N.rec (fun a b c d e f g h => k e fun e' => q ⟨a, b, c, d, e', f, g, h⟩) t) (.mk fun t k q => N.rec (fun a b c d e f g h => k f fun f' => q ⟨a, b, c, d, e, f', g, h⟩) t) (.mk fun t k q => N.rec (fun a b c d e f g h => k g fun g' => q ⟨a, b, c, d, e, f, g', h⟩) t) (.mk fun t k q => N.rec (fun a b c d e f g h => k h fun h' => q ⟨a, b, c, d, e, f, g, h'⟩) t) n
def getD {α : Type} (k : Nat) : Nat → GD (D α k) α :=
  Nat.rec (motive := fun k => Nat → GD (D α k) α) (fun _ => .mk fun x => x)
    (fun k ih n => P1.rec (fun p => GD.rec (fun g => .mk fun t => g (p t)) (ih (Nat.mod n (Nat.pow 8 k)))) (p1 (Nat.div n (Nat.pow 8 k)))) k
def setD {α : Type} (k : Nat) : Nat → SD (D α k) α :=
  Nat.rec (motive := fun k => Nat → SD (D α k) α) (fun _ => .mk fun _ v c => c (some v))
    (fun k ih n => U1.rec (fun u => SD.rec (fun s => .mk fun t v c => u t (fun b q => s b v q) c) (ih (Nat.mod n (Nat.pow 8 k)))) (u1 (Nat.div n (Nat.pow 8 k)))) k
def emptyD {α : Type} (k : Nat) : D α k := Nat.rec (motive := fun k => D α k) none (fun _ x => ⟨x, x, x, x, x, x, x, x⟩) k
def getT {α : Type} (k n : Nat) : GD (D α k) α := Bool.rec (.mk fun _ => none) (getD k n) (Nat.ble (Nat.succ n) (Nat.pow 8 k))
/-- f: how often the tree may grow. -/
def setT {α : Type} (f : Nat) : (k : Nat) → Nat → ST (D α k) α :=
  Nat.rec (motive := fun _ => (k : Nat) → Nat → ST (D α k) α) (fun _ _ => .mk fun _ _ => .leaf)
    (fun _ ih k n => Bool.rec (ST.rec (fun s => .mk fun x v => s (N.mk x (emptyD k) (emptyD k) (emptyD k) (emptyD k) (emptyD k) (emptyD k) (emptyD k)) v) (ih (Nat.succ k) n))
      (SD.rec (fun s => .mk fun x v => s x v fun y => .tree k y) (setD k n)) (Nat.ble (Nat.succ n) (Nat.pow 8 k))) f
def T.get {α : Type} (t : T α) (n : Nat) : Option α := T.rec none (fun k x => GD.rec (fun g => g x) (getT k n)) t
def T.set {α : Type} (d : Nat) (t : T α) (n : Nat) (x : α) : T α :=
  T.rec (ST.rec (fun s => s none x) (setT d 0 n)) (fun k y => ST.rec (fun s => s y x) (setT d k n)) t
def deep : Nat := 20
/-- Reckon a map before it goes on. -/
def T.force {α β : Type} (t : T α) (k : T α → β) : β := T.rec (k .leaf) (fun d x => k (.tree d x)) t
def T.sets {α : Type} (t : T α) (n : Nat) (l : List α) : T α :=
  List.rec (motive := fun _ => T α → Nat → T α) (fun t _ => t) (fun x _ ih t n => (t.set deep n x).force fun t => forceNat (Nat.succ n) fun n => ih t n) l t n
def T.ofList {α : Type} (l : List α) : T α := T.leaf.sets 0 l
/-- n values from place o on. -/
def T.range {α : Type} (t : T α) (o n : Nat) : Option (List α) :=
  Nat.rec (motive := fun _ => Nat → Option (List α)) (fun _ => some [])
    (fun _ ih o => Option.rec none (fun x => Option.rec none (fun l => some (x :: l)) (ih (Nat.succ o))) (t.get o)) n o
def lset {α : Type} (l : List α) (n : Nat) (v : α) : List α :=
  List.rec (motive := fun _ => Nat → List α) (fun _ => []) (fun x t ih n => Nat.rec (v :: t) (fun m _ => x :: ih m) n) l n
def lget {α : Type} (l : List α) (n : Nat) : Option α :=
  List.rec (motive := fun _ => Nat → Option α) (fun _ => none) (fun x _ ih n => Nat.rec (some x) (fun m _ => ih m) n) l n
def lsets {α : Type} : List α → Nat → List α → List α
  | l, _, [] => l
  | l, n, v :: vs => lsets (lset l n v) (n + 1) vs

/-- One cell, with blocks by their own numbers. -/
inductive Sc where
  | bool (b : Bool)
  | int (k : IntKind) (n : Int)
  | str (s : ByteArray)
  | ptr (i o : Nat)
  | nilp
  | slc (i o len cap : Nat)
  | slo (i o len size : Nat)
  | nils
  | fn (f : FuncId) (c : List (Nat × Nat))
  | yld (l : Nat)
  | nilf
  | mp (i : Nat)
  | nilm
  deriving DecidableEq

inductive A1 where
  | sc (s : Sc)
  | agg (l : List Sc)
  deriving DecidableEq

inductive AV where
  | one (a : A1)
  | tup (l : List A1)
  deriving DecidableEq

abbrev AV.sc (s : Sc) : AV := .one (.sc s)
abbrev AV.agg (l : List Sc) : AV := .one (.agg l)
def AV.undef : AV := .tup []

def A1.cells : A1 → List Sc
  | .sc s => [s]
  | .agg l => l

structure LoopRow where
  fn : FuncId
  state : LoopState
  pending : Option Code
  nt : Nat
  tmps : T AV
  params : List Tmp
  assign : Code
  body : Code
  dfr : Nat

inductive Row where
  | cells (elem : TypeId) (exact : Bool) (len : Nat) (c : T Sc)
  | loop (r : LoopRow)
  | dfr
  | dead
  | map (es : List (Sc × A1)) (clock : Nat)

/-- The state: the rows, the next number, the least number that was written. -/
structure St where
  h : T Row
  n : Nat
  lo : Nat

def hget (h : T Row) (i : Nat) : Option Row := h.get i
def big : Nat := 1000000000

def St.new (s : St) (r : Row) : St := forceNat s.n fun n => { h := s.h.set deep n r, n := n + 1, lo := s.lo }
def St.put (s : St) (i : Nat) (r : Row) : St := forceNat (match Nat.ble i s.lo with | true => i | false => s.lo) fun lo => { h := s.h.set deep i r, n := s.n, lo }
/-- A new row of cells. -/
def St.row (s : St) (e : TypeId) (exact : Bool) (c : List Sc) : St := forceNat c.length fun n => s.new (.cells e exact n (T.ofList c))

def lslice {α : Type} (l : List α) (o n : Nat) : List α := (l.drop o).take n

def ofScalar : Value → Option Sc
  | .bool b => some (.bool b)
  | .int k n => some (.int k n)
  | .string s => some (.str s)
  | .pointer none => some .nilp
  | .slice none 0 0 => some .nils
  | .nilFunc => some .nilf
  | .map none => some .nilm
  | _ => none
def ofScalars : List Value → Option (List Sc)
  | [] => some []
  | v :: t => match ofScalar v, ofScalars t with
    | some a, some l => some (a :: l)
    | _, _ => none
def ofA1 : Value → Option A1
  | .agg cs => (ofScalars cs.toList).map .agg
  | v => (ofScalar v).map .sc
def ofA1s : List Value → Option (List A1)
  | [] => some []
  | v :: t => match ofA1 v, ofA1s t with
    | some a, some l => some (a :: l)
    | _, _ => none
def ofValue : Value → Option AV
  | .tuple vs => (ofA1s vs.toList).map .tup
  | .func (.func f) a b => if a.size = 0 ∧ b.size = 0 then some (.sc (.fn f [])) else none
  | v => (ofA1 v).map .one

def zeroCellsOf (P : Program) (t : TypeId) : Option (List Sc) :=
  match P.info? t with
  | some i => match i.zero with
    | some z => (ofA1 z).map A1.cells
    | none => none
  | none => none
def zeroOf (P : Program) (t : TypeId) : Option A1 :=
  match P.info? t with
  | some i => match i.zero with
    | some z => ofA1 z
    | none => none
  | none => none
def sizeOf? (P : Program) (t : TypeId) : Option Nat := (P.info? t).map (·.size)
def isAgg? (P : Program) (t : TypeId) : Option Bool :=
  match P.underlying t with
  | some (.struct _) | some (.array ..) => some true
  | some _ => some false
  | none => none

/-- What a frame holds. -/
structure Fr where
  fn : FuncId
  nt : Nat
  tmps : T AV
  dfs : List Nat

def Fr.get (fr : Fr) (t : Tmp) : Option AV := fr.tmps.get t

def Fr.eval (fr : Fr) : Operand → Option AV
  | .tmp t => fr.get t
  | .const v => ofValue v
  | .func f => some (.sc (.fn f []))
  | .global _ => none
def Fr.put (fr : Fr) (d : Option Tmp) (v : AV) : Fr :=
  match d with
  | some d => match Nat.ble (d + 1) fr.nt with
    | true => { fr with tmps := fr.tmps.set deep d v }
    | false => fr
  | none => fr

def evals (fr : Fr) : List Operand → Option (List AV)
  | [] => some []
  | x :: t => match fr.eval x, evals fr t with
    | some a, some l => some (a :: l)
    | _, _ => none

inductive Step where
  | val (v : AV)
  | call (f : FuncId) (args : List AV)
  | round (l : Nat) (args : List AV)

def repeatCells (z : List Sc) : Nat → List Sc
  | 0 => []
  | n + 1 => z ++ repeatCells z n

def fillAt (size : Nat) (cells : List Sc) (off : Nat) (v : A1) : Option (List Sc) :=
  let c := v.cells
  if c.length = size ∧ off + c.length ≤ cells.length then some (lsets cells off c) else none

def fillArr (size : Nat) (fr : Fr) : List Sc → List (Nat × Operand) → Option (List Sc)
  | cells, [] => some cells
  | cells, (i, x) :: t => match fr.eval x with
    | some (.one a) => match fillAt size cells (i * size) a with
      | some c => fillArr size fr c t
      | none => none
    | _ => none
def placesOf (P : Program) : List Field → Option (List (Nat × Nat))
  | [] => some []
  | f :: t => match sizeOf? P f.type, placesOf P t with
    | some n, some l => some ((f.offset, n) :: l)
    | _, _ => none
def fillStruct (pl : List (Nat × Nat)) (fr : Fr) : List Sc → List (Nat × Operand) → Option (List Sc)
  | cells, [] => some cells
  | cells, (i, x) :: t => match fr.eval x, lget pl i with
    | some (.one a), some (off, size) => match fillAt size cells off a with
      | some c => fillStruct pl fr c t
      | none => none
    | _, _ => none

/-- Equality of structs and arrays whose leaves are ints and bools, part by part. -/
def partOf (P : Program) (t : TypeId) (c : List Sc) (off : Nat) : Option A1 :=
  match isAgg? P t, sizeOf? P t with
  | some true, some n => match Nat.ble (off + n) c.length with
    | true => some (.agg (lslice c off n))
    | false => none
  | some false, _ => (lget c off).map .sc
  | _, _ => none
def equalFields (P : Program) (eq : TypeId → A1 → A1 → Option Bool) (xs ys : List Sc) : List Field → Option Bool
  | [] => some true
  | f :: t => match decide (f.name = "_"), partOf P f.type xs f.offset, partOf P f.type ys f.offset with
    | false, some x, some y => match eq f.type x y with
      | some true => equalFields P eq xs ys t
      | r => r
    | _, _, _ => none
def equalElems (P : Program) (eq : TypeId → A1 → A1 → Option Bool) (e n : Nat) (xs ys : List Sc) (i : Nat) : Nat → Option Bool
  | 0 => some true
  | k + 1 => match partOf P e xs (i * n), partOf P e ys (i * n) with
    | some x, some y => match eq e x y with
      | some true => equalElems P eq e n xs ys (i + 1) k
      | r => r
    | _, _ => none
def eqFI (x y : Int) : Bool :=
  Int.rec (fun a => Int.rec (fun b => Nat.beq a b) (fun _ => false) y) (fun a => Int.rec (fun _ => false) (fun b => Nat.beq a b) y) x
def bytesEq : List UInt8 → List UInt8 → Bool
  | [], [] => true
  | a :: x, b :: y => match Nat.beq a.toNat b.toNat with
    | true => bytesEq x y
    | false => false
  | _, _ => false
def eqStep (P : Program) (eq : TypeId → A1 → A1 → Option Bool) (t : TypeId) (x y : A1) : Option Bool :=
  match P.underlying t, x, y with
  | some (.int _), .sc (.int j a), .sc (.int k b) => if j = k then some (eqFI a b) else none
  | some .bool, .sc (.bool a), .sc (.bool b) => some (a == b)
  | some .string, .sc (.str a), .sc (.str b) => some (bytesEq a.data.toList b.data.toList)
  | some (.struct fs), .agg xs, .agg ys => match P.stoodInHeld t with
    | true => none
    | false => equalFields P eq xs ys fs.toList
  | some (.array len e), .agg xs, .agg ys => match sizeOf? P e with
    | some n => equalElems P eq e n xs ys 0 len
    | none => none
  | _, _, _ => none
def equalA (P : Program) (d : Nat) : TypeId → A1 → A1 → Option Bool :=
  Nat.rec (fun _ _ _ => none) (fun _ eq => eqStep P eq) d
def equalAgg (P : Program) (d : Nat) (t : TypeId) (a b : List Sc) : Option Bool :=
  match P.eqGuardType P.depth t with
  | false => equalA P d t (.agg a) (.agg b)
  | true => none

def wrapF (k : IntKind) (n : Int) : Int :=
  match k with
  | .i64 => Int.rec (fun a => Bool.rec (k.wrap n) (.ofNat a) (Nat.ble a 9223372036854775807)) (fun a => Bool.rec (k.wrap n) (.negSucc a) (Nat.ble a 9223372036854775807)) n
  | _ => k.wrap n
def ltF (x y : Int) : Bool :=
  Int.rec (fun a => Int.rec (fun b => Nat.ble (a + 1) b) (fun _ => false) y) (fun a => Int.rec (fun _ => true) (fun b => Nat.ble (b + 1) a) y) x
def eqF (x y : Int) : Bool := eqFI x y
def mkInt (k : IntKind) (n : Int) : Option Sc := forceInt (wrapF k n) fun n => some (.int k n)

def intBin (op : BinOp) (k : IntKind) (x y : Int) : Option Sc :=
  match op with
  | .add => mkInt k (x + y)
  | .sub => mkInt k (x - y)
  | .mul => mkInt k (x * y)
  | .quo => match eqF y 0 with | true => none | false => mkInt k (x.tdiv y)
  | .rem => match eqF y 0 with | true => none | false => forceInt (x.tmod y) fun n => some (.int k n)
  | .eql => some (.bool (eqF x y))
  | .neq => some (.bool (!(eqF x y)))
  | .lss => some (.bool (ltF x y))
  | .leq => some (.bool (!(ltF y x)))
  | .gtr => some (.bool (ltF y x))
  | .geq => some (.bool (!(ltF x y)))
  | .and => some (.int k (k.wrap ((BitVec.ofInt k.bits x) &&& (BitVec.ofInt k.bits y)).toNat))
  | .or => some (.int k (k.wrap ((BitVec.ofInt k.bits x) ||| (BitVec.ofInt k.bits y)).toNat))
  | .xor => some (.int k (k.wrap ((BitVec.ofInt k.bits x) ^^^ (BitVec.ofInt k.bits y)).toNat))
  | _ => none
def shiftBin (op : BinOp) (k : IntKind) (x y : Int) : Option Sc :=
  if y < 0 then none else
  match op with
  | .shl => some (.int k (k.wrap (x * 2 ^ (min y.toNat k.bits))))
  | .shr => some (.int k (x.fdiv (2 ^ (min y.toNat k.bits))))
  | _ => none
def isNilSlice : Sc → Option Bool
  | .nils => some true
  | .slc .. => some false
  | .slo .. => some false
  | _ => none

def isNilMap : Sc → Option Bool
  | .nilm => some true
  | .mp _ => some false
  | _ => none

def strBin (op : BinOp) (x y : ByteArray) : Option Sc :=
  match op with
  | .add => match Nat.ble (x.size + y.size) 1000000 with
    | true => some (.str (x ++ y))
    | false => none
  | .eql => some (.bool (bytesEq x.data.toList y.data.toList))
  | .neq => some (.bool (!(bytesEq x.data.toList y.data.toList)))
  | .lss => some (.bool (Op.bytesLess x.data.toList y.data.toList))
  | .leq => some (.bool (Op.bytesLess x.data.toList y.data.toList || bytesEq x.data.toList y.data.toList))
  | .gtr => some (.bool !(Op.bytesLess x.data.toList y.data.toList || bytesEq x.data.toList y.data.toList))
  | .geq => some (.bool (!(Op.bytesLess x.data.toList y.data.toList)))
  | _ => none
def binOp? (P : Program) (op : BinOp) (t : TypeId) (x y : AV) : Option AV :=
  match op, x, y with
  | .shl, .one (.sc (.int k a)), .one (.sc (.int _ b)) | .shr, .one (.sc (.int k a)), .one (.sc (.int _ b)) => (shiftBin op k a b).map .sc
  | _, .one (.sc (.int k a)), .one (.sc (.int k' b)) => if k = k' then (intBin op k a b).map .sc else none
  | _, .one (.sc (.str a)), .one (.sc (.str b)) => (strBin op a b).map .sc
  | .eql, .one (.sc (.bool a)), .one (.sc (.bool b)) => match P.underlying t with | some .bool => some (.sc (.bool (a == b))) | _ => none
  | .neq, .one (.sc (.bool a)), .one (.sc (.bool b)) => match P.underlying t with | some .bool => some (.sc (.bool (!(a == b)))) | _ => none
  | .eql, .one (.agg a), .one (.agg b) => (equalAgg P 20 t a b).map fun b => .sc (.bool b)
  | .neq, .one (.agg a), .one (.agg b) => (equalAgg P 20 t a b).map fun b => .sc (.bool !b)
  | .eql, .one (.sc a), .one (.sc .nils) => match P.underlying t with | some (.slice _) => (isNilSlice a).map fun b => .sc (.bool b) | _ => none
  | .neq, .one (.sc a), .one (.sc .nils) => match P.underlying t with | some (.slice _) => (isNilSlice a).map fun b => .sc (.bool !b) | _ => none
  | .eql, .one (.sc a), .one (.sc .nilm) => match P.underlying t with | some (.map ..) => (isNilMap a).map fun b => .sc (.bool b) | _ => none
  | .neq, .one (.sc a), .one (.sc .nilm) => match P.underlying t with | some (.map ..) => (isNilMap a).map fun b => .sc (.bool !b) | _ => none
  | _, _, _ => none
def unOp? (op : UnOp) (x : AV) : Option AV :=
  match op, x with
  | .neg, .one (.sc (.int k n)) => (mkInt k (0 - n)).map .sc
  | .not, .one (.sc (.bool b)) => some (.sc (.bool !b))
  | _, _ => none
def convert? (P : Program) (dst : TypeId) (x : AV) : Option AV :=
  match P.underlying dst, x with
  | some (.int k), .one (.sc (.int _ n)) => some (.sc (.int k (k.wrap n)))
  | _, _ => none

def bound? (v : Option AV) (dflt top : Nat) : Option Nat :=
  match v with
  | none => some dflt
  | some (.one (.sc (.int _ (.ofNat i)))) => match Nat.ble i top with
    | true => some i
    | false => none
  | _ => none
def cutAt (o l m size : Nat) : Nat := match Nat.beq m l with | true => o | false => o + l * size
def sliceOf (i o len cap size : Nat) (lo hi mx : Option AV) : Option AV :=
  match bound? mx cap cap with
  | none => none
  | some m => match bound? hi len m with
    | none => none
    | some h => match bound? lo 0 h with
      | none => none
      | some l => forceNat (cutAt o l m size) fun o => forceNat (h - l) fun n => forceNat (m - l) fun c => some (.sc (.slc i o n c))
/-- Where the capacity is not known: up to the length alone. -/
def sliceOpen (i o len size : Nat) (lo hi mx : Option AV) : Option AV :=
  match mx with
  | some _ => match bound? mx 0 len with
    | none => none
    | some m => match bound? hi 0 m, hi with
      | some h, some _ => match bound? lo 0 h with
        | none => none
        | some l => forceNat (cutAt o l m size) fun o => forceNat (h - l) fun n => forceNat (m - l) fun c => some (.sc (.slc i o n c))
      | _, _ => none
  | none => match bound? hi len len with
    | none => none
    | some h => match bound? lo 0 h with
      | none => none
      | some l => match Nat.beq l 0, Nat.ble (l + 1) len with
        | true, _ => some (.sc (.slo i o h size))
        | false, true => forceNat (o + l * size) fun o => forceNat (h - l) fun n => some (.sc (.slo i o n size))
        | _, _ => none
def slice? (P : Program) (t : TypeId) (x : AV) (lo hi mx : Option AV) : Option AV :=
  match P.underlying t, x with
  | some (.slice e), .one (.sc .nils) =>
    match bound? mx 0 0, bound? hi 0 0, bound? lo 0 0, sizeOf? P e with
    | some _, some _, some _, some _ => match mx, hi with
      | some _, none => none
      | _, _ => some (.sc .nils)
    | _, _, _, _ => none
  | some (.slice e), .one (.sc (.slc i o len cap)) =>
    match sizeOf? P e with
    | none => none
    | some size => match mx, hi with
      | some _, none => none
      | _, _ => sliceOf i o len cap size lo hi mx
  | some (.slice e), .one (.sc (.slo i o len size)) =>
    match sizeOf? P e with
    | none => none
    | some size' => match Nat.beq size' size with
      | true => sliceOpen i o len size lo hi mx
      | false => none
  | some .string, .one (.sc (.str z)) => match mx with
    | some _ => none
    | none => match bound? hi z.size z.size with
      | none => none
      | some h => match bound? lo 0 h with
        | none => none
        | some l => some (.sc (.str (z.extract l h)))
  | some (.array n e), .one (.sc (.ptr i o)) =>
    match sizeOf? P e with
    | none => none
    | some size => match mx, hi with
      | some _, none => none
      | _, _ => sliceOf i o n n size lo hi mx
  | _, _ => none

def evalOpt (fr : Fr) : Option Operand → Option (Option AV)
  | none => some none
  | some x => (fr.eval x).map some

def loadAt (P : Program) (s : St) (t : TypeId) (i o : Nat) : Option AV :=
  match hget s.h i with
  | some (.cells _ _ _ c) => match isAgg? P t with
    | some true => match sizeOf? P t with
      | some n => (c.range o n).map .agg
      | none => none
    | some false => (c.get o).map .sc
    | none => none
  | _ => none
def storeAt (P : Program) (s : St) (t : TypeId) (i o : Nat) (v : A1) : Option St :=
  match hget s.h i, sizeOf? P t with
  | some (.cells e x len c), some n => match Nat.beq v.cells.length n, Nat.ble (o + n) len with
    | true, true => some (s.put i (.cells e x len (c.sets o v.cells)))
    | _, _ => none
  | _, _ => none
/-- n cells of a row. -/
def rowRange (s : St) (i o n : Nat) : Option (List Sc) :=
  match hget s.h i with
  | some (.cells _ _ _ c) => c.range o n
  | _ => none
/-- Cells into a row. -/
def rowPut (s : St) (i o : Nat) (new : List Sc) : Option St :=
  match hget s.h i with
  | some (.cells e x len c) => match Nat.ble (o + new.length) len with
    | true => some (s.put i (.cells e x len (c.sets o new)))
    | false => none
  | _ => none

/-- The cells of the first n elements of a slice. -/
def firstOf (s : St) (size n : Nat) : Sc → Option (List Sc)
  | .nils => some []
  | .slc i o _ _ => rowRange s i o (n * size)
  | .slo i o _ _ => rowRange s i o (n * size)
  | _ => none
def lenOf? : Sc → Option Nat
  | .nils => some 0
  | .slc _ _ n _ => some n
  | .slo _ _ n _ => some n
  | _ => none

/-- Onto a row whose capacity is not known: the old row is given up. -/
def appendOpen (s : St) (e size i o xl yl : Nat) (new : List Sc) : Option (Sc × St) :=
  match hget s.h i with
  | some (.cells e' false len c) => match Nat.beq (xl * size) len && Nat.beq o 0, Nat.beq e' e with
    | true, true => forceNat (xl + yl) fun l => forceNat (len + new.length) fun len' => forceNat s.n fun n =>
      some (.slo n 0 l size, (s.put i .dead).new (.cells e false len' (c.sets len new)))
    | _, _ => none
  | _ => none
def appendGrow (s : St) (e size l : Nat) (cells : List Sc) : Option (Sc × St) :=
  forceNat s.n fun n => forceNat l fun l => some (.slo n 0 l size, s.row e false cells)
/-- The appended values' type is no number: there are no zeros to make. -/
def noZeros (P : Program) : List TypeId → Bool
  | [] => true
  | t :: _ => match P.underlying t with
    | some (.int _) => false
    | some _ => true
    | none => false
/-- Something is appended. -/
def appendSome (s : St) (e size xl yl : Nat) (new : List Sc) (x : Sc) : Option (Sc × St) :=
  match x with
  | .nils => appendGrow s e size yl new
  | .slc i o _ cap => match Nat.ble (xl + yl) cap with
    | true => (rowPut s i (o + xl * size) new).map fun s => (.slc i o (xl + yl) cap, s)
    | false => match firstOf s size xl x with
      | some old => appendGrow s e size (xl + yl) (old ++ new)
      | none => none
  | .slo i o _ z => match Nat.beq z size with
    | true => appendOpen s e size i o xl yl new
    | false => none
  | _ => none
def appendFits (P : Program) (e : TypeId) (info : TypeInfo) (need : Nat) : Bool :=
  Nat.ble (need * (info.bytes + 1)) 1000000 && Nat.ble 1 info.bytes && Nat.ble 1 info.size &&
  (match zeroCellsOf P e with
   | some z => Nat.beq z.length info.size
   | none => false)
def append? (P : Program) (s : St) (t : TypeId) (r : List TypeId) (x y : Sc) : Option (Sc × St) :=
  match P.underlying t, noZeros P r with
  | some (.slice e), true => match P.info? e, lenOf? x, lenOf? y with
    | some info, some xl, some yl => match firstOf s info.size yl y, Nat.beq yl 0, appendFits P e info (xl + yl) with
      | some _, true, true => some (x, s)
      | some new, false, true => appendSome s e info.size xl yl new x
      | _, _, _ => none
    | _, _, _ => none
  | _, _ => none

def most (up : Bool) : Int → List AV → Option Int
  | m, [] => some m
  | m, .one (.sc (.int _ y)) :: t => most up (match up with | true => if y > m then y else m | false => if y < m then y else m) t
  | _, _ => none

def entriesOf (s : St) : Sc → Option (List (Sc × A1))
  | .nilm => some []
  | .mp i => match hget s.h i with
    | some (.map es _) => some es
    | _ => none
  | _ => none

def builtin? (P : Program) (b : Builtin) (ts : List TypeId) (args : List AV) (s : St) : Option (AV × St) :=
  match b, ts, args with
  | .len, [t], [.one (.sc x)] => match P.underlying t with
    | some (.slice _) => (lenOf? x).map fun n => (.sc (.int .i64 n), s)
    | some .string => match x with | .str z => some (.sc (.int .i64 z.size), s) | _ => none
    | some (.array n _) => some (.sc (.int .i64 n), s)
    | some (.map ..) => (entriesOf s x).map fun es => (.sc (.int .i64 es.length), s)
    | _ => none
  | .len, [t], [.one (.agg _)] => match P.underlying t with
    | some (.array n _) => some (.sc (.int .i64 n), s)
    | _ => none
  | .cap, [t], [.one (.sc x)] => match P.underlying t, x with
    | some (.slice _), .nils => some (.sc (.int .i64 0), s)
    | some (.slice _), .slc _ _ _ c => some (.sc (.int .i64 c), s)
    | _, _ => none
  | .max, _, .one (.sc (.int k x)) :: rest => (most true x rest).map fun m => (.sc (.int k m), s)
  | .min, _, .one (.sc (.int k x)) :: rest => (most false x rest).map fun m => (.sc (.int k m), s)
  | .append, t :: r, [.one (.sc x), .one (.sc y)] => match append? P s t r x y with
    | some (r, s) => some (.sc r, s)
    | none => none
  | .copy, t :: _, [.one (.sc x), .one (.sc y)] => match P.underlying t, lenOf? x, lenOf? y with
    | some (.slice e), some xl, some yl => match sizeOf? P e with
      | some size => match firstOf s size (Nat.min yl xl) y, x with
        | some new, .slc i o _ _ => (rowPut s i o new).map fun s => (.sc (.int .i64 (Nat.min yl xl)), s)
        | some new, .slo i o _ _ => (rowPut s i o new).map fun s => (.sc (.int .i64 (Nat.min yl xl)), s)
        | some _, .nils => some (.sc (.int .i64 0), s)
        | _, _ => none
      | none => none
    | _, _, _ => none
  | .clear, [t], [.one (.sc x)] => match P.underlying t, x with
    | some (.slice _), .nils => some (.undef, s)
    | some (.slice e), .slc i o n _ => match Nat.beq n 0, zeroCellsOf P e with
      | true, _ => some (.undef, s)
      | false, some z => (rowPut s i o (repeatCells z n)).map fun s => (.undef, s)
      | _, _ => none
    | some (.slice e), .slo i o n _ => match Nat.beq n 0, zeroCellsOf P e with
      | true, _ => some (.undef, s)
      | false, some z => (rowPut s i o (repeatCells z n)).map fun s => (.undef, s)
      | _, _ => none
    | _, _ => none
  | _, _, _ => none

def ptrsOf : List AV → Option (List (Nat × Nat))
  | [] => some []
  | .one (.sc (.ptr i o)) :: t => (ptrsOf t).map ((i, o) :: ·)
  | _ => none

def ptrVals : List (Nat × Nat) → List AV
  | [] => []
  | (i, o) :: t => .sc (.ptr i o) :: ptrVals t

def oAlloc (P : Program) (s : St) (t : TypeId) : Option (Step × St) :=
  match zeroOf P t with
  | some z => some (.val (.sc (.ptr s.n 0)), s.row t true z.cells)
  | none => none
def oBox (s : St) (t : TypeId) (x : Option AV) : Option (Step × St) :=
  match x with
  | some (.one a) => some (.val (.sc (.ptr s.n 0)), s.row t true a.cells)
  | _ => none
def oBuild (P : Program) (fr : Fr) (s : St) (t : TypeId) (ps : List (Nat × Operand)) : Option (Step × St) :=
  match zeroOf P t, P.underlying t with
  | some z, some (.struct fs) => match placesOf P fs.toList with
    | some pl => (fillStruct pl fr z.cells ps).map fun c => (.val (.agg c), s)
    | none => none
  | some z, some (.array _ e) => match sizeOf? P e with
    | some size => (fillArr size fr z.cells ps).map fun c => (.val (.agg c), s)
    | none => none
  | _, _ => none
def oBuildSlice (P : Program) (fr : Fr) (s : St) (t : TypeId) (len : Nat) (ps : List (Nat × Operand)) : Option (Step × St) :=
  match P.underlying t with
  | some (.slice e) => match sizeOf? P e, zeroCellsOf P e with
    | some size, some z => match Nat.ble (len * size) 1000000 && Nat.beq z.length size with
      | true => (fillArr size fr (repeatCells z len) ps).map fun c => (.val (.sc (.slc s.n 0 len len)), s.row e true c)
      | false => none
    | _, _ => none
  | _ => none
def oLoad (P : Program) (s : St) (t : TypeId) (a : Option AV) : Option (Step × St) :=
  match a with
  | some (.one (.sc (.ptr i o))) => (loadAt P s t i o).map fun v => (.val v, s)
  | _ => none
def oStore (P : Program) (s : St) (t : TypeId) (a x : Option AV) : Option (Step × St) :=
  match a, x with
  | some (.one (.sc (.ptr i o))), some (.one v) => (storeAt P s t i o v).map fun s => (.val .undef, s)
  | _, _ => none
def oNilCheck (s : St) (x : Option AV) : Option (Step × St) :=
  match x with
  | some (.one (.sc (.ptr i o))) => some (.val (.sc (.ptr i o)), s)
  | some (.one (.sc (.fn f c))) => some (.val (.sc (.fn f c)), s)
  | some (.one (.sc (.yld l))) => some (.val (.sc (.yld l)), s)
  | _ => none
def oBin (P : Program) (s : St) (op : BinOp) (t : TypeId) (x y : Option AV) : Option (Step × St) :=
  match x, y with
  | some a, some b => (binOp? P op t a b).map fun v => (.val v, s)
  | _, _ => none
def oUn (s : St) (op : UnOp) (x : Option AV) : Option (Step × St) :=
  match x with
  | some a => (unOp? op a).map fun v => (.val v, s)
  | none => none
def oConv (P : Program) (s : St) (src dst : TypeId) (x : Option AV) : Option (Step × St) :=
  match x, P.underlying src with
  | some a, some _ => (convert? P dst a).map fun v => (.val v, s)
  | _, _ => none
def oFunc (fr : Fr) (s : St) (fn : Fn) (first cap : List Operand) : Option (Step × St) :=
  match fn, first with
  | .func f, [] => match evals fr cap with
    | some vs => (ptrsOf vs).map fun c => (.val (.sc (.fn f c)), s)
    | none => none
  | _, _ => none
def oMakeSlice (P : Program) (s : St) (t : TypeId) (l c : Option AV) : Option (Step × St) :=
  match P.underlying t, l, c with
  | some (.slice e), some (.one (.sc (.int _ (.ofNat ln)))), some (.one (.sc (.int _ (.ofNat cp)))) => match P.info? e, zeroCellsOf P e with
    | some info, some z => match Nat.ble ln cp, Nat.ble (cp * (info.bytes + 1)) 1000000 && Nat.beq z.length info.size with
      | true, true => forceNat ln fun ln => forceNat cp fun cp => some (.val (.sc (.slc s.n 0 ln cp)), s.row e true (repeatCells z cp))
      | _, _ => none
    | _, _ => none
  | _, _, _ => none
def oSlice (P : Program) (fr : Fr) (s : St) (t : TypeId) (x : Option AV) (lo hi mx : Option Operand) : Option (Step × St) :=
  match x, evalOpt fr lo, evalOpt fr hi, evalOpt fr mx with
  | some v, some lo, some hi, some mx => (slice? P t v lo hi mx).map fun v => (.val v, s)
  | _, _, _, _ => none
def oFieldAddr (P : Program) (s : St) (t : TypeId) (x : Option AV) (f : Nat) : Option (Step × St) :=
  match P.underlying t, x with
  | some (.struct fs), some (.one (.sc (.ptr i o))) => match lget fs.toList f with
    | some fd => match sizeOf? P fd.type with
      | some (_ + 1) => forceNat (o + fd.offset) fun o => some (.val (.sc (.ptr i o)), s)
      | _ => none
    | none => none
  | _, _ => none
def oField (P : Program) (s : St) (t : TypeId) (x : Option AV) (f : Nat) : Option (Step × St) :=
  match P.underlying t, x with
  | some (.struct fs), some (.one (.agg c)) => match lget fs.toList f with
    | some fd => match isAgg? P fd.type, sizeOf? P fd.type with
      | some true, some n => match Nat.ble (fd.offset + n) c.length with
        | true => some (.val (.agg (lslice c fd.offset n)), s)
        | false => none
      | some false, _ => (lget c fd.offset).map fun v => (.val (.sc v), s)
      | _, _ => none
    | none => none
  | _, _ => none
def oIndexAddr (P : Program) (s : St) (t : TypeId) (x ix : Option AV) : Option (Step × St) :=
  match P.underlying t, x, ix with
  | some (.array n e), some (.one (.sc (.ptr i o))), some (.one (.sc (.int _ (.ofNat k)))) => match sizeOf? P e, Nat.ble (k + 1) n with
    | some size, true => forceNat (o + k * size) fun o => some (.val (.sc (.ptr i o)), s)
    | _, _ => none
  | some (.slice e), some (.one (.sc (.slc i o n _))), some (.one (.sc (.int _ (.ofNat k)))) => match sizeOf? P e, Nat.ble (k + 1) n with
    | some size, true => forceNat (o + k * size) fun o => some (.val (.sc (.ptr i o)), s)
    | _, _ => none
  | some (.slice e), some (.one (.sc (.slo i o n _))), some (.one (.sc (.int _ (.ofNat k)))) => match sizeOf? P e, Nat.ble (k + 1) n with
    | some size, true => forceNat (o + k * size) fun o => some (.val (.sc (.ptr i o)), s)
    | _, _ => none
  | _, _, _ => none
def oIndex (P : Program) (s : St) (t : TypeId) (x ix : Option AV) : Option (Step × St) :=
  match P.underlying t, x, ix with
  | some .string, some (.one (.sc (.str z))), some (.one (.sc (.int _ (.ofNat k)))) =>
    (lget z.data.toList k).map fun b => (.val (.sc (.int .u8 b.toNat)), s)
  | some (.array n e), some (.one (.agg c)), some (.one (.sc (.int _ (.ofNat k)))) => match isAgg? P e, sizeOf? P e, Nat.ble (k + 1) n with
    | some true, some size, true => match Nat.ble (k * size + size) c.length with
      | true => some (.val (.agg (lslice c (k * size) size)), s)
      | false => none
    | some false, some size, true => (lget c (k * size)).map fun v => (.val (.sc v), s)
    | _, _, _ => none
  | _, _, _ => none
def oExtract (s : St) (t : Option AV) (ix : Nat) : Option (Step × St) :=
  match t with
  | some (.tup l) => (lget l ix).map fun v => (.val (.one v), s)
  | _ => none
def oCall (P : Program) (fr : Fr) (s : St) (c : Call) : Option (Step × St) :=
  match c.callee with
  | .builtin b => match evals fr c.args.toList with
    | some vs => (builtin? P b c.argTypes.toList vs s).map fun (v, s) => (.val v, s)
    | none => none
  | .value f => match fr.eval f, evals fr c.args.toList with
    | some (.one (.sc (.fn g cap))), some vs => some (.call g (vs ++ ptrVals cap), s)
    | some (.one (.sc (.yld l))), some vs => some (.round l vs, s)
    | _, _ => none
  | _ => none
def oPick (fr : Fr) (s : St) (c : Option AV) (a b : Operand) : Option (Step × St) :=
  match c with
  | some (.one (.sc (.bool true))) => (fr.eval a).map fun v => (.val v, s)
  | some (.one (.sc (.bool false))) => (fr.eval b).map fun v => (.val v, s)
  | _ => none
def oMove (s : St) (x : Option AV) : Option (Step × St) :=
  match x with
  | some v => some (.val v, s)
  | none => none

/-! ### Maps -/
def sameKey (d : TypeDesc) (x y : Sc) : Option Bool :=
  match d, x, y with
  | .int _, .int k a, .int k' b => if k = k' then some (eqFI a b) else none
  | .string, .str a, .str b => some (bytesEq a.data.toList b.data.toList)
  | .bool, .bool a, .bool b => some (a == b)
  | _, _, _ => none
def findKey? (d : TypeDesc) (k : Sc) : List (Sc × A1) → Nat → Option (Option (Nat × A1))
  | [], _ => some none
  | e :: t, i => match sameKey d k e.1 with
    | some true => some (some (i, e.2))
    | some false => findKey? d k t (i + 1)
    | none => none
def plainKey (d : TypeDesc) (k : Sc) : Bool :=
  match d, k with
  | .int a, .int b _ => decide (b = a)
  | .string, .str _ => true
  | .bool, .bool _ => true
  | _, _ => false
def lookVal (ok : Bool) (v : A1) (b : Bool) : AV :=
  match ok with
  | true => .tup [v, .sc (.bool b)]
  | false => .one v
def oMakeMap (s : St) (r : Option Operand) : Option (Step × St) :=
  match r with
  | none => forceNat s.n fun n => some (.val (.sc (.mp n)), s.new (.map [] 0))
  | some _ => none
def oLookup (P : Program) (s : St) (t : TypeId) (x ix : Option AV) (ok : Bool) : Option (Step × St) :=
  match P.underlying t, x, ix with
  | some (.map kt et), some (.one (.sc m)), some (.one (.sc k)) => match P.underlying kt, entriesOf s m with
    | some d, some es => match plainKey d k, findKey? d k es 0 with
      | true, some (some (_, v)) => some (.val (lookVal ok v true), s)
      | true, some none => match zeroOf P et with
        | some z => some (.val (lookVal ok z false), s)
        | none => none
      | _, _ => none
    | _, _ => none
  | _, _, _ => none
def oMapUpdate (P : Program) (s : St) (t : TypeId) (m k v : Option AV) : Option (Step × St) :=
  match P.underlying t, m, k, v with
  | some (.map kt _), some (.one (.sc (.mp i))), some (.one (.sc k)), some (.one v) => match P.underlying kt, hget s.h i with
    | some d, some (.map es clock) => match plainKey d k, findKey? d k es 0 with
      | true, some (some (j, _)) => some (.val .undef, s.put i (.map (lset es j (k, v)) clock))
      | true, some none => forceNat (clock + 1) fun clock => some (.val .undef, s.put i (.map (es ++ [(k, v)]) clock))
      | _, _ => none
    | _, _ => none
  | _, _, _, _ => none

def op? (P : Program) (fr : Fr) (o : Op) (s : St) : Option (Step × St) :=
  match o with
  | .move x => oMove s (fr.eval x)
  | .assign x => oMove s (fr.eval x)
  | .pick c a b => oPick fr s (fr.eval c) a b
  | .alloc t => oAlloc P s t
  | .box t x => oBox s t (fr.eval x)
  | .build t ps => oBuild P fr s t ps.toList
  | .buildSlice t len ps => oBuildSlice P fr s t len ps.toList
  | .load t a => oLoad P s t (fr.eval a)
  | .store t a x => oStore P s t (fr.eval a) (fr.eval x)
  | .nilCheck x => oNilCheck s (fr.eval x)
  | .binOp op t x y _ => oBin P s op t (fr.eval x) (fr.eval y)
  | .unOp op _ x => oUn s op (fr.eval x)
  | .convert src dst x => oConv P s src dst (fr.eval x)
  | .makeFunc fn first cap => oFunc fr s fn first.toList cap.toList
  | .makeSlice t l c => oMakeSlice P s t (fr.eval l) (fr.eval c)
  | .slice t x lo hi mx => oSlice P fr s t (fr.eval x) lo hi mx
  | .fieldAddr t x f => oFieldAddr P s t (fr.eval x) f
  | .field t x f => oField P s t (fr.eval x) f
  | .indexAddr t x ix => oIndexAddr P s t (fr.eval x) (fr.eval ix)
  | .index t x ix => oIndex P s t (fr.eval x) (fr.eval ix)
  | .extract t ix => oExtract s (fr.eval t) ix
  | .makeMap _ r => oMakeMap s r
  | .lookup t x ix ok => oLookup P s t (fr.eval x) (fr.eval ix) ok
  | .mapUpdate t m k v => oMapUpdate P s t (fr.eval m) (fr.eval k) (fr.eval v)
  | .insert t m k v => oMapUpdate P s t (fr.eval m) (fr.eval k) (fr.eval v)
  | _ => none
def callOf (o : Op) : Option Call :=
  match o with
  | .call c => some c
  | _ => none

inductive Ex where
  | normal
  | exit (id : Nat)
  | goto (l : Nat)
  | ret

def guardOk (ops : List Oper) (fr : Fr) (o : Oper) : Option Bool :=
  match o.guard with
  | none => some true
  | some (j, want) => match lget ops j with
    | some g => match g.dst with
      | some d => match fr.get d with
        | some (.one (.sc (.bool b))) => some (b == want)
        | _ => none
      | none => none
    | none => none

def resultsOf (P : Program) (s : St) (fr : Fr) : List ResultVar → Option (List A1)
  | [] => some []
  | .tmp t :: r => match fr.get t, resultsOf P s fr r with
    | some (.one a), some l => some (a :: l)
    | _, _ => none
  | .cell a t :: r => match fr.get a, resultsOf P s fr r with
    | some (.one (.sc (.ptr i o))), some l => match loadAt P s t i o with
      | some (.one a) => some (a :: l)
      | _ => none
    | _, _ => none

def Sc.plain : Sc → Bool
  | .ptr .. | .slc .. | .slo .. | .fn .. | .yld _ | .mp _ => false
  | _ => true
def A1.plain : A1 → Bool
  | .sc s => s.plain
  | .agg l => l.all Sc.plain

def setParams (nt : Nat) : List Tmp → List AV → T AV → T AV
  | t :: ts, v :: vs, tmps => setParams nt ts vs (match Nat.ble (t + 1) nt with | true => tmps.set deep t v | false => tmps)
  | _, _, tmps => tmps

inductive Task where
  | code (rd : Option Nat) (c : Code) (fr : Fr)
  | ops (rd : Option Nat) (all rest : List Oper) (fr : Fr)
  | call (f : FuncId) (args : List AV)
  | round (l : Nat) (args : List AV)
inductive Out where
  | left (e : Ex) (fr : Fr)
  | val (v : AV)

abbrev Run := Task → St → Option (Out × St)

def xSeq (r : Run) (rd : Option Nat) (b : Code) (x : Option (Out × St)) : Option (Out × St) :=
  match x with
  | some (.left .normal fr, s) => r (.code rd b fr) s
  | x => x
def xCond (r : Run) (rd : Option Nat) (a b : Code) (fr : Fr) (s : St) (c : Option AV) : Option (Out × St) :=
  match c with
  | some (.one (.sc (.bool true))) => r (.code rd a fr) s
  | some (.one (.sc (.bool false))) => r (.code rd b fr) s
  | _ => none
def xBlock (id : Nat) (x : Option (Out × St)) : Option (Out × St) :=
  match x with
  | some (.left (.exit j) fr, s) => match Nat.beq j id with
    | true => some (.left .normal fr, s)
    | false => some (.left (.exit j) fr, s)
  | x => x
/-- Behind the iterator's call. -/
def xRangeEnd (r : Run) (rd : Option Nat) (l : Nat) (fr : Fr) (x : Option (Out × St)) : Option (Out × St) :=
  match x with
  | some (.val _, s) => match hget s.h l with
    | some (.loop q) => match q.state with
      | .busy => none
      | _ => match q.pending with
        | none => some (.left .normal fr, s.put l .dead)
        | some c => r (.code rd c fr) (s.put l .dead)
    | _ => none
  | _ => none
def xRangeIn (r : Run) (rd : Option Nat) (f : FuncId) (cap : List (Nat × Nat)) (ps : List Tmp) (assign body : Code) (fr : Fr) (dfr : Nat) (s : St) : Option (Out × St) :=
  xRangeEnd r rd s.n fr (r (.call f (.sc (.yld s.n) :: ptrVals cap))
    (s.new (.loop { fn := fr.fn, state := .ready, pending := none, nt := fr.nt, tmps := fr.tmps, params := ps, assign, body, dfr })))
def xRange (r : Run) (rd : Option Nat) (ps : List Tmp) (assign body : Code) (fr : Fr) (s : St) (g : Option AV) : Option (Out × St) :=
  match g with
  | some (.one (.sc (.fn f cap))) =>
    match rd with
    | none => forceNat s.n fun n => xRangeIn r rd f cap ps assign body { fr with dfs := n :: fr.dfs } n (s.new .dfr)
    | some l => match hget s.h l with
      | some (.loop q) => xRangeIn r rd f cap ps assign body fr q.dfr s
      | _ => none
  | _ => none
def asVal (x : Option (Out × St)) : Option (AV × St) :=
  match x with
  | some (.val v, s) => some (v, s)
  | _ => none
def xOneC (r : Run) (x : Option (Step × St)) : Option (AV × St) :=
  match x with
  | some (.val v, s) => some (v, s)
  | some (.call f args, s) => asVal (r (.call f args) s)
  | some (.round l args, s) => asVal (r (.round l args) s)
  | none => none
def xOneV (x : Option (Step × St)) : Option (AV × St) :=
  match x with
  | some (.val v, s) => some (v, s)
  | _ => none
/-- What an operation does, found once for all its runs. -/
inductive Box where
  | v (f : Fr → St → Option (Step × St))
  | c (c : Call)
def boxOf (P : Program) (o : Op) : Box :=
  match o with
  | .move x => .v fun fr s => oMove s (fr.eval x)
  | .assign x => .v fun fr s => oMove s (fr.eval x)
  | .pick c a b => .v fun fr s => oPick fr s (fr.eval c) a b
  | .alloc t => .v fun _ s => oAlloc P s t
  | .box t x => .v fun fr s => oBox s t (fr.eval x)
  | .build t ps => .v fun fr s => oBuild P fr s t ps.toList
  | .buildSlice t len ps => .v fun fr s => oBuildSlice P fr s t len ps.toList
  | .load t a => .v fun fr s => oLoad P s t (fr.eval a)
  | .store t a x => .v fun fr s => oStore P s t (fr.eval a) (fr.eval x)
  | .nilCheck x => .v fun fr s => oNilCheck s (fr.eval x)
  | .binOp op t x y _ => .v fun fr s => oBin P s op t (fr.eval x) (fr.eval y)
  | .unOp op _ x => .v fun fr s => oUn s op (fr.eval x)
  | .convert src dst x => .v fun fr s => oConv P s src dst (fr.eval x)
  | .makeFunc fn first cap => .v fun fr s => oFunc fr s fn first.toList cap.toList
  | .makeSlice t l c => .v fun fr s => oMakeSlice P s t (fr.eval l) (fr.eval c)
  | .slice t x lo hi mx => .v fun fr s => oSlice P fr s t (fr.eval x) lo hi mx
  | .fieldAddr t x f => .v fun fr s => oFieldAddr P s t (fr.eval x) f
  | .field t x f => .v fun fr s => oField P s t (fr.eval x) f
  | .indexAddr t x ix => .v fun fr s => oIndexAddr P s t (fr.eval x) (fr.eval ix)
  | .index t x ix => .v fun fr s => oIndex P s t (fr.eval x) (fr.eval ix)
  | .extract t ix => .v fun fr s => oExtract s (fr.eval t) ix
  | .makeMap _ r => .v fun _ s => oMakeMap s r
  | .lookup t x ix ok => .v fun fr s => oLookup P s t (fr.eval x) (fr.eval ix) ok
  | .mapUpdate t m k v => .v fun fr s => oMapUpdate P s t (fr.eval m) (fr.eval k) (fr.eval v)
  | .insert t m k v => .v fun fr s => oMapUpdate P s t (fr.eval m) (fr.eval k) (fr.eval v)
  | .call c => .c c
  | _ => .v fun _ _ => none
def xBox (P : Program) (r : Run) (fr : Fr) (s : St) (b : Box) : Option (AV × St) :=
  Box.rec (fun f => xOneV (f fr s)) (fun c => xOneC r (oCall P fr s c)) b
/-- One operation: its value, and the state behind it. -/
def xOne (P : Program) (r : Run) (all : List Oper) (fr : Fr) (o : Oper) (s : St) : Option (AV × St) :=
  match guardOk all fr o with
  | none => none
  | some false => some (.undef, s)
  | some true => xBox P r fr s (boxOf P o.op)
/-! ### Regions that draw their order -/
def edgesOf (md : Region.Mode) (o : Oper) : List Nat := (o.after.toList.filter fun e => Region.binds md e).map (·.on)
def maskOf (ms : List Nat) : List Nat → Nat
  | [] => 0
  | e :: t => (2 ^ e ||| (match lget ms e with | some m => m | none => 0)) ||| maskOf ms t
/-- What comes ahead of each operation. -/
def masksOf : List Oper → List Nat → List Nat
  | [], acc => acc
  | o :: t, acc => masksOf t (acc ++ [maskOf acc (edgesOf .any o)])
/-- 0: touches no memory; 1: reads, makes memory, calls; 2: writes. -/
def kindOf (o : Op) : Nat :=
  match o with
  | .move _ | .assign _ | .pick .. | .build .. | .nilCheck _ | .binOp .. | .unOp .. | .convert .. | .makeFunc .. | .slice .. | .fieldAddr .. | .field .. | .indexAddr .. | .index .. | .extract .. => 0
  | .call { callee := .builtin b, .. } => match b with
    | .len | .cap | .max | .min => 0
    | _ => 2
  | .alloc _ | .box .. | .buildSlice .. | .load .. | .makeSlice .. | .makeMap .. | .lookup .. | .call _ => 1
  | _ => 2
def readsOf (all : List Oper) (o : Oper) : List Tmp :=
  (o.op.operands.toList.filterMap fun | .tmp t => some t | _ => none) ++
  (match o.guard with
   | some (g, _) => match lget all g with
     | some q => q.dst.toList
     | none => []
   | none => [])
/-- The one lies ahead of the other. -/
def compar (ms : List Nat) (i j : Nat) : Bool :=
  (match lget ms i with | some m => m.testBit j | none => false) || (match lget ms j with | some m => m.testBit i | none => false)
/-- A call that every operation that touches memory lies ahead of or behind may write what they see. -/
def loud (all : List Oper) (i : Nat) (o : Oper) : Bool :=
  match o.op with
  | .call { callee := .value _, .. } => (List.range all.length).all fun j => Nat.beq i j || compar (masksOf all []) i j || (match lget all j with
    | some q => Nat.beq (kindOf q.op) 0
    | none => true)
  | _ => false
def kindAt (all : List Oper) (i : Nat) (o : Oper) : Nat :=
  match loud all i o with
  | true => 2
  | false => kindOf o.op
def pairOk (all : List Oper) (ms : List Nat) (i j : Nat) (o q : Oper) : Bool :=
  Nat.beq i j || compar ms i j ||
  (((match q.dst with | some d => !(readsOf all o).contains d && o.dst != some d | none => true)) &&
   (Nat.beq (kindAt all i o) 0 || Nat.beq (kindAt all j q) 0 || (!(Nat.beq (kindAt all i o) 2) && !(Nat.beq (kindAt all j q) 2))))
def pairsOk (all : List Oper) (ms : List Nat) : Bool :=
  (List.range all.length).all fun i => (List.range all.length).all fun j => match lget all i, lget all j with
    | some o, some q => pairOk all ms i j o q
    | _, _ => false
/-- Everything ahead of an operation stands before it in the text. -/
def backOk (all : List Oper) : Bool :=
  (List.range all.length).all fun i => match lget all i with
    | some o => (edgesOf .any o).all fun e => Nat.ble (e + 1) i
    | none => false
/-- An order in which the mode's edges let all operations through. -/
def orderOk (md : Region.Mode) (all : List Oper) : List Nat → List Nat → Bool
  | [], seen => (List.range all.length).all fun i => seen.contains i
  | i :: t, seen => (match lget all i with
    | some o => (edgesOf md o).all fun e => seen.contains e
    | none => false) && orderOk md all t (i :: seen)
def drawOk (ops : Array Oper) : Bool :=
  pairsOk ops.toList (masksOf ops.toList []) && backOk ops.toList &&
  orderOk .any ops.toList (List.range ops.size) [] && orderOk .text ops.toList (List.range ops.size) [] && orderOk .gc ops.toList (Region.linearise .gc ops 0) []

abbrev Rows' := List (Nat × Row)
def withRows (h : T Row) : Rows' → T Row
  | [] => h
  | (i, r) :: t => withRows (h.set deep i r) t
def withItems (h : T Row) (keep : Nat → Bool) : List (Nat × Rows') → T Row
  | [] => h
  | (i, rows) :: t => match keep i with
    | true => withItems (withRows h rows) keep t
    | false => withItems h keep t
/-- The rows from number n on. -/
def newRows (h : T Row) (n : Nat) : Nat → Rows'
  | 0 => []
  | k + 1 => match h.get n with
    | some r => (n, r) :: newRows h (n + 1) k
    | none => newRows h (n + 1) k
def onlySlots (fr : Fr) : List Tmp → T AV
  | [] => .leaf
  | t :: r => match fr.tmps.get t with
    | some v => (onlySlots fr r).set deep t v
    | none => onlySlots fr r
structure Draw where
  b : T Row
  items : List (Nat × Rows')
  n : Nat
  lo : Nat
  fr : Fr
def drawOne (P : Program) (r : Run) (all : List Oper) (i : Nat) (m : Nat) (o : Oper) (d : Draw) : Option Draw :=
  match kindAt all i o with
  | 0 => match xOne P r all { d.fr with tmps := onlySlots d.fr (readsOf all o) } o { h := .leaf, n := d.n, lo := big } with
    | some (v, s) => match Nat.beq s.n d.n with
      | true => some { d with fr := d.fr.put o.dst v }
      | false => none
    | none => none
  | 1 => match xOne P r all { d.fr with tmps := onlySlots d.fr (readsOf all o) } o { h := withItems d.b (fun j => m.testBit j) d.items, n := d.n, lo := big } with
    | some (v, s) => match Nat.ble d.n s.lo && Nat.ble d.n s.n with
      | true => some { d with items := d.items ++ [(i, newRows s.h d.n (s.n - d.n))], n := s.n, fr := d.fr.put o.dst v }
      | false => none
    | none => none
  | _ => match xOne P r all { d.fr with tmps := onlySlots d.fr (readsOf all o) } o { h := withItems d.b (fun _ => true) d.items, n := d.n, lo := big } with
    | some (v, s) => match Nat.ble d.n s.n with
      | true => some { b := s.h, items := [], n := s.n, lo := Nat.min d.lo s.lo, fr := d.fr.put o.dst v }
      | false => none
    | none => none
def drawRun (P : Program) (r : Run) (all : List Oper) (ms : List Nat) : Nat → List Oper → Draw → Option Draw
  | _, [], d => some d
  | i, o :: t, d => match lget ms i with
    | some m => match drawOne P r all i m o d with
      | some d => drawRun P r all ms (i + 1) t d
      | none => none
    | none => none
def xDraw (P : Program) (r : Run) (ops : Array Oper) (fr : Fr) (s : St) : Option (Out × St) :=
  match drawOk ops with
  | true => match drawRun P r ops.toList (masksOf ops.toList []) 0 ops.toList { b := s.h, items := [], n := s.n, lo := s.lo, fr } with
    | some d => forceNat d.n fun n => forceNat d.lo fun lo => some (.left .normal d.fr, { h := withItems d.b (fun _ => true) d.items, n, lo })
    | none => none
  | false => none
def xCode (P : Program) (r : Run) (rd : Option Nat) (c : Code) (fr : Fr) (s : St) : Option (Out × St) :=
  match c with
  | .skip => some (.left .normal fr, s)
  | .label _ => some (.left .normal fr, s)
  | .region _ ops true => xDraw P r ops fr s
  | .region _ ops false => r (.ops rd ops.toList ops.toList fr) s
  | .seq a b => xSeq r rd b (r (.code rd a fr) s)
  | .cond c a b => xCond r rd a b fr s (fr.eval c)
  | .block id b => xBlock id (r (.code rd b fr) s)
  | .loop b => xSeq r rd (.loop b) (r (.code rd b fr) s)
  | .exit id => some (.left (.exit id) fr, s)
  | .ret => some (.left .ret fr, s)
  | .rangeFunc g ps assign body => xRange r rd ps.toList assign body fr s (fr.eval g)
  | _ => none
def xOps (P : Program) (r : Run) (rd : Option Nat) (all ops : List Oper) (fr : Fr) (s : St) : Option (Out × St) :=
  match ops with
  | [] => some (.left .normal fr, s)
  | o :: rest => match xOne P r all fr o s with
    | none => none
    | some (v, s) => r (.ops rd all rest (fr.put o.dst v)) s
/-- The blocks of the marks are there, and are given up. -/
def dropMarks (s : St) : List Nat → Option St
  | [] => some s
  | d :: t => match hget s.h d with
    | some .dfr => dropMarks (s.put d .dead) t
    | _ => none
/-- The value of a list of results. -/
def outOf : List A1 → AV
  | [v] => .one v
  | vs => .tup vs
/-- Where nothing old was written and no address is handed back the call's own rows are forgotten. -/
def keepH (s0 s : St) (vs : List A1) : T Row :=
  match Nat.ble s0.n s.lo && vs.all A1.plain with
  | true => s0.h
  | false => s.h
def xResults (s0 s : St) (vs : Option (List A1)) : Option (Out × St) :=
  match vs with
  | none => none
  | some vs => forceNat (match Nat.ble s0.lo s.lo with | true => s0.lo | false => s.lo) fun lo => some (.val (outOf vs), { h := keepH s0 s vs, n := s.n, lo })
def xLeave (P : Program) (fn : Func) (s0 : St) (x : Option (Out × St)) : Option (Out × St) :=
  match x with
  | some (.left .normal fr, s) => match dropMarks s fr.dfs with
    | some s => xResults s0 s (resultsOf P s fr fn.results.toList)
    | none => none
  | some (.left .ret fr, s) => match dropMarks s fr.dfs with
    | some s => xResults s0 s (resultsOf P s fr fn.results.toList)
    | none => none
  | _ => none
def xCall (P : Program) (r : Run) (f : FuncId) (args : List AV) (s : St) : Option (Out × St) :=
  match P.funcs[f]? with
  | none => none
  | some fn => match fn.body with
    | none => none
    | some c => match decide (fn.name = "runtime.NumGoroutine") with
      | true => none
      | false => xLeave P fn s (r (.code none c { fn := f, nt := Nat.max fn.ntmps args.length, tmps := T.ofList args, dfs := [] }) { h := s.h, n := s.n, lo := big })
def xRoundEnd (l : Nat) (x : Option (Out × St)) : Option (Out × St) :=
  match x with
  | some (.left e _, s) => match hget s.h l with
    | some (.loop q) => match e with
      | .normal => some (.val (.sc (.bool true)), s.put l (.loop { q with state := .ready, pending := none }))
      | .ret => some (.val (.sc (.bool false)), s.put l (.loop { q with state := .done, pending := some .ret }))
      | .exit id => some (.val (.sc (.bool false)), s.put l (.loop { q with state := .done, pending := some (.exit id) }))
      | .goto t => some (.val (.sc (.bool false)), s.put l (.loop { q with state := .done, pending := some (.goto t) }))
    | _ => none
  | _ => none
def xRoundBody (r : Run) (l : Nat) (body : Code) (x : Option (Out × St)) : Option (Out × St) :=
  match x with
  | some (.left .normal fr, s) => match hget s.h l with
    | some (.loop q) => match q.state with
      | .ready => xRoundEnd l (r (.code (some l) body fr) (s.put l (.loop { q with state := .busy })))
      | _ => none
    | _ => none
  | _ => none
def xRound (r : Run) (l : Nat) (args : List AV) (s : St) : Option (Out × St) :=
  match hget s.h l with
  | some (.loop q) => match q.state, Nat.beq q.params.length args.length with
    | .ready, true => xRoundBody r l q.body (r (.code (some l) q.assign { fn := q.fn, nt := q.nt, tmps := setParams q.nt q.params args q.tmps, dfs := [] }) s)
    | _, _ => none
  | _ => none
def xTask (P : Program) (r : Run) (t : Task) (s : St) : Option (Out × St) :=
  match t with
  | .code rd c fr => xCode P r rd c fr s
  | .ops rd all ops fr => xOps P r rd all ops fr s
  | .call f args => xCall P r f args s
  | .round l args => xRound r l args s
def exec (P : Program) (k : Nat) : Run := Nat.rec (fun _ _ => none) (fun _ r => xTask P r) k

end
end Go.Ax
