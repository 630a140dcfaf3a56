/- A symbolic run of closed calls, and that its operations are the model's: many texts in one. -/
import GoSem.Machine.Return
import Derived.CallsIn
import Derived.RangeFuncIn
import Derived.RangeFuncLeaves
import Derived.Laws.Cells
import Derived.Laws.CopyRow
import Derived.IntWalk
import Derived.Laws.StructEq
import Derived.MapKept
import GoSem.Instr.MapUpdate
import GoSem.Instr.Lookup
import Derived.Laws.IdiomStrings
import Derived.Lib.ConvBytes

/- A symbolic run of the model over calls whose inputs are closed: definitions. -/
namespace Go.Ax
open Go
noncomputable section

/-- Reckon a number before it goes on. -/
def forceNat {α : Type} (n : Nat) (k : Nat → α) : α := Nat.rec (k 0) (fun m _ => k (m + 1)) n
def forceInt {α : Type} (n : Int) (k : Int → α) : α := Int.rec (fun a => forceNat a fun a => k (.ofNat a)) (fun a => forceNat a fun a => k (.negSucc a)) n

/-- A map from numbers, for quick reckoning: a tree of eights, as deep as its numbers want. -/
structure N (β : Type) where
  (a b c d e f g h : β)
def D (α : Type) (k : Nat) : Type := Nat.rec (Option α) (fun _ b => N b) k
inductive T (α : Type) where
  | leaf
  | tree (k : Nat) (x : D α k)
/-- Functions that the kernel finds once for each number. -/
inductive P1 (β : Type) where
  | mk (g : N β → β)
inductive U1 (β α : Type) where
  | mk (g : N β → (β → (β → T α) → T α) → (N β → T α) → T α)
inductive GD (β α : Type) where
  | mk (g : β → Option α)
inductive SD (β α : Type) where
  | mk (g : β → α → (β → T α) → T α)
inductive ST (β α : Type) where
  | mk (g : β → α → T α)
def dig {β : Type} (a b c d e f g h : β) (n : Nat) : β :=
  Nat.rec a (fun n _ => Nat.rec b (fun n _ => Nat.rec c (fun n _ => Nat.rec d (fun n _ => Nat.rec e (fun n _ => Nat.rec f (fun n _ => Nat.rec g (fun _ _ => h) n) n) n) n) n) n) n
def p1 {β : Type} (n : Nat) : P1 β := dig (.mk fun t => N.rec (fun a _ _ _ _ _ _ _ => a) t) (.mk fun t => N.rec (fun _ b _ _ _ _ _ _ => b) t) (.mk fun t => N.rec (fun _ _ c _ _ _ _ _ => c) t) (.mk fun t => N.rec (fun _ _ _ d _ _ _ _ => d) t) (.mk fun t => N.rec (fun _ _ _ _ e _ _ _ => e) t) (.mk fun t => N.rec (fun _ _ _ _ _ f _ _ => f) t) (.mk fun t => N.rec (fun _ _ _ _ _ _ g _ => g) t) (.mk fun t => N.rec (fun _ _ _ _ _ _ _ h => h) t) n
def u1 {β α : Type} (n : Nat) : U1 β α := dig (.mk fun t k q => N.rec (fun a b c d e f g h => k a fun a' => q ⟨a', b, c, d, e, f, g, h⟩) t) (.mk fun t k q => N.rec (fun a b c d e f g h => k b fun b' => q ⟨a, b', c, d, e, f, g, h⟩) t) (.mk fun t k q => N.rec (fun a b c d e f g h => k c fun c' => q ⟨a, b, c', d, e, f, g, h⟩) t) (.mk fun t k q => N.rec (fun a b c d e f g h => k d fun d' => q ⟨a, b, c, d', e, f, g, h⟩) t) (.mk fun t k q => N.rec (fun a b c d e f g h => k e fun e' => q ⟨a, b, c, d, e', f, g, h⟩) t) (.mk fun t k q => N.rec (fun a b c d e f g h => k f fun f' => q ⟨a, b, c, d, e, f', g, h⟩) t) (.mk fun t k q => N.rec (fun a b c d e f g h => k g fun g' => q ⟨a, b, c, d, e, f, g', h⟩) t) (.mk fun t k q => N.rec (fun a b c d e f g h => k h fun h' => q ⟨a, b, c, d, e, f, g, h'⟩) t) n
def getD {α : Type} (k : Nat) : Nat → GD (D α k) α :=
  Nat.rec (motive := fun k => Nat → GD (D α k) α) (fun _ => .mk fun x => x)
    (fun k ih n => P1.rec (fun p => GD.rec (fun g => .mk fun t => g (p t)) (ih (Nat.mod n (Nat.pow 8 k)))) (p1 (Nat.div n (Nat.pow 8 k)))) k
def setD {α : Type} (k : Nat) : Nat → SD (D α k) α :=
  Nat.rec (motive := fun k => Nat → SD (D α k) α) (fun _ => .mk fun _ v c => c (some v))
    (fun k ih n => U1.rec (fun u => SD.rec (fun s => .mk fun t v c => u t (fun b q => s b v q) c) (ih (Nat.mod n (Nat.pow 8 k)))) (u1 (Nat.div n (Nat.pow 8 k)))) k
def emptyD {α : Type} (k : Nat) : D α k := Nat.rec (motive := fun k => D α k) none (fun _ x => ⟨x, x, x, x, x, x, x, x⟩) k
def getT {α : Type} (k n : Nat) : GD (D α k) α := Bool.rec (.mk fun _ => none) (getD k n) (Nat.ble (Nat.succ n) (Nat.pow 8 k))
/-- f: how often the tree may grow. -/
def setT {α : Type} (f : Nat) : (k : Nat) → Nat → ST (D α k) α :=
  Nat.rec (motive := fun _ => (k : Nat) → Nat → ST (D α k) α) (fun _ _ => .mk fun _ _ => .leaf)
    (fun _ ih k n => Bool.rec (ST.rec (fun s => .mk fun x v => s (N.mk x (emptyD k) (emptyD k) (emptyD k) (emptyD k) (emptyD k) (emptyD k) (emptyD k)) v) (ih (Nat.succ k) n))
      (SD.rec (fun s => .mk fun x v => s x v fun y => .tree k y) (setD k n)) (Nat.ble (Nat.succ n) (Nat.pow 8 k))) f
def T.get {α : Type} (t : T α) (n : Nat) : Option α := T.rec none (fun k x => GD.rec (fun g => g x) (getT k n)) t
def T.set {α : Type} (d : Nat) (t : T α) (n : Nat) (x : α) : T α :=
  T.rec (ST.rec (fun s => s none x) (setT d 0 n)) (fun k y => ST.rec (fun s => s y x) (setT d k n)) t
def deep : Nat := 20
/-- Reckon a map before it goes on. -/
def T.force {α β : Type} (t : T α) (k : T α → β) : β := T.rec (k .leaf) (fun d x => k (.tree d x)) t
def T.sets {α : Type} (t : T α) (n : Nat) (l : List α) : T α :=
  List.rec (motive := fun _ => T α → Nat → T α) (fun t _ => t) (fun x _ ih t n => (t.set deep n x).force fun t => forceNat (Nat.succ n) fun n => ih t n) l t n
def T.ofList {α : Type} (l : List α) : T α := T.leaf.sets 0 l
/-- n values from place o on. -/
def T.range {α : Type} (t : T α) (o n : Nat) : Option (List α) :=
  Nat.rec (motive := fun _ => Nat → Option (List α)) (fun _ => some [])
    (fun _ ih o => Option.rec none (fun x => Option.rec none (fun l => some (x :: l)) (ih (Nat.succ o))) (t.get o)) n o
def lset {α : Type} (l : List α) (n : Nat) (v : α) : List α :=
  List.rec (motive := fun _ => Nat → List α) (fun _ => []) (fun x t ih n => Nat.rec (v :: t) (fun m _ => x :: ih m) n) l n
def lget {α : Type} (l : List α) (n : Nat) : Option α :=
  List.rec (motive := fun _ => Nat → Option α) (fun _ => none) (fun x _ ih n => Nat.rec (some x) (fun m _ => ih m) n) l n
def lsets {α : Type} : List α → Nat → List α → List α
  | l, _, [] => l
  | l, n, v :: vs => lsets (lset l n v) (n + 1) vs

/-- One cell, with blocks by their own numbers. -/
inductive Sc where
  | bool (b : Bool)
  | int (k : IntKind) (n : Int)
  | str (s : ByteArray)
  | ptr (i o : Nat)
  | nilp
  | slc (i o len cap : Nat)
  | slo (i o len size : Nat)
  | nils
  | fn (f : FuncId) (c : List (Nat × Nat))
  | yld (l : Nat)
  | nilf
  | mp (i : Nat)
  | nilm
  deriving DecidableEq

inductive A1 where
  | sc (s : Sc)
  | agg (l : List Sc)
  deriving DecidableEq

inductive AV where
  | one (a : A1)
  | tup (l : List A1)
  deriving DecidableEq

abbrev AV.sc (s : Sc) : AV := .one (.sc s)
abbrev AV.agg (l : List Sc) : AV := .one (.agg l)
def AV.undef : AV := .tup []

def A1.cells : A1 → List Sc
  | .sc s => [s]
  | .agg l => l

structure LoopRow where
  fn : FuncId
  state : LoopState
  pending : Option Code
  nt : Nat
  tmps : T AV
  params : List Tmp
  assign : Code
  body : Code
  dfr : Nat

inductive Row where
  | cells (elem : TypeId) (exact : Bool) (len : Nat) (c : T Sc)
  | loop (r : LoopRow)
  | dfr
  | dead
  | map (es : List (Sc × A1)) (clock : Nat)

/-- The state: the rows, the next number, the least number that was written. -/
structure St where
  h : T Row
  n : Nat
  lo : Nat

def hget (h : T Row) (i : Nat) : Option Row := h.get i
def big : Nat := 1000000000

def St.new (s : St) (r : Row) : St := forceNat s.n fun n => { h := s.h.set deep n r, n := n + 1, lo := s.lo }
def St.put (s : St) (i : Nat) (r : Row) : St := forceNat (match Nat.ble i s.lo with | true => i | false => s.lo) fun lo => { h := s.h.set deep i r, n := s.n, lo }
/-- A new row of cells. -/
def St.row (s : St) (e : TypeId) (exact : Bool) (c : List Sc) : St := forceNat c.length fun n => s.new (.cells e exact n (T.ofList c))

def lslice {α : Type} (l : List α) (o n : Nat) : List α := (l.drop o).take n

def ofScalar : Value → Option Sc
  | .bool b => some (.bool b)
  | .int k n => some (.int k n)
  | .string s => some (.str s)
  | .pointer none => some .nilp
  | .slice none 0 0 => some .nils
  | .nilFunc => some .nilf
  | .map none => some .nilm
  | _ => none
def ofScalars : List Value → Option (List Sc)
  | [] => some []
  | v :: t => match ofScalar v, ofScalars t with
    | some a, some l => some (a :: l)
    | _, _ => none
def ofA1 : Value → Option A1
  | .agg cs => (ofScalars cs.toList).map .agg
  | v => (ofScalar v).map .sc
def ofA1s : List Value → Option (List A1)
  | [] => some []
  | v :: t => match ofA1 v, ofA1s t with
    | some a, some l => some (a :: l)
    | _, _ => none
def ofValue : Value → Option AV
  | .tuple vs => (ofA1s vs.toList).map .tup
  | .func (.func f) a b => if a.size = 0 ∧ b.size = 0 then some (.sc (.fn f [])) else none
  | v => (ofA1 v).map .one

def zeroCellsOf (P : Program) (t : TypeId) : Option (List Sc) :=
  match P.info? t with
  | some i => match i.zero with
    | some z => (ofA1 z).map A1.cells
    | none => none
  | none => none
def zeroOf (P : Program) (t : TypeId) : Option A1 :=
  match P.info? t with
  | some i => match i.zero with
    | some z => ofA1 z
    | none => none
  | none => none
def sizeOf? (P : Program) (t : TypeId) : Option Nat := (P.info? t).map (·.size)
def isAgg? (P : Program) (t : TypeId) : Option Bool :=
  match P.underlying t with
  | some (.struct _) | some (.array ..) => some true
  | some _ => some false
  | none => none

/-- What a frame holds. -/
structure Fr where
  fn : FuncId
  nt : Nat
  tmps : T AV
  dfs : List Nat

def Fr.get (fr : Fr) (t : Tmp) : Option AV := fr.tmps.get t

def Fr.eval (fr : Fr) : Operand → Option AV
  | .tmp t => fr.get t
  | .const v => ofValue v
  | .func f => some (.sc (.fn f []))
  | .global g => match Nat.ble (g + 1) 8 with
    | true => some (.sc (.ptr g 0))
    | false => none
def Fr.put (fr : Fr) (d : Option Tmp) (v : AV) : Fr :=
  match d with
  | some d => match Nat.ble (d + 1) fr.nt with
    | true => { fr with tmps := fr.tmps.set deep d v }
    | false => fr
  | none => fr

def evals (fr : Fr) : List Operand → Option (List AV)
  | [] => some []
  | x :: t => match fr.eval x, evals fr t with
    | some a, some l => some (a :: l)
    | _, _ => none

inductive Step where
  | val (v : AV)
  | call (f : FuncId) (args : List AV)
  | round (l : Nat) (args : List AV)

def repeatCells (z : List Sc) : Nat → List Sc
  | 0 => []
  | n + 1 => z ++ repeatCells z n

def fillAt (size : Nat) (cells : List Sc) (off : Nat) (v : A1) : Option (List Sc) :=
  let c := v.cells
  if c.length = size ∧ off + c.length ≤ cells.length then some (lsets cells off c) else none

def fillArr (size : Nat) (fr : Fr) : List Sc → List (Nat × Operand) → Option (List Sc)
  | cells, [] => some cells
  | cells, (i, x) :: t => match fr.eval x with
    | some (.one a) => match fillAt size cells (i * size) a with
      | some c => fillArr size fr c t
      | none => none
    | _ => none
def placesOf (P : Program) : List Field → Option (List (Nat × Nat))
  | [] => some []
  | f :: t => match sizeOf? P f.type, placesOf P t with
    | some n, some l => some ((f.offset, n) :: l)
    | _, _ => none
def fillStruct (pl : List (Nat × Nat)) (fr : Fr) : List Sc → List (Nat × Operand) → Option (List Sc)
  | cells, [] => some cells
  | cells, (i, x) :: t => match fr.eval x, lget pl i with
    | some (.one a), some (off, size) => match fillAt size cells off a with
      | some c => fillStruct pl fr c t
      | none => none
    | _, _ => none

/-- Equality of structs and arrays whose leaves are ints and bools, part by part. -/
def partOf (P : Program) (t : TypeId) (c : List Sc) (off : Nat) : Option A1 :=
  match isAgg? P t, sizeOf? P t with
  | some true, some n => match Nat.ble (off + n) c.length with
    | true => some (.agg (lslice c off n))
    | false => none
  | some false, _ => (lget c off).map .sc
  | _, _ => none
def equalFields (P : Program) (eq : TypeId → A1 → A1 → Option Bool) (xs ys : List Sc) : List Field → Option Bool
  | [] => some true
  | f :: t => match decide (f.name = "_"), partOf P f.type xs f.offset, partOf P f.type ys f.offset with
    | false, some x, some y => match eq f.type x y with
      | some true => equalFields P eq xs ys t
      | r => r
    | _, _, _ => none
def equalElems (P : Program) (eq : TypeId → A1 → A1 → Option Bool) (e n : Nat) (xs ys : List Sc) (i : Nat) : Nat → Option Bool
  | 0 => some true
  | k + 1 => match partOf P e xs (i * n), partOf P e ys (i * n) with
    | some x, some y => match eq e x y with
      | some true => equalElems P eq e n xs ys (i + 1) k
      | r => r
    | _, _ => none
def eqFI (x y : Int) : Bool :=
  Int.rec (fun a => Int.rec (fun b => Nat.beq a b) (fun _ => false) y) (fun a => Int.rec (fun _ => false) (fun b => Nat.beq a b) y) x
def bytesEq : List UInt8 → List UInt8 → Bool
  | [], [] => true
  | a :: x, b :: y => match Nat.beq a.toNat b.toNat with
    | true => bytesEq x y
    | false => false
  | _, _ => false
def eqStep (P : Program) (eq : TypeId → A1 → A1 → Option Bool) (t : TypeId) (x y : A1) : Option Bool :=
  match P.underlying t, x, y with
  | some (.int _), .sc (.int j a), .sc (.int k b) => if j = k then some (eqFI a b) else none
  | some .bool, .sc (.bool a), .sc (.bool b) => some (a == b)
  | some .string, .sc (.str a), .sc (.str b) => some (bytesEq a.data.toList b.data.toList)
  | some (.struct fs), .agg xs, .agg ys => match P.stoodInHeld t with
    | true => none
    | false => equalFields P eq xs ys fs.toList
  | some (.array len e), .agg xs, .agg ys => match sizeOf? P e with
    | some n => equalElems P eq e n xs ys 0 len
    | none => none
  | _, _, _ => none
def equalA (P : Program) (d : Nat) : TypeId → A1 → A1 → Option Bool :=
  Nat.rec (fun _ _ _ => none) (fun _ eq => eqStep P eq) d
def equalAgg (P : Program) (d : Nat) (t : TypeId) (a b : List Sc) : Option Bool :=
  match P.eqGuardType P.depth t with
  | false => equalA P d t (.agg a) (.agg b)
  | true => none

def wrapF (k : IntKind) (n : Int) : Int :=
  match k with
  | .i64 => Int.rec (fun a => Bool.rec (k.wrap n) (.ofNat a) (Nat.ble a 9223372036854775807)) (fun a => Bool.rec (k.wrap n) (.negSucc a) (Nat.ble a 9223372036854775807)) n
  | _ => k.wrap n
def ltF (x y : Int) : Bool :=
  Int.rec (fun a => Int.rec (fun b => Nat.ble (a + 1) b) (fun _ => false) y) (fun a => Int.rec (fun _ => true) (fun b => Nat.ble (b + 1) a) y) x
def eqF (x y : Int) : Bool := eqFI x y
def mkInt (k : IntKind) (n : Int) : Option Sc := forceInt (wrapF k n) fun n => some (.int k n)

def intBin (op : BinOp) (k : IntKind) (x y : Int) : Option Sc :=
  match op with
  | .add => mkInt k (x + y)
  | .sub => mkInt k (x - y)
  | .mul => mkInt k (x * y)
  | .quo => match eqF y 0 with | true => none | false => mkInt k (x.tdiv y)
  | .rem => match eqF y 0 with | true => none | false => forceInt (x.tmod y) fun n => some (.int k n)
  | .eql => some (.bool (eqF x y))
  | .neq => some (.bool (!(eqF x y)))
  | .lss => some (.bool (ltF x y))
  | .leq => some (.bool (!(ltF y x)))
  | .gtr => some (.bool (ltF y x))
  | .geq => some (.bool (!(ltF x y)))
  | .and => some (.int k (k.wrap ((BitVec.ofInt k.bits x) &&& (BitVec.ofInt k.bits y)).toNat))
  | .or => some (.int k (k.wrap ((BitVec.ofInt k.bits x) ||| (BitVec.ofInt k.bits y)).toNat))
  | .xor => some (.int k (k.wrap ((BitVec.ofInt k.bits x) ^^^ (BitVec.ofInt k.bits y)).toNat))
  | _ => none
def shiftBin (op : BinOp) (k : IntKind) (x y : Int) : Option Sc :=
  if y < 0 then none else
  match op with
  | .shl => some (.int k (k.wrap (x * 2 ^ (min y.toNat k.bits))))
  | .shr => some (.int k (x.fdiv (2 ^ (min y.toNat k.bits))))
  | _ => none
def isNilSlice : Sc → Option Bool
  | .nils => some true
  | .slc .. => some false
  | .slo .. => some false
  | _ => none

def isNilMap : Sc → Option Bool
  | .nilm => some true
  | .mp _ => some false
  | _ => none

def strBin (op : BinOp) (x y : ByteArray) : Option Sc :=
  match op with
  | .add => match Nat.ble (x.size + y.size) 1000000 with
    | true => some (.str (x ++ y))
    | false => none
  | .eql => some (.bool (bytesEq x.data.toList y.data.toList))
  | .neq => some (.bool (!(bytesEq x.data.toList y.data.toList)))
  | .lss => some (.bool (Op.bytesLess x.data.toList y.data.toList))
  | .leq => some (.bool (Op.bytesLess x.data.toList y.data.toList || bytesEq x.data.toList y.data.toList))
  | .gtr => some (.bool !(Op.bytesLess x.data.toList y.data.toList || bytesEq x.data.toList y.data.toList))
  | .geq => some (.bool (!(Op.bytesLess x.data.toList y.data.toList)))
  | _ => none
def binOp? (P : Program) (op : BinOp) (t : TypeId) (x y : AV) : Option AV :=
  match op, x, y with
  | .shl, .one (.sc (.int k a)), .one (.sc (.int _ b)) | .shr, .one (.sc (.int k a)), .one (.sc (.int _ b)) => (shiftBin op k a b).map .sc
  | _, .one (.sc (.int k a)), .one (.sc (.int k' b)) => if k = k' then (intBin op k a b).map .sc else none
  | _, .one (.sc (.str a)), .one (.sc (.str b)) => (strBin op a b).map .sc
  | .eql, .one (.sc (.bool a)), .one (.sc (.bool b)) => match P.underlying t with | some .bool => some (.sc (.bool (a == b))) | _ => none
  | .neq, .one (.sc (.bool a)), .one (.sc (.bool b)) => match P.underlying t with | some .bool => some (.sc (.bool (!(a == b)))) | _ => none
  | .eql, .one (.agg a), .one (.agg b) => (equalAgg P 20 t a b).map fun b => .sc (.bool b)
  | .neq, .one (.agg a), .one (.agg b) => (equalAgg P 20 t a b).map fun b => .sc (.bool !b)
  | .eql, .one (.sc a), .one (.sc .nils) => match P.underlying t with | some (.slice _) => (isNilSlice a).map fun b => .sc (.bool b) | _ => none
  | .neq, .one (.sc a), .one (.sc .nils) => match P.underlying t with | some (.slice _) => (isNilSlice a).map fun b => .sc (.bool !b) | _ => none
  | .eql, .one (.sc a), .one (.sc .nilm) => match P.underlying t with | some (.map ..) => (isNilMap a).map fun b => .sc (.bool b) | _ => none
  | .neq, .one (.sc a), .one (.sc .nilm) => match P.underlying t with | some (.map ..) => (isNilMap a).map fun b => .sc (.bool !b) | _ => none
  | _, _, _ => none
def unOp? (op : UnOp) (x : AV) : Option AV :=
  match op, x with
  | .neg, .one (.sc (.int k n)) => (mkInt k (0 - n)).map .sc
  | .not, .one (.sc (.bool b)) => some (.sc (.bool !b))
  | _, _ => none
def convert? (P : Program) (dst : TypeId) (x : AV) : Option AV :=
  match P.underlying dst, x with
  | some (.int k), .one (.sc (.int _ n)) => some (.sc (.int k (k.wrap n)))
  | _, _ => none

def bound? (v : Option AV) (dflt top : Nat) : Option Nat :=
  match v with
  | none => some dflt
  | some (.one (.sc (.int _ (.ofNat i)))) => match Nat.ble i top with
    | true => some i
    | false => none
  | _ => none
def cutAt (o l m size : Nat) : Nat := match Nat.beq m l with | true => o | false => o + l * size
def sliceOf (i o len cap size : Nat) (lo hi mx : Option AV) : Option AV :=
  match bound? mx cap cap with
  | none => none
  | some m => match bound? hi len m with
    | none => none
    | some h => match bound? lo 0 h with
      | none => none
      | some l => forceNat (cutAt o l m size) fun o => forceNat (h - l) fun n => forceNat (m - l) fun c => some (.sc (.slc i o n c))
/-- Where the capacity is not known: up to the length alone. -/
def sliceOpen (i o len size : Nat) (lo hi mx : Option AV) : Option AV :=
  match mx with
  | some _ => match bound? mx 0 len with
    | none => none
    | some m => match bound? hi 0 m, hi with
      | some h, some _ => match bound? lo 0 h with
        | none => none
        | some l => forceNat (cutAt o l m size) fun o => forceNat (h - l) fun n => forceNat (m - l) fun c => some (.sc (.slc i o n c))
      | _, _ => none
  | none => match bound? hi len len with
    | none => none
    | some h => match bound? lo 0 h with
      | none => none
      | some l => match Nat.beq l 0, Nat.ble (l + 1) len with
        | true, _ => some (.sc (.slo i o h size))
        | false, true => forceNat (o + l * size) fun o => forceNat (h - l) fun n => some (.sc (.slo i o n size))
        | _, _ => none
def slice? (P : Program) (t : TypeId) (x : AV) (lo hi mx : Option AV) : Option AV :=
  match P.underlying t, x with
  | some (.slice e), .one (.sc .nils) =>
    match bound? mx 0 0, bound? hi 0 0, bound? lo 0 0, sizeOf? P e with
    | some _, some _, some _, some _ => match mx, hi with
      | some _, none => none
      | _, _ => some (.sc .nils)
    | _, _, _, _ => none
  | some (.slice e), .one (.sc (.slc i o len cap)) =>
    match sizeOf? P e with
    | none => none
    | some size => match mx, hi with
      | some _, none => none
      | _, _ => sliceOf i o len cap size lo hi mx
  | some (.slice e), .one (.sc (.slo i o len size)) =>
    match sizeOf? P e with
    | none => none
    | some size' => match Nat.beq size' size with
      | true => sliceOpen i o len size lo hi mx
      | false => none
  | some .string, .one (.sc (.str z)) => match mx with
    | some _ => none
    | none => match bound? hi z.size z.size with
      | none => none
      | some h => match bound? lo 0 h with
        | none => none
        | some l => some (.sc (.str (z.extract l h)))
  | some (.array n e), .one (.sc (.ptr i o)) =>
    match sizeOf? P e with
    | none => none
    | some size => match mx, hi with
      | some _, none => none
      | _, _ => sliceOf i o n n size lo hi mx
  | _, _ => none

def evalOpt (fr : Fr) : Option Operand → Option (Option AV)
  | none => some none
  | some x => (fr.eval x).map some

def loadAt (P : Program) (s : St) (t : TypeId) (i o : Nat) : Option AV :=
  match hget s.h i with
  | some (.cells _ _ _ c) => match isAgg? P t with
    | some true => match sizeOf? P t with
      | some n => (c.range o n).map .agg
      | none => none
    | some false => (c.get o).map .sc
    | none => none
  | _ => none
def storeAt (P : Program) (s : St) (t : TypeId) (i o : Nat) (v : A1) : Option St :=
  match hget s.h i, sizeOf? P t with
  | some (.cells e x len c), some n => match Nat.beq v.cells.length n, Nat.ble (o + n) len with
    | true, true => some (s.put i (.cells e x len (c.sets o v.cells)))
    | _, _ => none
  | _, _ => none
/-- n cells of a row. -/
def rowRange (s : St) (i o n : Nat) : Option (List Sc) :=
  match hget s.h i with
  | some (.cells _ _ _ c) => c.range o n
  | _ => none
/-- Cells into a row. -/
def rowPut (s : St) (i o : Nat) (new : List Sc) : Option St :=
  match hget s.h i with
  | some (.cells e x len c) => match Nat.ble (o + new.length) len with
    | true => some (s.put i (.cells e x len (c.sets o new)))
    | false => none
  | _ => none

/-- The cells of the first n elements of a slice. -/
def firstOf (s : St) (size n : Nat) : Sc → Option (List Sc)
  | .nils => some []
  | .slc i o _ _ => rowRange s i o (n * size)
  | .slo i o _ _ => rowRange s i o (n * size)
  | _ => none
def lenOf? : Sc → Option Nat
  | .nils => some 0
  | .slc _ _ n _ => some n
  | .slo _ _ n _ => some n
  | _ => none

/-- Onto a row whose capacity is not known: the old row is given up. -/
def appendOpen (s : St) (e size i o xl yl : Nat) (new : List Sc) : Option (Sc × St) :=
  match hget s.h i with
  | some (.cells e' false len c) => match Nat.beq (xl * size) len && Nat.beq o 0, Nat.beq e' e with
    | true, true => forceNat (xl + yl) fun l => forceNat (len + new.length) fun len' => forceNat s.n fun n =>
      some (.slo n 0 l size, (s.put i .dead).new (.cells e false len' (c.sets len new)))
    | false, true => match Nat.beq o 0, c.range 0 (xl * size) with
      | true, some old => forceNat (xl + yl) fun l => forceNat s.n fun n =>
        some (.slo n 0 l size, (s.put i .dead).new (.cells e false (old ++ new).length (T.ofList (old ++ new))))
      | _, _ => none
    | _, _ => none
  | _ => none
def appendGrow (s : St) (e size l : Nat) (cells : List Sc) : Option (Sc × St) :=
  forceNat s.n fun n => forceNat l fun l => some (.slo n 0 l size, s.row e false cells)
/-- The appended values' type is no number: there are no zeros to make. -/
def noZeros (P : Program) : List TypeId → Bool
  | [] => true
  | t :: _ => match P.underlying t with
    | some (.int _) => false
    | some _ => true
    | none => false
/-- Something is appended. -/
def appendSome (s : St) (e size xl yl : Nat) (new : List Sc) (x : Sc) : Option (Sc × St) :=
  match x with
  | .nils => appendGrow s e size yl new
  | .slc i o _ cap => match Nat.ble (xl + yl) cap with
    | true => (rowPut s i (o + xl * size) new).map fun s => (.slc i o (xl + yl) cap, s)
    | false => match firstOf s size xl x with
      | some old => appendGrow s e size (xl + yl) (old ++ new)
      | none => none
  | .slo i o _ z => match Nat.beq z size with
    | true => appendOpen s e size i o xl yl new
    | false => none
  | _ => none
def appendFits (P : Program) (e : TypeId) (info : TypeInfo) (need : Nat) : Bool :=
  Nat.ble (need * (info.bytes + 1)) 1000000 && Nat.ble 1 info.bytes && Nat.ble 1 info.size &&
  (match zeroCellsOf P e with
   | some z => Nat.beq z.length info.size
   | none => false)
/-- So many zeros onto nothing. -/
def appendZeros (P : Program) (s : St) (e : TypeId) (r : List TypeId) (x y : Sc) : Option (Sc × St) :=
  match r with
  | [] => none
  | t :: _ => match P.underlying t with
    | some (.int _) => match x, y with
      | .nils, .int _ (.ofNat n) => match P.info? e, zeroCellsOf P e, Nat.beq n 0 with
        | some info, some z, false => match appendFits P e info n with
          | true => appendGrow s e info.size n (repeatCells z n)
          | false => none
        | _, _, _ => none
      | _, _ => none
    | _ => none
def append? (P : Program) (s : St) (t : TypeId) (r : List TypeId) (x y : Sc) : Option (Sc × St) :=
  match P.underlying t, noZeros P r with
  | some (.slice e), true => match P.info? e, lenOf? x, lenOf? y with
    | some info, some xl, some yl => match firstOf s info.size yl y, Nat.beq yl 0, appendFits P e info (xl + yl) with
      | some _, true, true => some (x, s)
      | some new, false, true => appendSome s e info.size xl yl new x
      | _, _, _ => none
    | _, _, _ => none
  | some (.slice e), false => appendZeros P s e r x y
  | _, _ => none

def most (up : Bool) : Int → List AV → Option Int
  | m, [] => some m
  | m, .one (.sc (.int _ y)) :: t => most up (match up with | true => if y > m then y else m | false => if y < m then y else m) t
  | _, _ => none

def entriesOf (s : St) : Sc → Option (List (Sc × A1))
  | .nilm => some []
  | .mp i => match hget s.h i with
    | some (.map es _) => some es
    | _ => none
  | _ => none

def builtin? (P : Program) (b : Builtin) (ts : List TypeId) (args : List AV) (s : St) : Option (AV × St) :=
  match b, ts, args with
  | .len, [t], [.one (.sc x)] => match P.underlying t with
    | some (.slice _) => (lenOf? x).map fun n => (.sc (.int .i64 n), s)
    | some .string => match x with | .str z => some (.sc (.int .i64 z.size), s) | _ => none
    | some (.array n _) => some (.sc (.int .i64 n), s)
    | some (.map ..) => (entriesOf s x).map fun es => (.sc (.int .i64 es.length), s)
    | _ => none
  | .len, [t], [.one (.agg _)] => match P.underlying t with
    | some (.array n _) => some (.sc (.int .i64 n), s)
    | _ => none
  | .cap, [t], [.one (.sc x)] => match P.underlying t, x with
    | some (.slice _), .nils => some (.sc (.int .i64 0), s)
    | some (.slice _), .slc _ _ _ c => some (.sc (.int .i64 c), s)
    | _, _ => none
  | .max, _, .one (.sc (.int k x)) :: rest => (most true x rest).map fun m => (.sc (.int k m), s)
  | .min, _, .one (.sc (.int k x)) :: rest => (most false x rest).map fun m => (.sc (.int k m), s)
  | .append, t :: r, [.one (.sc x), .one (.sc y)] => match append? P s t r x y with
    | some (r, s) => some (.sc r, s)
    | none => none
  | .copy, t :: _, [.one (.sc x), .one (.sc y)] => match P.underlying t, lenOf? x, lenOf? y with
    | some (.slice e), some xl, some yl => match sizeOf? P e with
      | some size => match firstOf s size (Nat.min yl xl) y, x with
        | some new, .slc i o _ _ => (rowPut s i o new).map fun s => (.sc (.int .i64 (Nat.min yl xl)), s)
        | some new, .slo i o _ _ => (rowPut s i o new).map fun s => (.sc (.int .i64 (Nat.min yl xl)), s)
        | some _, .nils => some (.sc (.int .i64 0), s)
        | _, _ => none
      | none => none
    | _, _, _ => none
  | .clear, [t], [.one (.sc x)] => match P.underlying t, x with
    | some (.slice _), .nils => some (.undef, s)
    | some (.slice e), .slc i o n _ => match Nat.beq n 0, zeroCellsOf P e with
      | true, _ => some (.undef, s)
      | false, some z => (rowPut s i o (repeatCells z n)).map fun s => (.undef, s)
      | _, _ => none
    | some (.slice e), .slo i o n _ => match Nat.beq n 0, zeroCellsOf P e with
      | true, _ => some (.undef, s)
      | false, some z => (rowPut s i o (repeatCells z n)).map fun s => (.undef, s)
      | _, _ => none
    | _, _ => none
  | _, _, _ => none

def ptrsOf : List AV → Option (List (Nat × Nat))
  | [] => some []
  | .one (.sc (.ptr i o)) :: t => (ptrsOf t).map ((i, o) :: ·)
  | _ => none

def ptrVals : List (Nat × Nat) → List AV
  | [] => []
  | (i, o) :: t => .sc (.ptr i o) :: ptrVals t

def oAlloc (P : Program) (s : St) (t : TypeId) : Option (Step × St) :=
  match zeroOf P t with
  | some z => some (.val (.sc (.ptr s.n 0)), s.row t true z.cells)
  | none => none
def oBox (s : St) (t : TypeId) (x : Option AV) : Option (Step × St) :=
  match x with
  | some (.one a) => some (.val (.sc (.ptr s.n 0)), s.row t true a.cells)
  | _ => none
def oBuild (P : Program) (fr : Fr) (s : St) (t : TypeId) (ps : List (Nat × Operand)) : Option (Step × St) :=
  match zeroOf P t, P.underlying t with
  | some z, some (.struct fs) => match placesOf P fs.toList with
    | some pl => (fillStruct pl fr z.cells ps).map fun c => (.val (.agg c), s)
    | none => none
  | some z, some (.array _ e) => match sizeOf? P e with
    | some size => (fillArr size fr z.cells ps).map fun c => (.val (.agg c), s)
    | none => none
  | _, _ => none
def oBuildSlice (P : Program) (fr : Fr) (s : St) (t : TypeId) (len : Nat) (ps : List (Nat × Operand)) : Option (Step × St) :=
  match P.underlying t with
  | some (.slice e) => match sizeOf? P e, zeroCellsOf P e with
    | some size, some z => match Nat.ble (len * size) 1000000 && Nat.beq z.length size with
      | true => (fillArr size fr (repeatCells z len) ps).map fun c => (.val (.sc (.slc s.n 0 len len)), s.row e true c)
      | false => none
    | _, _ => none
  | _ => none
def oLoad (P : Program) (s : St) (t : TypeId) (a : Option AV) : Option (Step × St) :=
  match a with
  | some (.one (.sc (.ptr i o))) => (loadAt P s t i o).map fun v => (.val v, s)
  | _ => none
def oStore (P : Program) (s : St) (t : TypeId) (a x : Option AV) : Option (Step × St) :=
  match a, x with
  | some (.one (.sc (.ptr i o))), some (.one v) => (storeAt P s t i o v).map fun s => (.val .undef, s)
  | _, _ => none
def oNilCheck (s : St) (x : Option AV) : Option (Step × St) :=
  match x with
  | some (.one (.sc (.ptr i o))) => some (.val (.sc (.ptr i o)), s)
  | some (.one (.sc (.fn f c))) => some (.val (.sc (.fn f c)), s)
  | some (.one (.sc (.yld l))) => some (.val (.sc (.yld l)), s)
  | _ => none
def oBin (P : Program) (s : St) (op : BinOp) (t : TypeId) (x y : Option AV) : Option (Step × St) :=
  match x, y with
  | some a, some b => (binOp? P op t a b).map fun v => (.val v, s)
  | _, _ => none
def oUn (s : St) (op : UnOp) (x : Option AV) : Option (Step × St) :=
  match x with
  | some a => (unOp? op a).map fun v => (.val v, s)
  | none => none
/-- The cells of bytes, and the bytes of cells. -/
def cellsOfBytes : List UInt8 → List Sc
  | [] => []
  | b :: t => forceNat b.toNat fun n => .int .u8 (.ofNat n) :: cellsOfBytes t
def bytesOfCells : List Sc → Option (List UInt8)
  | [] => some []
  | .int .u8 (.ofNat n) :: t => match bytesOfCells t with
    | some l => some (UInt8.ofNat n :: l)
    | none => none
  | _ :: _ => none
def bytesAt (s : St) (x : Sc) : Option (List UInt8) :=
  match x with
  | .slc i o l _ => match rowRange s i o l with
    | some c => bytesOfCells c
    | none => none
  | .slo i o l _ => match rowRange s i o l with
    | some c => bytesOfCells c
    | none => none
  | _ => none
def oConv (P : Program) (s : St) (src dst : TypeId) (x : Option AV) : Option (Step × St) :=
  match x, P.underlying src with
  | some (.one (.sc (.str z))), some .string => match P.underlying dst with
    | some (.slice e) => match P.underlying e with
      | some (.int .u8) => some (.val (.sc (.slo s.n 0 z.size 1)), s.row e false (cellsOfBytes z.data.toList))
      | _ => none
    | _ => none
  | some (.one (.sc y)), some (.slice e) => match P.underlying e, P.underlying dst with
    | some (.int .u8), some .string => match bytesAt s y with
      | some l => some (.val (.sc (.str ⟨l.toArray⟩)), s)
      | none => none
    | _, _ => none
  | some a, some _ => (convert? P dst a).map fun v => (.val v, s)
  | _, _ => none
def oFunc (fr : Fr) (s : St) (fn : Fn) (first cap : List Operand) : Option (Step × St) :=
  match fn, first with
  | .func f, [] => match evals fr cap with
    | some vs => (ptrsOf vs).map fun c => (.val (.sc (.fn f c)), s)
    | none => none
  | _, _ => none
def oMakeSlice (P : Program) (s : St) (t : TypeId) (l c : Option AV) : Option (Step × St) :=
  match P.underlying t, l, c with
  | some (.slice e), some (.one (.sc (.int _ (.ofNat ln)))), some (.one (.sc (.int _ (.ofNat cp)))) => match P.info? e, zeroCellsOf P e with
    | some info, some z => match Nat.ble ln cp, Nat.ble (cp * (info.bytes + 1)) 1000000 && Nat.beq z.length info.size with
      | true, true => forceNat ln fun ln => forceNat cp fun cp => some (.val (.sc (.slc s.n 0 ln cp)), s.row e true (repeatCells z cp))
      | _, _ => none
    | _, _ => none
  | _, _, _ => none
def oSlice (P : Program) (fr : Fr) (s : St) (t : TypeId) (x : Option AV) (lo hi mx : Option Operand) : Option (Step × St) :=
  match x, evalOpt fr lo, evalOpt fr hi, evalOpt fr mx with
  | some v, some lo, some hi, some mx => (slice? P t v lo hi mx).map fun v => (.val v, s)
  | _, _, _, _ => none
def oFieldAddr (P : Program) (s : St) (t : TypeId) (x : Option AV) (f : Nat) : Option (Step × St) :=
  match P.underlying t, x with
  | some (.struct fs), some (.one (.sc (.ptr i o))) => match lget fs.toList f with
    | some fd => match sizeOf? P fd.type with
      | some (_ + 1) => forceNat (o + fd.offset) fun o => some (.val (.sc (.ptr i o)), s)
      | _ => none
    | none => none
  | _, _ => none
def oField (P : Program) (s : St) (t : TypeId) (x : Option AV) (f : Nat) : Option (Step × St) :=
  match P.underlying t, x with
  | some (.struct fs), some (.one (.agg c)) => match lget fs.toList f with
    | some fd => match isAgg? P fd.type, sizeOf? P fd.type with
      | some true, some n => match Nat.ble (fd.offset + n) c.length with
        | true => some (.val (.agg (lslice c fd.offset n)), s)
        | false => none
      | some false, _ => (lget c fd.offset).map fun v => (.val (.sc v), s)
      | _, _ => none
    | none => none
  | _, _ => none
def oIndexAddr (P : Program) (s : St) (t : TypeId) (x ix : Option AV) : Option (Step × St) :=
  match P.underlying t, x, ix with
  | some (.array n e), some (.one (.sc (.ptr i o))), some (.one (.sc (.int _ (.ofNat k)))) => match sizeOf? P e, Nat.ble (k + 1) n with
    | some size, true => forceNat (o + k * size) fun o => some (.val (.sc (.ptr i o)), s)
    | _, _ => none
  | some (.slice e), some (.one (.sc (.slc i o n _))), some (.one (.sc (.int _ (.ofNat k)))) => match sizeOf? P e, Nat.ble (k + 1) n with
    | some size, true => forceNat (o + k * size) fun o => some (.val (.sc (.ptr i o)), s)
    | _, _ => none
  | some (.slice e), some (.one (.sc (.slo i o n _))), some (.one (.sc (.int _ (.ofNat k)))) => match sizeOf? P e, Nat.ble (k + 1) n with
    | some size, true => forceNat (o + k * size) fun o => some (.val (.sc (.ptr i o)), s)
    | _, _ => none
  | _, _, _ => none
def oIndex (P : Program) (s : St) (t : TypeId) (x ix : Option AV) : Option (Step × St) :=
  match P.underlying t, x, ix with
  | some .string, some (.one (.sc (.str z))), some (.one (.sc (.int _ (.ofNat k)))) =>
    (lget z.data.toList k).map fun b => (.val (.sc (.int .u8 b.toNat)), s)
  | some (.array n e), some (.one (.agg c)), some (.one (.sc (.int _ (.ofNat k)))) => match isAgg? P e, sizeOf? P e, Nat.ble (k + 1) n with
    | some true, some size, true => match Nat.ble (k * size + size) c.length with
      | true => some (.val (.agg (lslice c (k * size) size)), s)
      | false => none
    | some false, some size, true => (lget c (k * size)).map fun v => (.val (.sc v), s)
    | _, _, _ => none
  | _, _, _ => none
def oExtract (s : St) (t : Option AV) (ix : Nat) : Option (Step × St) :=
  match t with
  | some (.tup l) => (lget l ix).map fun v => (.val (.one v), s)
  | _ => none
def oCall (P : Program) (fr : Fr) (s : St) (c : Call) : Option (Step × St) :=
  match c.callee with
  | .builtin b => match evals fr c.args.toList with
    | some vs => (builtin? P b c.argTypes.toList vs s).map fun (v, s) => (.val v, s)
    | none => none
  | .value f => match fr.eval f, evals fr c.args.toList with
    | some (.one (.sc (.fn g cap))), some vs => some (.call g (vs ++ ptrVals cap), s)
    | some (.one (.sc (.yld l))), some vs => some (.round l vs, s)
    | _, _ => none
  | _ => none
def oPick (fr : Fr) (s : St) (c : Option AV) (a b : Operand) : Option (Step × St) :=
  match c with
  | some (.one (.sc (.bool true))) => (fr.eval a).map fun v => (.val v, s)
  | some (.one (.sc (.bool false))) => (fr.eval b).map fun v => (.val v, s)
  | _ => none
def oMove (s : St) (x : Option AV) : Option (Step × St) :=
  match x with
  | some v => some (.val v, s)
  | none => none

/-! ### Maps -/
def sameKey (d : TypeDesc) (x y : Sc) : Option Bool :=
  match d, x, y with
  | .int _, .int k a, .int k' b => if k = k' then some (eqFI a b) else none
  | .string, .str a, .str b => some (bytesEq a.data.toList b.data.toList)
  | .bool, .bool a, .bool b => some (a == b)
  | _, _, _ => none
def findKey? (d : TypeDesc) (k : Sc) : List (Sc × A1) → Nat → Option (Option (Nat × A1))
  | [], _ => some none
  | e :: t, i => match sameKey d k e.1 with
    | some true => some (some (i, e.2))
    | some false => findKey? d k t (i + 1)
    | none => none
def plainKey (d : TypeDesc) (k : Sc) : Bool :=
  match d, k with
  | .int a, .int b _ => decide (b = a)
  | .string, .str _ => true
  | .bool, .bool _ => true
  | _, _ => false
def lookVal (ok : Bool) (v : A1) (b : Bool) : AV :=
  match ok with
  | true => .tup [v, .sc (.bool b)]
  | false => .one v
def oMakeMap (s : St) (r : Option Operand) : Option (Step × St) :=
  match r with
  | none => forceNat s.n fun n => some (.val (.sc (.mp n)), s.new (.map [] 0))
  | some _ => none
def oLookup (P : Program) (s : St) (t : TypeId) (x ix : Option AV) (ok : Bool) : Option (Step × St) :=
  match P.underlying t, x, ix with
  | some (.map kt et), some (.one (.sc m)), some (.one (.sc k)) => match P.underlying kt, entriesOf s m with
    | some d, some es => match plainKey d k, findKey? d k es 0 with
      | true, some (some (_, v)) => some (.val (lookVal ok v true), s)
      | true, some none => match zeroOf P et with
        | some z => some (.val (lookVal ok z false), s)
        | none => none
      | _, _ => none
    | _, _ => none
  | _, _, _ => none
def oMapUpdate (P : Program) (s : St) (t : TypeId) (m k v : Option AV) : Option (Step × St) :=
  match P.underlying t, m, k, v with
  | some (.map kt _), some (.one (.sc (.mp i))), some (.one (.sc k)), some (.one v) => match P.underlying kt, hget s.h i with
    | some d, some (.map es clock) => match plainKey d k, findKey? d k es 0 with
      | true, some (some (j, _)) => some (.val .undef, s.put i (.map (lset es j (k, v)) clock))
      | true, some none => forceNat (clock + 1) fun clock => some (.val .undef, s.put i (.map (es ++ [(k, v)]) clock))
      | _, _ => none
    | _, _ => none
  | _, _, _, _ => none

def op? (P : Program) (fr : Fr) (o : Op) (s : St) : Option (Step × St) :=
  match o with
  | .move x => oMove s (fr.eval x)
  | .assign x => oMove s (fr.eval x)
  | .pick c a b => oPick fr s (fr.eval c) a b
  | .alloc t => oAlloc P s t
  | .box t x => oBox s t (fr.eval x)
  | .build t ps => oBuild P fr s t ps.toList
  | .buildSlice t len ps => oBuildSlice P fr s t len ps.toList
  | .load t a => oLoad P s t (fr.eval a)
  | .store t a x => oStore P s t (fr.eval a) (fr.eval x)
  | .nilCheck x => oNilCheck s (fr.eval x)
  | .binOp op t x y _ => oBin P s op t (fr.eval x) (fr.eval y)
  | .unOp op _ x => oUn s op (fr.eval x)
  | .convert src dst x => oConv P s src dst (fr.eval x)
  | .makeFunc fn first cap => oFunc fr s fn first.toList cap.toList
  | .makeSlice t l c => oMakeSlice P s t (fr.eval l) (fr.eval c)
  | .slice t x lo hi mx => oSlice P fr s t (fr.eval x) lo hi mx
  | .fieldAddr t x f => oFieldAddr P s t (fr.eval x) f
  | .field t x f => oField P s t (fr.eval x) f
  | .indexAddr t x ix => oIndexAddr P s t (fr.eval x) (fr.eval ix)
  | .index t x ix => oIndex P s t (fr.eval x) (fr.eval ix)
  | .extract t ix => oExtract s (fr.eval t) ix
  | .makeMap _ r => oMakeMap s r
  | .lookup t x ix ok => oLookup P s t (fr.eval x) (fr.eval ix) ok
  | .mapUpdate t m k v => oMapUpdate P s t (fr.eval m) (fr.eval k) (fr.eval v)
  | .insert t m k v => oMapUpdate P s t (fr.eval m) (fr.eval k) (fr.eval v)
  | _ => none
def callOf (o : Op) : Option Call :=
  match o with
  | .call c => some c
  | _ => none

inductive Ex where
  | normal
  | exit (id : Nat)
  | goto (l : Nat)
  | ret

def guardOk (ops : List Oper) (fr : Fr) (o : Oper) : Option Bool :=
  match o.guard with
  | none => some true
  | some (j, want) => match lget ops j with
    | some g => match g.dst with
      | some d => match fr.get d with
        | some (.one (.sc (.bool b))) => some (b == want)
        | _ => none
      | none => none
    | none => none

def resultsOf (P : Program) (s : St) (fr : Fr) : List ResultVar → Option (List A1)
  | [] => some []
  | .tmp t :: r => match fr.get t, resultsOf P s fr r with
    | some (.one a), some l => some (a :: l)
    | _, _ => none
  | .cell a t :: r => match fr.get a, resultsOf P s fr r with
    | some (.one (.sc (.ptr i o))), some l => match loadAt P s t i o with
      | some (.one a) => some (a :: l)
      | _ => none
    | _, _ => none

def Sc.plain : Sc → Bool
  | .ptr .. | .slc .. | .slo .. | .fn .. | .yld _ | .mp _ => false
  | _ => true
def A1.plain : A1 → Bool
  | .sc s => s.plain
  | .agg l => l.all Sc.plain

def setParams (nt : Nat) : List Tmp → List AV → T AV → T AV
  | t :: ts, v :: vs, tmps => setParams nt ts vs (match Nat.ble (t + 1) nt with | true => tmps.set deep t v | false => tmps)
  | _, _, tmps => tmps

inductive Task where
  | code (rd : Option Nat) (c : Code) (fr : Fr)
  | ops (rd : Option Nat) (all rest : List Oper) (fr : Fr)
  | call (f : FuncId) (args : List AV)
  | round (l : Nat) (args : List AV)
inductive Out where
  | left (e : Ex) (fr : Fr)
  | val (v : AV)

abbrev Run := Task → St → Option (Out × St)

def xSeq (r : Run) (rd : Option Nat) (b : Code) (x : Option (Out × St)) : Option (Out × St) :=
  match x with
  | some (.left .normal fr, s) => r (.code rd b fr) s
  | x => x
def xCond (r : Run) (rd : Option Nat) (a b : Code) (fr : Fr) (s : St) (c : Option AV) : Option (Out × St) :=
  match c with
  | some (.one (.sc (.bool true))) => r (.code rd a fr) s
  | some (.one (.sc (.bool false))) => r (.code rd b fr) s
  | _ => none
def xBlock (id : Nat) (x : Option (Out × St)) : Option (Out × St) :=
  match x with
  | some (.left (.exit j) fr, s) => match Nat.beq j id with
    | true => some (.left .normal fr, s)
    | false => some (.left (.exit j) fr, s)
  | x => x
/-- Behind the iterator's call. -/
def xRangeEnd (r : Run) (rd : Option Nat) (l : Nat) (fr : Fr) (x : Option (Out × St)) : Option (Out × St) :=
  match x with
  | some (.val _, s) => match hget s.h l with
    | some (.loop q) => match q.state with
      | .busy => none
      | _ => match q.pending with
        | none => some (.left .normal fr, s.put l .dead)
        | some c => r (.code rd c fr) (s.put l .dead)
    | _ => none
  | _ => none
def xRangeIn (r : Run) (rd : Option Nat) (f : FuncId) (cap : List (Nat × Nat)) (ps : List Tmp) (assign body : Code) (fr : Fr) (dfr : Nat) (s : St) : Option (Out × St) :=
  xRangeEnd r rd s.n fr (r (.call f (.sc (.yld s.n) :: ptrVals cap))
    (s.new (.loop { fn := fr.fn, state := .ready, pending := none, nt := fr.nt, tmps := fr.tmps, params := ps, assign, body, dfr })))
def xRange (r : Run) (rd : Option Nat) (ps : List Tmp) (assign body : Code) (fr : Fr) (s : St) (g : Option AV) : Option (Out × St) :=
  match g with
  | some (.one (.sc (.fn f cap))) =>
    match rd with
    | none => forceNat s.n fun n => xRangeIn r rd f cap ps assign body { fr with dfs := n :: fr.dfs } n (s.new .dfr)
    | some l => match hget s.h l with
      | some (.loop q) => xRangeIn r rd f cap ps assign body fr q.dfr s
      | _ => none
  | _ => none
def asVal (x : Option (Out × St)) : Option (AV × St) :=
  match x with
  | some (.val v, s) => some (v, s)
  | _ => none
def xOneC (r : Run) (x : Option (Step × St)) : Option (AV × St) :=
  match x with
  | some (.val v, s) => some (v, s)
  | some (.call f args, s) => asVal (r (.call f args) s)
  | some (.round l args, s) => asVal (r (.round l args) s)
  | none => none
def xOneV (x : Option (Step × St)) : Option (AV × St) :=
  match x with
  | some (.val v, s) => some (v, s)
  | _ => none
/-- What an operation does, found once for all its runs. -/
inductive Box where
  | v (f : Fr → St → Option (Step × St))
  | c (c : Call)
def boxOf (P : Program) (o : Op) : Box :=
  match o with
  | .move x => .v fun fr s => oMove s (fr.eval x)
  | .assign x => .v fun fr s => oMove s (fr.eval x)
  | .pick c a b => .v fun fr s => oPick fr s (fr.eval c) a b
  | .alloc t => .v fun _ s => oAlloc P s t
  | .box t x => .v fun fr s => oBox s t (fr.eval x)
  | .build t ps => .v fun fr s => oBuild P fr s t ps.toList
  | .buildSlice t len ps => .v fun fr s => oBuildSlice P fr s t len ps.toList
  | .load t a => .v fun fr s => oLoad P s t (fr.eval a)
  | .store t a x => .v fun fr s => oStore P s t (fr.eval a) (fr.eval x)
  | .nilCheck x => .v fun fr s => oNilCheck s (fr.eval x)
  | .binOp op t x y _ => .v fun fr s => oBin P s op t (fr.eval x) (fr.eval y)
  | .unOp op _ x => .v fun fr s => oUn s op (fr.eval x)
  | .convert src dst x => .v fun fr s => oConv P s src dst (fr.eval x)
  | .makeFunc fn first cap => .v fun fr s => oFunc fr s fn first.toList cap.toList
  | .makeSlice t l c => .v fun fr s => oMakeSlice P s t (fr.eval l) (fr.eval c)
  | .slice t x lo hi mx => .v fun fr s => oSlice P fr s t (fr.eval x) lo hi mx
  | .fieldAddr t x f => .v fun fr s => oFieldAddr P s t (fr.eval x) f
  | .field t x f => .v fun fr s => oField P s t (fr.eval x) f
  | .indexAddr t x ix => .v fun fr s => oIndexAddr P s t (fr.eval x) (fr.eval ix)
  | .index t x ix => .v fun fr s => oIndex P s t (fr.eval x) (fr.eval ix)
  | .extract t ix => .v fun fr s => oExtract s (fr.eval t) ix
  | .makeMap _ r => .v fun _ s => oMakeMap s r
  | .lookup t x ix ok => .v fun fr s => oLookup P s t (fr.eval x) (fr.eval ix) ok
  | .mapUpdate t m k v => .v fun fr s => oMapUpdate P s t (fr.eval m) (fr.eval k) (fr.eval v)
  | .insert t m k v => .v fun fr s => oMapUpdate P s t (fr.eval m) (fr.eval k) (fr.eval v)
  | .call c => .c c
  | _ => .v fun _ _ => none
def xBox (P : Program) (r : Run) (fr : Fr) (s : St) (b : Box) : Option (AV × St) :=
  Box.rec (fun f => xOneV (f fr s)) (fun c => xOneC r (oCall P fr s c)) b
/-- One operation: its value, and the state behind it. -/
def xOne (P : Program) (r : Run) (all : List Oper) (fr : Fr) (o : Oper) (s : St) : Option (AV × St) :=
  match guardOk all fr o with
  | none => none
  | some false => some (.undef, s)
  | some true => xBox P r fr s (boxOf P o.op)
/-! ### Regions that draw their order -/
def edgesOf (md : Region.Mode) (o : Oper) : List Nat := (o.after.toList.filter fun e => Region.binds md e).map (·.on)
def maskOf (ms : List Nat) : List Nat → Nat
  | [] => 0
  | e :: t => (2 ^ e ||| (match lget ms e with | some m => m | none => 0)) ||| maskOf ms t
/-- What comes ahead of each operation. -/
def masksOf : List Oper → List Nat → List Nat
  | [], acc => acc
  | o :: t, acc => masksOf t (acc ++ [maskOf acc (edgesOf .any o)])
/-- 0: touches no memory; 1: reads, makes memory, calls; 2: writes. -/
def kindOf (o : Op) : Nat :=
  match o with
  | .move _ | .assign _ | .pick .. | .build .. | .nilCheck _ | .binOp .. | .unOp .. | .convert .. | .makeFunc .. | .slice .. | .fieldAddr .. | .field .. | .indexAddr .. | .index .. | .extract .. => 0
  | .call { callee := .builtin b, .. } => match b with
    | .len | .cap | .max | .min => 0
    | _ => 2
  | .alloc _ | .box .. | .buildSlice .. | .load .. | .makeSlice .. | .makeMap .. | .lookup .. | .call _ => 1
  | _ => 2
def readsOf (all : List Oper) (o : Oper) : List Tmp :=
  (o.op.operands.toList.filterMap fun | .tmp t => some t | _ => none) ++
  (match o.guard with
   | some (g, _) => match lget all g with
     | some q => q.dst.toList
     | none => []
   | none => [])
/-- The one lies ahead of the other. -/
def compar (ms : List Nat) (i j : Nat) : Bool :=
  (match lget ms i with | some m => m.testBit j | none => false) || (match lget ms j with | some m => m.testBit i | none => false)
/-- A call that every operation that touches memory lies ahead of or behind may write what they see. -/
def loud (all : List Oper) (i : Nat) (o : Oper) : Bool :=
  match o.op with
  | .call { callee := .value _, .. } => (List.range all.length).all fun j => Nat.beq i j || compar (masksOf all []) i j || (match lget all j with
    | some q => Nat.beq (kindOf q.op) 0
    | none => true)
  | _ => false
def kindAt (all : List Oper) (i : Nat) (o : Oper) : Nat :=
  match loud all i o with
  | true => 2
  | false => kindOf o.op
def pairOk (all : List Oper) (ms : List Nat) (i j : Nat) (o q : Oper) : Bool :=
  Nat.beq i j || compar ms i j ||
  (((match q.dst with | some d => !(readsOf all o).contains d && o.dst != some d | none => true)) &&
   (Nat.beq (kindAt all i o) 0 || Nat.beq (kindAt all j q) 0 || (!(Nat.beq (kindAt all i o) 2) && !(Nat.beq (kindAt all j q) 2))))
def pairsOk (all : List Oper) (ms : List Nat) : Bool :=
  (List.range all.length).all fun i => (List.range all.length).all fun j => match lget all i, lget all j with
    | some o, some q => pairOk all ms i j o q
    | _, _ => false
/-- Everything ahead of an operation stands before it in the text. -/
def backOk (all : List Oper) : Bool :=
  (List.range all.length).all fun i => match lget all i with
    | some o => (edgesOf .any o).all fun e => Nat.ble (e + 1) i
    | none => false
/-- An order in which the mode's edges let all operations through. -/
def orderOk (md : Region.Mode) (all : List Oper) : List Nat → List Nat → Bool
  | [], seen => (List.range all.length).all fun i => seen.contains i
  | i :: t, seen => (match lget all i with
    | some o => (edgesOf md o).all fun e => seen.contains e
    | none => false) && orderOk md all t (i :: seen)
def drawOk (ops : Array Oper) : Bool :=
  pairsOk ops.toList (masksOf ops.toList []) && backOk ops.toList &&
  orderOk .any ops.toList (List.range ops.size) [] && orderOk .text ops.toList (List.range ops.size) [] && orderOk .gc ops.toList (Region.linearise .gc ops 0) []

abbrev Rows' := List (Nat × Row)
def withRows (h : T Row) : Rows' → T Row
  | [] => h
  | (i, r) :: t => withRows (h.set deep i r) t
def withItems (h : T Row) (keep : Nat → Bool) : List (Nat × Rows') → T Row
  | [] => h
  | (i, rows) :: t => match keep i with
    | true => withItems (withRows h rows) keep t
    | false => withItems h keep t
/-- The rows from number n on. -/
def newRows (h : T Row) (n : Nat) : Nat → Rows'
  | 0 => []
  | k + 1 => match h.get n with
    | some r => (n, r) :: newRows h (n + 1) k
    | none => newRows h (n + 1) k
def onlySlots (fr : Fr) : List Tmp → T AV
  | [] => .leaf
  | t :: r => match fr.tmps.get t with
    | some v => (onlySlots fr r).set deep t v
    | none => onlySlots fr r
structure Draw where
  b : T Row
  items : List (Nat × Rows')
  n : Nat
  lo : Nat
  fr : Fr
def drawOne (P : Program) (r : Run) (all : List Oper) (i : Nat) (m : Nat) (o : Oper) (d : Draw) : Option Draw :=
  match kindAt all i o with
  | 0 => match xOne P r all { d.fr with tmps := onlySlots d.fr (readsOf all o) } o { h := .leaf, n := d.n, lo := big } with
    | some (v, s) => match Nat.beq s.n d.n with
      | true => some { d with fr := d.fr.put o.dst v }
      | false => none
    | none => none
  | 1 => match xOne P r all { d.fr with tmps := onlySlots d.fr (readsOf all o) } o { h := withItems d.b (fun j => m.testBit j) d.items, n := d.n, lo := big } with
    | some (v, s) => match Nat.ble d.n s.lo && Nat.ble d.n s.n with
      | true => some { d with items := d.items ++ [(i, newRows s.h d.n (s.n - d.n))], n := s.n, fr := d.fr.put o.dst v }
      | false => none
    | none => none
  | _ => match xOne P r all { d.fr with tmps := onlySlots d.fr (readsOf all o) } o { h := withItems d.b (fun _ => true) d.items, n := d.n, lo := big } with
    | some (v, s) => match Nat.ble d.n s.n with
      | true => some { b := s.h, items := [], n := s.n, lo := Nat.min d.lo s.lo, fr := d.fr.put o.dst v }
      | false => none
    | none => none
def drawRun (P : Program) (r : Run) (all : List Oper) (ms : List Nat) : Nat → List Oper → Draw → Option Draw
  | _, [], d => some d
  | i, o :: t, d => match lget ms i with
    | some m => match drawOne P r all i m o d with
      | some d => drawRun P r all ms (i + 1) t d
      | none => none
    | none => none
def xDraw (P : Program) (r : Run) (ops : Array Oper) (fr : Fr) (s : St) : Option (Out × St) :=
  match drawOk ops with
  | true => match drawRun P r ops.toList (masksOf ops.toList []) 0 ops.toList { b := s.h, items := [], n := s.n, lo := s.lo, fr } with
    | some d => forceNat d.n fun n => forceNat d.lo fun lo => some (.left .normal d.fr, { h := withItems d.b (fun _ => true) d.items, n, lo })
    | none => none
  | false => none
def xCode (P : Program) (r : Run) (rd : Option Nat) (c : Code) (fr : Fr) (s : St) : Option (Out × St) :=
  match c with
  | .skip => some (.left .normal fr, s)
  | .label _ => some (.left .normal fr, s)
  | .region _ ops true => xDraw P r ops fr s
  | .region _ ops false => r (.ops rd ops.toList ops.toList fr) s
  | .seq a b => xSeq r rd b (r (.code rd a fr) s)
  | .cond c a b => xCond r rd a b fr s (fr.eval c)
  | .block id b => xBlock id (r (.code rd b fr) s)
  | .loop b => xSeq r rd (.loop b) (r (.code rd b fr) s)
  | .exit id => some (.left (.exit id) fr, s)
  | .ret => some (.left .ret fr, s)
  | .rangeFunc g ps assign body => xRange r rd ps.toList assign body fr s (fr.eval g)
  | _ => none
def xOps (P : Program) (r : Run) (rd : Option Nat) (all ops : List Oper) (fr : Fr) (s : St) : Option (Out × St) :=
  match ops with
  | [] => some (.left .normal fr, s)
  | o :: rest => match xOne P r all fr o s with
    | none => none
    | some (v, s) => r (.ops rd all rest (fr.put o.dst v)) s
/-- The blocks of the marks are there, and are given up. -/
def dropMarks (s : St) : List Nat → Option St
  | [] => some s
  | d :: t => match hget s.h d with
    | some .dfr => dropMarks (s.put d .dead) t
    | _ => none
/-- The value of a list of results. -/
def outOf : List A1 → AV
  | [v] => .one v
  | vs => .tup vs
/-- Where nothing old was written and no address is handed back the call's own rows are forgotten. -/
def keepH (s0 s : St) (vs : List A1) : T Row :=
  match Nat.ble s0.n s.lo && vs.all A1.plain with
  | true => s0.h
  | false => s.h
def xResults (s0 s : St) (vs : Option (List A1)) : Option (Out × St) :=
  match vs with
  | none => none
  | some vs => forceNat (match Nat.ble s0.lo s.lo with | true => s0.lo | false => s.lo) fun lo => some (.val (outOf vs), { h := keepH s0 s vs, n := s.n, lo })
def xLeave (P : Program) (fn : Func) (s0 : St) (x : Option (Out × St)) : Option (Out × St) :=
  match x with
  | some (.left .normal fr, s) => match dropMarks s fr.dfs with
    | some s => xResults s0 s (resultsOf P s fr fn.results.toList)
    | none => none
  | some (.left .ret fr, s) => match dropMarks s fr.dfs with
    | some s => xResults s0 s (resultsOf P s fr fn.results.toList)
    | none => none
  | _ => none
def xCall (P : Program) (r : Run) (f : FuncId) (args : List AV) (s : St) : Option (Out × St) :=
  match P.funcs[f]? with
  | none => none
  | some fn => match fn.body with
    | none => none
    | some c => match decide (fn.name = "runtime.NumGoroutine") with
      | true => none
      | false => xLeave P fn s (r (.code none c { fn := f, nt := Nat.max fn.ntmps args.length, tmps := T.ofList args, dfs := [] }) { h := s.h, n := s.n, lo := big })
def xRoundEnd (l : Nat) (x : Option (Out × St)) : Option (Out × St) :=
  match x with
  | some (.left e _, s) => match hget s.h l with
    | some (.loop q) => match e with
      | .normal => some (.val (.sc (.bool true)), s.put l (.loop { q with state := .ready, pending := none }))
      | .ret => some (.val (.sc (.bool false)), s.put l (.loop { q with state := .done, pending := some .ret }))
      | .exit id => some (.val (.sc (.bool false)), s.put l (.loop { q with state := .done, pending := some (.exit id) }))
      | .goto t => some (.val (.sc (.bool false)), s.put l (.loop { q with state := .done, pending := some (.goto t) }))
    | _ => none
  | _ => none
def xRoundBody (r : Run) (l : Nat) (body : Code) (x : Option (Out × St)) : Option (Out × St) :=
  match x with
  | some (.left .normal fr, s) => match hget s.h l with
    | some (.loop q) => match q.state with
      | .ready => xRoundEnd l (r (.code (some l) body fr) (s.put l (.loop { q with state := .busy })))
      | _ => none
    | _ => none
  | _ => none
def xRound (r : Run) (l : Nat) (args : List AV) (s : St) : Option (Out × St) :=
  match hget s.h l with
  | some (.loop q) => match q.state, Nat.beq q.params.length args.length with
    | .ready, true => xRoundBody r l q.body (r (.code (some l) q.assign { fn := q.fn, nt := q.nt, tmps := setParams q.nt q.params args q.tmps, dfs := [] }) s)
    | _, _ => none
  | _ => none
def xTask (P : Program) (r : Run) (t : Task) (s : St) : Option (Out × St) :=
  match t with
  | .code rd c fr => xCode P r rd c fr s
  | .ops rd all ops fr => xOps P r rd all ops fr s
  | .call f args => xCall P r f args s
  | .round l args => xRound r l args s
def exec (P : Program) (k : Nat) : Run := Nat.rec (fun _ _ => none) (fun _ r => xTask P r) k

end
end Go.Ax

/- The relation between a symbolic state and a world, and what a symbolic step keeps. -/
namespace Go.Ax
open Go

theorem forceNat_eq {α : Type} (n : Nat) (k : Nat → α) : forceNat n k = k n := by cases n <;> rfl
theorem T.force_eq {α β : Type} (t : T α) (k : T α → β) : t.force k = k t := by cases t <;> rfl
theorem T.get_leaf {α : Type} (n : Nat) : (T.leaf : T α).get n = none := rfl

/-! #### The tree of eights, plainly -/
def N.at {β : Type} (t : N β) : Nat → β
  | 0 => t.a | 1 => t.b | 2 => t.c | 3 => t.d | 4 => t.e | 5 => t.f | 6 => t.g | _ => t.h
def N.put {β : Type} (t : N β) (n : Nat) (x : β) : N β :=
  match n with
  | 0 => { t with a := x } | 1 => { t with b := x } | 2 => { t with c := x } | 3 => { t with d := x } | 4 => { t with e := x } | 5 => { t with f := x } | 6 => { t with g := x } | _ => { t with h := x }
theorem N.at_put {β : Type} (t : N β) (x : β) : ∀ n m, n < 8 → m < 8 → (t.put n x).at m = if m = n then x else t.at m := by
  intro n m hn hm
  match n, hn with
  | 0, _ | 1, _ | 2, _ | 3, _ | 4, _ | 5, _ | 6, _ | 7, _ =>
    match m, hm with
    | 0, _ | 1, _ | 2, _ | 3, _ | 4, _ | 5, _ | 6, _ | 7, _ => rfl
theorem p1_eq {β : Type} (n : Nat) (t : N β) : (P1.rec (fun p => p t) (p1 n : P1 β) : β) = t.at n := by
  match n with
  | 0 | 1 | 2 | 3 | 4 | 5 | 6 | _ + 7 => rfl
theorem u1_eq {β α : Type} (n : Nat) (t : N β) (k : β → (β → T α) → T α) (q : N β → T α) : (U1.rec (fun u => u t k q) (u1 n : U1 β α) : T α) = k (t.at n) fun x => q (t.put n x) := by
  match n with
  | 0 | 1 | 2 | 3 | 4 | 5 | 6 | _ + 7 => rfl
def D.n {α : Type} {k : Nat} (t : D α (k + 1)) : N (D α k) := t
def D.mk {α : Type} {k : Nat} (t : N (D α k)) : D α (k + 1) := t
def dget {α : Type} : (k : Nat) → Nat → D α k → Option α
  | 0, _, x => x
  | k + 1, n, t => dget k (n % 8 ^ k) (t.n.at (n / 8 ^ k))
def dset {α : Type} : (k : Nat) → Nat → D α k → α → D α k
  | 0, _, _, v => some v
  | k + 1, n, t, v => D.mk (t.n.put (n / 8 ^ k) (dset k (n % 8 ^ k) (t.n.at (n / 8 ^ k)) v))
theorem getD_step {α β : Type} (p : P1 β) (g : GD β α) (t : N β) : (GD.rec (fun g => g t) (P1.rec (fun p => GD.rec (fun g => .mk fun t => g (p t)) g) p : GD (N β) α) : Option α) = GD.rec (fun g => g (P1.rec (fun p => p t) p)) g := by
  cases p; cases g; rfl
theorem getD_eq {α : Type} : ∀ (k n : Nat) (x : D α k), (GD.rec (fun g => g x) (getD k n : GD (D α k) α) : Option α) = dget k n x
  | 0, _, _ => rfl
  | k + 1, n, t => (getD_step (p1 (n / 8 ^ k)) (getD k (n % 8 ^ k)) t).trans ((getD_eq k (n % 8 ^ k) _).trans (congrArg (dget k (n % 8 ^ k)) (p1_eq (n / 8 ^ k) t.n)))
theorem setD_step {α β : Type} (u : U1 β α) (s : SD β α) (t : N β) (v : α) (c : N β → T α) : (SD.rec (fun s => s t v c) (U1.rec (fun u => SD.rec (fun s => .mk fun t v c => u t (fun b q => s b v q) c) s) u : SD (N β) α) : T α) =
    U1.rec (fun u => u t (fun b q => SD.rec (fun s => s b v q) s) c) u := by
  cases u; cases s; rfl
theorem setD_eq {α : Type} : ∀ (k n : Nat) (x : D α k) (v : α) (c : D α k → T α), (SD.rec (fun s => s x v c) (setD k n : SD (D α k) α) : T α) = c (dset k n x v)
  | 0, _, _, _, _ => rfl
  | k + 1, n, t, v, c => (setD_step (u1 (n / 8 ^ k)) (setD k (n % 8 ^ k)) t v c).trans ((u1_eq (n / 8 ^ k) t.n _ _).trans (setD_eq k (n % 8 ^ k) _ v _))
theorem pow_div {n k : Nat} (h : n < 8 ^ (k + 1)) : n / 8 ^ k < 8 := by
  rw [Nat.pow_succ] at h
  exact (Nat.div_lt_iff_lt_mul (Nat.pow_pos (by decide))).2 (by rw [Nat.mul_comm]; exact h)
theorem dget_dset {α : Type} (v : α) : ∀ (k n m : Nat) (x : D α k), n < 8 ^ k → m < 8 ^ k → dget k m (dset k n x v) = if m = n then some v else dget k m x
  | 0, n, m, x, hn, hm => by
    have : m = n := by simp at hn hm; omega
    rw [if_pos this]; rfl
  | k + 1, n, m, t, hn, hm => by
    have hp : 0 < 8 ^ k := Nat.pow_pos (by decide)
    simp only [dget, dset]
    have hdn : ∀ x : N (D α k), (D.mk x).n = x := fun _ => rfl
    rw [hdn, N.at_put _ _ _ _ (pow_div hn) (pow_div hm)]
    by_cases hd : m / 8 ^ k = n / 8 ^ k
    · rw [if_pos hd, dget_dset v k _ _ _ (Nat.mod_lt _ hp) (Nat.mod_lt _ hp)]
      by_cases hm' : m % 8 ^ k = n % 8 ^ k
      · have : m = n := by rw [← Nat.div_add_mod m (8 ^ k), ← Nat.div_add_mod n (8 ^ k), hd, hm']
        rw [if_pos hm', if_pos this]
      · rw [if_neg hm', if_neg (fun e => hm' (by rw [e])), hd]
    · rw [if_neg hd, if_neg (fun e => hd (by rw [e]))]
def tget {α : Type} (k n : Nat) (x : D α k) : Option α := if n < 8 ^ k then dget k n x else none
theorem ble_succ (a b : Nat) : Nat.ble (Nat.succ a) b = decide (a < b) := by
  by_cases h : a < b
  · rw [decide_eq_true h]; exact Nat.ble_eq_true_of_le h
  · rw [decide_eq_false h]; cases hb : Nat.ble (Nat.succ a) b
    · rfl
    · exact absurd (Nat.le_of_ble_eq_true hb) h
theorem T.get_t {α : Type} (k n : Nat) (x : D α k) : (T.tree k x).get n = tget k n x := by
  show (GD.rec (fun g => g x) (Bool.rec (.mk fun _ => none) (getD k n) (Nat.ble (Nat.succ n) (8 ^ k)) : GD (D α k) α) : Option α) = _
  rw [ble_succ]; unfold tget
  by_cases h : n < 8 ^ k
  · rw [if_pos h, decide_eq_true h]; exact getD_eq k n x
  · rw [if_neg h, decide_eq_false h]
theorem dget_empty {α : Type} : ∀ (k n : Nat), dget k n (emptyD k : D α k) = none
  | 0, _ => rfl
  | k + 1, n => by
    have : (emptyD (k + 1) : D α (k + 1)).n.at (n / 8 ^ k) = emptyD k := by
      generalize n / 8 ^ k = i
      match i with
      | 0 | 1 | 2 | 3 | 4 | 5 | 6 | _ + 7 => rfl
    rw [dget, this, dget_empty k]
/-- What a write gives. -/
theorem setT_get {α : Type} (v : α) (n j : Nat) (y : α) : ∀ (f k : Nat) (x : D α k), (ST.rec (fun s => s x v) (setT f k n : ST (D α k) α) : T α).get j = some y → (j = n ∧ y = v) ∨ (j ≠ n ∧ tget k j x = some y)
  | 0, k, x, h => by cases h
  | f + 1, k, x, h => by
    by_cases hn : n < 8 ^ k
    · have e : (ST.rec (fun s => s x v) (setT (f + 1) k n : ST (D α k) α) : T α) = .tree k (dset k n x v) := by
        show (ST.rec (fun s => s x v) (Bool.rec (ST.rec (fun s => .mk fun x v => s (N.mk x (emptyD k) (emptyD k) (emptyD k) (emptyD k) (emptyD k) (emptyD k) (emptyD k)) v) (setT f (k + 1) n))
          (SD.rec (fun s => .mk fun x v => s x v fun y => .tree k y) (setD k n)) (Nat.ble (Nat.succ n) (8 ^ k)) : ST (D α k) α) : T α) = _
        rw [ble_succ, decide_eq_true hn, ← setD_eq k n x v (fun y => .tree k y)]
      rw [e, T.get_t] at h
      unfold tget at h ⊢
      split at h
      · rename_i hj
        rw [dget_dset v k n j x hn hj] at h
        split at h
        · rename_i hjn; exact .inl ⟨hjn, by injection h with h; exact h.symm⟩
        · rename_i hjn; exact .inr ⟨hjn, by rw [if_pos hj]; exact h⟩
      · cases h
    · have e : (ST.rec (fun s => s x v) (setT (f + 1) k n : ST (D α k) α) : T α) = (ST.rec (fun s => s (N.mk x (emptyD k) (emptyD k) (emptyD k) (emptyD k) (emptyD k) (emptyD k) (emptyD k)) v) (setT f (k + 1) n : ST (D α (k + 1)) α) : T α) := by
        show (ST.rec (fun s => s x v) (Bool.rec (ST.rec (fun s => .mk fun x v => s (N.mk x (emptyD k) (emptyD k) (emptyD k) (emptyD k) (emptyD k) (emptyD k) (emptyD k)) v) (setT f (k + 1) n))
          (SD.rec (fun s => .mk fun x v => s x v fun y => .tree k y) (setD k n)) (Nat.ble (Nat.succ n) (8 ^ k)) : ST (D α k) α) : T α) = _
        rw [ble_succ, decide_eq_false hn]
        generalize (setT f (k + 1) n : ST (D α (k + 1)) α) = s
        cases s; rfl
      rw [e] at h
      rcases setT_get v n j y f (k + 1) _ h with h | ⟨h1, h2⟩
      · exact .inl h
      · refine .inr ⟨h1, ?_⟩
        unfold tget at h2 ⊢
        split at h2
        · rename_i hj
          change dget k (j % 8 ^ k) ((D.n (k := k) (N.mk x (emptyD k) (emptyD k) (emptyD k) (emptyD k) (emptyD k) (emptyD k) (emptyD k))).at (j / 8 ^ k)) = _ at h2
          by_cases hjk : j < 8 ^ k
          · rw [if_pos hjk]
            rw [Nat.div_eq_of_lt hjk, Nat.mod_eq_of_lt hjk] at h2; exact h2
          · exfalso
            have h0 : j / 8 ^ k ≠ 0 := fun e => by
              have hp : 0 < 8 ^ k := Nat.pow_pos (by decide)
              have := Nat.div_pos (by omega : 8 ^ k ≤ j) hp
              omega
            have : (D.n (k := k) (N.mk x (emptyD k) (emptyD k) (emptyD k) (emptyD k) (emptyD k) (emptyD k) (emptyD k))).at (j / 8 ^ k) = emptyD k := by
              generalize j / 8 ^ k = i at h0
              match i with
              | 0 => exact absurd rfl h0
              | 1 | 2 | 3 | 4 | 5 | 6 | _ + 7 => rfl
            rw [this, dget_empty] at h2; cases h2
        · cases h2
theorem T.get_set {α : Type} (x : α) (d : Nat) (t : T α) (n j : Nat) (y : α) (h : (t.set d n x).get j = some y) : (j = n ∧ y = x) ∨ (j ≠ n ∧ t.get j = some y) := by
  cases t with
  | leaf =>
    rcases setT_get x n j y d 0 none h with h | ⟨h1, h2⟩
    · exact .inl h
    · unfold tget at h2; split at h2 <;> cases h2
  | tree k z =>
    rcases setT_get x n j y d k z h with h | ⟨h1, h2⟩
    · exact .inl h
    · exact .inr ⟨h1, by rw [T.get_t]; exact h2⟩
theorem T.sets_nil {α : Type} (t : T α) (n : Nat) : t.sets n [] = t := rfl
theorem T.sets_cons {α : Type} (t : T α) (n : Nat) (x : α) (l : List α) : t.sets n (x :: l) = (t.set deep n x).sets (n + 1) l := by
  show (t.set deep n x).force (fun t => forceNat (Nat.succ n) fun n => t.sets n l) = _
  rw [T.force_eq, forceNat_eq]
theorem T.get_sets {α : Type} : ∀ (l : List α) (t : T α) (n j : Nat) (y : α), (t.sets n l).get j = some y →
    (n ≤ j ∧ l[j - n]? = some y) ∨ ((j < n ∨ n + l.length ≤ j) ∧ t.get j = some y)
  | [], t, n, j, y, h => .inr ⟨by simp; omega, h⟩
  | x :: l, t, n, j, y, h => by
    rw [T.sets_cons] at h
    rcases T.get_sets l _ _ j y h with ⟨h1, h2⟩ | ⟨h1, h2⟩
    · refine .inl ⟨by omega, ?_⟩
      rw [show j - n = (j - (n + 1)) + 1 from by omega]; simpa using h2
    · rcases T.get_set x _ _ _ _ _ h2 with ⟨rfl, rfl⟩ | ⟨h3, h4⟩
      · exact .inl ⟨Nat.le_refl _, by simp⟩
      · refine .inr ⟨?_, h4⟩
        simp only [List.length_cons]; omega
theorem forceInt_eq {α : Type} (n : Int) (k : Int → α) : forceInt n k = k n := by
  cases n with
  | ofNat a => exact forceNat_eq a fun a => k (.ofNat a)
  | negSucc a => exact forceNat_eq a fun a => k (.negSucc a)
theorem lget_eq {α : Type} : ∀ (l : List α) (n : Nat), lget l n = l[n]?
  | [], n => by simp; rfl
  | x :: t, 0 => rfl
  | x :: t, n + 1 => by show lget t n = _; rw [lget_eq t n]; simp

/-! ### Values -/
/-- Where the rows lie, how many cells an open row has. -/
structure Pl where
  ρ : Nat → Nat
  κ : Nat → Nat
  ok : Nat → Prop
  /-- The package variables are rows of their own numbers. -/
  gl : ∀ i, i < 8 → ok i ∧ ρ i = i
/-- A number that is given away. -/
def Pl.has (p : Pl) (n i : Nat) : Prop := i < n ∧ p.ok i
def Pl.fits (p q : Pl) (n : Nat) : Prop := ∀ i, p.has n i → q.ok i ∧ q.ρ i = p.ρ i ∧ q.κ i = p.κ i
theorem Pl.fits.has {p q : Pl} {n m i : Nat} (h : p.fits q n) (hnm : n ≤ m) (hi : p.has n i) : q.has m i := ⟨Nat.lt_of_lt_of_le hi.1 hnm, (h i hi).1⟩

def Pl.at (p : Pl) (i o : Nat) : Value := .pointer (some ⟨p.ρ i, o, none⟩)

def Sc.is (p : Pl) (n : Nat) : Sc → Value → Prop
  | .bool b, v => v = .bool b
  | .int k x, v => v = .int k x
  | .str z, v => v = .string z
  | .ptr i o, v => p.has n i ∧ v = p.at i o
  | .nilp, v => v = .pointer none
  | .slc i o len cap, v => p.has n i ∧ len ≤ cap ∧ v = .slice (some ⟨p.ρ i, o, none⟩) len cap
  | .slo i o len size, v => p.has n i ∧ ∃ c, len ≤ c ∧ o + c * size = p.κ i ∧ v = .slice (some ⟨p.ρ i, o, none⟩) len c
  | .nils, v => v = .slice none 0 0
  | .fn f cs, v => (∀ x ∈ cs, p.has n x.1) ∧ v = .func (.func f) #[] (cs.map fun x => p.at x.1 x.2).toArray
  | .yld l, v => p.has n l ∧ v = .func (.yield (p.ρ l)) #[] #[]
  | .nilf, v => v = .nilFunc
  | .mp i, v => p.has n i ∧ v = .map (some (p.ρ i))
  | .nilm, v => v = .map none

theorem Sc.is.fits {p q : Pl} {n m : Nat} (h : p.fits q n) (hnm : n ≤ m) {s : Sc} {v : Value} (hs : s.is p n v) : s.is q m v := by
  cases s with
  | ptr i o => exact ⟨h.has hnm hs.1, by rw [hs.2]; simp only [Pl.at, (h i hs.1).2.1]⟩
  | slc i o len cap => exact ⟨h.has hnm hs.1, hs.2.1, by rw [hs.2.2]; simp only [(h i hs.1).2.1]⟩
  | slo i o len size =>
    obtain ⟨h1, c, h2, h3, h4⟩ := hs
    exact ⟨h.has hnm h1, c, h2, by rw [(h i h1).2.2]; exact h3, by rw [h4]; simp only [(h i h1).2.1]⟩
  | fn f cs =>
    refine ⟨fun x hx => h.has hnm (hs.1 x hx), ?_⟩
    rw [hs.2]
    congr 2
    exact List.map_congr_left fun x hx => by simp only [Pl.at, (h _ (hs.1 x hx)).2.1]
  | yld l => exact ⟨h.has hnm hs.1, by rw [hs.2]; simp only [(h l hs.1).2.1]⟩
  | mp i => exact ⟨h.has hnm hs.1, by rw [hs.2]; simp only [(h i hs.1).2.1]⟩
  | _ => exact hs

def ScL.is (p : Pl) (n : Nat) : List Sc → List Value → Prop
  | [], [] => True
  | s :: t, v :: u => s.is p n v ∧ ScL.is p n t u
  | _, _ => False
theorem ScL.is.fits {p q : Pl} {n m : Nat} (h : p.fits q n) (hnm : n ≤ m) : ∀ {l : List Sc} {u : List Value}, ScL.is p n l u → ScL.is q m l u
  | [], [], _ => trivial
  | _ :: _, _ :: _, hs => ⟨hs.1.fits h hnm, ScL.is.fits h hnm hs.2⟩
  | [], _ :: _, hs => hs.elim
  | _ :: _, [], hs => hs.elim
theorem ScL.is.length {p : Pl} {n : Nat} : ∀ {l : List Sc} {u : List Value}, ScL.is p n l u → u.length = l.length
  | [], [], _ => rfl
  | _ :: _, _ :: _, hs => by simp [ScL.is.length hs.2]
  | [], _ :: _, hs => hs.elim
  | _ :: _, [], hs => hs.elim
theorem ScL.is.get {p : Pl} {n : Nat} : ∀ {l : List Sc} {u : List Value}, ScL.is p n l u → ∀ (j : Nat) (s : Sc), l[j]? = some s → ∃ v, u[j]? = some v ∧ s.is p n v
  | _ :: _, v :: _, hs, 0, s, hj => ⟨v, rfl, by simp at hj; exact hj ▸ hs.1⟩
  | _ :: _, _ :: _, hs, j + 1, s, hj => by simpa using ScL.is.get hs.2 j s (by simpa using hj)
  | [], [], _, j, s, hj => by simp at hj
  | [], _ :: _, hs, _, _, _ => hs.elim
  | _ :: _, [], hs, _, _, _ => hs.elim
theorem ScL.is.append {p : Pl} {n : Nat} : ∀ {l : List Sc} {u : List Value} {l' : List Sc} {u' : List Value}, ScL.is p n l u → ScL.is p n l' u' → ScL.is p n (l ++ l') (u ++ u')
  | [], [], _, _, _, h' => h'
  | _ :: _, _ :: _, _, _, hs, h' => ⟨hs.1, ScL.is.append hs.2 h'⟩
  | [], _ :: _, _, _, hs, _ => hs.elim
  | _ :: _, [], _, _, hs, _ => hs.elim

def A1.is (p : Pl) (n : Nat) : A1 → Value → Prop
  | .sc s, v => s.is p n v
  | .agg l, v => ∃ cs : Array Value, v = .agg cs ∧ ScL.is p n l cs.toList
theorem A1.is.fits {p q : Pl} {n m : Nat} (h : p.fits q n) (hnm : n ≤ m) {a : A1} {v : Value} (hs : a.is p n v) : a.is q m v := by
  cases a with
  | sc s => exact Sc.is.fits h hnm hs
  | agg l => obtain ⟨cs, hv, hc⟩ := hs; exact ⟨cs, hv, hc.fits h hnm⟩
def A1L.is (p : Pl) (n : Nat) : List A1 → List Value → Prop
  | [], [] => True
  | s :: t, v :: u => s.is p n v ∧ A1L.is p n t u
  | _, _ => False
theorem A1L.is.fits {p q : Pl} {n m : Nat} (h : p.fits q n) (hnm : n ≤ m) : ∀ {l : List A1} {u : List Value}, A1L.is p n l u → A1L.is q m l u
  | [], [], _ => trivial
  | _ :: _, _ :: _, hs => ⟨hs.1.fits h hnm, A1L.is.fits h hnm hs.2⟩
  | [], _ :: _, hs => hs.elim
  | _ :: _, [], hs => hs.elim
theorem A1L.is.get {p : Pl} {n : Nat} : ∀ {l : List A1} {u : List Value}, A1L.is p n l u → ∀ (j : Nat) (s : A1), l[j]? = some s → ∃ v, u[j]? = some v ∧ s.is p n v
  | _ :: _, v :: _, hs, 0, s, hj => ⟨v, rfl, by simp at hj; exact hj ▸ hs.1⟩
  | _ :: _, _ :: _, hs, j + 1, s, hj => by simpa using A1L.is.get hs.2 j s (by simpa using hj)
  | [], [], _, j, s, hj => by simp at hj
  | [], _ :: _, hs, _, _, _ => hs.elim
  | _ :: _, [], hs, _, _, _ => hs.elim
def AV.is (p : Pl) (n : Nat) : AV → Value → Prop
  | .one a, v => a.is p n v
  | .tup l, v => ∃ vs : Array Value, v = .tuple vs ∧ A1L.is p n l vs.toList
theorem AV.is.fits {p q : Pl} {n m : Nat} (h : p.fits q n) (hnm : n ≤ m) {a : AV} {v : Value} (hs : a.is p n v) : a.is q m v := by
  cases a with
  | one s => exact A1.is.fits h hnm hs
  | tup l => obtain ⟨cs, hv, hc⟩ := hs; exact ⟨cs, hv, hc.fits h hnm⟩
theorem AV.undef_is (p : Pl) (n : Nat) : AV.undef.is p n Go.undef := ⟨#[], rfl, trivial⟩

theorem Sc.is.one {p : Pl} {n : Nat} {s : Sc} {v : Value} (h : s.is p n v) : v.oneCell' = true := by
  cases s <;> simp only [Sc.is] at h
  case slo => obtain ⟨_, c, _, _, rfl⟩ := h; rfl
  all_goals first
    | (subst h; rfl)
    | (obtain ⟨_, rfl⟩ := h; rfl)
    | (obtain ⟨_, _, rfl⟩ := h; rfl)
theorem Sc.is.cells {p : Pl} {n : Nat} {s : Sc} {v : Value} (h : s.is p n v) : v.cells = #[v] := by
  have := h.one
  cases v <;> first | rfl | simp [Value.oneCell'] at this
theorem A1.is.cells {p : Pl} {n : Nat} {a : A1} {v : Value} (h : a.is p n v) : ScL.is p n a.cells v.cells.toList := by
  cases a with
  | sc s => rw [Sc.is.cells (s := s) h]; exact ⟨h, trivial⟩
  | agg l => obtain ⟨cs, rfl, hc⟩ := h; exact hc
theorem ScL.is.one {p : Pl} {n : Nat} : ∀ {l : List Sc} {u : List Value}, ScL.is p n l u → ∀ v ∈ u, v.oneCell' = true
  | [], [], _, v, hv => by simp at hv
  | _ :: _, w :: _, hs, v, hv => by
    rcases List.mem_cons.1 hv with rfl | hv
    · exact hs.1.one
    · exact ScL.is.one hs.2 v hv
  | [], _ :: _, hs, _, _ => hs.elim
  | _ :: _, [], hs, _, _ => hs.elim

/-! ### Rows, worlds -/
def LoopRow.is (p : Pl) (n : Nat) (r : LoopRow) (l : Loop) : Prop :=
  l.state = r.state ∧ l.pending = r.pending ∧ l.params.toList = r.params ∧ l.assign = r.assign ∧ l.body = r.body ∧ l.tmps.size = r.nt ∧ l.defers = p.ρ r.dfr ∧ p.has n r.dfr ∧
  ∀ t v, r.tmps.get t = some v → ∃ u, l.tmps[t]? = some u ∧ v.is p n u
/-- A map's entries. -/
def EntL.is (p : Pl) (n : Nat) : List (Sc × A1) → List MapEntry → Prop
  | [], [] => True
  | x :: l, e :: u => x.1.is p n e.key ∧ x.2.is p n e.val ∧ EntL.is p n l u
  | _, _ => False
theorem EntL.is.fits {p q : Pl} {n m : Nat} (h : p.fits q n) (hnm : n ≤ m) : ∀ {l : List (Sc × A1)} {u : List MapEntry}, EntL.is p n l u → EntL.is q m l u
  | [], [], _ => trivial
  | _ :: _, _ :: _, hs => ⟨hs.1.fits h hnm, hs.2.1.fits h hnm, EntL.is.fits h hnm hs.2.2⟩
  | [], _ :: _, hs => hs.elim
  | _ :: _, [], hs => hs.elim
theorem EntL.is.length {p : Pl} {n : Nat} : ∀ {l : List (Sc × A1)} {u : List MapEntry}, EntL.is p n l u → u.length = l.length
  | [], [], _ => rfl
  | _ :: _, _ :: _, hs => by simp [EntL.is.length hs.2.2]
  | [], _ :: _, hs => hs.elim
  | _ :: _, [], hs => hs.elim
theorem EntL.is.snoc {p : Pl} {n : Nat} {x : Sc × A1} {e : MapEntry} (hx : x.1.is p n e.key) (hy : x.2.is p n e.val) : ∀ {l : List (Sc × A1)} {u : List MapEntry}, EntL.is p n l u → EntL.is p n (l ++ [x]) (u ++ [e])
  | [], [], _ => ⟨hx, hy, trivial⟩
  | _ :: _, _ :: _, hs => ⟨hs.1, hs.2.1, EntL.is.snoc hx hy hs.2.2⟩
  | [], _ :: _, hs => hs.elim
  | _ :: _, [], hs => hs.elim
theorem EntL.is.set {p : Pl} {n : Nat} {x : Sc × A1} {e : MapEntry} (hx : x.1.is p n e.key) (hy : x.2.is p n e.val) : ∀ {l : List (Sc × A1)} {u : List MapEntry} (j : Nat), EntL.is p n l u → EntL.is p n (lset l j x) (u.set j e)
  | [], [], _, _ => trivial
  | _ :: _, _ :: _, 0, hs => ⟨hx, hy, hs.2.2⟩
  | _ :: _, _ :: _, _ + 1, hs => ⟨hs.1, hs.2.1, EntL.is.set hx hy _ hs.2.2⟩
  | [], _ :: _, _, hs => hs.elim
  | _ :: _, [], _, hs => hs.elim
/-- None of a row's cells is frozen: what is, lies behind them. -/
def NoFz (fz : Nat × Nat) (n : Nat) : Prop := ∀ j, j < n → ¬ (fz.1 ≤ j ∧ j < fz.2)
def IsRow (o : Option Obj) (cs : Array Value) (e : TypeId) : Prop := ∃ fz, o = some (.cells cs e fz) ∧ NoFz fz cs.size
theorem IsRow.plain {cs : Array Value} {e : TypeId} : IsRow (some (.cells cs e)) cs e := ⟨(0, 0), rfl, fun j _ h => by simp at h⟩
theorem IsRow.resized {cs cs' : Array Value} {e : TypeId} {fz : Nat × Nat} (h : NoFz fz cs.size) (hs : cs'.size = cs.size) : IsRow (some (.cells cs' e fz)) cs' e := ⟨fz, rfl, by rw [hs]; exact h⟩
def Row.is (p : Pl) (n i : Nat) : Row → Option Obj → Prop
  | .cells e exact len c, o => ∃ cs : Array Value, IsRow o cs e ∧ len ≤ cs.size ∧ (exact = true → cs.size = len) ∧ (exact = false → cs.size = p.κ i) ∧ (∀ j s, c.get j = some s → j < len) ∧
    ∀ j s, c.get j = some s → ∃ v, cs[j]? = some v ∧ s.is p n v
  | .loop r, o => ∃ l : Loop, o = some (.loop l) ∧ r.is p n l
  | .dfr, o => o = some (.deferred (some []))
  | .dead, _ => True
  | .map es clock, o => ∃ es' : Array MapEntry, o = some (.map es' clock) ∧ EntL.is p n es es'.toList
def Row.live : Row → Bool
  | .dead => false
  | _ => true
theorem Row.is.fits {p q : Pl} {n m i : Nat} (h : p.fits q n) (hnm : n ≤ m) (hi : p.has n i) {r : Row} {o : Option Obj} (hr : r.is p n i o) : r.is q m i o := by
  cases r with
  | cells e x len c =>
    obtain ⟨cs, h1, h2, h3, h4, h4', h5⟩ := hr
    exact ⟨cs, h1, h2, h3, fun e => by rw [(h i hi).2.2]; exact h4 e, h4', fun j s hj => let ⟨v, a, b⟩ := h5 j s hj; ⟨v, a, b.fits h hnm⟩⟩
  | loop r =>
    obtain ⟨l, h1, a, b, c, d, e, f, g, g', k⟩ := hr
    exact ⟨l, h1, a, b, c, d, e, f, by rw [(h _ g').2.1]; exact g, h.has hnm g', fun t v ht => let ⟨u, x, y⟩ := k t v ht; ⟨u, x, y.fits h hnm⟩⟩
  | dfr => exact hr
  | dead => trivial
  | map es clock =>
    obtain ⟨es', h1, h2⟩ := hr
    exact ⟨es', h1, h2.fits h hnm⟩

def St.live (s : St) (i : Nat) : Prop := ∃ r, s.h.get i = some r ∧ r.live = true

/-- The world is as the state says; the call's own blocks begin at B. -/
structure Rel (B : Nat) (p : Pl) (s : St) (w : World) : Prop where
  row : ∀ i r, s.h.get i = some r → r.live = true → p.has s.n i ∧ B ≤ p.ρ i ∧ p.ρ i < w.heap.size ∧ r.is p s.n i w.heap[p.ρ i]?
  inj : ∀ i j, s.live i → s.live j → p.ρ i = p.ρ j → i = j
  n8 : 8 ≤ s.n

/-- What a step keeps. -/
structure Post (B : Nat) (p : Pl) (s : St) (w : World) (q : Pl) (s' : St) (w' : World) : Prop where
  base : Rel B p s w
  le : s.n ≤ s'.n
  lo : s'.lo ≤ s.lo
  fits : p.fits q s.n
  back : ∀ i, i < s.n → q.ok i → p.ok i
  rel : Rel B q s' w'
  size : w.heap.size ≤ w'.heap.size
  keep : ∀ b, b < w.heap.size → (∀ i, s'.lo ≤ i → s.live i → p.ρ i ≠ b) → w'.heap[b]? = w.heap[b]?
  new : ∀ i, s.n ≤ i → s'.live i → w.heap.size ≤ q.ρ i ∨ ∃ j, s'.lo ≤ j ∧ s.live j ∧ q.ρ i = p.ρ j
  old : ∀ i, i < s.n → s'.live i → s.live i
  os : w'.os = w.os
  tape : w'.tape = w.tape
  output : w'.output = w.output

theorem Rel.has {B : Nat} {p : Pl} {s : St} {w : World} (h : Rel B p s w) {i : Nat} (hi : s.live i) : p.has s.n i := let ⟨r, a, b⟩ := hi; (h.row i r a b).1
theorem Rel.lt {B : Nat} {p : Pl} {s : St} {w : World} (h : Rel B p s w) {i : Nat} (hi : s.live i) : i < s.n := (h.has hi).1
theorem Rel.place {B : Nat} {p : Pl} {s : St} {w : World} (h : Rel B p s w) {i : Nat} (hi : s.live i) : B ≤ p.ρ i ∧ p.ρ i < w.heap.size := let ⟨r, a, b⟩ := hi; ⟨(h.row i r a b).2.1, (h.row i r a b).2.2.1⟩

theorem Post.refl {B : Nat} {p : Pl} {s : St} {w : World} (h : Rel B p s w) : Post B p s w p s w :=
  ⟨h, Nat.le_refl _, Nat.le_refl _, fun _ h => ⟨h.2, rfl, rfl⟩, fun _ _ h => h, h, Nat.le_refl _, fun _ _ _ => rfl, fun i hi hl => absurd (h.lt hl) (by omega), fun _ _ h => h, rfl, rfl, rfl⟩

theorem Post.trans {B : Nat} {p q r : Pl} {s s' s'' : St} {w w' w'' : World} (h : Post B p s w q s' w') (k : Post B q s' w' r s'' w'') : Post B p s w r s'' w'' where
  base := h.base
  le := Nat.le_trans h.le k.le
  lo := Nat.le_trans k.lo h.lo
  fits i hi := let hi' := h.fits.has h.le hi; ⟨(k.fits i hi').1, (k.fits i hi').2.1.trans (h.fits i hi).2.1, (k.fits i hi').2.2.trans (h.fits i hi).2.2⟩
  back i hi ho := h.back i hi (k.back i (by have := h.le; omega) ho)
  rel := k.rel
  size := Nat.le_trans h.size k.size
  keep b hb hn := by
    rw [k.keep b (by have := h.size; omega) ?_]
    · exact h.keep b hb fun i hi hl => hn i (by have := k.lo; omega) hl
    · intro i hi hl e
      by_cases hlt : i < s.n
      · exact hn i hi (h.old i hlt hl) (by rw [← (h.fits i (h.base.has (h.old i hlt hl))).2.1]; exact e)
      · rcases h.new i (by omega) hl with hx | ⟨j, hj, hjl, hje⟩
        · omega
        · exact hn j (by have := k.lo; omega) hjl (by rw [← hje]; exact e)
  new i hi hl := by
    by_cases hlt : i < s'.n
    · have hl' := k.old i hlt hl
      rw [(k.fits i (h.rel.has hl')).2.1]
      rcases h.new i hi hl' with hx | ⟨j, hj, hjl, hje⟩
      · exact .inl hx
      · exact .inr ⟨j, by have := k.lo; omega, hjl, hje⟩
    · rcases k.new i (by omega) hl with hx | ⟨j, hj, hjl, hje⟩
      · exact .inl (by have := h.size; omega)
      · by_cases hjn : j < s.n
        · exact .inr ⟨j, hj, h.old j hjn hjl, by rw [hje, (h.fits j (h.base.has (h.old j hjn hjl))).2.1]⟩
        · rcases h.new j (by omega) hjl with hx | ⟨j', hj', hjl', hje'⟩
          · exact .inl (by rw [hje]; exact hx)
          · exact .inr ⟨j', by have := k.lo; omega, hjl', by rw [hje, hje']⟩
  old i hi hl := h.old i hi (k.old i (by have := h.le; omega) hl)
  os := k.os.trans h.os
  tape := k.tape.trans h.tape
  output := k.output.trans h.output

theorem Post.below {B : Nat} {p q : Pl} {s s' : St} {w w' : World} (h : Post B p s w q s' w') (hr : Rel B p s w) (hB : B ≤ w.heap.size) : ∀ b, b < B → w'.heap[b]? = w.heap[b]? :=
  fun b hb => h.keep b (by omega) fun _ _ hl e => by have := (hr.place hl).1; omega

theorem St.new_eq (s : St) (r : Row) : s.new r = { h := s.h.set deep s.n r, n := s.n + 1, lo := s.lo } := by
  unfold St.new; rw [forceNat_eq]
theorem St.put_eq (s : St) (i : Nat) (r : Row) : s.put i r = { h := s.h.set deep i r, n := s.n, lo := min i s.lo } := by
  unfold St.put
  rw [forceNat_eq]
  cases h : Nat.ble i s.lo
  · have : ¬ i ≤ s.lo := fun e => by rw [Nat.ble_eq_true_of_le e] at h; cases h
    simp only [Nat.min_def, if_neg this]
  · have : i ≤ s.lo := Nat.le_of_ble_eq_true h
    simp only [Nat.min_def, if_pos this]
theorem St.row_eq (s : St) (e : TypeId) (x : Bool) (c : List Sc) : s.row e x c = s.new (.cells e x c.length (T.ofList c)) := by
  unfold St.row; rw [forceNat_eq]

def Pl.set (p : Pl) (i b k : Nat) : Pl := { ρ := fun j => if j = i ∧ 8 ≤ i then b else p.ρ j, κ := fun j => if j = i then k else p.κ j, ok := fun j => j = i ∨ p.ok j, gl := fun j hj => ⟨.inr (p.gl j hj).1, by rw [if_neg (by omega)]; exact (p.gl j hj).2⟩ }
theorem Pl.set_fits (p : Pl) (i b k : Nat) : p.fits (p.set i b k) i := fun j hj => by
  have : j ≠ i := by have := hj.1; omega
  exact ⟨.inr hj.2, by simp [Pl.set, this], by simp [Pl.set, this]⟩
theorem Pl.set_ρ (p : Pl) (i b k : Nat) (h : 8 ≤ i) : (p.set i b k).ρ i = b := by simp [Pl.set, h]
theorem Pl.set_has (p : Pl) (i b k m : Nat) (h : i < m) : (p.set i b k).has m i := ⟨h, .inl rfl⟩
theorem Pl.set_κ (p : Pl) (i b k : Nat) : (p.set i b k).κ i = k := by simp [Pl.set]

theorem heap_push (w : World) (o : Obj) (b : Nat) (h : b < w.heap.size) : (w.heap.push o)[b]? = w.heap[b]? := by
  rw [Array.getElem?_push, if_neg (by omega)]

/-- A new block. -/
theorem Post.new' {B : Nat} {p : Pl} {s : St} {w : World} (hr : Rel B p s w) (hB : B ≤ w.heap.size) (row : Row) (o : Obj) (k : Nat)
    (hrow : row.is (p.set s.n w.heap.size k) (s.n + 1) s.n (some o)) :
    Post B p s w (p.set s.n w.heap.size k) (s.new row) { w with heap := w.heap.push o } := by
  have hf := p.set_fits s.n w.heap.size k
  have hget : ∀ i r, (s.new row).h.get i = some r → (i = s.n ∧ r = row) ∨ (i ≠ s.n ∧ s.h.get i = some r) := fun i r h => by
    rw [St.new_eq] at h; change (s.h.set deep s.n row).get i = some r at h; exact T.get_set _ _ _ _ _ _ h
  have hn : (s.new row).n = s.n + 1 := by rw [St.new_eq]
  have hlo : (s.new row).lo = s.lo := by rw [St.new_eq]
  refine ⟨hr, by omega, by omega, hf, fun i hi ho => ho.resolve_left (by omega), ⟨fun i r hi hl => ?_, fun i j hi hj he => ?_, by have := hr.n8; omega⟩, by simp, fun b hb _ => heap_push w o b hb, fun i hi hl => ?_, fun i hi hl => ?_, rfl, rfl, rfl⟩
  · rcases hget i r hi with ⟨rfl, rfl⟩ | ⟨hne, hg⟩
    · rw [hn, p.set_ρ _ _ _ hr.n8]
      refine ⟨p.set_has _ _ _ _ (by omega), hB, by simp, ?_⟩
      show r.is _ _ _ ((w.heap.push o)[w.heap.size]?)
      rw [Array.getElem?_push_size]; exact hrow
    · obtain ⟨h1, h2, h3, h4⟩ := hr.row i r hg hl
      rw [hn, (hf i h1).2.1]
      refine ⟨hf.has (by omega) h1, h2, by simp; omega, ?_⟩
      show r.is _ _ _ ((w.heap.push o)[p.ρ i]?)
      rw [heap_push w o _ h3]
      exact h4.fits hf (by omega) h1
  · obtain ⟨r, ha, hal⟩ := hi
    obtain ⟨r', hb, hbl⟩ := hj
    rcases hget i r ha with ⟨rfl, rfl⟩ | ⟨hne, hg⟩ <;> rcases hget j r' hb with ⟨rfl, rfl⟩ | ⟨hne', hg'⟩
    · rfl
    · exfalso; obtain ⟨h1, h2, h3, _⟩ := hr.row j r' hg' hbl; rw [p.set_ρ _ _ _ hr.n8, (hf j h1).2.1] at he; omega
    · exfalso; obtain ⟨h1, h2, h3, _⟩ := hr.row i r hg hal; rw [p.set_ρ _ _ _ hr.n8, (hf i h1).2.1] at he; omega
    · have h1 := (hr.row i r hg hal).1
      have h2 := (hr.row j r' hg' hbl).1
      exact hr.inj i j ⟨r, hg, hal⟩ ⟨r', hg', hbl⟩ (by rw [(hf i h1).2.1, (hf j h2).2.1] at he; exact he)
  · obtain ⟨r, ha, hal⟩ := hl
    rcases hget i r ha with ⟨rfl, rfl⟩ | ⟨hne, hg⟩
    · exact .inl (by rw [p.set_ρ _ _ _ hr.n8]; exact Nat.le_refl _)
    · have := (hr.row i r hg hal).1.1; omega
  · obtain ⟨r, ha, hal⟩ := hl
    rcases hget i r ha with ⟨rfl, rfl⟩ | ⟨hne, hg⟩
    · omega
    · exact ⟨r, hg, hal⟩

/-- A write to one of the call's own blocks. -/
theorem Post.write {B : Nat} {p : Pl} {s : St} {w w' : World} (hr : Rel B p s w) {i : Nat} (hi : s.live i) (row : Row) (hsz : w'.heap.size = w.heap.size)
    (hrow : row.is p s.n i w'.heap[p.ρ i]?) (hoth : ∀ b, b ≠ p.ρ i → w'.heap[b]? = w.heap[b]?)
    (hos : w'.os = w.os) (ht : w'.tape = w.tape) (ho : w'.output = w.output) : Post B p s w p (s.put i row) w' := by
  have hget : ∀ j r, (s.put i row).h.get j = some r → (j = i ∧ r = row) ∨ (j ≠ i ∧ s.h.get j = some r) := fun j r h => by
    rw [St.put_eq] at h; change (s.h.set deep i row).get j = some r at h; exact T.get_set _ _ _ _ _ _ h
  have hn : (s.put i row).n = s.n := by rw [St.put_eq]
  have hlo : (s.put i row).lo = min i s.lo := by rw [St.put_eq]
  have hil := hr.lt hi
  have hip := hr.place hi
  have hlive : ∀ j, (s.put i row).live j → s.live j := fun j ⟨r, ha, hal⟩ => by
    rcases hget j r ha with ⟨rfl, rfl⟩ | ⟨_, hg⟩
    · exact hi
    · exact ⟨r, hg, hal⟩
  refine ⟨hr, by omega, by omega, fun _ h => ⟨h.2, rfl, rfl⟩, fun _ _ h => h, ⟨fun j r hj hl => ?_, fun a b ha hb he => hr.inj a b (hlive a ha) (hlive b hb) he, by have := hr.n8; omega⟩, by omega, fun b hb hx => ?_, fun j hj hl => ?_, fun j _ hl => hlive j hl, hos, ht, ho⟩
  · rcases hget j r hj with ⟨rfl, rfl⟩ | ⟨hne, hg⟩
    · exact ⟨by rw [hn]; exact hr.has hi, hip.1, by omega, by rw [hn]; exact hrow⟩
    · obtain ⟨h1, h2, h3, h4⟩ := hr.row j r hg hl
      refine ⟨by rw [hn]; exact h1, h2, by omega, ?_⟩
      rw [hn, hoth _ (fun e => hne (hr.inj j i ⟨r, hg, hl⟩ hi e))]
      exact h4
  · exact hoth b fun e => hx i (by omega) hi e.symm
  · have := hr.lt (hlive j hl); omega

theorem Post.drew {B : Nat} {p : Pl} {s : St} {w : World} (hr : Rel B p s w) : Post B p s w p s { w with drawn := w.drawn + 1 } :=
  ⟨hr, Nat.le_refl _, Nat.le_refl _, fun _ h => ⟨h.2, rfl, rfl⟩, fun _ _ h => h, ⟨hr.row, hr.inj, hr.n8⟩, Nat.le_refl _, fun _ _ _ => rfl, fun i hi hl => absurd (hr.lt hl) (by omega), fun _ _ h => h, rfl, rfl, rfl⟩

/-- Rows may be forgotten. -/
theorem Rel.less {B : Nat} {p : Pl} {s s' : St} {w : World} (hr : Rel B p s w) (hn : s'.n = s.n) (hh : ∀ i r, s'.h.get i = some r → s.h.get i = some r) : Rel B p s' w :=
  ⟨fun i r hi hl => by rw [hn]; exact hr.row i r (hh i r hi) hl, fun i j ⟨r, a, b⟩ ⟨r', a', b'⟩ he => hr.inj i j ⟨r, hh _ _ a, b⟩ ⟨r', hh _ _ a', b'⟩ he, by have := hr.n8; omega⟩

end Go.Ax

/- Each operation of a symbolic run is what the model does. -/
namespace Go.Ax
open Go

variable {P : Program}

/-! ### Constants -/
theorem ofScalar_is {p : Pl} {n : Nat} {v : Value} {s : Sc} (h : ofScalar v = some s) : s.is p n v := by
  unfold ofScalar at h
  split at h <;> (try injection h with h) <;> (try subst h) <;> first | rfl | cases h
theorem ofScalars_is {p : Pl} {n : Nat} : ∀ {u : List Value} {l : List Sc}, ofScalars u = some l → ScL.is p n l u
  | [], l, h => by injection h with h; subst h; trivial
  | v :: t, l, h => by
    unfold ofScalars at h
    split at h
    · injection h with h; subst h; rename_i ha hb; exact ⟨ofScalar_is ha, ofScalars_is hb⟩
    · cases h
theorem ofA1_is {p : Pl} {n : Nat} {v : Value} {a : A1} (h : ofA1 v = some a) : a.is p n v := by
  unfold ofA1 at h
  split at h
  · rename_i cs
    rw [Option.map_eq_some_iff] at h
    obtain ⟨l, hl, rfl⟩ := h
    exact ⟨cs, rfl, ofScalars_is hl⟩
  · rw [Option.map_eq_some_iff] at h
    obtain ⟨l, hl, rfl⟩ := h
    exact ofScalar_is (p := p) (n := n) hl
theorem ofA1s_is {p : Pl} {n : Nat} : ∀ {u : List Value} {l : List A1}, ofA1s u = some l → A1L.is p n l u
  | [], l, h => by injection h with h; subst h; trivial
  | v :: t, l, h => by
    unfold ofA1s at h
    split at h
    · injection h with h; subst h; rename_i ha hb; exact ⟨ofA1_is ha, ofA1s_is hb⟩
    · cases h
theorem ofValue_is {p : Pl} {n : Nat} {v : Value} {a : AV} (h : ofValue v = some a) : a.is p n v := by
  unfold ofValue at h
  split at h
  · rename_i vs
    rw [Option.map_eq_some_iff] at h
    obtain ⟨l, hl, rfl⟩ := h
    exact ⟨vs, rfl, ofA1s_is hl⟩
  · rename_i f x y
    split at h
    · rename_i hs
      injection h with h; subst h
      have hx : x = #[] := Array.eq_empty_of_size_eq_zero hs.1
      have hy : y = #[] := Array.eq_empty_of_size_eq_zero hs.2
      subst hx hy
      exact ⟨by simp, by simp⟩
    · cases h
  · rw [Option.map_eq_some_iff] at h
    obtain ⟨l, hl, rfl⟩ := h
    exact ofA1_is (p := p) (n := n) hl

/-! ### Frames -/
structure Fr.is (p : Pl) (n : Nat) (fr : Fr) (a : Act) : Prop where
  size : a.tmps.size = fr.nt
  get : ∀ t v, fr.tmps.get t = some v → ∃ u, a.tmps[t]? = some u ∧ v.is p n u
  marks : a.defers = fr.dfs.map fun d => { target := .collected (p.ρ d), args := #[] }
  marksLt : ∀ d ∈ fr.dfs, p.has n d
  n8 : 8 ≤ n
theorem Fr.is.fits {p q : Pl} {n m : Nat} (h : p.fits q n) (hnm : n ≤ m) {fr : Fr} {a : Act} (hs : fr.is p n a) : fr.is q m a where
  size := hs.size
  get t v ht := let ⟨u, x, y⟩ := hs.get t v ht; ⟨u, x, y.fits h hnm⟩
  marks := by
    rw [hs.marks]
    exact List.map_congr_left fun d hd => by simp only [(h d (hs.marksLt d hd)).2.1]
  marksLt d hd := h.has hnm (hs.marksLt d hd)
  n8 := Nat.le_trans hs.n8 hnm
theorem Fr.is.eval {p : Pl} {n : Nat} {fr : Fr} {a : Act} (hs : fr.is p n a) {x : Operand} {v : AV} (h : fr.eval x = some v) : v.is p n (a.eval x) := by
  cases x with
  | tmp t =>
    obtain ⟨u, hu, hv⟩ := hs.get t v h
    show v.is p n (a.tmps.getD t Go.undef)
    rw [Array.getD_eq_getD_getElem?, hu]; exact hv
  | const c => exact ofValue_is h
  | func f => injection h with h; subst h; exact ⟨by simp, by simp [Act.eval]⟩
  | global g =>
    change (match Nat.ble (g + 1) 8 with | true => some (AV.sc (.ptr g 0)) | false => none) = some v at h
    split at h
    · rename_i hb
      have hb : g < 8 := Nat.le_of_ble_eq_true hb
      injection h with h; subst h
      refine ⟨⟨Nat.lt_of_lt_of_le hb hs.n8, (p.gl g hb).1⟩, ?_⟩
      show Act.eval a (.global g) = .pointer (some ⟨p.ρ g, 0, none⟩)
      rw [(p.gl g hb).2]; rfl
    · cases h
theorem Fr.is.put {p : Pl} {n : Nat} {fr : Fr} {a : Act} (hs : fr.is p n a) (d : Option Tmp) {v : AV} {u : Value} (h : v.is p n u) : (fr.put d v).is p n (a.put d u) := by
  cases d with
  | none => exact hs
  | some d =>
    unfold Fr.put Act.put
    simp only
    split
    · rename_i hb
      have hb : d < a.tmps.size := by have := Nat.le_of_ble_eq_true hb; rw [hs.size]; exact this
      refine ⟨by simp [hs.size], fun t x ht => ?_, hs.marks, hs.marksLt, hs.n8⟩
      change (fr.tmps.set deep d v).get t = some x at ht
      rcases T.get_set _ _ _ _ _ _ ht with ⟨rfl, rfl⟩ | ⟨hne, hg⟩
      · exact ⟨u, by rw [Array.getElem?_setIfInBounds_self_of_lt hb], h⟩
      · obtain ⟨y, hy, hv⟩ := hs.get t x hg
        exact ⟨y, by rw [Array.getElem?_setIfInBounds_ne (fun e => hne e.symm)]; exact hy, hv⟩
    · rename_i hb
      have : ¬ d < a.tmps.size := fun hl => by
        rw [Nat.ble_eq_true_of_le (show d + 1 ≤ fr.nt by rw [← hs.size]; exact hl)] at hb; cases hb
      rw [Array.setIfInBounds_eq_of_size_le (Nat.le_of_not_lt this)]
      exact hs
theorem evals_is {p : Pl} {n : Nat} {fr : Fr} {a : Act} (hs : fr.is p n a) : ∀ {l : List Operand} {vs : List AV}, evals fr l = some vs →
    vs.length = l.length ∧ ∀ (j : Nat) (v : AV), vs[j]? = some v → ∃ u, (l.map a.eval)[j]? = some u ∧ v.is p n u
  | [], vs, h => by injection h with h; subst h; simp
  | x :: t, vs, h => by
    unfold evals at h
    split at h
    · rename_i v l hv hl
      injection h with h; subst h
      obtain ⟨h1, h2⟩ := evals_is hs hl
      refine ⟨by simp [h1], fun j v hj => ?_⟩
      cases j with
      | zero => simp at hj; subst hj; exact ⟨_, by simp, hs.eval hv⟩
      | succ j => simp at hj ⊢; simpa using h2 j v hj
    · cases h

/-! ### What a quiet operation gives -/
/-- The operation gives u and leaves the world w'. -/
def Ran (P : Program) (x : Sem Next) (w : World) (u : Value) (w' : World) : Prop :=
  x.run P w = .ok (.value u) w' ∨ (x.run P w = .ok .skip w' ∧ u = Go.undef)

/-- A value without a step. -/
def Gives (P : Program) (p : Pl) (n : Nat) (w : World) (x : Sem Value) (v : AV) : Prop := ∃ u, x.run P w = .ok u w ∧ v.is p n u

theorem run_typeInfo {t : TypeId} {i : TypeInfo} (h : P.info? t = some i) (w : World) : (typeInfo t).run P w = .ok i w := by
  simp [typeInfo, h]
theorem run_underlying' {t : TypeId} {d : TypeDesc} (h : P.underlying t = some d) (w : World) : (underlying t).run P w = .ok d w := by
  simp [underlying, h]
theorem run_sizeOf {t : TypeId} {n : Nat} (h : sizeOf? P t = some n) (w : World) : (sizeOf t).run P w = .ok n w := by
  unfold sizeOf? at h
  rw [Option.map_eq_some_iff] at h
  obtain ⟨i, hi, rfl⟩ := h
  simp [sizeOf, run_typeInfo hi]
theorem run_isAgg {t : TypeId} {b : Bool} (h : isAgg? P t = some b) (w : World) : (isAgg t).run P w = .ok b w := by
  unfold isAgg? at h
  split at h
  · rename_i f hu; injection h with h; subst h; simp [isAgg, run_underlying' hu]
  · rename_i f e hu; injection h with h; subst h; simp [isAgg, run_underlying' hu]
  · rename_i d h1 h2 hu
    injection h with h; subst h
    simp only [isAgg, Sem.run_bind, run_underlying' hu, Result.andThen_ok]
    cases d <;> first | rfl | exact absurd hu (h1 _) | exact absurd hu (h2 _ _)
  · cases h
theorem run_zero {t : TypeId} {z : A1} (h : zeroOf P t = some z) (w : World) (p : Pl) (n : Nat) : ∃ u, (zeroValue t).run P w = .ok u w ∧ z.is p n u := by
  unfold zeroOf at h
  split at h
  · rename_i i hi
    split at h
    · rename_i u hu
      exact ⟨u, by simp [zeroValue, run_typeInfo hi, hu], ofA1_is h⟩
    · cases h
  · cases h
theorem run_zeroCells {t : TypeId} {z : List Sc} (h : zeroCellsOf P t = some z) (w : World) (p : Pl) (n : Nat) : ∃ u, (zeroValue t).run P w = .ok u w ∧ ScL.is p n z u.cells.toList := by
  unfold zeroCellsOf at h
  split at h
  · rename_i i hi
    split at h
    · rename_i u hu
      rw [Option.map_eq_some_iff] at h
      obtain ⟨a, ha, rfl⟩ := h
      exact ⟨u, by simp [zeroValue, run_typeInfo hi, hu], (ofA1_is ha).cells⟩
    · cases h
  · cases h

theorem ofList_get {l : List Sc} {j : Nat} {s : Sc} (h : (T.ofList l).get j = some s) : l[j]? = some s := by
  rcases T.get_sets l T.leaf 0 j s h with ⟨_, h⟩ | ⟨_, h⟩
  · simpa using h
  · cases h
theorem row_is {p : Pl} {n i : Nat} {e : TypeId} {l : List Sc} {cs : Array Value} (h : ScL.is p n l cs.toList) : (Row.cells e true l.length (T.ofList l)).is p n i (some (.cells cs e)) := by
  have hl := h.length
  refine ⟨cs, IsRow.plain, by simp at hl; omega, fun _ => by simpa using hl, fun e => absurd e (by simp), fun j s hj => by have := ofList_get hj; rw [List.getElem?_eq_some_iff] at this; exact this.1, fun j s hj => ?_⟩
  obtain ⟨v, hv, hs⟩ := h.get j s (ofList_get hj)
  exact ⟨v, by simpa using hv, hs⟩

theorem Pl.fits_set (p : Pl) (s : St) (w : World) (k : Nat) : p.fits (p.set s.n w.heap.size k) s.n := p.set_fits _ _ _

/-- A new row of known cells. -/
theorem newRow_sound {B : Nat} {p : Pl} {s : St} {w : World} (hr : Rel B p s w) (hB : B ≤ w.heap.size) (e : TypeId) {l : List Sc} {cs : Array Value} (h : ScL.is p s.n l cs.toList) :
    (newRow e cs).run P w = .ok ⟨w.heap.size, 0, none⟩ { w with heap := w.heap.push (.cells cs e) } ∧
    Post B p s w (p.set s.n w.heap.size 0) (s.row e true l) { w with heap := w.heap.push (.cells cs e) } := by
  refine ⟨by simp [newRow], ?_⟩
  rw [St.row_eq]
  exact Post.new' hr hB _ _ 0 (row_is (h.fits (p.fits_set s w 0) (by omega)))
theorem row_n (s : St) (e : TypeId) (x : Bool) (l : List Sc) : (s.row e x l).n = s.n + 1 := by rw [St.row_eq, St.new_eq]
theorem ptr_new (p : Pl) (s : St) (w : World) (k o : Nat) (m : Nat) (h8 : 8 ≤ s.n) (hm : s.n < m) : (AV.sc (.ptr s.n o)).is (p.set s.n w.heap.size k) m (.pointer (some ⟨w.heap.size, o, none⟩)) :=
  ⟨p.set_has _ _ _ _ hm, by simp only [Pl.at, p.set_ρ _ _ _ h8]⟩

section ops
variable {B : Nat} {p : Pl} {s s' : St} {w : World} {fr : Fr} {a : Act} {v : AV} {o : Oper}

/-- What is proved of an operation. -/
def Fine (P : Program) (B : Nat) (p : Pl) (s : St) (w : World) (x : Sem Next) (v : AV) (s' : St) : Prop :=
  ∃ u q w', Ran P x w u w' ∧ v.is q s'.n u ∧ Post B p s w q s' w'

theorem Fine.quiet (hr : Rel B p s w) {x : Sem Next} {u : Value} (h : x.run P w = .ok (.value u) w) (hv : v.is p s.n u) : Fine P B p s w x v s :=
  ⟨u, p, w, .inl h, hv, Post.refl hr⟩

theorem oMove_sound (hf : fr.is p s.n a) {x : Operand} (h : oMove s (fr.eval x) = some (.val v, s')) : s' = s ∧ v.is p s.n (a.eval x) := by
  unfold oMove at h
  split at h
  · rename_i y hy; injection h with h; injection h with h1 h2; injection h1 with h1; subst h1; exact ⟨h2.symm, hf.eval hy⟩
  · cases h
theorem oAlloc_sound (hr : Rel B p s w) (hB : B ≤ w.heap.size) {t : TypeId} (h : oAlloc P s t = some (.val v, s')) :
    Fine P B p s w (do pure (.value (← Instr.alloc t true (.tuple #[])))) v s' := by
  unfold oAlloc at h
  split at h
  · rename_i z hz
    injection h with h; injection h with h1 h2; injection h1 with h1; subst h1 h2
    obtain ⟨u, hu, hz⟩ := run_zero hz w p s.n
    obtain ⟨h1, h2⟩ := newRow_sound (P := P) hr hB t hz.cells
    refine ⟨_, _, _, .inl ?_, ptr_new p s w 0 0 _ hr.n8 (by rw [row_n]; omega), h2⟩
    simp [Instr.alloc, hu, newVar, h1]
  · cases h
theorem oBox_sound (hr : Rel B p s w) (hB : B ≤ w.heap.size) (hf : fr.is p s.n a) {t : TypeId} {x : Operand} (h : oBox s t (fr.eval x) = some (.val v, s')) :
    Fine P B p s w (do pure (.value (← Instr.box t (a.eval x)))) v s' := by
  unfold oBox at h
  split at h
  · rename_i z hz
    injection h with h; injection h with h1 h2; injection h1 with h1; subst h1 h2
    have hz := hf.eval hz
    obtain ⟨h1, h2⟩ := newRow_sound (P := P) hr hB t (A1.is.cells hz)
    refine ⟨_, _, _, .inl ?_, ptr_new p s w 0 0 _ hr.n8 (by rw [row_n]; omega), h2⟩
    simp [Instr.box, newVar, h1]
  · cases h


/-! ### Numbers -/
theorem wrap_i64 (n : Int) (h1 : -9223372036854775808 ≤ n) (h2 : n ≤ 9223372036854775807) : IntKind.i64.wrap n = n := IntWalk.i64_in n ⟨h1, h2⟩
theorem wrapF_eq (k : IntKind) (n : Int) : wrapF k n = k.wrap n := by
  unfold wrapF
  split
  · cases n with
    | ofNat a =>
      show (Bool.rec (motive := fun _ => Int) (IntKind.i64.wrap (.ofNat a)) (.ofNat a) (Nat.ble a 9223372036854775807)) = _
      cases h : Nat.ble a 9223372036854775807
      · rfl
      · have := Nat.le_of_ble_eq_true h
        exact (wrap_i64 (.ofNat a) (by first | omega | (simp; done) | (simp; omega)) (by first | omega | (simp; done) | (simp; omega))).symm
    | negSucc a =>
      show (Bool.rec (motive := fun _ => Int) (IntKind.i64.wrap (.negSucc a)) (.negSucc a) (Nat.ble a 9223372036854775807)) = _
      cases h : Nat.ble a 9223372036854775807
      · rfl
      · have := Nat.le_of_ble_eq_true h
        exact (wrap_i64 (.negSucc a) (by first | omega | (simp; omega)) (by first | omega | (simp; omega))).symm
  · rfl
theorem mkInt_eq (k : IntKind) (n : Int) : mkInt k n = some (.int k (k.wrap n)) := by
  unfold mkInt; rw [forceInt_eq, wrapF_eq]
theorem ble_eq (a b : Nat) : Nat.ble a b = decide (a ≤ b) := by
  cases h : Nat.ble a b
  · exact (decide_eq_false fun e => by rw [Nat.ble_eq_true_of_le e] at h; cases h).symm
  · exact (decide_eq_true (Nat.le_of_ble_eq_true h)).symm
theorem ltF_eq (x y : Int) : ltF x y = decide (x < y) := by
  cases x with
  | ofNat a => cases y with
    | ofNat b => show Nat.ble (a + 1) b = _; rw [ble_eq]; exact decide_eq_decide.2 (by simp; omega)
    | negSucc b => exact (decide_eq_false (by simp; omega)).symm
  | negSucc a => cases y with
    | ofNat b => exact (decide_eq_true (by simp; omega)).symm
    | negSucc b => show Nat.ble (b + 1) a = _; rw [ble_eq]; exact decide_eq_decide.2 (by omega)
theorem eqFI_eq (x y : Int) : eqFI x y = (x == y) := by
  cases x with
  | ofNat a => cases y with
    | ofNat b =>
      show Nat.beq a b = _
      rw [Bool.eq_iff_iff]
      simp
      omega
    | negSucc b => rfl
  | negSucc a => cases y with
    | ofNat b => rfl
    | negSucc b =>
      show Nat.beq a b = _
      rw [Bool.eq_iff_iff]
      simp
theorem eqF_eq (x y : Int) : eqF x y = (x == y) := eqFI_eq x y

theorem run_eqGuard {op : BinOp} {t : TypeId} {x y : Operand} {u v : Value} (w : World) (h1 : ∀ c, u ≠ .agg c) (h2 : u ≠ .nilIface) : (eqGuard op t x y u v).run P w = .ok () w := by
  unfold eqGuard
  cases u <;> first | exact absurd rfl h2 | exact absurd rfl (h1 _) | (split <;> rfl)

theorem intBin_sound {op : BinOp} {k : IntKind} {x y : Int} {r : Sc} (h : intBin op k x y = some r) (t : TypeId) (w : World) (p : Pl) (n : Nat) :
    ∃ u, (binOp op t (.int k x) (.int k y)).run P w = .ok u w ∧ r.is p n u := by
  unfold intBin at h
  split at h
  case h_4 =>
    split at h
    · cases h
    · rename_i hy
      rw [mkInt_eq] at h; injection h with h; subst h
      have hy : y ≠ 0 := fun e => by subst e; rw [eqF_eq] at hy; simp at hy
      exact ⟨_, by simp [binOp, Op.intDiv, hy], rfl⟩
  case h_5 =>
    split at h
    · cases h
    · rename_i hy
      rw [forceInt_eq] at h; injection h with h; subst h
      have hy : y ≠ 0 := fun e => by subst e; rw [eqF_eq] at hy; simp at hy
      exact ⟨_, by simp [binOp, Op.intDiv, hy], rfl⟩
  case h_15 => cases h
  all_goals
    (try rw [mkInt_eq] at h)
    injection h with h; subst h
    refine ⟨_, by simp [binOp, Op.intArith, Op.intCmp, Op.intBits]; rfl, ?_⟩
    simp only [Sc.is, eqF_eq, ltF_eq]
    try first
      | rfl
      | (congr 1; rw [Bool.eq_iff_iff]; simp; done)
      | (congr 1; rw [Bool.eq_iff_iff]; simp; omega)


theorem shiftBin_sound {op : BinOp} {k yk : IntKind} {x y : Int} {r : Sc} (h : shiftBin op k x y = some r) (t : TypeId) (w : World) (p : Pl) (n : Nat) :
    ∃ u, (binOp op t (.int k x) (.int yk y)).run P w = .ok u w ∧ r.is p n u := by
  unfold shiftBin at h
  split at h
  · cases h
  · rename_i hy
    split at h
    · injection h with h; subst h; exact ⟨_, by simp [binOp, Op.shift, hy], rfl⟩
    · injection h with h; subst h; exact ⟨_, by simp [binOp, Op.shift, hy], rfl⟩
    · cases h

/-! ### Equality of structs and arrays -/
theorem ScL.is.drop {p : Pl} {n : Nat} : ∀ {l : List Sc} {u : List Value} (k : Nat), ScL.is p n l u → ScL.is p n (l.drop k) (u.drop k)
  | _, _, 0, h => h
  | [], [], k + 1, _ => by simp [ScL.is]
  | _ :: _, _ :: _, k + 1, h => ScL.is.drop k h.2
  | [], _ :: _, _, h => h.elim
  | _ :: _, [], _, h => h.elim
theorem ScL.is.take {p : Pl} {n : Nat} : ∀ {l : List Sc} {u : List Value} (k : Nat), ScL.is p n l u → ScL.is p n (l.take k) (u.take k)
  | _, _, 0, _ => by simp [ScL.is]
  | [], [], k + 1, _ => by simp [ScL.is]
  | _ :: _, _ :: _, k + 1, h => ⟨h.1, ScL.is.take k h.2⟩
  | [], _ :: _, _, h => h.elim
  | _ :: _, [], _, h => h.elim
theorem lslice_is {p : Pl} {n : Nat} {l : List Sc} {cs : Array Value} (h : ScL.is p n l cs.toList) (o k : Nat) : ScL.is p n (lslice l o k) (cs.extract o (o + k)).toList := by
  have := (h.drop o).take k
  unfold lslice
  rw [Array.toList_extract, List.extract_eq_take_drop]
  rw [show o + k - o = k from by omega]
  exact this
theorem partOf_sound {t : TypeId} {c : List Sc} {off : Nat} {r : A1} (h : partOf P t c off = some r) {p : Pl} {n : Nat} {cs : Array Value} (hc : ScL.is p n c cs.toList) (w : World) :
    ∃ u, (part t cs off).run P w = .ok u w ∧ r.is p n u := by
  unfold partOf at h
  split at h
  · rename_i k ha hs
    split at h
    · injection h with h; subst h
      exact ⟨_, by simp [part, run_isAgg ha, run_sizeOf hs], _, rfl, lslice_is hc off k⟩
    · cases h
  · rename_i ha
    rw [Option.map_eq_some_iff] at h
    obtain ⟨s, hs, rfl⟩ := h
    rw [lget_eq] at hs
    obtain ⟨v, hv, hsv⟩ := hc.get off s hs
    refine ⟨v, ?_, hsv⟩
    have hv : cs[off]? = some v := by simpa using hv
    simp [part, run_isAgg ha, hv]
  · cases h


theorem fieldsOf_eq {t : TypeId} {fs : Array Field} (h : P.underlying t = some (.struct fs)) : P.fieldsOf t = fs := by simp [Program.fieldsOf, h]
/-- What is asked of a smaller depth. -/
def EqFine (P : Program) (d : Nat) (eq : TypeId → A1 → A1 → Option Bool) : Prop :=
  ∀ (t : TypeId) (x y : A1) (b : Bool), eq t x y = some b → ∀ (e : Nat), d ≤ e → ∀ (p : Pl) (n : Nat) (u v : Value) (w : World), x.is p n u → y.is p n v → (Op.equalIn e t u v).run P w = .ok b w
theorem equalFields_sound {d : Nat} {eq : TypeId → A1 → A1 → Option Bool} (heq : EqFine P d eq) {xs ys : List Sc} {cs ds : Array Value} {p : Pl} {n : Nat} (hx : ScL.is p n xs cs.toList) (hy : ScL.is p n ys ds.toList) (w : World) {e : Nat} (he : d ≤ e) :
    ∀ {fs : List Field} {b : Bool}, equalFields P eq xs ys fs = some b → (Op.eqFields e cs ds fs).run P w = .ok b w
  | [], b, h => by injection h with h; subst h; simp [Op.eqFields]
  | f :: t, b, h => by
    unfold equalFields at h
    split at h
    · rename_i x y hn h1 h2
      have hn : f.name ≠ "_" := by simpa using hn
      obtain ⟨u, hu, hux⟩ := partOf_sound h1 hx w
      obtain ⟨v, hv, hvy⟩ := partOf_sound h2 hy w
      split at h
      · rename_i ht
        have := heq _ _ _ _ ht e he p n u v w hux hvy
        simp only [Op.eqFields, if_pos hn, Sem.run_bind, hu, hv, this, Result.andThen_ok]
        simpa using equalFields_sound heq hx hy w he h
      · rename_i hnt
        cases b with
        | true => exact absurd h hnt
        | false =>
          have := heq _ _ _ _ h e he p n u v w hux hvy
          simp [Op.eqFields, hn, Sem.run_bind, hu, hv, this]
    · cases h
/-- The model's loop over an array's elements, by counting. -/
def eqElems (e : Nat) (elem : TypeId) (n : Nat) (xs ys : Array Value) (i : Nat) : Nat → Sem Bool
  | 0 => pure true
  | k + 1 => do
    let a ← part elem xs (i * n)
    let b ← part elem ys (i * n)
    let r ← Op.equalIn e elem a b
    if (!r) = true then pure false else eqElems e elem n xs ys (i + 1) k
theorem equalElems_sound {d : Nat} {eq : TypeId → A1 → A1 → Option Bool} (heq : EqFine P d eq) {xs ys : List Sc} {cs ds : Array Value} {p : Pl} {n : Nat} (hx : ScL.is p n xs cs.toList) (hy : ScL.is p n ys ds.toList) (w : World) {e : Nat} (he : d ≤ e) (elem z : Nat) :
    ∀ {k i : Nat} {b : Bool}, equalElems P eq elem z xs ys i k = some b → (eqElems e elem z cs ds i k).run P w = .ok b w
  | 0, i, b, h => by injection h with h; subst h; simp [eqElems]
  | k + 1, i, b, h => by
    unfold equalElems at h
    split at h
    · rename_i x y h1 h2
      obtain ⟨u, hu, hux⟩ := partOf_sound h1 hx w
      obtain ⟨v, hv, hvy⟩ := partOf_sound h2 hy w
      split at h
      · rename_i ht
        have := heq _ _ _ _ ht e he p n u v w hux hvy
        simp only [eqElems, Sem.run_bind, hu, hv, this, Result.andThen_ok]
        simpa using equalElems_sound heq hx hy w he elem z h
      · rename_i hnt
        cases b with
        | true => exact absurd h hnt
        | false =>
          have := heq _ _ _ _ h e he p n u v w hux hvy
          simp [eqElems, Sem.run_bind, hu, hv, this]
    · cases h
theorem run_equalIn_array (d : Nat) (t elem len n : Nat) (xs ys : Array Value) (w : World) (ht : P.underlying t = some (.array len elem)) (hn : sizeOf? P elem = some n) :
    (Op.equalIn (d + 1) t (.agg xs) (.agg ys)).run P w = (eqElems d elem n xs ys 0 len).run P w := by
  simp only [Op.equalIn, Sem.run_bind, run_underlying' ht, Result.andThen_ok, run_sizeOf hn]
  rw [Std.Legacy.Range.forIn_eq_forIn_range']
  simp only [Std.Legacy.Range.size, Nat.sub_zero, Nat.add_sub_cancel, Nat.div_one]
  generalize 0 = i
  clear ht
  induction len generalizing w i with
  | zero => simp [eqElems]
  | succ k ih =>
    simp only [List.range'_succ, List.forIn_cons, eqElems, Sem.run_bind, Sem.run_ite]
    generalize (part elem xs (i * n)).run P w = r1
    cases r1 with
    | ok a w1 =>
      simp only [Result.andThen_ok]
      generalize (part elem ys (i * n)).run P w1 = r2
      cases r2 with
      | ok b w2 =>
        simp only [Result.andThen_ok]
        generalize (Op.equalIn d elem a b).run P w2 = r3
        cases r3 with
        | ok r w3 =>
          cases r
          · simp only [Result.andThen_ok, Bool.not_false, if_true, Sem.run_pure]
          · simp only [Result.andThen_ok, Bool.not_true, Bool.false_eq_true, if_false, Sem.run_pure]
            exact ih w3 (i + 1)
        | halt x w3 => simp [Result.andThen]
      | halt x w2 => simp [Result.andThen]
    | halt x w1 => simp [Result.andThen]
theorem bytesEq_eq : ∀ (x y : List UInt8), bytesEq x y = (x == y)
  | [], [] => rfl
  | a :: x, b :: y => by
    unfold bytesEq
    cases h : Nat.beq a.toNat b.toNat
    · have hne : a ≠ b := fun e => by subst e; simp at h
      rw [Bool.eq_iff_iff]; simp [hne]
    · have he : a = b := UInt8.toNat_inj.1 (Nat.eq_of_beq_eq_true h)
      subst he
      simp only [bytesEq_eq x y]
      rw [Bool.eq_iff_iff]; simp
  | [], _ :: _ => rfl
  | _ :: _, [] => rfl
theorem equalA_sound : ∀ (d : Nat), EqFine P d (equalA P d)
  | 0 => fun _ _ _ _ h => by cases h
  | d + 1 => fun t x y b h e he p n u v w hx hy => by
    obtain ⟨e, rfl⟩ : ∃ e', e = e' + 1 := ⟨e - 1, by omega⟩
    have ih := equalA_sound d
    change eqStep P (equalA P d) t x y = some b at h
    unfold eqStep at h
    split at h
    · rename_i hu
      split at h
      · rename_i hk
        injection h with h; subst h hk
        rw [show u = _ from hx, show v = _ from hy, run_equalIn_int _ _ _ _ _ _ _ hu, eqFI_eq]
      · cases h
    · rename_i hu
      injection h with h; subst h
      rw [show u = _ from hx, show v = _ from hy, run_equalIn_bool' _ _ _ _ _ hu]
    · rename_i hu
      injection h with h; subst h
      rw [show u = _ from hx, show v = _ from hy, run_equalIn_string _ _ _ _ _ hu, bytesEq_eq, ByteArray.toList_eq, ByteArray.toList_eq]
    · rename_i fs xs ys hu
      split at h
      · cases h
      · rename_i hst
        obtain ⟨cs, rfl, hcs⟩ := hx
        obtain ⟨ds, rfl, hds⟩ := hy
        rw [run_equalIn_struct _ _ _ _ _ (by rw [fieldsOf_eq hu]; exact hu) hst, fieldsOf_eq hu]
        exact equalFields_sound ih hcs hds w (by omega) h
    · rename_i len e' xs ys hu
      split at h
      · rename_i z hz
        obtain ⟨cs, rfl, hcs⟩ := hx
        obtain ⟨ds, rfl, hds⟩ := hy
        rw [run_equalIn_array _ _ _ _ _ _ _ _ hu hz]
        exact equalElems_sound ih hcs hds w (by omega) e' z h
      · cases h
    · cases h

end ops
end Go.Ax

/- Each operation of a symbolic run is what the model does, second part. -/
namespace Go.Ax
open Go

variable {P : Program} {B : Nat} {p : Pl} {s s' : St} {w : World} {fr : Fr} {a : Act} {v : AV}

theorem pair_inj {v v' : AV} {s s' : St} (h : (some (Step.val v, s) : Option (Step × St)) = some (.val v', s')) : v = v' ∧ s = s' := by
  injection h with h; injection h with h1 h2; injection h1 with h1; exact ⟨h1, h2⟩
theorem map_inj {α : Type} {x : Option α} {f : α → AV} {v' : AV} {s s' : St} (h : (x.map fun y => (Step.val (f y), s)) = some (.val v', s')) : ∃ y, x = some y ∧ f y = v' ∧ s = s' := by
  rw [Option.map_eq_some_iff] at h
  obtain ⟨y, hy, h⟩ := h
  injection h with h1 h2; injection h1 with h1
  exact ⟨y, hy, h1, h2⟩

theorem Sc.is.notAgg {n : Nat} {x : Sc} {u : Value} (h : x.is p n u) : ∀ c, u ≠ .agg c := fun c e => by
  have := h.one; rw [e] at this; cases this
theorem Sc.is.notIface {n : Nat} {x : Sc} {u : Value} (h : x.is p n u) : u ≠ .nilIface := fun e => by
  subst e
  cases x <;> simp [Sc.is, Pl.at] at h

theorem equalIn_slice (d : Nat) {t e : TypeId} (ht : P.underlying t = some (.slice e)) (b : Option Addr) (n c : Nat) (w : World) :
    (Op.equalIn (d + 1) t (.slice b n c) (.slice none 0 0)).run P w = .ok b.isNone w := by
  cases b <;> simp [Op.equalIn, run_underlying' ht]
theorem equalIn_map (d : Nat) {t k e : TypeId} (ht : P.underlying t = some (.map k e)) (b : Option Nat) (w : World) :
    (Op.equalIn (d + 1) t (.map b) (.map none)).run P w = .ok b.isNone w := by
  cases b <;> simp [Op.equalIn, run_underlying' ht]
theorem eql_map {t k e : TypeId} (ht : P.underlying t = some (.map k e)) (b : Option Nat) (w : World) :
    (binOp .eql t (.map b) (.map none)).run P w = .ok (.bool b.isNone) w := by
  show (do pure (Value.bool (← Op.equalIn (9999 + 1) t (.map b) (.map none))) : Sem Value).run P w = _
  rw [Sem.run_bind, equalIn_map 9999 ht]; rfl
theorem neq_map {t k e : TypeId} (ht : P.underlying t = some (.map k e)) (b : Option Nat) (w : World) :
    (binOp .neq t (.map b) (.map none)).run P w = .ok (.bool !b.isNone) w := by
  show (do pure (Value.bool (!(← Op.equalIn (9999 + 1) t (.map b) (.map none)))) : Sem Value).run P w = _
  rw [Sem.run_bind, equalIn_map 9999 ht]; rfl
theorem eql_slice {t e : TypeId} (ht : P.underlying t = some (.slice e)) (b : Option Addr) (n c : Nat) (w : World) :
    (binOp .eql t (.slice b n c) (.slice none 0 0)).run P w = .ok (.bool b.isNone) w := by
  show (do pure (Value.bool (← Op.equalIn (9999 + 1) t (.slice b n c) (.slice none 0 0))) : Sem Value).run P w = _
  rw [Sem.run_bind, equalIn_slice 9999 ht]; rfl
theorem neq_slice {t e : TypeId} (ht : P.underlying t = some (.slice e)) (b : Option Addr) (n c : Nat) (w : World) :
    (binOp .neq t (.slice b n c) (.slice none 0 0)).run P w = .ok (.bool !b.isNone) w := by
  show (do pure (Value.bool (!(← Op.equalIn (9999 + 1) t (.slice b n c) (.slice none 0 0)))) : Sem Value).run P w = _
  rw [Sem.run_bind, equalIn_slice 9999 ht]; rfl
theorem strBin_sound {op : BinOp} {x y : ByteArray} {r : Sc} (h : strBin op x y = some r) (t : TypeId) (w : World) (p : Pl) (n : Nat) :
    ∃ u, (binOp op t (.string x) (.string y)).run P w = .ok u w ∧ r.is p n u := by
  have he : x.toList = x.data.toList := ByteArray.toList_eq x
  have he' : y.toList = y.data.toList := ByteArray.toList_eq y
  unfold strBin at h
  split at h
  · split at h
    · rename_i hb
      have hb := Nat.le_of_ble_eq_true hb
      injection h with h; subst h
      have : ¬ (((x.size + y.size : Nat) : Int) > IntKind.i64.max) := by
        have : IntKind.i64.max = 9223372036854775807 := rfl
        omega
      exact ⟨.string (x ++ y), by simp only [binOp, Op.stringOp, if_neg this, Sem.run_pure], rfl⟩
    · cases h
  case h_8 => cases h
  all_goals
    injection h with h; subst h
    exact ⟨_, by simp only [binOp, Op.stringOp, he, he', Sem.run_pure]; rfl, by simp only [Sc.is, bytesEq_eq]⟩
theorem binOp_sound {op : BinOp} {t : TypeId} {x y r : AV} (h : binOp? P op t x y = some r) {n : Nat} {u v : Value} (hx : x.is p n u) (hy : y.is p n v) (ox oy : Operand) (w : World) :
    ∃ z, (do eqGuard op t ox oy u v; binOp op t u v : Sem Value).run P w = .ok z w ∧ r.is p n z := by
  unfold binOp? at h
  split at h
  · rw [Option.map_eq_some_iff] at h
    obtain ⟨c, hc, rfl⟩ := h
    obtain ⟨z, hz, hzc⟩ := shiftBin_sound hc t w p n
    rw [show u = _ from hx, show v = _ from hy]
    exact ⟨z, by rw [Sem.run_bind, run_eqGuard w (by simp) (by simp)]; exact hz, hzc⟩
  · rw [Option.map_eq_some_iff] at h
    obtain ⟨c, hc, rfl⟩ := h
    obtain ⟨z, hz, hzc⟩ := shiftBin_sound hc t w p n
    rw [show u = _ from hx, show v = _ from hy]
    exact ⟨z, by rw [Sem.run_bind, run_eqGuard w (by simp) (by simp)]; exact hz, hzc⟩
  · split at h
    · rename_i hk
      rw [Option.map_eq_some_iff] at h
      obtain ⟨c, hc, rfl⟩ := h
      subst hk
      obtain ⟨z, hz, hzc⟩ := intBin_sound hc t w p n
      rw [show u = _ from hx, show v = _ from hy]
      exact ⟨z, by rw [Sem.run_bind, run_eqGuard w (by simp) (by simp)]; exact hz, hzc⟩
    · cases h
  · rw [Option.map_eq_some_iff] at h
    obtain ⟨c, hc, rfl⟩ := h
    obtain ⟨z, hz, hzc⟩ := strBin_sound hc t w p n
    rw [show u = _ from hx, show v = _ from hy]
    exact ⟨z, by rw [Sem.run_bind, run_eqGuard w (by simp) (by simp)]; exact hz, hzc⟩
  · split at h
    · rename_i ht
      injection h with h; subst h
      rw [show u = _ from hx, show v = _ from hy]
      exact ⟨_, by rw [Sem.run_bind, run_eqGuard w (by simp) (by simp)]; rw [Result.andThen_ok]; show (do pure (Value.bool (← Op.equalIn (9999 + 1) t _ _)) : Sem Value).run P w = _; rw [Sem.run_bind, run_equalIn_bool' w 9999 t _ _ ht]; rfl, rfl⟩
    · cases h
  · split at h
    · rename_i ht
      injection h with h; subst h
      rw [show u = _ from hx, show v = _ from hy]
      exact ⟨_, by rw [Sem.run_bind, run_eqGuard w (by simp) (by simp)]; rw [Result.andThen_ok]; show (do pure (Value.bool (!(← Op.equalIn (9999 + 1) t _ _))) : Sem Value).run P w = _; rw [Sem.run_bind, run_equalIn_bool' w 9999 t _ _ ht]; rfl, rfl⟩
    · cases h
  · rw [Option.map_eq_some_iff] at h
    obtain ⟨c, hc, rfl⟩ := h
    obtain ⟨cs, rfl, hcs⟩ := hx
    obtain ⟨ds, rfl, hds⟩ := hy
    unfold equalAgg at hc
    split at hc
    · rename_i hg
      have := equalA_sound 20 _ _ _ _ hc 10000 (by omega) p n (.agg cs) (.agg ds) w ⟨cs, rfl, hcs⟩ ⟨ds, rfl, hds⟩
      exact ⟨.bool c, by rw [Sem.run_bind, run_eqGuard_agg w _ _ _ _ _ _ hg, Result.andThen_ok, run_eql_struct, this]; rfl, rfl⟩
    · cases hc
  · rw [Option.map_eq_some_iff] at h
    obtain ⟨c, hc, rfl⟩ := h
    obtain ⟨cs, rfl, hcs⟩ := hx
    obtain ⟨ds, rfl, hds⟩ := hy
    unfold equalAgg at hc
    split at hc
    · rename_i hg
      have := equalA_sound 20 _ _ _ _ hc 10000 (by omega) p n (.agg cs) (.agg ds) w ⟨cs, rfl, hcs⟩ ⟨ds, rfl, hds⟩
      exact ⟨.bool !c, by rw [Sem.run_bind, run_eqGuard_agg w _ _ _ _ _ _ hg, Result.andThen_ok, run_neq_struct, this]; rfl, rfl⟩
    · cases hc
  · split at h
    · rename_i ht
      rw [Option.map_eq_some_iff] at h
      obtain ⟨c, hc, rfl⟩ := h
      rw [show v = _ from hy]
      rename_i x
      unfold isNilSlice at hc
      split at hc
      · injection hc with hc; subst hc
        rw [show u = _ from hx]
        exact ⟨.bool true, by rw [Sem.run_bind, run_eqGuard w (by simp) (by simp)]; rw [Result.andThen_ok, eql_slice ht]; rfl, rfl⟩
      · injection hc with hc; subst hc
        rw [show u = _ from hx.2.2]
        exact ⟨.bool false, by rw [Sem.run_bind, run_eqGuard w (by simp) (by simp)]; rw [Result.andThen_ok, eql_slice ht]; rfl, rfl⟩
      · injection hc with hc; subst hc
        obtain ⟨_, c, _, _, rfl⟩ := hx
        exact ⟨.bool false, by rw [Sem.run_bind, run_eqGuard w (by simp) (by simp)]; rw [Result.andThen_ok, eql_slice ht]; rfl, rfl⟩
      · cases hc
    · cases h
  · split at h
    · rename_i ht
      rw [Option.map_eq_some_iff] at h
      obtain ⟨c, hc, rfl⟩ := h
      rw [show v = _ from hy]
      rename_i x
      unfold isNilSlice at hc
      split at hc
      · injection hc with hc; subst hc
        rw [show u = _ from hx]
        exact ⟨.bool false, by rw [Sem.run_bind, run_eqGuard w (by simp) (by simp)]; rw [Result.andThen_ok, neq_slice ht]; rfl, rfl⟩
      · injection hc with hc; subst hc
        rw [show u = _ from hx.2.2]
        exact ⟨.bool true, by rw [Sem.run_bind, run_eqGuard w (by simp) (by simp)]; rw [Result.andThen_ok, neq_slice ht]; rfl, rfl⟩
      · injection hc with hc; subst hc
        obtain ⟨_, c, _, _, rfl⟩ := hx
        exact ⟨.bool true, by rw [Sem.run_bind, run_eqGuard w (by simp) (by simp)]; rw [Result.andThen_ok, neq_slice ht]; rfl, rfl⟩
      · cases hc
    · cases h
  · split at h
    · rename_i ht
      rw [Option.map_eq_some_iff] at h
      obtain ⟨c, hc, rfl⟩ := h
      rw [show v = _ from hy]
      unfold isNilMap at hc
      split at hc
      · injection hc with hc; subst hc
        rw [show u = _ from hx]
        exact ⟨.bool true, by rw [Sem.run_bind, run_eqGuard w (by simp) (by simp)]; rw [Result.andThen_ok, eql_map ht]; rfl, rfl⟩
      · injection hc with hc; subst hc
        rw [show u = _ from hx.2]
        exact ⟨.bool false, by rw [Sem.run_bind, run_eqGuard w (by simp) (by simp)]; rw [Result.andThen_ok, eql_map ht]; rfl, rfl⟩
      · cases hc
    · cases h
  · split at h
    · rename_i ht
      rw [Option.map_eq_some_iff] at h
      obtain ⟨c, hc, rfl⟩ := h
      rw [show v = _ from hy]
      unfold isNilMap at hc
      split at hc
      · injection hc with hc; subst hc
        rw [show u = _ from hx]
        exact ⟨.bool false, by rw [Sem.run_bind, run_eqGuard w (by simp) (by simp)]; rw [Result.andThen_ok, neq_map ht]; rfl, rfl⟩
      · injection hc with hc; subst hc
        rw [show u = _ from hx.2]
        exact ⟨.bool true, by rw [Sem.run_bind, run_eqGuard w (by simp) (by simp)]; rw [Result.andThen_ok, neq_map ht]; rfl, rfl⟩
      · cases hc
    · cases h
  · cases h

theorem oBin_sound (hr : Rel B p s w) (hf : fr.is p s.n a) {op : BinOp} {t : TypeId} {x y : Operand} (h : oBin P s op t (fr.eval x) (fr.eval y) = some (.val v, s')) :
    Fine P B p s w (do pure (.value (← (do eqGuard op t x y (a.eval x) (a.eval y); binOp op t (a.eval x) (a.eval y))))) v s' := by
  unfold oBin at h
  split at h
  · rename_i hx hy
    obtain ⟨r, hr', rfl, rfl⟩ := map_inj h
    obtain ⟨z, hz, hzr⟩ := binOp_sound hr' (hf.eval hx) (hf.eval hy) x y w
    exact Fine.quiet hr (by rw [Sem.run_bind, hz]; rfl) hzr
  · cases h
theorem oUn_sound (hr : Rel B p s w) (hf : fr.is p s.n a) {op : UnOp} {x : Operand} (h : oUn s op (fr.eval x) = some (.val v, s')) :
    Fine P B p s w (do pure (.value (← Op.unary op (a.eval x)))) v s' := by
  unfold oUn at h
  split at h
  · rename_i hx
    obtain ⟨r, hr', rfl, rfl⟩ := map_inj h
    have hx := hf.eval hx
    unfold unOp? at hr'
    split at hr'
    · rw [mkInt_eq] at hr'; injection hr' with hr'; subst hr'
      rw [show a.eval x = _ from hx]
      exact Fine.quiet hr (by simp [Op.unary, Op.intArith]; rfl) (by simp [AV.is, A1.is, Sc.is])
    · injection hr' with hr'; subst hr'
      rw [show a.eval x = _ from hx]
      exact Fine.quiet hr (by simp [Op.unary]) rfl
    · cases hr'
  · cases h
theorem oPick_sound (hr : Rel B p s w) (hf : fr.is p s.n a) {c x y : Operand} (h : oPick fr s (fr.eval c) x y = some (.val v, s')) :
    Fine P B p s w (do pure (.value (if ← asBool (a.eval c) then a.eval x else a.eval y))) v s' := by
  unfold oPick at h
  split at h
  · rename_i hc
    obtain ⟨r, hr', rfl, rfl⟩ := map_inj h
    rw [show a.eval c = _ from hf.eval hc]
    exact Fine.quiet hr (by simp [asBool]) (hf.eval hr')
  · rename_i hc
    obtain ⟨r, hr', rfl, rfl⟩ := map_inj h
    rw [show a.eval c = _ from hf.eval hc]
    exact Fine.quiet hr (by simp [asBool]) (hf.eval hr')
  · cases h
theorem oExtract_sound (hr : Rel B p s w) (hf : fr.is p s.n a) {t : Operand} {ix : Nat} (h : oExtract s (fr.eval t) ix = some (.val v, s')) :
    Fine P B p s w (do pure (.value (← Instr.extract (a.eval t) ix))) v s' := by
  unfold oExtract at h
  split at h
  · rename_i l hl
    obtain ⟨r, hr', rfl, rfl⟩ := map_inj h
    obtain ⟨vs, hvs, hls⟩ := hf.eval hl
    rw [lget_eq] at hr'
    obtain ⟨u, hu, hur⟩ := hls.get ix r hr'
    rw [hvs]
    have hu : vs[ix]? = some u := by simpa using hu
    exact Fine.quiet hr (by simp [Instr.extract, hu]) hur
  · cases h
theorem oNilCheck_sound (hr : Rel B p s w) (hf : fr.is p s.n a) {x : Operand} (h : oNilCheck s (fr.eval x) = some (.val v, s')) {o : Oper} (ho : o.op = .nilCheck x) :
    Fine P B p s w (execOp a.eval o) v s' := by
  unfold oNilCheck at h
  split at h
  · rename_i i o hx
    obtain ⟨rfl, rfl⟩ := pair_inj h
    have hx := hf.eval hx
    exact Fine.quiet hr (by simp only [execOp, ho]; rw [show a.eval x = _ from hx.2]; simp [Pl.at]) ⟨hx.1, rfl⟩
  · rename_i f c hx
    obtain ⟨rfl, rfl⟩ := pair_inj h
    have hx := hf.eval hx
    exact Fine.quiet hr (by simp only [execOp, ho]; rw [show a.eval x = _ from hx.2]; simp) ⟨hx.1, rfl⟩
  · rename_i l hx
    obtain ⟨rfl, rfl⟩ := pair_inj h
    have hx := hf.eval hx
    exact Fine.quiet hr (by simp only [execOp, ho]; rw [show a.eval x = _ from hx.2]; simp) ⟨hx.1, rfl⟩
  · cases h
theorem ptrsOf_is {n : Nat} : ∀ {vs : List AV} {c : List (Nat × Nat)} {us : List Value}, ptrsOf vs = some c → us.length = vs.length → (∀ (j : Nat) (v : AV), vs[j]? = some v → ∃ u, us[j]? = some u ∧ v.is p n u) →
    (∀ x ∈ c, p.has n x.1) ∧ us = c.map fun x => p.at x.1 x.2
  | [], c, us, h, hl, _ => by
    injection h with h; subst h
    exact ⟨by simp, by simpa using hl⟩
  | v :: t, c, us, h, hl, hj => by
    unfold ptrsOf at h
    split at h
    · rename_i _ h'; cases h'
    · rename_i i o t' he
      rw [Option.map_eq_some_iff] at h
      obtain ⟨c', hc', rfl⟩ := h
      injection he with he1 he2; subst he1 he2
      cases us with
      | nil => simp at hl
      | cons u us =>
        obtain ⟨u', hu', hi, hu''⟩ := hj 0 _ rfl
        simp at hu'; subst hu'
        obtain ⟨h1, h2⟩ := ptrsOf_is hc' (by simpa using hl) (fun j v h => by simpa using hj (j + 1) v (by simpa using h))
        refine ⟨fun x hx => ?_, by simp [hu'', h2]⟩
        rcases List.mem_cons.1 hx with rfl | hx
        · exact hi
        · exact h1 x hx
    · cases h
theorem oFunc_sound (hr : Rel B p s w) (hf : fr.is p s.n a) {fn : Fn} {first cap : Array Operand} (h : oFunc fr s fn first.toList cap.toList = some (.val v, s')) :
    Fine P B p s w (do pure (.value (← Instr.makeFunc fn (first.map a.eval) (cap.map a.eval)))) v s' := by
  unfold oFunc at h
  split at h
  · rename_i f hfi
    split at h
    · rename_i vs hvs
      obtain ⟨c, hc, rfl, rfl⟩ := map_inj h
      obtain ⟨h1, h2⟩ := evals_is hf hvs
      obtain ⟨h3, h4⟩ := ptrsOf_is hc (us := cap.toList.map a.eval) (by simp [h1]) h2
      have : first = #[] := by cases first; simp at hfi; simp [hfi]
      subst this
      refine Fine.quiet hr (u := .func (.func f) #[] (c.map fun x => p.at x.1 x.2).toArray) ?_ ⟨h3, rfl⟩
      have : cap.map a.eval = (c.map fun x => p.at x.1 x.2).toArray := by
        rw [← h4, ← Array.toList_map]
      simp [Instr.makeFunc, this]
    · cases h
  · cases h

end Go.Ax

/- Each operation of a symbolic run is what the model does, third part: memory. -/
namespace Go.Ax
open Go

variable {P : Program} {B : Nat} {p : Pl} {s s' : St} {w : World} {fr : Fr} {a : Act} {v : AV}

theorem addr_add (b o j : Nat) : (⟨b, o, none⟩ : Addr).add j = ⟨b, o + j, none⟩ := by unfold Addr.add; split <;> simp_all
theorem Rel.cells (hr : Rel B p s w) {i : Nat} {e : TypeId} {x : Bool} {len : Nat} {c : T Sc} (h : hget s.h i = some (.cells e x len c)) :
    p.has s.n i ∧ ∃ cs : Array Value, IsRow w.heap[p.ρ i]? cs e ∧ len ≤ cs.size ∧ (x = true → cs.size = len) ∧ (x = false → cs.size = p.κ i) ∧ (∀ j s', c.get j = some s' → j < len) ∧
      ∀ j s', c.get j = some s' → ∃ v, cs[j]? = some v ∧ s'.is p s.n v :=
  let ⟨h1, _, _, h4⟩ := hr.row i _ h rfl
  ⟨h1, h4⟩
theorem T.range_zero {α : Type} (t : T α) (o : Nat) : t.range o 0 = some [] := rfl
theorem T.range_succ {α : Type} (t : T α) (o n : Nat) : t.range o (n + 1) = (match t.get o, t.range (o + 1) n with
      | some x, some l => some (x :: l)
      | _, _ => none) := by
  show (Option.rec none (fun x => Option.rec none (fun l => some (x :: l)) (t.range (o + 1) n)) (t.get o) : Option (List α)) = _
  cases t.get o <;> cases t.range (o + 1) n <;> rfl
theorem range_sound {cs : Array Value} {m : Nat} {c : T Sc} (hc : ∀ j s', c.get j = some s' → ∃ v, cs[j]? = some v ∧ s'.is p m v) :
    ∀ (n o : Nat) (l : List Sc), c.range o n = some l → ∃ vs : List Value, vs.length = n ∧ ScL.is p m l vs ∧ ∀ j v, vs[j]? = some v → cs[o + j]? = some v
  | 0, o, l, h => by
    rw [T.range_zero] at h; injection h with h; subst h
    exact ⟨[], rfl, trivial, fun j v hj => by simp at hj⟩
  | n + 1, o, l, h => by
    rw [T.range_succ] at h
    split at h
    · rename_i x l' hx hl
      injection h with h; subst h
      obtain ⟨v, hv, hxv⟩ := hc o x hx
      obtain ⟨vs, h1, h2, h3⟩ := range_sound hc n (o + 1) l' hl
      refine ⟨v :: vs, by simp [h1], ⟨hxv, h2⟩, fun j u hj => ?_⟩
      cases j with
      | zero => simp at hj; subst hj; exact hv
      | succ j => have := h3 j u (by simpa using hj); rw [show o + (j + 1) = o + 1 + j from by omega]; exact this
    · cases h
theorem cell_of {b o : Nat} {cs : Array Value} {e : TypeId} (h : IsRow w.heap[b]? cs e) {v : Value} (hv : cs[o]? = some v) : w.cell? ⟨b, o, none⟩ = some v := by
  obtain ⟨fz, h, _⟩ := h
  simp [World.cell?, h, hv]
theorem run_loadRange {b o : Nat} {cs : Array Value} {e : TypeId} (h : IsRow w.heap[b]? cs e) {vs : List Value} (hv : ∀ j v, vs[j]? = some v → cs[o + j]? = some v) {n : Nat} (hn : vs.length = n) :
    (loadCells ⟨b, o, none⟩ n).run P w = .ok vs.toArray w := by
  subst hn
  exact run_loadCells_list (P := P) w ⟨b, o, none⟩ vs fun j v hj => by rw [addr_add]; exact cell_of h (hv j v hj)

theorem loadAt_sound (hr : Rel B p s w) {t : TypeId} {i o : Nat} {r : AV} (h : loadAt P s t i o = some r) : ∃ u, (Instr.loadAt t (p.at i o)).run P w = .ok u w ∧ r.is p s.n u := by
  unfold loadAt at h
  split at h
  · rename_i e x len c hg
    obtain ⟨_, cs, hcs, _, _, _, _, hc⟩ := hr.cells hg
    split at h
    · rename_i ha
      split at h
      · rename_i n hn
        rw [Option.map_eq_some_iff] at h
        obtain ⟨l, hl, rfl⟩ := h
        obtain ⟨vs, h1, h2, h3⟩ := range_sound hc n o l hl
        exact ⟨.agg vs.toArray, by simp [Instr.loadAt, Instr.sureAddr, Pl.at, loadVar, run_isAgg ha, run_sizeOf hn, run_loadRange hcs h3 h1], vs.toArray, rfl, h2⟩
      · cases h
    · rename_i ha
      rw [Option.map_eq_some_iff] at h
      obtain ⟨x, hx, rfl⟩ := h
      obtain ⟨v, hv, hxv⟩ := hc o x hx
      exact ⟨v, by simp [Instr.loadAt, Instr.sureAddr, Pl.at, loadVar, run_isAgg ha, cell_of hcs hv], hxv⟩
    · cases h
  · cases h
theorem oLoad_sound (hr : Rel B p s w) (hf : fr.is p s.n a) {t : TypeId} {x : Operand} (h : oLoad P s t (fr.eval x) = some (.val v, s')) :
    Fine P B p s w (do pure (.value (← Instr.loadAt t (a.eval x)))) v s' := by
  unfold oLoad at h
  split at h
  · rename_i i o hx
    obtain ⟨r, hr', rfl, rfl⟩ := map_inj h
    obtain ⟨u, hu, hur⟩ := loadAt_sound hr hr'
    rw [show a.eval x = _ from (hf.eval hx).2]
    exact Fine.quiet hr (by rw [Sem.run_bind, hu]; rfl) hur
  · cases h

/-- A row into which cells are stored. -/
theorem sets_is {n : Nat} {cs : Array Value} {c : T Sc} {o : Nat} {new : List Sc} {vs : List Value} (hc : ∀ j s', c.get j = some s' → ∃ v, cs[j]? = some v ∧ s'.is p n v) (hnew : ScL.is p n new vs) (hlen : o + vs.length ≤ cs.size) :
    (cs.toList.take (o + 0) ++ vs ++ cs.toList.drop (o + 0 + vs.length)).toArray.size = cs.size ∧
    ∀ j s', (c.sets o new).get j = some s' → ∃ v, (cs.toList.take (o + 0) ++ vs ++ cs.toList.drop (o + 0 + vs.length)).toArray[j]? = some v ∧ s'.is p n v := by
  have hl := hnew.length
  refine ⟨by simp; omega, fun j y hj => ?_⟩
  rcases T.get_sets _ _ _ _ _ hj with ⟨ha, hb⟩ | ⟨ha, hb⟩
  · obtain ⟨u, hu, huy⟩ := hnew.get _ _ hb
    refine ⟨u, ?_, huy⟩
    have hjl : j - o < vs.length := by
      rw [List.getElem?_eq_some_iff] at hu; exact hu.1
    simp only [List.getElem?_toArray, Nat.add_zero]
    rw [List.append_assoc, List.getElem?_append_right (by simp; omega), List.getElem?_append_left (by simp; omega)]
    simp only [List.length_take, Array.length_toList]
    rw [Nat.min_eq_left (by omega)]
    exact hu
  · obtain ⟨u, hu, huy⟩ := hc j y hb
    refine ⟨u, ?_, huy⟩
    simp only [List.getElem?_toArray, Nat.add_zero]
    rcases ha with ha | ha
    · rw [List.append_assoc, List.getElem?_append_left (by simp; rw [Array.getElem?_eq_some_iff] at hu; obtain ⟨hu, _⟩ := hu; omega), List.getElem?_take_of_lt ha]
      simpa using hu
    · rw [List.getElem?_append_right (by simp; omega), List.getElem?_drop]
      have : (o + vs.length) + (j - (cs.toList.take o ++ vs).length) = j := by simp; omega
      rw [this]; simpa using hu
/-- Cells are stored into a row none of whose cells is frozen. -/
theorem run_storeCells_is (g o : Nat) (t : TypeId) (fz : Nat × Nat) : ∀ (vs : List Value) (i : Nat) (cur : Array Value) (w : World), w.heap[g]? = some (.cells cur t fz) → NoFz fz cur.size → o + i + vs.length ≤ cur.size → (∀ v ∈ vs, v.oneCell' = true) →
    (storeCells ⟨g, o, none⟩ vs i).run P w = .ok () (w.setRow g (cur.toList.take (o + i) ++ vs ++ cur.toList.drop (o + i + vs.length)).toArray)
  | [], i, cur, w, hg, _, _, _ => by
    simp only [storeCells, List.append_nil, List.length_nil, Nat.add_zero, List.take_append_drop, Array.toArray_toList]
    rw [setRow_self w g cur t fz hg]
    rfl
  | v :: rest, i, cur, w, hg, hz, hl, h1 => by
    have hlt : o + i < cur.size := by simp at hl; omega
    have hcell : w.cell? ⟨g, o + i, none⟩ = some cur[o + i] := by simp [World.cell?, hg, hlt]
    have hfree : w.frozen? ⟨g, o + i, none⟩ = false := by
      have := hz (o + i) hlt
      obtain ⟨lo, hi⟩ := fz
      simp only [World.frozen?, hg, Bool.and_eq_false_iff, decide_eq_false_iff_not]
      simp only at this
      omega
    have hst : (store ((⟨g, o, none⟩ : Addr).add i) v).run P w = .ok () (w.setRow g (cur.setIfInBounds (o + i) v)) := by
      rw [addr_add, run_store P w _ v _ (h1 v (by simp)), hcell]
      simp [hfree, setCell_eq_setRow w g (o + i) cur t fz v hg]
    have ih := run_storeCells_is g o t fz rest (i + 1) (cur.setIfInBounds (o + i) v) (w.setRow g (cur.setIfInBounds (o + i) v)) (setRow_heap w g cur _ t _ hg) (by simpa using hz) (by simp at hl ⊢; omega) (fun x hx => h1 x (by simp [hx]))
    simp only [storeCells, Sem.run_bind, hst, Result.andThen_ok, ih, setRow_setRow]
    congr 3
    have e := list_seg_step cur.toList (o + i) v rest (by simp at hl ⊢; omega)
    simpa [Array.toList_setIfInBounds, Nat.add_assoc] using e
/-- Cells into a row. -/
theorem put_sound (hr : Rel B p s w) {i o : Nat} {e : TypeId} {x : Bool} {len : Nat} {c : T Sc} (hg : hget s.h i = some (.cells e x len c)) {new : List Sc} {vs : List Value} (hnew : ScL.is p s.n new vs) (hlen : o + new.length ≤ len) :
    ∃ w', (storeCells ⟨p.ρ i, o, none⟩ vs).run P w = .ok () w' ∧ Post B p s w p (s.put i (.cells e x len (c.sets o new))) w' := by
  obtain ⟨hi, cs, hcs, h1, h2, h3, h4, hc⟩ := hr.cells hg
  have hl := hnew.length
  obtain ⟨fz, hcs, hfz⟩ := hcs
  have hrun := run_storeCells_is (P := P) (p.ρ i) o e fz vs 0 cs w hcs hfz (by omega) hnew.one
  refine ⟨_, hrun, ?_⟩
  obtain ⟨hsz, hst⟩ := sets_is (o := o) hc hnew (by omega)
  refine Post.write hr ⟨_, hg, rfl⟩ _ (by simp [World.setRow]) ?_ ?_ rfl rfl rfl
  · rw [setRow_heap w (p.ρ i) cs _ e _ hcs]
    refine ⟨_, IsRow.resized hfz hsz, by omega, fun hx => by rw [hsz]; exact h2 hx, fun hx => by rw [hsz]; exact h3 hx, fun j y hj => ?_, hst⟩
    rcases T.get_sets _ _ _ _ _ hj with ⟨ha, hb⟩ | ⟨ha, hb⟩
    · rw [List.getElem?_eq_some_iff] at hb; obtain ⟨hb, _⟩ := hb; omega
    · exact h4 j y hb
  · intro b hb
    exact setRow_other w _ _ _ hb

end Go.Ax

/- Each operation of a symbolic run is what the model does, fourth part: memory and addresses. -/
namespace Go.Ax
open Go

variable {P : Program} {B : Nat} {p : Pl} {s s' : St} {w : World} {fr : Fr} {a : Act} {v : AV}

theorem rowPut_sound (hr : Rel B p s w) {i o : Nat} {new : List Sc} (h : rowPut s i o new = some s') {vs : List Value} (hnew : ScL.is p s.n new vs) :
    ∃ w', (storeCells ⟨p.ρ i, o, none⟩ vs).run P w = .ok () w' ∧ Post B p s w p s' w' := by
  unfold rowPut at h
  split at h
  · rename_i hg
    split at h
    · rename_i hle
      injection h with h; subst h
      exact put_sound hr hg hnew (Nat.le_of_ble_eq_true hle)
    · cases h
  · cases h
theorem rowRange_sound (hr : Rel B p s w) {i o n : Nat} {l : List Sc} (h : rowRange s i o n = some l) :
    ∃ vs : List Value, (∀ w' : World, w'.heap = w.heap → (loadCells ⟨p.ρ i, o, none⟩ n).run P w' = .ok vs.toArray w') ∧ ScL.is p s.n l vs := by
  unfold rowRange at h
  split at h
  · rename_i hg
    obtain ⟨_, cs, hcs, _, _, _, _, hc⟩ := hr.cells hg
    obtain ⟨vs, h1, h2, h3⟩ := range_sound hc n o l h
    exact ⟨vs, fun w' hw' => run_loadRange (by rw [hw']; exact hcs) h3 h1, h2⟩
  · cases h

theorem oStore_sound (hr : Rel B p s w) (hf : fr.is p s.n a) {t : TypeId} {x y : Operand} (h : oStore P s t (fr.eval x) (fr.eval y) = some (.val v, s')) :
    Fine P B p s w (do Instr.storeAt t (a.eval x) (a.eval y); pure .skip) v s' := by
  unfold oStore at h
  split at h
  · rename_i i o z hx hy
    rw [Option.map_eq_some_iff] at h
    obtain ⟨s1, hs1, h⟩ := h
    injection h with h1 h2; injection h1 with h1; subst h1 h2
    unfold storeAt at hs1
    split at hs1
    · rename_i e ex len c n hg hn
      split at hs1
      · rename_i hlen hle
        injection hs1 with hs1; subst hs1
        have hlen := Nat.eq_of_beq_eq_true hlen
        have hle := Nat.le_of_ble_eq_true hle
        have hz := A1.is.cells (hf.eval hy)
        obtain ⟨w', hrun, hpost⟩ := put_sound (P := P) (o := o) hr hg hz (by omega)
        refine ⟨_, p, w', .inr ⟨?_, rfl⟩, AV.undef_is _ _, hpost⟩
        rw [show a.eval x = _ from (hf.eval hx).2]
        have hsz : (a.eval y).cells.size = n := by rw [← hlen, ← hz.length]; simp
        simp [Instr.storeAt, Instr.sureAddr, Pl.at, storeVar, run_sizeOf hn, hsz, hrun]
      · cases hs1
    · cases hs1
  · cases h

theorem repeat_is {n : Nat} {z : List Sc} {u : Value} (h : ScL.is p n z u.cells.toList) : ∀ k, ScL.is p n (repeatCells z k) ((List.replicate k u.cells.toList).flatten)
  | 0 => trivial
  | k + 1 => by
    rw [List.replicate_succ, List.flatten_cons]
    exact ScL.is.append h (repeat_is h k)

/-! ### build -/
theorem ScL.is.set {n : Nat} : ∀ {l : List Sc} {u : List Value} (j : Nat) {x : Sc} {y : Value}, ScL.is p n l u → x.is p n y → ScL.is p n (lset l j x) (u.set j y)
  | [], [], j, _, _, _, _ => by cases j <;> trivial
  | _ :: _, _ :: _, 0, _, _, h, hx => ⟨hx, h.2⟩
  | _ :: _, _ :: _, j + 1, _, _, h, hx => ⟨h.1, ScL.is.set j h.2 hx⟩
  | [], _ :: _, _, _, _, h, _ => h.elim
  | _ :: _, [], _, _, _, h, _ => h.elim
theorem fold_is {n : Nat} (off : Nat) : ∀ {new : List Sc} {vs : List Value} {l : List Sc} {cs : Array Value} (k : Nat), ScL.is p n new vs → ScL.is p n l cs.toList →
    ScL.is p n (lsets l (off + k) new) ((vs.zipIdx k).foldl (fun cs (c, j) => cs.setIfInBounds (off + j) c) cs).toList
  | [], [], l, cs, k, _, h => h
  | x :: new, y :: vs, l, cs, k, hn, h => by
    rw [List.zipIdx_cons, List.foldl_cons]
    unfold lsets
    rw [show off + k + 1 = off + (k + 1) from by omega]
    exact fold_is off (k + 1) hn.2 (by rw [Array.toList_setIfInBounds]; exact ScL.is.set _ h hn.1)
  | [], _ :: _, _, _, _, h, _ => h.elim
  | _ :: _, [], _, _, _, h, _ => h.elim
theorem fillAt_sound {n : Nat} {size off : Nat} {l l' : List Sc} {x : A1} (h : fillAt size l off x = some l') {cs : Array Value} {u : Value} (hl : ScL.is p n l cs.toList) (hx : x.is p n u) :
    ¬ (u.cells.size ≠ size ∨ off + u.cells.size > cs.size) ∧ ScL.is p n l' (u.cells.zipIdx.foldl (fun cs (c, j) => cs.setIfInBounds (off + j) c) cs).toList := by
  unfold fillAt at h
  simp only at h
  split at h
  · rename_i hc
    injection h with h; subst h
    have hx := hx.cells
    have h1 := hx.length
    have h2 := hl.length
    simp only [Array.length_toList] at h1 h2
    refine ⟨by omega, ?_⟩
    have := fold_is (p := p) (n := n) off 0 hx hl
    rw [← Array.foldl_toList, Array.toList_zipIdx]
    exact this
  · cases h
theorem fill_cons {place : Nat → Option (Nat × Nat)} {cells : Array Value} {i : Nat} {u : Value} {rest : List (Nat × Value)} {off size : Nat} (h : place i = some (off, size)) (hc : ¬ (u.cells.size ≠ size ∨ off + u.cells.size > cells.size)) :
    Instr.fill place cells ((i, u) :: rest) = Instr.fill place (u.cells.zipIdx.foldl (fun cs (c, j) => cs.setIfInBounds (off + j) c) cells) rest := by
  have : (u.cells.size ≠ size || off + u.cells.size > cells.size) = false := by
    rw [Bool.eq_false_iff]; intro e; apply hc; simpa using e
  simp only [Instr.fill, h]
  rw [if_neg (by rw [this]; simp)]
theorem fillArr_sound (hf : fr.is p s.n a) {size : Nat} : ∀ {ps : List (Nat × Operand)} {l l' : List Sc} {cs : Array Value}, fillArr size fr l ps = some l' → ScL.is p s.n l cs.toList →
    ∃ cs', Instr.fill (fun i => some (i * size, size)) cs (ps.map fun (i, x) => (i, a.eval x)) = some cs' ∧ ScL.is p s.n l' cs'.toList
  | [], l, l', cs, h, hl => by injection h with h; subst h; exact ⟨cs, rfl, hl⟩
  | (i, x) :: t, l, l', cs, h, hl => by
    unfold fillArr at h
    split at h
    · rename_i z hz
      split at h
      · rename_i l1 hl1
        obtain ⟨h1, h2⟩ := fillAt_sound hl1 hl (hf.eval hz)
        rw [List.map_cons, fill_cons rfl h1]
        exact fillArr_sound hf h h2
      · cases h
    · cases h
theorem fillStruct_sound (hf : fr.is p s.n a) {pl : List (Nat × Nat)} :
    ∀ {ps : List (Nat × Operand)} {l l' : List Sc} {cs : Array Value}, fillStruct pl fr l ps = some l' → ScL.is p s.n l cs.toList →
    ∃ cs', Instr.fill (fun i => pl[i]?) cs (ps.map fun (i, x) => (i, a.eval x)) = some cs' ∧ ScL.is p s.n l' cs'.toList
  | [], l, l', cs, h, hl => by injection h with h; subst h; exact ⟨cs, rfl, hl⟩
  | (i, x) :: t, l, l', cs, h, hl => by
    unfold fillStruct at h
    split at h
    · rename_i z off size hz hfi
      rw [lget_eq] at hfi
      split at h
      · rename_i l1 hl1
        obtain ⟨h1, h2⟩ := fillAt_sound hl1 hl (hf.eval hz)
        rw [List.map_cons, fill_cons (by simpa using hfi) h1]
        exact fillStruct_sound hf h h2
      · cases h
    · cases h
theorem run_placesOf (w : World) : ∀ {fs : List Field} {pl : List (Nat × Nat)}, placesOf P fs = some pl → (fs.mapM fun f => Prod.mk f.offset <$> sizeOf f.type).run P w = .ok pl w
  | [], pl, h => by injection h with h; subst h; simp
  | f :: t, pl, h => by
    unfold placesOf at h
    split at h
    · rename_i n l hn hl
      injection h with h; subst h
      simp [List.mapM_cons, run_sizeOf hn, run_placesOf w hl]
    · cases h
theorem oBuild_sound (hr : Rel B p s w) (hf : fr.is p s.n a) {t : TypeId} {ps : Array (Nat × Operand)} (h : oBuild P fr s t ps.toList = some (.val v, s')) :
    Fine P B p s w (do pure (.value (← Instr.build t (ps.map fun (i, x) => (i, a.eval x))))) v s' := by
  unfold oBuild at h
  split at h
  · rename_i z fs hz hu
    split at h
    · rename_i pl hpl
      obtain ⟨c, hc, rfl, rfl⟩ := map_inj h
      obtain ⟨u, hu', hzu⟩ := run_zero hz w p s.n
      obtain ⟨cs', h1, h2⟩ := fillStruct_sound hf hc hzu.cells
      refine Fine.quiet hr (u := .agg cs') ?_ ⟨cs', rfl, h2⟩
      have hm := run_placesOf (P := P) w hpl
      simp [Instr.build, hu', run_underlying' hu, Array.mapM_eq_mapM_toList, hm, h1]
    · cases h
  · rename_i z n e hz hu
    split at h
    · rename_i size hsz
      obtain ⟨c, hc, rfl, rfl⟩ := map_inj h
      obtain ⟨u, hu', hzu⟩ := run_zero hz w p s.n
      obtain ⟨cs', h1, h2⟩ := fillArr_sound hf hc hzu.cells
      refine Fine.quiet hr (u := .agg cs') ?_ ⟨cs', rfl, h2⟩
      simp [Instr.build, hu', run_underlying' hu, run_sizeOf hsz, h1]
    · cases h
  · cases h

/-! ### addresses -/
theorem size_pos {t : TypeId} {n : Nat} (h : sizeOf? P t = some (n + 1)) (w : World) (b o : Nat) (f : Field) (hf : f.type = t) : (fieldPlace ⟨b, o, none⟩ f).run P w = .ok ⟨b, o + f.offset, none⟩ w := by
  subst hf
  simp [fieldPlace, run_sizeOf h, addr_add]
theorem oFieldAddr_sound (hr : Rel B p s w) (hf : fr.is p s.n a) {t : TypeId} {x : Operand} {f : Nat} (h : oFieldAddr P s t (fr.eval x) f = some (.val v, s')) :
    Fine P B p s w (do pure (.value (← Instr.fieldAt t (a.eval x) f))) v s' := by
  unfold oFieldAddr at h
  split at h
  · rename_i fs i o hu hx
    split at h
    · rename_i fd hfd
      rw [lget_eq] at hfd
      split at h
      · rename_i n hn
        rw [forceNat_eq] at h
        obtain ⟨rfl, rfl⟩ := pair_inj h
        have hx := hf.eval hx
        rw [show a.eval x = _ from hx.2]
        have hfd : fs[f]? = some fd := by simpa using hfd
        exact Fine.quiet hr (u := p.at i (o + fd.offset)) (by simp [Instr.fieldAt, run_underlying' hu, hfd, Instr.sureAddr, Pl.at, size_pos hn]) ⟨hx.1, rfl⟩
      · cases h
    · cases h
  · cases h
theorem oField_sound (hr : Rel B p s w) (hf : fr.is p s.n a) {t : TypeId} {x : Operand} {f : Nat} (h : oField P s t (fr.eval x) f = some (.val v, s')) :
    Fine P B p s w (do pure (.value (← Instr.field t (a.eval x) f))) v s' := by
  unfold oField at h
  split at h
  · rename_i fs c hu hx
    obtain ⟨cs, hx, hcs⟩ := hf.eval hx
    split at h
    · rename_i fd hfd
      rw [lget_eq] at hfd
      have hfd : fs[f]? = some fd := by simpa using hfd
      split at h
      · rename_i n ha hn
        split at h
        · obtain ⟨rfl, rfl⟩ := pair_inj h
          rw [hx]
          refine Fine.quiet hr (u := .agg (cs.extract fd.offset (fd.offset + n))) ?_ ⟨_, rfl, lslice_is hcs _ _⟩
          simp [Instr.field, run_underlying' hu, hfd, asAgg, part, run_isAgg ha, run_sizeOf hn]
        · cases h
      · rename_i ha
        obtain ⟨c', hc', rfl, rfl⟩ := map_inj h
        rw [lget_eq] at hc'
        obtain ⟨u, hu', hcu⟩ := hcs.get _ _ hc'
        have hu' : cs[fd.offset]? = some u := by simpa using hu'
        rw [hx]
        refine Fine.quiet hr (u := u) ?_ hcu
        simp [Instr.field, run_underlying' hu, hfd, asAgg, part, run_isAgg ha, hu']
      · cases h
    · cases h
  · cases h
theorem oIndexAddr_sound (hr : Rel B p s w) (hf : fr.is p s.n a) {t : TypeId} {x y : Operand} (h : oIndexAddr P s t (fr.eval x) (fr.eval y) = some (.val v, s')) :
    Fine P B p s w (do pure (.value (← Instr.indexAt t (a.eval x) (a.eval y)))) v s' := by
  unfold oIndexAddr at h
  split at h
  · rename_i n e i o kk k hu hx hy
    split at h
    · rename_i size hsz hb
      rw [forceNat_eq] at h
      obtain ⟨rfl, rfl⟩ := pair_inj h
      have hx := hf.eval hx
      have hb := Nat.le_of_ble_eq_true hb
      rw [show a.eval x = _ from hx.2, show a.eval y = _ from hf.eval hy]
      refine Fine.quiet hr (u := p.at i (o + k * size)) ?_ ⟨hx.1, rfl⟩
      have hk : (0 : Int) ≤ Int.ofNat k ∧ Int.ofNat k < (n : Int) := ⟨Int.natCast_nonneg k, by have : k < n := hb; simp; omega⟩
      simp only [Instr.indexAt, asIntOf, Sem.run_bind, Sem.run_pure, Result.andThen_ok, run_underlying' hu, Instr.sureAddr, Pl.at, run_sizeOf hsz, if_pos hk, Sem.run_ite, addr_add]
      simp
    · cases h
  · rename_i e i o n c kk k hu hx hy
    split at h
    · rename_i size hsz hb
      rw [forceNat_eq] at h
      obtain ⟨rfl, rfl⟩ := pair_inj h
      have hx := hf.eval hx
      have hb := Nat.le_of_ble_eq_true hb
      rw [show a.eval x = _ from hx.2.2, show a.eval y = _ from hf.eval hy]
      refine Fine.quiet hr (u := p.at i (o + k * size)) ?_ ⟨hx.1, rfl⟩
      have hk : (0 : Int) ≤ Int.ofNat k ∧ Int.ofNat k < (n : Int) := ⟨Int.natCast_nonneg k, by have : k < n := hb; simp; omega⟩
      simp only [Instr.indexAt, asIntOf, Sem.run_bind, Sem.run_pure, Result.andThen_ok, run_underlying' hu, Instr.sureAddr, Pl.at, run_sizeOf hsz, if_pos hk, Sem.run_ite, addr_add]
      simp
    · cases h
  · rename_i e i o n c kk k hu hx hy
    split at h
    · rename_i size hsz hb
      rw [forceNat_eq] at h
      obtain ⟨rfl, rfl⟩ := pair_inj h
      obtain ⟨hxi, c', _, _, hx⟩ := hf.eval hx
      have hb := Nat.le_of_ble_eq_true hb
      rw [hx, show a.eval y = _ from hf.eval hy]
      refine Fine.quiet hr (u := p.at i (o + k * size)) ?_ ⟨hxi, rfl⟩
      have hk : (0 : Int) ≤ Int.ofNat k ∧ Int.ofNat k < (n : Int) := ⟨Int.natCast_nonneg k, by have : k < n := hb; simp; omega⟩
      simp only [Instr.indexAt, asIntOf, Sem.run_bind, Sem.run_pure, Result.andThen_ok, run_underlying' hu, Instr.sureAddr, Pl.at, run_sizeOf hsz, if_pos hk, Sem.run_ite, addr_add]
      simp
    · cases h
  · cases h
theorem oIndex_sound (hr : Rel B p s w) (hf : fr.is p s.n a) {t : TypeId} {x y : Operand} (h : oIndex P s t (fr.eval x) (fr.eval y) = some (.val v, s')) :
    Fine P B p s w (do pure (.value (← Instr.index t (a.eval x) (a.eval y)))) v s' := by
  unfold oIndex at h
  split at h
  · rename_i z kk k hu hx hy
    obtain ⟨b, hb, rfl, rfl⟩ := map_inj h
    rw [lget_eq] at hb
    rw [show a.eval x = _ from hf.eval hx, show a.eval y = _ from hf.eval hy]
    refine Fine.quiet hr (u := .int .u8 b.toNat) ?_ rfl
    have hb' : z[k]? = some b := by
      rw [Array.getElem?_toList] at hb
      rw [Array.getElem?_eq_some_iff] at hb
      obtain ⟨h1, h2⟩ := hb
      have h1' : k < z.size := h1
      rw [getElem?_pos z k h1']
      exact congrArg some h2
    simp [Instr.index, asIntOf, run_underlying' hu, hb']
  · rename_i n e c kk k hu hx hy
    obtain ⟨cs, hx, hcs⟩ := hf.eval hx
    split at h
    · rename_i size ha hsz hb
      have hb := Nat.le_of_ble_eq_true hb
      split at h
      · obtain ⟨rfl, rfl⟩ := pair_inj h
        rw [hx, show a.eval y = _ from hf.eval hy]
        refine Fine.quiet hr (u := .agg (cs.extract (k * size) (k * size + size))) ?_ ⟨_, rfl, lslice_is hcs _ _⟩
        have hk : (0 : Int) ≤ Int.ofNat k ∧ Int.ofNat k < (n : Int) := ⟨Int.natCast_nonneg k, by have : k < n := hb; simp; omega⟩
        simp only [Instr.index, asIntOf, Sem.run_bind, Sem.run_pure, Result.andThen_ok, run_underlying' hu, run_sizeOf hsz, if_pos hk, Sem.run_ite, part, run_isAgg ha]
        simp
      · cases h
    · rename_i size ha hsz hb
      have hb := Nat.le_of_ble_eq_true hb
      obtain ⟨c', hc', rfl, rfl⟩ := map_inj h
      rw [lget_eq] at hc'
      obtain ⟨u, hu', hcu⟩ := hcs.get _ _ hc'
      have hu' : cs[k * size]? = some u := by simpa using hu'
      rw [hx, show a.eval y = _ from hf.eval hy]
      refine Fine.quiet hr (u := u) ?_ hcu
      have hk : (0 : Int) ≤ Int.ofNat k ∧ Int.ofNat k < (n : Int) := ⟨Int.natCast_nonneg k, by have : k < n := hb; simp; omega⟩
      simp only [Instr.index, asIntOf, Sem.run_bind, Sem.run_pure, Result.andThen_ok, run_underlying' hu, run_sizeOf hsz, if_pos hk, Sem.run_ite, part, run_isAgg ha]
      simp [hu']
    · cases h
  · cases h

end Go.Ax

/- Each operation of a symbolic run is what the model does, fifth part: slices. -/
namespace Go.Ax
open Go

variable {P : Program} {B : Nat} {p : Pl} {s s' : St} {w : World} {fr : Fr} {a : Act} {v : AV}

theorem ScL.is_of_get {n : Nat} : ∀ {l : List Sc} {u : List Value}, u.length = l.length → (∀ (j : Nat) (x : Sc), l[j]? = some x → ∃ y, u[j]? = some y ∧ x.is p n y) → ScL.is p n l u
  | [], [], _, _ => trivial
  | x :: l, y :: u, hl, h => ⟨by obtain ⟨z, hz, hx⟩ := h 0 x rfl; simp at hz; subst hz; exact hx, ScL.is_of_get (by simpa using hl) fun j x hj => by simpa using h (j + 1) x (by simpa using hj)⟩
  | [], _ :: _, hl, _ => by simp at hl
  | _ :: _, [], hl, _ => by simp at hl
theorem repeat_length (z : List Sc) : ∀ k, (repeatCells z k).length = k * z.length
  | 0 => by simp [repeatCells]
  | k + 1 => by simp [repeatCells, repeat_length z k, Nat.add_mul]; omega
theorem repeat_get (z : List Sc) : ∀ (k j : Nat) (x : Sc), (repeatCells z k)[j]? = some x → z[j % z.length]? = some x
  | 0, j, x, h => by simp [repeatCells] at h
  | k + 1, j, x, h => by
    unfold repeatCells at h
    by_cases hj : j < z.length
    · rw [List.getElem?_append_left hj] at h
      rw [Nat.mod_eq_of_lt hj]; exact h
    · rw [List.getElem?_append_right (by omega)] at h
      have := repeat_get z k _ x h
      rw [Nat.mod_eq_sub_mod (by omega)]; exact this
/-- A row of zeros, as the model makes it. -/
theorem zeros_is {n : Nat} {z : List Sc} {u : Array Value} (h : ScL.is p n z u.toList) (k m : Nat) (hm : m = k * z.length) :
    ScL.is p n (repeatCells z k) ((Array.range m).map fun j => u[j % u.size]!).toList := by
  have hl := h.length
  simp only [Array.length_toList] at hl
  refine ScL.is_of_get (by simp [repeat_length, hm]) fun j x hj => ?_
  have hjl : j < (repeatCells z k).length := by rw [List.getElem?_eq_some_iff] at hj; exact hj.1
  rw [repeat_length] at hjl
  obtain ⟨y, hy, hxy⟩ := h.get _ _ (repeat_get z k j x hj)
  refine ⟨y, ?_, hxy⟩
  have hy : u[j % z.length]? = some y := by simpa using hy
  have hjm : j < m := by omega
  simp [hjm, hl, getElem!_def, hy]
theorem and_true' {b c : Bool} (h : (b && c) = true) : b = true ∧ c = true := by simpa using h

theorem oBuildSlice_sound (hr : Rel B p s w) (hB : B ≤ w.heap.size) (hf : fr.is p s.n a) {t : TypeId} {len : Nat} {ps : Array (Nat × Operand)} (h : oBuildSlice P fr s t len ps.toList = some (.val v, s')) :
    Fine P B p s w (do pure (.value (← Instr.buildSlice t len (ps.map fun (i, x) => (i, a.eval x))))) v s' := by
  unfold oBuildSlice at h
  split at h
  · rename_i e hu
    split at h
    · rename_i size z hsz hz
      split at h
      · rename_i hb
        obtain ⟨hb, hzl⟩ := and_true' hb
        have hb := Nat.le_of_ble_eq_true hb
        have hzl := Nat.eq_of_beq_eq_true hzl
        rw [Option.map_eq_some_iff] at h
        obtain ⟨c, hc, h⟩ := h
        injection h with h1 h2; injection h1 with h1; subst h1 h2
        obtain ⟨u, hu', hzu⟩ := run_zeroCells hz w p s.n
        have hnot : ¬ (len * size > 2 ^ 24) := by omega
        have key : ∀ cs0 : Array Value, ScL.is p s.n (repeatCells z len) cs0.toList → (∀ cs', Instr.fill (fun i => some (i * size, size)) cs0 (ps.toList.map fun (i, x) => (i, a.eval x)) = some cs' →
            (Instr.buildSlice t len (ps.map fun (i, x) => (i, a.eval x))).run P w = ((newRow e cs').run P w).andThen fun r w' => .ok (.slice (some r) len len) w') →
            Fine P B p s w (do pure (.value (← Instr.buildSlice t len (ps.map fun (i, x) => (i, a.eval x))))) (.sc (.slc s.n 0 len len)) (s.row e true c) := by
          intro cs0 hcs0 hrun
          obtain ⟨cs', h1, h2⟩ := fillArr_sound hf hc hcs0
          obtain ⟨h3, h4⟩ := newRow_sound (P := P) hr hB e h2
          refine ⟨.slice (some ⟨w.heap.size, 0, none⟩) len len, _, _, .inl ?_, ⟨p.set_has _ _ _ _ (by rw [row_n]; omega), Nat.le_refl _, by simp only [p.set_ρ _ _ _ hr.n8]⟩, h4⟩
          rw [Sem.run_bind, hrun cs' h1, h3]
          rfl
        by_cases h0 : len * size = 0
        · have hz0 : repeatCells z len = [] := by rw [← List.length_eq_zero_iff, repeat_length, hzl]; exact h0
          refine key #[] (by rw [hz0]; trivial) fun cs' h1 => ?_
          have hr0 : Array.range 0 = #[] := by simp
          have hn0 : ¬ (0 > 2 ^ 24) := by omega
          simp only [Instr.buildSlice, Sem.run_bind, run_underlying' hu, run_sizeOf hsz, Result.andThen_ok, h0, if_true, Sem.run_pure, if_neg hn0, hr0, Array.map_empty]
          have hmap : (ps.map fun (i, x) => (i, a.eval x)).toList = ps.toList.map fun (i, x) => (i, a.eval x) := by simp
          rw [hmap, h1]
          simp
        · refine key _ (zeros_is hzu len (len * size) (by rw [hzl])) fun cs' h1 => ?_
          simp only [Instr.buildSlice, Sem.run_bind, run_underlying' hu, run_sizeOf hsz, Result.andThen_ok, if_neg hnot, if_neg h0, Sem.run_pure, hu']
          have hmap : (ps.map fun (i, x) => (i, a.eval x)).toList = ps.toList.map fun (i, x) => (i, a.eval x) := by simp
          rw [hmap, h1]
          simp
      · cases h
    · cases h
  · cases h

theorem oMakeSlice_sound (hr : Rel B p s w) (hB : B ≤ w.heap.size) (hf : fr.is p s.n a) {t : TypeId} {x y : Operand} (h : oMakeSlice P s t (fr.eval x) (fr.eval y) = some (.val v, s')) :
    Fine P B p s w (do pure (.value (← Instr.makeSlice t (a.eval x) (a.eval y)))) v s' := by
  unfold oMakeSlice at h
  split at h
  · rename_i e k1 ln k2 cp hu hx hy
    split at h
    · rename_i info z hi hz
      split at h
      · rename_i hb1 hb2
        obtain ⟨hb2, hzl⟩ := and_true' hb2
        have hb1 := Nat.le_of_ble_eq_true hb1
        have hb2 := Nat.le_of_ble_eq_true hb2
        have hzl := Nat.eq_of_beq_eq_true hzl
        rw [forceNat_eq, forceNat_eq] at h
        obtain ⟨rfl, rfl⟩ := pair_inj h
        obtain ⟨u, hu', hzu⟩ := run_zeroCells hz w p s.n
        have hcp : cp ≤ 1000000 := Nat.le_trans (Nat.le_mul_of_pos_right cp (by omega)) hb2
        have hcb : cp * info.bytes ≤ 1000000 := Nat.le_trans (Nat.mul_le_mul_left cp (by omega)) hb2
        have hsz : sizeOf? P e = some info.size := by simp [sizeOf?, hi]
        rw [show a.eval x = _ from hf.eval hx, show a.eval y = _ from hf.eval hy]
        have e1 : IntKind.i64.wrap (Int.ofNat ln) = Int.ofNat ln := wrap_i64 _ (by have : 0 ≤ Int.ofNat ln := Int.natCast_nonneg ln; omega) (by simp; omega)
        have e2 : IntKind.i64.wrap (Int.ofNat cp) = Int.ofNat cp := wrap_i64 _ (by have : 0 ≤ Int.ofNat cp := Int.natCast_nonneg cp; omega) (by simp; omega)
        have hnl : ((decide (Int.ofNat cp < 0) || decide ((info.bytes : Int) * Int.ofNat cp > 2 ^ 48)) || decide (Int.ofNat ln < 0) || decide (Int.ofNat ln > Int.ofNat cp)) = false := by
          have : (info.bytes : Int) * Int.ofNat cp = ((cp * info.bytes : Nat) : Int) := by simp [Int.mul_comm]
          rw [this]
          simp only [Bool.or_eq_false_iff, decide_eq_false_iff_not]
          refine ⟨⟨⟨by simp, by omega⟩, by simp⟩, by simp; omega⟩
        have key : ∀ cs0 : Array Value, ScL.is p s.n (repeatCells z cp) cs0.toList →
            (Instr.makeSlice t (.int k1 (.ofNat ln)) (.int k2 (.ofNat cp))).run P w = ((newRow e cs0).run P w).andThen (fun r w' => .ok (.slice (some r) ln cp) w') →
            Fine P B p s w (do pure (.value (← Instr.makeSlice t (.int k1 (.ofNat ln)) (.int k2 (.ofNat cp))))) (.sc (.slc s.n 0 ln cp)) (s.row e true (repeatCells z cp)) := by
          intro cs0 hcs0 hrun
          obtain ⟨h3, h4⟩ := newRow_sound (P := P) hr hB e hcs0
          refine ⟨.slice (some ⟨w.heap.size, 0, none⟩) ln cp, _, _, .inl ?_, ⟨p.set_has _ _ _ _ (by rw [row_n]; omega), hb1, by simp only [p.set_ρ _ _ _ hr.n8]⟩, h4⟩
          rw [Sem.run_bind, hrun, h3]
          rfl
        by_cases h0 : cp * info.size = 0
        · have hz0 : repeatCells z cp = [] := by rw [← List.length_eq_zero_iff, repeat_length, hzl]; exact h0
          refine key #[] (by rw [hz0]; trivial) ?_
          simp only [Instr.makeSlice, Sem.run_bind, run_underlying' hu, Result.andThen_ok, asInt, asIntOf, Sem.run_pure, run_typeInfo hi, e1, e2]
          rw [if_neg (by rw [hnl]; simp)]
          have hr0 : Array.range 0 = #[] := by simp
          simp [run_sizeOf hsz, h0, hr0]
        · refine key _ (zeros_is hzu cp (cp * info.size) (by rw [hzl])) ?_
          simp only [Instr.makeSlice, Sem.run_bind, run_underlying' hu, Result.andThen_ok, asInt, asIntOf, Sem.run_pure, run_typeInfo hi, e1, e2]
          rw [if_neg (by rw [hnl]; simp)]
          simp only [Sem.run_bind, Sem.run_pure, Result.andThen_ok, run_askRoom, run_sizeOf hsz, Int.ofNat_eq_natCast, Int.toNat_natCast, if_neg h0, hu']
      · cases h
    · cases h
  · cases h

end Go.Ax

/- Each operation of a symbolic run is what the model does, sixth part: cutting a slice. -/
namespace Go.Ax
open Go

variable {P : Program} {B : Nat} {p : Pl} {s s' : St} {w : World} {fr : Fr} {a : Act} {v : AV}

def OptIs (p : Pl) (n : Nat) : Option AV → Option Value → Prop
  | none, none => True
  | some x, some v => x.is p n v
  | _, _ => False
theorem evalOpt_is (hf : fr.is p s.n a) {x : Option Operand} {r : Option AV} (h : evalOpt fr x = some r) : OptIs p s.n r (x.map a.eval) := by
  cases x with
  | none => injection h with h; subst h; trivial
  | some x =>
    unfold evalOpt at h
    rw [Option.map_eq_some_iff] at h
    obtain ⟨y, hy, rfl⟩ := h
    exact hf.eval hy
/-- A bound that is in range. -/
theorem bound_some {n : Nat} {x : AV} {d top m : Nat} (h : bound? (some x) d top = some m) {u : Value} (hx : x.is p n u) : m ≤ top ∧ ∀ (y : Nat) (code : Go.BoundsCode) (w : World), top ≤ y → (Instr.sliceBound u y code).run P w = .ok m w := by
  unfold bound? at h
  split at h
  · rename_i hh; cases hh
  · rename_i i hh
    split at h
    · rename_i hle
      have hle := Nat.le_of_ble_eq_true hle
      injection h with h; subst h
      injection hh with hh; subst hh
      refine ⟨hle, fun y code w hy => ?_⟩
      rw [show u = _ from hx]
      have : (0 : Int) ≤ Int.ofNat i ∧ Int.ofNat i ≤ (y : Int) := ⟨Int.natCast_nonneg i, Int.ofNat_le.2 (show i ≤ y by omega)⟩
      simp only [Instr.sliceBound, asIntOf, Sem.run_bind, Sem.run_pure, Result.andThen_ok, if_pos this]
      rfl
    · cases h
  · cases h
theorem bound_none {d top m : Nat} (h : bound? none d top = some m) : m = d := by
  unfold bound? at h; simpa using h.symm
theorem bound_dflt (y : AV) (d d' top : Nat) : bound? (some y) d top = bound? (some y) d' top := by
  unfold bound?
  cases y with
  | tup l => rfl
  | one z => cases z with
    | agg l => rfl
    | sc x =>
      cases x with
      | int k n => cases n <;> rfl
      | _ => rfl
theorem cutAt_eq (o l m size : Nat) : cutAt o l m size = if m = l then o else o + l * size := by
  unfold cutAt
  cases h : Nat.beq m l
  · rw [if_neg (fun e => by subst e; simp at h)]
  · rw [if_pos (Nat.eq_of_beq_eq_true h)]

/-- The three bounds. -/
theorem bounds_sound {n : Nat} {len cap m h l : Nat} {lo hi mx : Option AV} {lo' hi' mx' : Option Value} (hlo : OptIs p n lo lo') (hhi : OptIs p n hi hi') (hmx : OptIs p n mx mx') (hno : ¬ (mx.isSome = true ∧ hi.isNone = true))
    (h1 : bound? mx cap cap = some m) (h2 : bound? hi len m = some h) (h3 : bound? lo 0 h = some l) (hl : len ≤ cap) (b : Bool) (w : World) :
    (Instr.sliceBounds b len cap lo' hi' mx').run P w = .ok (l, h, m) w ∧ l ≤ h ∧ h ≤ m ∧ m ≤ cap := by
  unfold Instr.sliceBounds
  cases mx with
  | none =>
    cases mx' with
    | some _ => exact hmx.elim
    | none =>
      obtain rfl := bound_none h1
      cases hi with
      | none =>
        cases hi' with
        | some _ => exact hhi.elim
        | none =>
          obtain rfl := bound_none h2
          cases lo with
          | none =>
            cases lo' with
            | some _ => exact hlo.elim
            | none => obtain rfl := bound_none h3; exact ⟨by simp, by omega, hl, Nat.le_refl _⟩
          | some x =>
            cases lo' with
            | none => exact hlo.elim
            | some u =>
              obtain ⟨ha, hb⟩ := bound_some (P := P) h3 hlo
              exact ⟨by simp [hb _ _ _ (Nat.le_refl _)], ha, hl, Nat.le_refl _⟩
      | some x =>
        cases hi' with
        | none => exact hhi.elim
        | some u =>
          obtain ⟨ha, hb⟩ := bound_some (P := P) h2 hhi
          cases lo with
          | none =>
            cases lo' with
            | some _ => exact hlo.elim
            | none => obtain rfl := bound_none h3; exact ⟨by simp [hb _ _ _ (Nat.le_refl _)], by omega, ha, Nat.le_refl _⟩
          | some y =>
            cases lo' with
            | none => exact hlo.elim
            | some u' =>
              obtain ⟨hc, hd⟩ := bound_some (P := P) h3 hlo
              exact ⟨by simp [hb _ _ _ (Nat.le_refl _), hd _ _ _ (Nat.le_refl _)], hc, ha, Nat.le_refl _⟩
  | some z =>
    cases mx' with
    | none => exact hmx.elim
    | some uz =>
      obtain ⟨hma, hmb⟩ := bound_some (P := P) h1 hmx
      cases hi with
      | none => exact absurd ⟨rfl, rfl⟩ hno
      | some x =>
        cases hi' with
        | none => exact hhi.elim
        | some u =>
          obtain ⟨ha, hb⟩ := bound_some (P := P) h2 hhi
          cases lo with
          | none =>
            cases lo' with
            | some _ => exact hlo.elim
            | none => obtain rfl := bound_none h3; exact ⟨by simp [hb _ _ _ (Nat.le_refl _), hmb _ _ _ (Nat.le_refl _)], by omega, ha, hma⟩
          | some y =>
            cases lo' with
            | none => exact hlo.elim
            | some u' =>
              obtain ⟨hc, hd⟩ := bound_some (P := P) h3 hlo
              exact ⟨by simp [hb _ _ _ (Nat.le_refl _), hd _ _ _ (Nat.le_refl _), hmb _ _ _ (Nat.le_refl _)], hc, ha, hma⟩

theorem sliceOf_parts {i o len cap size : Nat} {lo hi mx : Option AV} {r : AV} (h : sliceOf i o len cap size lo hi mx = some r) :
    ∃ m hh l, bound? mx cap cap = some m ∧ bound? hi len m = some hh ∧ bound? lo 0 hh = some l ∧ r = .sc (.slc i (cutAt o l m size) (hh - l) (m - l)) := by
  unfold sliceOf at h
  split at h
  · cases h
  · rename_i m hm
    split at h
    · cases h
    · rename_i hh hhh
      split at h
      · cases h
      · rename_i l hl
        rw [forceNat_eq, forceNat_eq, forceNat_eq] at h
        injection h with h
        exact ⟨m, hh, l, hm, hhh, hl, h.symm⟩
theorem no_of {mx hi : Option AV} {r : Option AV} {v : AV} (h : (match mx, hi with | some _, none => none | _, _ => r) = some v) : ¬ (mx.isSome = true ∧ hi.isNone = true) ∧ r = some v := by
  cases mx <;> cases hi <;> simp_all

theorem slice_sound {t : TypeId} {x r : AV} {lo hi mx : Option AV} (h : slice? P t x lo hi mx = some r) {n : Nat} {u : Value} {lo' hi' mx' : Option Value} (hx : x.is p n u) (hlo : OptIs p n lo lo') (hhi : OptIs p n hi hi') (hmx : OptIs p n mx mx') (w : World) :
    ∃ z, (Instr.sliceAt t u lo' hi' mx').run P w = .ok z w ∧ r.is p n z := by
  unfold slice? at h
  split at h
  · rename_i e hu
    rw [show u = _ from hx]
    split at h
    · rename_i m hh l z h1 h2 h3 hsz
      obtain ⟨hno, h⟩ := no_of h
      injection h with h; subst h
      have hm0 : m = 0 := by
        cases mx with
        | none => exact bound_none h1
        | some y => cases mx' with
          | none => exact hmx.elim
          | some _ => exact Nat.le_zero.1 (bound_some (P := P) h1 hmx).1
      subst hm0
      have hh0 : hh = 0 := by
        cases hi with
        | none => exact bound_none h2
        | some y => cases hi' with
          | none => exact hhi.elim
          | some _ => exact Nat.le_zero.1 (bound_some (P := P) h2 hhi).1
      subst hh0
      obtain ⟨hb, hb1, hb2, hb3⟩ := bounds_sound (P := P) hlo hhi hmx hno h1 h2 h3 (Nat.le_refl _) true w
      obtain rfl : l = 0 := by omega
      refine ⟨.slice none 0 0, ?_, rfl⟩
      simp [Instr.sliceAt, Instr.slice, run_underlying' hu, hb, run_sizeOf hsz]
    · cases h
  · rename_i e i o len cap hu
    split at h
    · cases h
    · rename_i size hsz
      obtain ⟨hno, h⟩ := no_of h
      obtain ⟨m, hh, l, h1, h2, h3, rfl⟩ := sliceOf_parts h
      obtain ⟨hb, hb1, hb2, hb3⟩ := bounds_sound (P := P) hlo hhi hmx hno h1 h2 h3 hx.2.1 true w
      rw [show u = _ from hx.2.2]
      refine ⟨.slice (some ⟨p.ρ i, cutAt o l m size, none⟩) (hh - l) (m - l), ?_, hx.1, by omega, rfl⟩
      simp only [Instr.sliceAt, Instr.slice, run_underlying' hu, hb, run_sizeOf hsz, Sem.run_bind, Result.andThen_ok, Sem.run_pure, cutAt_eq]
      split <;> simp [addr_add]
  · rename_i e i o len size hu
    obtain ⟨hi0, c, hlc, hκ, hx⟩ := hx
    split at h
    · cases h
    · rename_i size' hsz
      split at h
      · rename_i hs
        have hs := Nat.eq_of_beq_eq_true hs
        subst hs
        rw [hx]
        unfold sliceOpen at h
        split at h
        · rename_i y
          split at h
          · cases h
          · rename_i m h1
            split at h
            · rename_i hh hy' h2
              split at h
              · cases h
              · rename_i l h3
                rw [forceNat_eq, forceNat_eq, forceNat_eq] at h
                injection h with h; subst h
                -- the same bounds, against the capacity
                have hm : m ≤ len := by
                  cases mx' with
                  | none => exact hmx.elim
                  | some _ => exact (bound_some (P := P) h1 hmx).1
                have h1' : bound? (some y) c c = some m := by
                  unfold bound? at h1 ⊢
                  split at h1
                  · rename_i hq; cases hq
                  · rename_i k j hq
                    split at h1
                    · injection h1 with h1; subst h1
                      rw [Nat.ble_eq_true_of_le (show j ≤ c by omega)]
                    · cases h1
                  · cases h1
                obtain ⟨hb, hb1, hb2, hb3⟩ := bounds_sound (P := P) (len := len) hlo hhi hmx (by simp) h1' (show bound? (some hy') len m = some hh by rw [bound_dflt _ len 0]; exact h2) h3 hlc true w
                refine ⟨.slice (some ⟨p.ρ i, cutAt o l m size', none⟩) (hh - l) (m - l), ?_, hi0, by omega, rfl⟩
                simp only [Instr.sliceAt, Instr.slice, run_underlying' hu, hb, run_sizeOf hsz, Sem.run_bind, Result.andThen_ok, Sem.run_pure, cutAt_eq]
                split <;> simp [addr_add]
            · cases h
        · split at h
          · cases h
          · rename_i hh h2
            split at h
            · cases h
            · rename_i l h3
              have hmx0 : mx' = none := by cases mx' with | none => rfl | some _ => exact hmx.elim
              subst hmx0
              have hhl : hh ≤ len := by
                cases hi with
                | none => rw [bound_none h2]; exact Nat.le_refl _
                | some y => cases hi' with
                  | none => exact hhi.elim
                  | some _ => exact (bound_some (P := P) h2 hhi).1
              have h2' : bound? hi len c = some hh := by
                unfold bound? at h2 ⊢
                split at h2
                · exact h2
                · rename_i k j
                  split at h2
                  · injection h2 with h2; subst h2
                    rw [Nat.ble_eq_true_of_le (show j ≤ c by omega)]
                  · cases h2
                · cases h2
              obtain ⟨hb, hb1, hb2, hb3⟩ := bounds_sound (P := P) (mx := none) (m := c) hlo hhi hmx (by simp) rfl h2' h3 hlc true w
              split at h
              · rename_i hz
                have hz := Nat.eq_of_beq_eq_true hz
                subst hz
                injection h with h; subst h
                refine ⟨.slice (some ⟨p.ρ i, o, none⟩) hh c, ?_, hi0, c, by omega, hκ, rfl⟩
                simp only [Instr.sliceAt, Instr.slice, run_underlying' hu, hb, run_sizeOf hsz, Sem.run_bind, Result.andThen_ok, Sem.run_pure]
                split <;> simp [addr_add]
              · rename_i hlt
                have hlt := Nat.le_of_ble_eq_true hlt
                rw [forceNat_eq, forceNat_eq] at h
                injection h with h; subst h
                refine ⟨.slice (some ⟨p.ρ i, o + l * size', none⟩) (hh - l) (c - l), ?_, hi0, c - l, by omega, ?_, rfl⟩
                · simp only [Instr.sliceAt, Instr.slice, run_underlying' hu, hb, run_sizeOf hsz, Sem.run_bind, Result.andThen_ok, Sem.run_pure]
                  rw [if_neg (by omega)]
                  simp [addr_add]
                · rw [← hκ, Nat.sub_mul, Nat.add_assoc, ← Nat.add_sub_assoc (Nat.mul_le_mul_right _ (by omega)), Nat.add_sub_cancel_left]
              · cases h
      · cases h
  · rename_i zs hu
    rw [show u = _ from hx]
    split at h
    · cases h
    · have hmx0 : mx' = none := by cases mx' with | none => rfl | some _ => exact hmx.elim
      subst hmx0
      split at h
      · cases h
      · rename_i hh h2
        split at h
        · cases h
        · rename_i l h3
          injection h with h; subst h
          obtain ⟨hb, _⟩ := bounds_sound (P := P) (mx := none) (m := zs.size) hlo hhi hmx (by simp) rfl h2 h3 (Nat.le_refl _) false w
          exact ⟨.string (zs.extract l hh), by simp [Instr.sliceAt, Instr.slice, run_underlying' hu, hb], rfl⟩
  · rename_i nn e i o hu
    split at h
    · cases h
    · rename_i size hsz
      obtain ⟨hno, h⟩ := no_of h
      obtain ⟨m, hh, l, h1, h2, h3, rfl⟩ := sliceOf_parts h
      obtain ⟨hb, hb1, hb2, hb3⟩ := bounds_sound (P := P) hlo hhi hmx hno h1 h2 h3 (Nat.le_refl _) false w
      rw [show u = _ from hx.2]
      refine ⟨.slice (some ⟨p.ρ i, cutAt o l m size, none⟩) (hh - l) (m - l), ?_, hx.1, by omega, rfl⟩
      simp only [Instr.sliceAt, run_underlying' hu, hb, run_sizeOf hsz, Sem.run_bind, Result.andThen_ok, Sem.run_pure, cutAt_eq, Pl.at, Instr.sureAddr]
      split <;> simp [addr_add]
  · cases h
theorem oSlice_sound (hr : Rel B p s w) (hf : fr.is p s.n a) {t : TypeId} {x : Operand} {lo hi mx : Option Operand} (h : oSlice P fr s t (fr.eval x) lo hi mx = some (.val v, s')) :
    Fine P B p s w (do pure (.value (← Instr.sliceAt t (a.eval x) (lo.map a.eval) (hi.map a.eval) (mx.map a.eval)))) v s' := by
  unfold oSlice at h
  split at h
  · rename_i hx hlo hhi hmx
    obtain ⟨r, hr', rfl, rfl⟩ := map_inj h
    obtain ⟨z, hz, hzr⟩ := slice_sound hr' (hf.eval hx) (evalOpt_is hf hlo) (evalOpt_is hf hhi) (evalOpt_is hf hmx) w
    exact Fine.quiet hr (by rw [Sem.run_bind, hz]; rfl) hzr
  · cases h

end Go.Ax

/- Each operation of a symbolic run is what the model does, seventh part: append. -/
namespace Go.Ax
open Go

variable {P : Program} {B : Nat} {p : Pl} {s s' : St} {w : World} {fr : Fr} {a : Act} {v : AV}

theorem St.new_h (s : St) (r : Row) : (s.new r).h = s.h.set deep s.n r := by rw [St.new_eq]
theorem St.put_h (s : St) (i : Nat) (r : Row) : (s.put i r).h = s.h.set deep i r := by rw [St.put_eq]
theorem St.put_n (s : St) (i : Nat) (r : Row) : (s.put i r).n = s.n := by rw [St.put_eq]
theorem St.new_n (s : St) (r : Row) : (s.new r).n = s.n + 1 := by rw [St.new_eq]
theorem St.put_lo (s : St) (i : Nat) (r : Row) : (s.put i r).lo = min i s.lo := by rw [St.put_eq]
theorem St.new_lo (s : St) (r : Row) : (s.new r).lo = s.lo := by rw [St.new_eq]
/-- The old number of a block is given up for a new one. -/
theorem Post.transfer (hr : Rel B p s w) {w' : World} {i : Nat} (hi : s.live i) (row : Row) (k : Nat) (hsz : w'.heap.size = w.heap.size)
    (hrow : row.is (p.set s.n (p.ρ i) k) (s.n + 1) s.n w'.heap[p.ρ i]?) (hoth : ∀ b, b ≠ p.ρ i → w'.heap[b]? = w.heap[b]?)
    (hos : w'.os = w.os) (ht : w'.tape = w.tape) (ho : w'.output = w.output) : Post B p s w (p.set s.n (p.ρ i) k) ((s.put i .dead).new row) w' := by
  have hil := hr.lt hi
  have hip := hr.place hi
  have hf := p.set_fits s.n (p.ρ i) k
  have hn : ((s.put i .dead).new row).n = s.n + 1 := by rw [St.new_n, St.put_n]
  have hlo : ((s.put i .dead).new row).lo = min i s.lo := by rw [St.new_lo, St.put_lo]
  have hget : ∀ j r, ((s.put i .dead).new row).h.get j = some r → (j = s.n ∧ r = row) ∨ (j = i ∧ r = .dead) ∨ (j ≠ s.n ∧ j ≠ i ∧ s.h.get j = some r) := fun j r h => by
    rw [St.new_h, St.put_h, St.put_n] at h
    rcases T.get_set _ _ _ _ _ _ h with ⟨h1, h2⟩ | ⟨h1, h2⟩
    · exact .inl ⟨h1, h2⟩
    · rcases T.get_set _ _ _ _ _ _ h2 with ⟨h3, h4⟩ | ⟨h3, h4⟩
      · exact .inr (.inl ⟨h3, h4⟩)
      · exact .inr (.inr ⟨h1, h3, h4⟩)
  have hlive : ∀ j, ((s.put i .dead).new row).live j → j = s.n ∨ (j ≠ s.n ∧ j ≠ i ∧ s.live j) := fun j ⟨r, ha, hal⟩ => by
    rcases hget j r ha with ⟨h1, _⟩ | ⟨_, rfl⟩ | ⟨h1, h2, h3⟩
    · exact .inl h1
    · cases hal
    · exact .inr ⟨h1, h2, r, h3, hal⟩
  refine ⟨hr, by omega, by omega, hf, fun i hi ho => ho.resolve_left (by omega), ⟨fun j r hj hl => ?_, fun x y hx hy he => ?_, by have := hr.n8; omega⟩, by omega, fun b hb hx => hoth b fun e => hx i (by omega) hi e.symm, fun j hj hl => ?_, fun j hj hl => ?_, hos, ht, ho⟩
  · rcases hget j r hj with ⟨rfl, rfl⟩ | ⟨_, rfl⟩ | ⟨h1, h2, h3⟩
    · rw [hn, p.set_ρ _ _ _ hr.n8]
      exact ⟨p.set_has _ _ _ _ (by omega), hip.1, by omega, hrow⟩
    · cases hl
    · obtain ⟨g1, g2, g3, g4⟩ := hr.row j r h3 hl
      rw [hn, (hf j g1).2.1, hoth _ (fun e => h2 (hr.inj j i ⟨r, h3, hl⟩ hi e))]
      exact ⟨hf.has (by omega) g1, g2, by omega, g4.fits hf (by omega) g1⟩
  · rcases hlive x hx with rfl | ⟨h1, h2, h3⟩ <;> rcases hlive y hy with rfl | ⟨g1, g2, g3⟩
    · rfl
    · rw [p.set_ρ _ _ _ hr.n8, (hf y (hr.has g3)).2.1] at he
      exact absurd (hr.inj i y hi g3 he).symm g2
    · rw [p.set_ρ _ _ _ hr.n8, (hf x (hr.has h3)).2.1] at he
      exact absurd (hr.inj x i h3 hi he) h2
    · rw [(hf x (hr.has h3)).2.1, (hf y (hr.has g3)).2.1] at he
      exact hr.inj x y h3 g3 he
  · rcases hlive j hl with rfl | ⟨_, _, h3⟩
    · exact .inr ⟨i, by omega, hi, by rw [p.set_ρ _ _ _ hr.n8]⟩
    · have := hr.lt h3; omega
  · rcases hlive j hl with rfl | ⟨_, _, h3⟩
    · omega
    · exact h3

theorem lenOf_run {n : Nat} {x : Sc} {k : Nat} (h : lenOf? x = some k) {u : Value} (hx : x.is p n u) (w : World) : (Builtin.lenOf u).run P w = .ok k w := by
  unfold lenOf? at h
  split at h
  · injection h with h; subst h; rw [show u = _ from hx]; rfl
  · injection h with h; subst h; rw [show u = _ from hx.2.2]; rfl
  · injection h with h; subst h; obtain ⟨_, c, _, _, rfl⟩ := hx; rfl
  · cases h
theorem firstOf_run (hr : Rel B p s w) {x : Sc} {size n : Nat} {l : List Sc} (h : firstOf s size n x = some l) {u : Value} (hx : x.is p s.n u) :
    ∃ vs : List Value, (∀ w' : World, w'.heap = w.heap → (Builtin.firstCells size n u).run P w' = .ok vs.toArray w') ∧ ScL.is p s.n l vs := by
  unfold firstOf at h
  split at h
  · injection h with h; subst h; rw [show u = _ from hx]; exact ⟨[], fun _ _ => rfl, trivial⟩
  · rw [show u = _ from hx.2.2]; exact rowRange_sound hr h
  · obtain ⟨_, c, _, _, rfl⟩ := hx; exact rowRange_sound hr h
  · cases h
theorem growBy_le (n : Nat) : ∀ (r c : Nat), Builtin.growBy n r c + 1000 ≤ (c + 1000) * 2 ^ r
  | 0, c => by simp [Builtin.growBy]
  | r + 1, c => by
    unfold Builtin.growBy
    split
    · have : 1 ≤ 2 ^ (r + 1) := Nat.one_le_two_pow
      exact Nat.le_mul_of_pos_right _ (by omega)
    · refine Nat.le_trans (growBy_le n r _) ?_
      rw [Nat.pow_succ, Nat.mul_comm (2 ^ r) 2, ← Nat.mul_assoc]
      exact Nat.mul_le_mul_right _ (by omega)
theorem nextcap_le {need c : Nat} (h : c ≤ need) : Builtin.nextslicecap need c ≤ 16 * (need + 1000) := by
  unfold Builtin.nextslicecap
  split
  · omega
  · split
    · omega
    · have := growBy_le need 4 c
      omega
theorem length_lslice_is {n : Nat} {l : List Sc} {vs : List Value} (h : ScL.is p n l vs) : vs.length = l.length := h.length

theorem noZeros_run {ts : List TypeId} (h : noZeros P ts = true) (t : TypeId) (w : World) :
    (match (t :: ts).toArray[1]? with | some xType => do pure ((← underlying xType) matches .int _) | none => pure false : Sem Bool).run P w = .ok false w := by
  cases ts with
  | nil => rfl
  | cons t2 r =>
    unfold noZeros at h
    simp only at h
    simp only [List.getElem?_toArray, List.getElem?_cons_succ, List.getElem?_cons_zero]
    cases hu : P.underlying t2 with
    | none => rw [hu] at h; cases h
    | some d =>
      rw [hu] at h
      rw [Sem.run_bind, run_underlying' hu, Result.andThen_ok]
      cases d <;> first | rfl | cases h

/-- What is known where something may be appended. -/
structure Room (P : Program) (e : TypeId) (info : TypeInfo) (need : Nat) : Prop where
  isInfo : P.info? e = some info
  fits : need * (info.bytes + 1) ≤ 1000000
  bytes : 1 ≤ info.bytes
  size : 1 ≤ info.size
  zero : ∃ z, zeroCellsOf P e = some z ∧ z.length = info.size
theorem room_of {e : TypeId} {info : TypeInfo} {need : Nat} (hi : P.info? e = some info) (h : appendFits P e info need = true) : Room P e info need := by
  unfold appendFits at h
  simp only [Bool.and_eq_true] at h
  obtain ⟨⟨⟨h1, h2⟩, h3⟩, h4⟩ := h
  refine ⟨hi, Nat.le_of_ble_eq_true h1, Nat.le_of_ble_eq_true h2, Nat.le_of_ble_eq_true h3, ?_⟩
  split at h4
  · rename_i z hz; exact ⟨z, hz, Nat.eq_of_beq_eq_true h4⟩
  · cases h4

end Go.Ax

/- Each operation of a symbolic run is what the model does, eighth part: append, the model's own run. -/
namespace Go.Ax
open Go

variable {P : Program} {B : Nat} {p : Pl} {s s' : St} {w : World} {fr : Fr} {a : Act} {v : AV}

theorem noZeros_cases {r : List TypeId} (h : noZeros P r = true) (t : TypeId) : ((t :: r).toArray[1]? = none) ∨ ∃ x d, (t :: r).toArray[1]? = some x ∧ P.underlying x = some d ∧ (∀ k, d ≠ .int k) := by
  cases r with
  | nil => exact .inl rfl
  | cons t2 r =>
    refine .inr ⟨t2, ?_⟩
    unfold noZeros at h
    simp only at h
    cases hu : P.underlying t2 with
    | none => rw [hu] at h; cases h
    | some d =>
      rw [hu] at h
      refine ⟨d, by simp, rfl, fun k e => ?_⟩
      subst e; cases h

theorem append_fits_run {t ty e : TypeId} {r : List TypeId} {info : TypeInfo} (hu : P.underlying t = some (.slice e)) (hz : noZeros P r = true) {base : Option Addr} {sl cap n : Nat} {u : Value} (hi : P.info? e = some info) (hn : (Builtin.lenOf u).run P w = .ok n w)
    (hfit : sl + n ≤ cap) {vs : List Value} (hnew : (Builtin.firstCells info.size n u).run P w = .ok vs.toArray w) {w' : World} (hst : ∀ a, base = some a → (storeCells (a.add (sl * info.size)) vs).run P w = .ok () w') (hno : base = none → w' = w) :
    (Builtin.append_ (t :: r).toArray ty #[.slice base sl cap, u]).run P w = .ok (.slice base (sl + n) cap) w' := by
  have hsz : sizeOf? P e = some info.size := by simp [sizeOf?, hi]
  have h1 : (#[Value.slice base sl cap, u] : Array Value)[0]? = some (.slice base sl cap) := rfl
  have h2 : (#[Value.slice base sl cap, u] : Array Value)[1]? = some u := rfl
  have h0 : (t :: r).toArray[0]? = some t := rfl
  rcases noZeros_cases hz t with hz | ⟨x, d, hz, hd, hk⟩
  · cases base with
    | none =>
      have := hno rfl; subst this
      simp only [Builtin.append_, h0, h1, h2, hz, Sem.run_bind, run_underlying' hu, Result.andThen_ok, run_sizeOf hsz, Sem.run_pure, Bool.false_eq_true, if_false, hn, Bool.not_false, if_true, if_pos hfit, hnew]
    | some a =>
      simp only [Builtin.append_, h0, h1, h2, hz, Sem.run_bind, run_underlying' hu, Result.andThen_ok, run_sizeOf hsz, Sem.run_pure, Bool.false_eq_true, if_false, hn, Bool.not_false, if_true, if_pos hfit, hnew, hst a rfl]
  · cases base with
    | none =>
      have := hno rfl; subst this
      simp only [Builtin.append_, h0, h1, h2, hz, Sem.run_bind, run_underlying' hu, run_underlying' hd, Result.andThen_ok, run_sizeOf hsz, Sem.run_pure, Bool.false_eq_true, if_false, hn, Bool.not_false, if_true, if_pos hfit, hnew]
    | some a =>
      simp only [Builtin.append_, h0, h1, h2, hz, Sem.run_bind, run_underlying' hu, run_underlying' hd, Result.andThen_ok, run_sizeOf hsz, Sem.run_pure, Bool.false_eq_true, if_false, hn, Bool.not_false, if_true, if_pos hfit, hnew, hst a rfl]

theorem cut_cap (need old : Nat) (e : TypeId) (t : Nat) : ∃ c, need ≤ c ∧ (Question.appendCap need old e).cut t = c :=
  ⟨_, by simp [Question.cut], rfl⟩

/-- The row grows: the old cells, the new ones, zeros. -/
theorem append_grow_run {t ty e : TypeId} {r : List TypeId} {info : TypeInfo} (hu : P.underlying t = some (.slice e)) (hz : noZeros P r = true) {base : Option Addr} {sl cap n : Nat} {u : Value} (hroom : Room P e info (sl + n)) (hn : (Builtin.lenOf u).run P w = .ok n w)
    (hgrow : cap < sl + n) {vs os : List Value} (hnew : ∀ w' : World, w'.heap = w.heap → (Builtin.firstCells info.size n u).run P w' = .ok vs.toArray w') (hold : ∀ w' : World, w'.heap = w.heap → (Builtin.firstCells info.size sl (.slice base sl cap)).run P w' = .ok os.toArray w')
    {zu : Value} (hzu : ∀ w' : World, (zeroValue e).run P w' = .ok zu w') :
    ∃ c, sl + n ≤ c ∧ (Builtin.append_ (t :: r).toArray ty #[.slice base sl cap, u]).run P w =
      .ok (.slice (some ⟨w.heap.size, 0, none⟩) (sl + n) c) { { w with drawn := w.drawn + 1 } with heap := w.heap.push (.cells (os.toArray ++ vs.toArray ++ Builtin.zeroCells zu.cells (c - (sl + n))) e) } := by
  have hsz : sizeOf? P e = some info.size := by simp [sizeOf?, hroom.isInfo]
  have hneed : sl + n ≤ 1000000 := Nat.le_trans (Nat.le_mul_of_pos_right _ (by omega)) hroom.fits
  obtain ⟨c, hc, hcut⟩ := cut_cap (sl + n) cap e (w.tape w.drawn (.appendCap (sl + n) cap e))
  refine ⟨c, hc, ?_⟩
  have h1 : (#[Value.slice base sl cap, u] : Array Value)[0]? = some (.slice base sl cap) := rfl
  have h2 : (#[Value.slice base sl cap, u] : Array Value)[1]? = some u := rfl
  have h0 : (t :: r).toArray[0]? = some t := rfl
  have hnfit : ¬ (sl + n ≤ cap) := by omega
  have hti := run_typeInfo hroom.isInfo
  have hmax : ¬ (((sl + n : Nat) : Int) > IntKind.i64.max ∧ info.bytes = 0) := by
    rintro ⟨_, h⟩
    have := hroom.bytes; omega
  have hcap : ¬ (Builtin.nextslicecap (sl + n) cap * info.bytes > 2 ^ 48) := by
    have h1 := nextcap_le (need := sl + n) (c := cap) (by omega)
    have h2 : (sl + n) * info.bytes ≤ 1000000 := Nat.le_trans (Nat.mul_le_mul_left _ (by omega)) hroom.fits
    have h3 : info.bytes ≤ 1000000 := by
      have : 1 * (info.bytes + 1) ≤ (sl + n) * (info.bytes + 1) := Nat.mul_le_mul_right _ (by omega)
      have := hroom.fits
      omega
    have h4 : Builtin.nextslicecap (sl + n) cap * info.bytes ≤ 16 * (sl + n + 1000) * info.bytes := Nat.mul_le_mul_right _ h1
    have h5 : 16 * (sl + n + 1000) * info.bytes = 16 * ((sl + n) * info.bytes) + 16000 * info.bytes := by
      rw [Nat.mul_add, Nat.add_mul, Nat.mul_assoc]
    omega
  have hnf : (Question.appendCap (sl + n) cap e).forced = false := rfl
  have hd1 := hold { w with drawn := w.drawn + 1 } rfl
  have hd2 := hnew { w with drawn := w.drawn + 1 } rfl
  have hd3 := hzu { w with drawn := w.drawn + 1 }
  rcases noZeros_cases hz t with hz | ⟨x, d, hz, hd, hk⟩
  · simp only [Builtin.append_, h0, h1, h2, hz, Sem.run_bind, run_underlying' hu, Result.andThen_ok, run_sizeOf hsz, Sem.run_pure, Bool.false_eq_true, if_false, hn, Bool.not_false, if_true, if_neg hnfit, hti, if_neg hmax, if_neg hcap, run_choose, hnf, hcut, run_askRoom, hd1, hd2, hd3, newRow, run_newObj, false_or]
  · simp only [Builtin.append_, h0, h1, h2, hz, Sem.run_bind, run_underlying' hu, run_underlying' hd, Result.andThen_ok, run_sizeOf hsz, Sem.run_pure, Bool.false_eq_true, if_false, hn, Bool.not_false, if_true, if_neg hnfit, hti, if_neg hmax, if_neg hcap, run_choose, hnf, hcut, run_askRoom, hd1, hd2, hd3, newRow, run_newObj, false_or]

end Go.Ax

/- Each operation of a symbolic run is what the model does, ninth part: append and the other builtins. -/
namespace Go.Ax
open Go

variable {P : Program} {B : Nat} {p : Pl} {s s' : St} {w : World} {fr : Fr} {a : Act} {v : AV}

/-- A value of a builtin. -/
def BFine (P : Program) (B : Nat) (p : Pl) (s : St) (w : World) (x : Sem Value) (v : AV) (s' : St) : Prop :=
  ∃ u q w', x.run P w = .ok u w' ∧ v.is q s'.n u ∧ Post B p s w q s' w'
theorem BFine.fine {x : Sem Value} {v : AV} (h : BFine P B p s w x v s') : Fine P B p s w (do pure (.value (← x))) v s' := by
  obtain ⟨u, q, w', h1, h2, h3⟩ := h
  exact ⟨u, q, w', .inl (by rw [Sem.run_bind, h1]; rfl), h2, h3⟩
theorem BFine.quiet (hr : Rel B p s w) {x : Sem Value} {u : Value} {v : AV} (h : x.run P w = .ok u w) (hv : v.is p s.n u) : BFine P B p s w x v s :=
  ⟨u, p, w, h, hv, Post.refl hr⟩

theorem heapRel (hr : Rel B p s w) {w' : World} (h : w'.heap = w.heap) : Rel B p s w' :=
  ⟨fun i r h1 h2 => by rw [h]; exact hr.row i r h1 h2, hr.inj, hr.n8⟩
theorem zeroAnywhere {e : TypeId} {z : List Sc} (h : zeroCellsOf P e = some z) (p : Pl) (n : Nat) : ∃ u, (∀ w : World, (zeroValue e).run P w = .ok u w) ∧ ScL.is p n z u.cells.toList := by
  unfold zeroCellsOf at h
  split at h
  · rename_i i hi
    split at h
    · rename_i u hu
      rw [Option.map_eq_some_iff] at h
      obtain ⟨a, ha, rfl⟩ := h
      exact ⟨u, fun w => by simp [zeroValue, run_typeInfo hi, hu], (ofA1_is ha).cells⟩
    · cases h
  · cases h
theorem zeroCells_size (z : Array Value) (k : Nat) : (Builtin.zeroCells z k).size = k * z.size := by simp [Builtin.zeroCells]

/-- The new row behind an append that grows. -/
theorem grown_post (hr : Rel B p s w) (hB : B ≤ w.heap.size) {e : TypeId} {size need c : Nat} {cells : List Sc} {vs : List Value} (hc : ScL.is p s.n cells vs) {zs : Array Value} (hz : zs.size = size) (hvs : vs.length = need * size) (hle : need ≤ c) :
    let w' : World := { { w with drawn := w.drawn + 1 } with heap := w.heap.push (.cells (vs.toArray ++ Builtin.zeroCells zs (c - need)) e) }
    Post B p s w (p.set s.n w.heap.size (c * size)) (s.row e false cells) w' := by
  intro w'
  have h0 : Post B p s w p s { w with drawn := w.drawn + 1 } := Post.drew hr
  rw [St.row_eq]
  have := Post.new' (w := { w with drawn := w.drawn + 1 }) (heapRel hr rfl) hB (.cells e false cells.length (T.ofList cells)) (.cells (vs.toArray ++ Builtin.zeroCells zs (c - need)) e) (c * size) ?_
  · exact h0.trans this
  · have hl := hc.length
    refine ⟨_, IsRow.plain, by simp; omega, fun h => absurd h (by simp), fun _ => ?_, fun j x hj => by have := ofList_get hj; rw [List.getElem?_eq_some_iff] at this; exact this.1, fun j x hj => ?_⟩
    · rw [Pl.set_κ]
      simp only [Array.size_append, List.size_toArray, zeroCells_size, hvs, hz]
      rw [← Nat.add_mul]
      congr 1; omega
    · obtain ⟨y, hy, hxy⟩ := hc.get j x (ofList_get hj)
      refine ⟨y, ?_, hxy.fits (p.set_fits _ _ _) (by omega)⟩
      have hjl : j < vs.length := by rw [List.getElem?_eq_some_iff] at hy; exact hy.1
      rw [Array.getElem?_append_left (by simpa using hjl)]
      simpa using hy
theorem row_false_n (s : St) (e : TypeId) (l : List Sc) : (s.row e false l).n = s.n + 1 := row_n s e false l

theorem appendGrow_sound (hr : Rel B p s w) (hB : B ≤ w.heap.size) {t ty e : TypeId} {r : List TypeId} {info : TypeInfo} (hu : P.underlying t = some (.slice e)) (hz : noZeros P r = true) {base : Option Addr} {sl cap n : Nat} {u : Value} (hroom : Room P e info (sl + n)) (hn : (Builtin.lenOf u).run P w = .ok n w)
    (hgrow : cap < sl + n) {new old : List Sc} {vs os : List Value} (hnew : ∀ w' : World, w'.heap = w.heap → (Builtin.firstCells info.size n u).run P w' = .ok vs.toArray w') (hold : ∀ w' : World, w'.heap = w.heap → (Builtin.firstCells info.size sl (.slice base sl cap)).run P w' = .ok os.toArray w')
    (hvs : ScL.is p s.n new vs) (hos : ScL.is p s.n old os) (hvl : vs.length = n * info.size) (hol : os.length = sl * info.size) {z : Sc} (h : appendGrow s e info.size (sl + n) (old ++ new) = some (z, s')) :
    BFine P B p s w (Builtin.append_ (t :: r).toArray ty #[.slice base sl cap, u]) (.sc z) s' := by
  unfold appendGrow at h
  rw [forceNat_eq, forceNat_eq] at h
  injection h with h; injection h with h1 h2; subst h1 h2
  obtain ⟨zc, hzc, hzl⟩ := hroom.zero
  obtain ⟨zu, hzu, hzi⟩ := zeroAnywhere hzc p s.n
  have hzs : zu.cells.size = info.size := by have := hzi.length; simp only [Array.length_toList] at this; omega
  obtain ⟨c, hle, hrun⟩ := append_grow_run (P := P) (w := w) (ty := ty) hu hz hroom hn hgrow hnew hold hzu
  have hp := grown_post (e := e) (c := c) (need := sl + n) hr hB (hos.append hvs) hzs (by rw [List.length_append, hol, hvl, ← Nat.add_mul]) hle
  refine ⟨_, _, _, hrun, ?_, by simpa using hp⟩
  refine ⟨Pl.set_has _ _ _ _ _ (by rw [row_false_n]; omega), c, hle, by rw [Pl.set_κ]; omega, by rw [Pl.set_ρ _ _ _ _ hr.n8]⟩

theorem range_length {α : Type} {t : T α} : ∀ {n o : Nat} {l : List α}, t.range o n = some l → l.length = n
  | 0, o, l, h => by rw [T.range_zero] at h; injection h with h; subst h; rfl
  | n + 1, o, l, h => by
    rw [T.range_succ] at h
    split at h
    · rename_i x l' hx hl; injection h with h; subst h; simp [range_length hl]
    · cases h
theorem firstOf_length {size n : Nat} {x : Sc} {l : List Sc} (h : firstOf s size n x = some l) : x = .nils ∨ l.length = n * size := by
  unfold firstOf at h
  split at h
  · exact .inl rfl
  · refine .inr ?_; unfold rowRange at h; split at h
    · exact range_length h
    · cases h
  · refine .inr ?_; unfold rowRange at h; split at h
    · exact range_length h
    · cases h
  · cases h

theorem zeroCells_is {n : Nat} {z : List Sc} {u : Value} (h : ScL.is p n z u.cells.toList) (k : Nat) : ScL.is p n (repeatCells z k) (Builtin.zeroCells u.cells k).toList := by
  have hl := h.length
  simp only [Array.length_toList] at hl
  exact zeros_is h k _ (by rw [hl])

theorem range_get {α : Type} {t : T α} : ∀ {n o : Nat} {l : List α}, t.range o n = some l → ∀ j x, l[j]? = some x → t.get (o + j) = some x
  | 0, o, l, h, j, x, hj => by rw [T.range_zero] at h; injection h with h; subst h; simp at hj
  | n + 1, o, l, h, j, x, hj => by
    rw [T.range_succ] at h
    split at h
    · rename_i y l' hy hl
      injection h with h; subst h
      cases j with
      | zero => simp at hj; subst hj; exact hy
      | succ j =>
        have := range_get hl j x (by simpa using hj)
        rw [show o + (j + 1) = o + 1 + j from by omega]; exact this
    · cases h
/-- Onto a row whose capacity is not known, of which the cells up to the slice's length are known. -/
theorem open_sound (hr : Rel B p s w) (hB : B ≤ w.heap.size) {t ty e : TypeId} {r : List TypeId} {info : TypeInfo} (hu : P.underlying t = some (.slice e)) (hz : noZeros P r = true) (hi : P.info? e = some info) {xl yl i len c : Nat} (hroom : Room P e info (xl + yl)) {cc c' : T Sc} {v : Value}
    (hg : hget s.h i = some (.cells e false len cc)) (hle0 : xl * info.size ≤ len) (hlc : xl ≤ c) (hκ : c * info.size = p.κ i) (hn : (Builtin.lenOf v).run P w = .ok yl w) {new : List Sc} {vs : List Value}
    (hvs : ∀ w' : World, w'.heap = w.heap → (Builtin.firstCells info.size yl v).run P w' = .ok vs.toArray w') (hvi : ScL.is p s.n new vs) (hyl' : vs.length = yl * info.size)
    (hc' : ∀ j y, c'.get j = some y → (j < xl * info.size ∧ cc.get j = some y) ∨ (xl * info.size ≤ j ∧ new[j - xl * info.size]? = some y)) :
    BFine P B p s w (Builtin.append_ (t :: r).toArray ty #[.slice (some ⟨p.ρ i, 0, none⟩) xl c, v]) (.sc (.slo s.n 0 (xl + yl) info.size)) ((s.put i .dead).new (.cells e false (xl * info.size + new.length) c')) := by
  obtain ⟨_, cs, hcs, hcl, _, hck, hcb, hcc⟩ := hr.cells hg
  have hck := hck rfl
  have hnl := hvi.length
  have hlen' : ∀ j y, c'.get j = some y → j < xl * info.size + new.length := fun j y hj => by
    rcases hc' j y hj with ⟨ha, _⟩ | ⟨ha, hb⟩
    · omega
    · rw [List.getElem?_eq_some_iff] at hb; obtain ⟨hb, _⟩ := hb; omega
  by_cases hfitc : xl + yl ≤ c
  · -- in place
    have hcap : (xl + yl) * info.size ≤ c * info.size := Nat.mul_le_mul_right _ hfitc
    rw [Nat.add_mul] at hcap
    obtain ⟨fz, hcs, hfz⟩ := hcs
    have hrun := run_storeCells_is (P := P) (p.ρ i) (xl * info.size) e fz vs 0 cs w hcs hfz (by omega) hvi.one
    have hf := p.set_fits s.n (p.ρ i) (p.κ i)
    have hst : ∀ j y, c'.get j = some y → ∃ u, (cs.toList.take (xl * info.size + 0) ++ vs ++ cs.toList.drop (xl * info.size + 0 + vs.length)).toArray[j]? = some u ∧ y.is p s.n u := fun j y hj => by
      rcases hc' j y hj with ⟨ha, hb⟩ | ⟨ha, hb⟩
      · obtain ⟨q, hq, hqy⟩ := hcc j y hb
        refine ⟨q, ?_, hqy⟩
        simp only [List.getElem?_toArray, Nat.add_zero]
        rw [List.append_assoc, List.getElem?_append_left (by simp; omega), List.getElem?_take_of_lt ha]
        simpa using hq
      · obtain ⟨q, hq, hqy⟩ := hvi.get _ _ hb
        refine ⟨q, ?_, hqy⟩
        have hjl : j - xl * info.size < vs.length := by rw [List.getElem?_eq_some_iff] at hq; exact hq.1
        simp only [List.getElem?_toArray, Nat.add_zero]
        rw [List.append_assoc, List.getElem?_append_right (by simp; omega), List.getElem?_append_left (by simp; omega)]
        simp only [List.length_take, Array.length_toList]
        rw [Nat.min_eq_left (by omega)]
        exact hq
    have hsz' : (cs.toList.take (xl * info.size + 0) ++ vs ++ cs.toList.drop (xl * info.size + 0 + vs.length)).toArray.size = cs.size := by simp; omega
    generalize (cs.toList.take (xl * info.size + 0) ++ vs ++ cs.toList.drop (xl * info.size + 0 + vs.length)).toArray = arr at hrun hsz' hst
    refine ⟨_, p.set s.n (p.ρ i) (p.κ i), w.setRow (p.ρ i) arr, append_fits_run hu hz hi hn hfitc (hvs w rfl) (fun a ha => ?_) (fun e => by cases e), ?_, Post.transfer hr ⟨_, hg, rfl⟩ _ _ (setRow_size w (p.ρ i) arr) ?_ (fun b hb => setRow_other w _ _ _ hb) rfl rfl rfl⟩
    · injection ha with ha; subst ha
      rw [addr_add, Nat.zero_add]; exact hrun
    · exact ⟨Pl.set_has _ _ _ _ _ (by rw [St.new_n, St.put_n]; omega), c, hfitc, by rw [Pl.set_κ]; omega, by rw [Pl.set_ρ _ _ _ _ hr.n8]⟩
    · rw [setRow_heap w (p.ρ i) cs arr e _ hcs]
      exact ⟨arr, IsRow.resized hfz hsz', by omega, fun h => absurd h (by simp), fun _ => by rw [hsz', Pl.set_κ]; exact hck, hlen', fun j y hj => let ⟨u, h1, h2⟩ := hst j y hj; ⟨u, h1, h2.fits hf (by omega)⟩⟩
  · -- a new row
    obtain ⟨zc, hzc, hzl⟩ := hroom.zero
    obtain ⟨zu, hzu, hzi⟩ := zeroAnywhere hzc p s.n
    have hzs : zu.cells.size = info.size := by have := hzi.length; simp only [Array.length_toList] at this; omega
    have hol : (cs.toList.take (xl * info.size)).length = xl * info.size := by simp; omega
    have hold : ∀ w' : World, w'.heap = w.heap → (Builtin.firstCells info.size xl (.slice (some ⟨p.ρ i, 0, none⟩) xl c)).run P w' = .ok (cs.toList.take (xl * info.size)).toArray w' := by
      intro w' hw'
      exact run_loadRange (P := P) (w := w') (by rw [hw']; exact hcs) (fun j v hj => by
        have hj' := hj
        rw [List.getElem?_eq_some_iff] at hj'
        obtain ⟨hjl, _⟩ := hj'
        rw [hol] at hjl
        rw [List.getElem?_take_of_lt hjl] at hj
        rw [Nat.zero_add]; simpa using hj) hol
    obtain ⟨c2, hle, hrun⟩ := append_grow_run (P := P) (w := w) (ty := ty) hu hz hroom hn (base := some ⟨p.ρ i, 0, none⟩) (by omega) hvs hold hzu
    have hf := p.set_fits s.n w.heap.size (c2 * info.size)
    have hP1 : Post B p s w p (s.put i .dead) { w with drawn := w.drawn + 1 } := Post.write hr ⟨_, hg, rfl⟩ .dead rfl trivial (fun _ _ => rfl) rfl rfl rfl
    have hn1 : (s.put i Row.dead).n = s.n := St.put_n _ _ _
    have hP2 := Post.new' hP1.rel (w := { w with drawn := w.drawn + 1 }) hB (.cells e false (xl * info.size + new.length) c') (.cells ((cs.toList.take (xl * info.size)).toArray ++ vs.toArray ++ Builtin.zeroCells zu.cells (c2 - (xl + yl))) e) (c2 * info.size) ?_
    · refine ⟨_, _, _, hrun, ?_, hP1.trans (by rw [hn1] at hP2; exact hP2)⟩
      exact ⟨Pl.set_has _ _ _ _ _ (by rw [St.new_n, hn1]; omega), c2, hle, by rw [Pl.set_κ]; omega, by rw [Pl.set_ρ _ _ _ _ hr.n8]⟩
    · rw [hn1]
      refine ⟨_, IsRow.plain, by simp; omega, fun h => absurd h (by simp), fun _ => ?_, hlen', fun j y hj => ?_⟩
      · rw [Pl.set_κ]
        simp only [Array.size_append, List.size_toArray, zeroCells_size, hol, hyl', hzs]
        rw [← Nat.add_mul, ← Nat.add_mul]
        congr 1; omega
      · rcases hc' j y hj with ⟨ha, hb⟩ | ⟨ha, hb⟩
        · obtain ⟨q, hq, hqy⟩ := hcc j y hb
          refine ⟨q, ?_, hqy.fits hf (by omega)⟩
          rw [Array.append_assoc, Array.getElem?_append_left (by simp; omega)]
          rw [List.getElem?_toArray, List.getElem?_take_of_lt ha]
          simpa using hq
        · obtain ⟨q, hq, hqy⟩ := hvi.get _ _ hb
          refine ⟨q, ?_, hqy.fits hf (by omega)⟩
          have hjl : j - xl * info.size < vs.length := by rw [List.getElem?_eq_some_iff] at hq; exact hq.1
          rw [Array.getElem?_append_left (by simp; omega), Array.getElem?_append_right (by simp; omega)]
          simp only [List.size_toArray, hol]
          simpa using hq

/-- So many zeros onto nothing: the model's own run. -/
theorem append_zeros_run {t ty e x : TypeId} {r : List TypeId} {info : TypeInfo} (hu : P.underlying t = some (.slice e)) {k kk : IntKind} (hd : P.underlying x = some (.int k)) {n : Nat} (hn : 0 < n) (hroom : Room P e info n) {zu : Value} (hzu : ∀ w' : World, (zeroValue e).run P w' = .ok zu w') :
    ∃ c, n ≤ c ∧ (Builtin.append_ (t :: x :: r).toArray ty #[.slice none 0 0, .int kk (n : Int)]).run P w =
      .ok (.slice (some ⟨w.heap.size, 0, none⟩) n c) { { w with drawn := w.drawn + 1 } with heap := w.heap.push (.cells ((Builtin.zeroCells zu.cells n).toList.toArray ++ Builtin.zeroCells zu.cells (c - n)) e) } := by
  have hsz : sizeOf? P e = some info.size := by simp [sizeOf?, hroom.isInfo]
  have hneed : n ≤ 1000000 := Nat.le_trans (Nat.le_mul_of_pos_right _ (by omega)) hroom.fits
  have hnb : n * info.bytes ≤ 1000000 := Nat.le_trans (Nat.mul_le_mul_left _ (by omega)) hroom.fits
  obtain ⟨c, hc, hcut⟩ := cut_cap n 0 e (w.tape w.drawn (.appendCap n 0 e))
  refine ⟨c, hc, ?_⟩
  have h1 : (#[Value.slice none 0 0, Value.int kk (n : Int)] : Array Value)[0]? = some (.slice none 0 0) := rfl
  have h2 : (#[Value.slice none 0 0, Value.int kk (n : Int)] : Array Value)[1]? = some (.int kk n) := rfl
  have h0 : (t :: x :: r).toArray[0]? = some t := rfl
  have h01 : (t :: x :: r).toArray[1]? = some x := rfl
  have hnfit : ¬ (0 + n ≤ 0) := by omega
  have hti := run_typeInfo hroom.isInfo
  have hw : IntKind.i64.wrap (n : Int) = n := wrap_i64 _ (by omega) (by omega)
  have hneg : ¬ ((n : Int) < 0) := by omega
  have hbig : ¬ ((n : Int) * (info.bytes : Int) > 2 ^ 48) := by
    have : (n : Int) * (info.bytes : Int) = ((n * info.bytes : Nat) : Int) := by simp
    rw [this]; omega
  have hmax : ¬ ((n : Int) > IntKind.i64.max) := by
    have : IntKind.i64.max = 9223372036854775807 := by decide
    omega
  have hcap : ¬ (Builtin.nextslicecap (0 + n) 0 * info.bytes > 2 ^ 48) := by
    have h1 := nextcap_le (need := 0 + n) (c := 0) (by omega)
    have h3 : info.bytes ≤ 1000000 := by
      have : 1 * (info.bytes + 1) ≤ n * (info.bytes + 1) := Nat.mul_le_mul_right _ (by omega)
      have := hroom.fits
      omega
    have h4 : Builtin.nextslicecap (0 + n) 0 * info.bytes ≤ 16 * (0 + n + 1000) * info.bytes := Nat.mul_le_mul_right _ h1
    have h5 : 16 * (0 + n + 1000) * info.bytes = 16 * (n * info.bytes) + 16000 * info.bytes := by
      rw [Nat.zero_add, Nat.mul_add, Nat.add_mul, Nat.mul_assoc]
    omega
  have hnz : ¬ (n * info.size = 0) := by
    have := hroom.size
    have := Nat.mul_pos hn (show 0 < info.size by omega)
    omega
  have hnf : (Question.appendCap (0 + n) 0 e).forced = false := rfl
  have hd1 : (Builtin.firstCells info.size 0 (.slice none 0 0)).run P { w with drawn := w.drawn + 1 } = .ok #[] { w with drawn := w.drawn + 1 } := by simp [Builtin.firstCells, Sem.run_pure]
  have hd3 := hzu { w with drawn := w.drawn + 1 }
  rw [Nat.zero_add] at hnfit hcap hnf
  simp only [Builtin.append_, h0, h01, h1, h2, Sem.run_bind, run_underlying' hu, run_underlying' hd, Result.andThen_ok, run_sizeOf hsz, Sem.run_pure, asInt, asIntOf, hw, if_true, if_neg hneg, hti, if_neg hbig, Int.toNat_natCast, Nat.zero_add, if_neg hnfit, if_neg hmax, if_neg hcap, true_or, and_true, Bool.not_true, Bool.false_eq_true, if_false, if_neg hnz, run_choose, hnf, hcut, run_askRoom, hd1, hd3, newRow, run_newObj]
  simp
theorem appendZeros_sound (hr : Rel B p s w) (hB : B ≤ w.heap.size) {t ty e : TypeId} {r : List TypeId} (hu : P.underlying t = some (.slice e)) {x y z : Sc} {u v : Value} (hx : x.is p s.n u) (hy : y.is p s.n v) (h : appendZeros P s e r x y = some (z, s')) :
    BFine P B p s w (Builtin.append_ (t :: r).toArray ty #[u, v]) (.sc z) s' := by
  unfold appendZeros at h
  split at h
  · cases h
  · rename_i t2 r
    split at h
    · rename_i k hd
      split at h
      · rename_i kk n
        split at h
        · rename_i info zs hi hzs h0
          have hn : 0 < n := by
            rcases Nat.eq_zero_or_pos n with e | e
            · subst e; simp at h0
            · exact e
          split at h
          · rename_i hfit
            have hroom := room_of hi hfit
            obtain ⟨zu, hzu, hzi⟩ := zeroAnywhere hzs p s.n
            obtain ⟨zc, hzc, hzl⟩ := hroom.zero
            have hzl : zs.length = info.size := by rw [hzc] at hzs; injection hzs with hzs; rw [← hzs]; exact hzl
            have hzsz : zu.cells.size = info.size := by have := hzi.length; simp only [Array.length_toList] at this; omega
            rw [show u = _ from hx, show v = _ from hy]
            unfold appendGrow at h
            rw [forceNat_eq, forceNat_eq] at h
            injection h with h; injection h with h1 h2; subst h1 h2
            obtain ⟨c, hle, hrun⟩ := append_zeros_run (w := w) (ty := ty) (r := r) (kk := kk) hu hd hn hroom hzu
            have hp := grown_post (e := e) (c := c) (need := n) (size := info.size) (cells := repeatCells zs n) (vs := (Builtin.zeroCells zu.cells n).toList) hr hB (zeroCells_is hzi n) hzsz (by simp [zeroCells_size, hzsz]) hle
            refine ⟨_, _, _, hrun, ?_, by simpa using hp⟩
            exact ⟨Pl.set_has _ _ _ _ _ (by rw [row_false_n]; omega), c, hle, by rw [Pl.set_κ]; omega, by rw [Pl.set_ρ _ _ _ _ hr.n8]⟩
          · cases h
        · cases h
      · cases h
    · cases h

theorem append_sound (hr : Rel B p s w) (hB : B ≤ w.heap.size) {t ty : TypeId} {r : List TypeId} {x y z : Sc} {u v : Value} (hx : x.is p s.n u) (hy : y.is p s.n v) (h : append? P s t r x y = some (z, s')) :
    BFine P B p s w (Builtin.append_ (t :: r).toArray ty #[u, v]) (.sc z) s' := by
  unfold append? at h
  split at h
  · rename_i e hu hz
    split at h
    · rename_i info xl yl hi hxl hyl
      have hsz : sizeOf? P e = some info.size := by simp [sizeOf?, hi]
      have hn := lenOf_run (P := P) hyl hy w
      split at h
      · -- nothing is appended
        rename_i new hnew hy0 hfit
        have hy0 := Nat.eq_of_beq_eq_true hy0
        subst hy0
        injection h with h; injection h with h1 h2; subst h1 h2
        obtain ⟨vs, hvs, hvi⟩ := firstOf_run (P := P) hr hnew hy
        have hv0 : vs = [] := by
          have h1 := hvi.length
          rcases firstOf_length hnew with rfl | hl
          · unfold firstOf at hnew; injection hnew with hnew; subst hnew; simpa using h1
          · rw [hl] at h1; simpa using h1
        subst hv0
        unfold lenOf? at hxl
        split at hxl
        · injection hxl with hxl; subst hxl
          rw [show u = _ from hx]
          exact BFine.quiet hr (append_fits_run (base := none) (sl := 0) (cap := 0) (n := 0) hu hz hi hn (by omega) (hvs w rfl) (w' := w) (by simp) (fun _ => rfl)) rfl
        · injection hxl with hxl; subst hxl
          rw [show u = _ from hx.2.2]
          have hlc := hx.2.1
          exact BFine.quiet hr (append_fits_run (n := 0) hu hz hi hn (by omega) (hvs w rfl) (w' := w) (fun a _ => rfl) (fun _ => rfl)) (by rw [hx.2.2] at hx; exact hx)
        · injection hxl with hxl; subst hxl
          obtain ⟨h1, c, h2, h3, rfl⟩ := hx
          exact BFine.quiet hr (append_fits_run (n := 0) hu hz hi hn (by omega) (hvs w rfl) (w' := w) (fun a _ => rfl) (fun _ => rfl)) ⟨h1, c, h2, h3, rfl⟩
        · cases hxl
      · rename_i new hnew hy0 hfit
        have hroom := room_of hi hfit
        obtain ⟨vs, hvs, hvi⟩ := firstOf_run (P := P) hr hnew hy
        have hypos : 0 < yl := by
          rcases Nat.eq_zero_or_pos yl with e | e
          · subst e; simp at hy0
          · exact e
        have hyl' : vs.length = yl * info.size := by
          rw [hvi.length]
          rcases firstOf_length hnew with rfl | hl
          · unfold lenOf? at hyl; injection hyl with hyl; omega
          · exact hl
        unfold appendSome at h
        split at h
        · unfold lenOf? at hxl; injection hxl with hxl; subst hxl
          rw [show u = _ from hx]
          exact appendGrow_sound (old := []) (os := []) hr hB hu hz hroom hn (by omega) hvs (fun _ _ => rfl) hvi trivial hyl' (by simp) (by simpa using h)
        · rename_i i o xl' cap
          unfold lenOf? at hxl; injection hxl with hxl; subst hxl
          rw [show u = _ from hx.2.2]
          split at h
          · rename_i hle
            have hle := Nat.le_of_ble_eq_true hle
            rw [Option.map_eq_some_iff] at h
            obtain ⟨s1, hs1, h⟩ := h
            injection h with h1 h2; subst h1 h2
            obtain ⟨w', hrun, hpost⟩ := rowPut_sound (P := P) hr hs1 hvi
            refine ⟨_, p, w', append_fits_run hu hz hi hn hle (hvs w rfl) (w' := w') (fun a ha => ?_) (fun e => by cases e), ⟨hpost.fits.has hpost.le hx.1, hle, rfl⟩, hpost⟩
            injection ha with ha; subst ha
            rw [addr_add]; exact hrun
          · rename_i hnle
            have hnle : ¬ (xl' + yl ≤ cap) := fun e => by rw [Nat.ble_eq_true_of_le e] at hnle; cases hnle
            split at h
            · rename_i old hold
              obtain ⟨os, hos, hoi⟩ := firstOf_run (P := P) hr hold hx
              rw [show u = _ from hx.2.2] at hos
              have hol : os.length = xl' * info.size := by
                rw [hoi.length]
                rcases firstOf_length hold with e | hl
                · cases e
                · exact hl
              exact appendGrow_sound hr hB hu hz hroom hn (by omega) hvs hos hvi hoi hyl' hol h
            · cases h
        · rename_i i o xl' zz
          unfold lenOf? at hxl; injection hxl with hxl; subst hxl
          obtain ⟨hi0, c, hlc, hκ, hux⟩ := hx
          split at h
          · rename_i hzz
            have hzz := Nat.eq_of_beq_eq_true hzz
            subst hzz
            unfold appendOpen at h
            split at h
            · rename_i e' len cc hg
              split at h
              · rename_i hb1 hb2
                obtain ⟨g1, g0⟩ := and_true' hb1
                have g1 := Nat.eq_of_beq_eq_true g1
                have g0 := Nat.eq_of_beq_eq_true g0
                have g2 := Nat.eq_of_beq_eq_true hb2
                subst g0 g2 g1
                rw [forceNat_eq, forceNat_eq, forceNat_eq] at h
                injection h with h; injection h with h1 h2; subst h1 h2
                rw [hux]
                rw [Nat.zero_add] at hκ
                refine open_sound hr hB hu hz hi hroom hg (by omega) hlc hκ hn hvs hvi hyl' fun j y hj => ?_
                rcases T.get_sets _ _ _ _ _ hj with ⟨ha, hb⟩ | ⟨ha, hb⟩
                · exact .inr ⟨ha, hb⟩
                · obtain ⟨_, cs, _, _, _, _, hcb, _⟩ := hr.cells hg
                  exact .inl ⟨hcb j y hb, hb⟩
              · rename_i hb1 hb2
                have g2 := Nat.eq_of_beq_eq_true hb2
                subst g2
                split at h
                · rename_i old g0 hold
                  have g0 := Nat.eq_of_beq_eq_true g0
                  subst g0
                  rw [forceNat_eq, forceNat_eq] at h
                  injection h with h; injection h with h1 h2; subst h1 h2
                  rw [hux]
                  rw [Nat.zero_add] at hκ
                  obtain ⟨_, cs, _, hcl, _, _, hcb, hcc⟩ := hr.cells hg
                  have hol := range_length hold
                  have hget : ∀ j y, old[j]? = some y → cc.get j = some y := fun j y hj => by
                    have := range_get hold j y hj
                    rw [Nat.zero_add] at this; exact this
                  have hle0 : xl' * info.size ≤ len := by
                    rcases Nat.eq_zero_or_pos (xl' * info.size) with e | e
                    · omega
                    · have hlt : xl' * info.size - 1 < old.length := by omega
                      have := hcb _ _ (hget _ _ (List.getElem?_eq_getElem hlt))
                      omega
                  rw [List.length_append, hol]
                  refine open_sound hr hB hu hz hi hroom hg hle0 hlc hκ hn hvs hvi hyl' fun j y hj => ?_
                  have hj := ofList_get hj
                  rcases Nat.lt_or_ge j old.length with hlt | hge
                  · rw [List.getElem?_append_left hlt] at hj
                    exact .inl ⟨by omega, hget j y hj⟩
                  · rw [List.getElem?_append_right hge, hol] at hj
                    exact .inr ⟨by omega, hj⟩
                · cases h
              · cases h
            · cases h
          · cases h
        · cases h
      · cases h
    · cases h
  · rename_i e hu hz
    exact appendZeros_sound hr hB hu hx hy h
  · cases h

theorem grown_le (w : World) (n : Nat) (e : TypeId) : ∃ c, n ≤ c ∧ grownCap w n 0 e = c := ⟨_, by unfold grownCap; simp [Question.cut], rfl⟩
theorem cellsOfBytes_is {n : Nat} : ∀ l : List UInt8, ScL.is p n (cellsOfBytes l) (l.map fun b => Value.int .u8 (b.toNat : Int))
  | [] => trivial
  | b :: t => by
    unfold cellsOfBytes
    rw [forceNat_eq]
    exact ⟨rfl, cellsOfBytes_is t⟩
theorem bytesOfCells_is {n : Nat} : ∀ {l : List Sc} {bs : List UInt8} {vs : List Value}, bytesOfCells l = some bs → ScL.is p n l vs → ∃ ns : List Int, vs = ns.map (Value.int .u8) ∧ bs = ns.map fun n => UInt8.ofNat n.toNat
  | [], bs, vs, h, hs => by
    injection h with h; subst h
    cases vs with
    | nil => exact ⟨[], rfl, rfl⟩
    | cons v t => exact hs.elim
  | x :: t, bs, vs, h, hs => by
    unfold bytesOfCells at h
    split at h
    · cases ‹x :: t = []›
    · rename_i m t' he
      injection he with he1 he2; subst he1 he2
      split at h
      · rename_i l hl
        injection h with h; subst h
        cases vs with
        | nil => exact hs.elim
        | cons v u =>
          obtain ⟨ns, rfl, rfl⟩ := bytesOfCells_is hl hs.2
          exact ⟨(m : Int) :: ns, by rw [show v = _ from hs.1]; rfl, rfl⟩
      · cases h
    · cases h
theorem bytesAt_run (hr : Rel B p s w) {x : Sc} {bs : List UInt8} (h : bytesAt s x = some bs) {u : Value} (hx : x.is p s.n u) : (Conv.bytesToString u).run P w = .ok (.string ⟨bs.toArray⟩) w := by
  have key : ∀ (i o l c : Nat) (cells : List Sc), rowRange s i o l = some cells → bytesOfCells cells = some bs → (Conv.bytesToString (.slice (some ⟨p.ρ i, o, none⟩) l c)).run P w = .ok (.string ⟨bs.toArray⟩) w := fun i o l c cells hc hb => by
    obtain ⟨vs, hvs, hvi⟩ := rowRange_sound (P := P) hr hc
    obtain ⟨ns, rfl, rfl⟩ := bytesOfCells_is hb hvi
    rw [run_bytesToString w _ _ _ ns (hvs w rfl)]
    have : ∀ (l : List Int) (r : ByteArray), l.foldl (fun r n => r.push (UInt8.ofNat n.toNat)) r = ⟨r.data ++ (l.map fun n => UInt8.ofNat n.toNat).toArray⟩ := fun l => by
      induction l with
      | nil => intro r; simp
      | cons a t ih => intro r; rw [List.foldl_cons, ih]; simp [ByteArray.push]
    rw [this]
    have he : ByteArray.empty.data = #[] := rfl
    rw [he]; simp
  unfold bytesAt at h
  split at h
  · split at h
    · rename_i c hc
      rw [hx.2.2]; exact key _ _ _ _ _ hc h
    · cases h
  · split at h
    · rename_i c hc
      obtain ⟨_, cp, _, _, rfl⟩ := hx
      exact key _ _ _ _ _ hc h
    · cases h
  · cases h
theorem oConv_sound (hr : Rel B p s w) (hB : B ≤ w.heap.size) (hf : fr.is p s.n a) {src dst : TypeId} {x : Operand} (h : oConv P s src dst (fr.eval x) = some (.val v, s')) :
    Fine P B p s w (do pure (.value (← convert src dst (a.eval x)))) v s' := by
  unfold oConv at h
  split at h
  · -- bytes of a string
    rename_i z hx hd
    have hx : a.eval x = .string z := hf.eval hx
    split at h
    · rename_i e hdst
      split at h
      · rename_i he
        injection h with h; injection h with h1 h2; injection h1 with h1; subst h1 h2
        rw [hx]
        have hrun := run_bytes_of_string (P := P) w src dst e z hd hdst he
        obtain ⟨c, hc, hcut⟩ := grown_le w z.size e
        rw [hcut] at hrun
        have hsz : (bytesRow z c).size = c := by simp [bytesRow]; omega
        have hp := Post.new' (w := { w with drawn := w.drawn + 1 }) (heapRel hr rfl) hB (.cells e false (cellsOfBytes z.data.toList).length (T.ofList (cellsOfBytes z.data.toList))) (.cells (bytesRow z c) e ((bytesRow z c).size, (bytesRow z c).size + 1)) (bytesRow z c).size ?_
        · refine ⟨_, _, _, .inl (by rw [Sem.run_bind, hrun]; rfl), ?_, by rw [St.row_eq]; exact (Post.drew hr).trans hp⟩
          exact ⟨Pl.set_has _ _ _ _ _ (by rw [row_n]; omega), c, hc, by rw [Pl.set_κ, hsz]; omega, by rw [Pl.set_ρ _ _ _ _ hr.n8]⟩
        · have hi := cellsOfBytes_is (p := p.set s.n w.heap.size (bytesRow z c).size) (n := s.n + 1) z.data.toList
          have hl := hi.length
          simp only [List.length_map, Array.length_toList] at hl
          refine ⟨_, ⟨_, rfl, fun j hj h => by simp only at h; omega⟩, by rw [hsz, ← hl]; exact hc, fun h => absurd h (by simp), fun _ => by rw [Pl.set_κ], fun j x hj => by have := ofList_get hj; rw [List.getElem?_eq_some_iff] at this; exact this.1, fun j x hj => ?_⟩
          obtain ⟨q, hq, hqy⟩ := hi.get j x (ofList_get hj)
          refine ⟨q, ?_, hqy⟩
          have hjl : j < z.data.size := by rw [List.getElem?_eq_some_iff] at hq; simpa using hq.1
          unfold bytesRow
          rw [Array.getElem?_append_left (by simpa using hjl)]
          simpa using hq
      · cases h
    · cases h
  · rename_i y e hx hd
    have hx := hf.eval hx
    split at h
    · rename_i he hdst
      split at h
      · rename_i l hl
        injection h with h; injection h with h1 h2; injection h1 with h1; subst h1 h2
        refine Fine.quiet hr (u := .string ⟨l.toArray⟩) ?_ rfl
        have hb := bytesAt_run (P := P) hr hl hx
        have hy : ∃ aa ll cc, a.eval x = .slice aa ll cc := by
          unfold bytesAt at hl
          split at hl
          · exact ⟨_, _, _, hx.2.2⟩
          · obtain ⟨_, c, _, _, h4⟩ := hx; exact ⟨_, _, _, h4⟩
          · cases hl
        obtain ⟨aa, ll, cc, hy⟩ := hy
        rw [hy] at hb ⊢
        rw [Sem.run_bind, (run_convert_bytes_string w src dst e aa ll cc hd he hdst).trans hb]; rfl
      · cases h
    · cases h
  · rename_i d _ _ hx hd
    obtain ⟨r, hr', rfl, rfl⟩ := map_inj h
    have hx := hf.eval hx
    unfold convert? at hr'
    split at hr'
    · rename_i k k' n hu _ _ _
      injection hr' with hr'; subst hr'
      rw [show a.eval x = _ from hx]
      refine Fine.quiet hr (u := .int k (k.wrap n)) ?_ rfl
      simp only [convert, Sem.run_bind, run_underlying' hd, run_underlying' hu, Result.andThen_ok]
      cases d <;> rfl
    · cases hr'
  · cases h

end Go.Ax

/- Each operation of a symbolic run is what the model does: maps. -/
namespace Go.Ax
open Go

variable {P : Program} {B : Nat} {p : Pl} {s s' : St} {w : World} {fr : Fr} {a : Act} {v : AV}

theorem sameKey_run {d : TypeDesc} {x y : Sc} {b : Bool} (h : sameKey d x y = some b) {n : Nat} {u v : Value} (hx : x.is p n u) (hy : y.is p n v) :
    Instr.sameNow d u v = some b ∧ (b = true → u = v) := by
  unfold sameKey at h
  split at h
  · rw [show u = _ from hx, show v = _ from hy]
    split at h
    · rename_i e
      injection h with h; subst h; subst e
      refine ⟨by simp [Instr.sameNow, eqFI_eq], fun h => ?_⟩
      rw [eqFI_eq] at h; simp at h; rw [h]
    · cases h
  · rw [show u = _ from hx, show v = _ from hy]
    injection h with h; subst h
    rename_i a b
    have hb : (a == b) = bytesEq a.data.toList b.data.toList := by
      rw [bytesEq_eq]
      rw [Bool.eq_iff_iff, MapKept.bytes_beq]
      constructor
      · rintro rfl; simp
      · intro h; have h : a.data.toList = b.data.toList := by simpa using h
        cases a; cases b; simp at h; rw [h]
    refine ⟨by simp only [Instr.sameNow, hb], fun h => ?_⟩
    rw [← hb, MapKept.bytes_beq] at h; rw [h]
  · rw [show u = _ from hx, show v = _ from hy]
    injection h with h; subst h
    exact ⟨rfl, fun h => by simp at h; rw [h]⟩
  · cases h
theorem findKey_run {d : TypeDesc} {k : Sc} {n : Nat} {u : Value} (hk : k.is p n u) : ∀ {l : List (Sc × A1)} {us : List MapEntry} {i : Nat} {r : Option (Nat × A1)},
    findKey? d k l i = some r → EntL.is p n l us →
    (r = none ∧ Instr.findNow d u us i = some none) ∨ ∃ j x e, r = some (i + j, x) ∧ Instr.findNow d u us i = some (some (i + j, e.val)) ∧ us[j]? = some e ∧ u = e.key ∧ x.is p n e.val
  | [], [], i, r, h, _ => by injection h with h; exact .inl ⟨h.symm, rfl⟩
  | x :: l, e :: us, i, r, h, hs => by
    unfold findKey? at h
    split at h
    · rename_i hb
      injection h with h; subst h
      obtain ⟨h1, h2⟩ := sameKey_run hb hk hs.1
      exact .inr ⟨0, x.2, e, rfl, by simp [Instr.findNow, h1], rfl, h2 rfl, hs.2.1⟩
    · rename_i hb
      obtain ⟨h1, _⟩ := sameKey_run hb hk hs.1
      rcases findKey_run hk h hs.2.2 with ⟨h2, h3⟩ | ⟨j, x', e', h2, h3, h4, h5, h6⟩
      · exact .inl ⟨h2, by simp [Instr.findNow, h1, h3]⟩
      · refine .inr ⟨j + 1, x', e', by rw [h2]; simp; omega, by simp [Instr.findNow, h1, h3]; omega, by simpa using h4, h5, h6⟩
    · cases h
  | [], _ :: _, _, _, _, hs => hs.elim
  | _ :: _, [], _, _, _, hs => hs.elim
theorem plainKey_is {d : TypeDesc} {k : Sc} (h : plainKey d k = true) {n : Nat} {u : Value} (hk : k.is p n u) : MapKept.IsKey d u := by
  unfold plainKey at h
  split at h
  · rw [show u = _ from hk]; exact (of_decide_eq_true h : _ = _)
  · rw [show u = _ from hk]; trivial
  · rw [show u = _ from hk]; trivial
  · cases h
theorem entries_run (hr : Rel B p s w) {m : Sc} {es : List (Sc × A1)} (h : entriesOf s m = some es) {u : Value} (hm : m.is p s.n u) :
    (u = .map none ∧ es = []) ∨ ∃ i clock es', m = .mp i ∧ u = .map (some (p.ρ i)) ∧ s.h.get i = some (.map es clock) ∧ w.heap[p.ρ i]? = some (.map es' clock) ∧ EntL.is p s.n es es'.toList := by
  unfold entriesOf at h
  split at h
  · injection h with h; exact .inl ⟨hm, h.symm⟩
  · split at h
    · rename_i i _ es0 clock hg
      injection h with h; subst h
      obtain ⟨_, _, _, es', h1, h2⟩ := hr.row i _ hg rfl
      exact .inr ⟨i, clock, es', rfl, hm.2, hg, h1, h2⟩
    · cases h
  · cases h

theorem oMakeMap_sound (hr : Rel B p s w) (hB : B ≤ w.heap.size) {t : TypeId} {r : Option Operand} (h : oMakeMap s r = some (.val v, s')) :
    Fine P B p s w (do pure (.value (← Instr.makeMap t (r.map a.eval)))) v s' := by
  unfold oMakeMap at h
  split at h
  · rw [forceNat_eq] at h
    obtain ⟨rfl, rfl⟩ := pair_inj h
    refine ⟨_, _, _, .inl rfl, ?_, Post.new' hr hB (.map [] 0) (.map #[] 0) 0 ⟨#[], rfl, trivial⟩⟩
    refine ⟨p.set_has _ _ _ _ (by rw [St.new_n]; omega), by rw [p.set_ρ _ _ _ hr.n8]⟩
  · cases h
theorem lookVal_is {n : Nat} {x : A1} {u : Value} (hx : x.is p n u) (ok b : Bool) : (lookVal ok x b).is p n (if ok = true then .tuple #[u, .bool b] else u) := by
  cases ok
  · exact hx
  · exact ⟨#[u, .bool b], rfl, hx, rfl, trivial⟩
theorem oLookup_sound (hr : Rel B p s w) (hf : fr.is p s.n a) {t : TypeId} {x y : Operand} {ok : Bool} (h : oLookup P s t (fr.eval x) (fr.eval y) ok = some (.val v, s')) :
    Fine P B p s w (do pure (.value (← Instr.lookup t (a.eval x) (a.eval y) ok))) v s' := by
  unfold oLookup at h
  split at h
  · rename_i kt et m k ht hx hy
    split at h
    · rename_i d es hd hes
      have hm := hf.eval hx
      have hk := hf.eval hy
      split at h
      · rename_i v0 hp hfd
        obtain ⟨rfl, rfl⟩ := pair_inj h
        rcases entries_run hr hes hm with ⟨hu, he⟩ | ⟨i, clock, es', hmi, hu, hg, hh, hE⟩
        · subst he; cases hfd
        · rcases findKey_run hk hfd hE with ⟨h1, _⟩ | ⟨j, x', e, h1, h2, h3, h4, h5⟩
          · cases h1
          · injection h1 with h1; injection h1 with h1 h1'; subst h1'
            refine Fine.quiet hr (u := if ok = true then .tuple #[e.val, .bool true] else e.val) ?_ (lookVal_is h5 ok true)
            rw [hu]
            simp only [Instr.lookup, Sem.run_bind, run_underlying' ht, Result.andThen_ok, MapKept.run_getObj_map hh, Sem.run_pure, MapKept.run_checkKey hd (plainKey_is hp hk) _ 9999, MapKept.run_findKey hd h2]
            try (cases ok <;> rfl)
      · rename_i hp hfd
        split at h
        · rename_i z hz
          obtain ⟨rfl, rfl⟩ := pair_inj h
          obtain ⟨uz, hz1, hz2⟩ := run_zero hz w p s.n
          refine Fine.quiet hr (u := if ok = true then .tuple #[uz, .bool false] else uz) ?_ (lookVal_is hz2 ok false)
          rcases entries_run hr hes hm with ⟨hu, he⟩ | ⟨i, clock, es', hmi, hu, hg, hh, hE⟩
          · rw [hu]
            have h2 : Instr.findNow d (a.eval y) [] 0 = some none := rfl
            simp only [Instr.lookup, Sem.run_bind, run_underlying' ht, Result.andThen_ok, Sem.run_pure, MapKept.run_checkKey hd (plainKey_is hp hk) _ 9999, MapKept.run_findKey hd h2, hz1]
            try (cases ok <;> rfl)
          · rcases findKey_run hk hfd hE with ⟨_, h2⟩ | ⟨j, x', e, h1, _⟩
            · rw [hu]
              simp only [Instr.lookup, Sem.run_bind, run_underlying' ht, Result.andThen_ok, MapKept.run_getObj_map hh, Sem.run_pure, MapKept.run_checkKey hd (plainKey_is hp hk) _ 9999, MapKept.run_findKey hd h2, hz1]
              try (cases ok <;> rfl)
            · cases h1
        · cases h
      · cases h
    · cases h
  · cases h
theorem sameBits_self {d : TypeDesc} {u : Value} (h : MapKept.IsKey d u) : Instr.sameBits 10000 u u = true := by
  cases d <;> cases u <;> simp_all [MapKept.IsKey, Instr.sameBits]
  exact (MapKept.bytes_beq _ _).2 rfl
theorem mapWrite (hr : Rel B p s w) {i : Nat} {es new : List (Sc × A1)} {clock clock' : Nat} {es' new' : Array MapEntry} (hg : s.h.get i = some (.map es clock)) (hh : w.heap[p.ρ i]? = some (.map es' clock))
    (hn : EntL.is p s.n new new'.toList) : Post B p s w p (s.put i (.map new clock')) { w with heap := w.heap.setIfInBounds (p.ρ i) (.map new' clock') } := by
  obtain ⟨h1, h2⟩ := MapKept.heap_set (o' := .map new' clock') hh
  exact Post.write hr ⟨_, hg, rfl⟩ _ (by simp) ⟨new', h1, hn⟩ h2 rfl rfl rfl
theorem oMapUpdate_sound (hr : Rel B p s w) (hf : fr.is p s.n a) {t : TypeId} {x y z : Operand} (h : oMapUpdate P s t (fr.eval x) (fr.eval y) (fr.eval z) = some (.val v, s')) :
    Fine P B p s w (do Instr.mapUpdate t (a.eval x) (a.eval y) (a.eval z); pure .skip) v s' := by
  unfold oMapUpdate at h
  split at h
  · rename_i kt et i k v0 ht hx hy hz
    split at h
    · rename_i d es clock hd hg
      have hm := hf.eval hx
      have hk := hf.eval hy
      have hv := hf.eval hz
      obtain ⟨_, _, _, es', hh, hE⟩ := hr.row i _ hg rfl
      split at h
      · rename_i j v1 hp hfd
        obtain ⟨rfl, rfl⟩ := pair_inj h
        rcases findKey_run hk hfd hE with ⟨h1, _⟩ | ⟨j', x', e, h1, h2, h3, h4, h5⟩
        · cases h1
        · injection h1 with h1; injection h1 with h1 h1'; subst h1'
          have hj : j = j' := by omega
          subst hj
          have hge : es'[j]? = some e := by rw [← Array.getElem?_toList]; exact h3
          refine ⟨undef, p, _, .inr ⟨?_, rfl⟩, AV.undef_is _ _, mapWrite (new' := es'.set! j { e with key := a.eval y, val := a.eval z }) hr hg hh ?_⟩
          · rw [hm.2]
            simp only [Instr.mapUpdate, Sem.run_bind, run_underlying' ht, Result.andThen_ok, MapKept.run_getObj_map hh, MapKept.run_checkKey hd (plainKey_is hp hk) _ 9999, MapKept.run_findKey hd h2]
            simp only [Nat.zero_add, hge, Option.map_some, Option.getD_some, Instr.keyThatStays, ← h4, sameBits_self (plainKey_is hp hk), if_true, Sem.run_pure, Result.andThen_ok, MapKept.run_setObj_map _ hh]
            congr 4
            apply Array.ext_getElem?
            intro m
            rw [Array.getElem?_modify]
            simp only [Array.set!_eq_setIfInBounds, Array.getElem?_setIfInBounds]
            by_cases hjm : j = m
            · subst hjm
              have := (Array.getElem?_eq_some_iff.1 hge).1
              rw [if_pos rfl, if_pos rfl, hge, if_pos this]; rfl
            · rw [if_neg hjm, if_neg hjm]
          · rw [Array.set!_eq_setIfInBounds, Array.toList_setIfInBounds]
            exact EntL.is.set (x := (k, v0)) (e := { e with key := a.eval y, val := a.eval z }) hk hv j hE
      · rename_i hp hfd
        rw [forceNat_eq] at h
        obtain ⟨rfl, rfl⟩ := pair_inj h
        rcases findKey_run hk hfd hE with ⟨_, h2⟩ | ⟨j, x', e, h1, _⟩
        · refine ⟨undef, p, _, .inr ⟨?_, rfl⟩, AV.undef_is _ _, mapWrite (new' := es'.push { key := a.eval y, val := a.eval z, born := clock }) hr hg hh ?_⟩
          · rw [hm.2]
            simp only [Instr.mapUpdate, Sem.run_bind, run_underlying' ht, Result.andThen_ok, MapKept.run_getObj_map hh, MapKept.run_checkKey hd (plainKey_is hp hk) _ 9999, MapKept.run_findKey hd h2, MapKept.run_setObj_map _ hh]
            rfl
          · rw [Array.toList_push]; exact EntL.is.snoc (x := (k, v0)) (e := { key := a.eval y, val := a.eval z, born := clock }) hk hv hE
        · cases h1
      · cases h
    · cases h
  · cases h

end Go.Ax

/- Each operation of a symbolic run is what the model does, tenth part: the other builtins; all operations together. -/
namespace Go.Ax
open Go

variable {P : Program} {B : Nat} {p : Pl} {s s' : St} {w : World} {fr : Fr} {a : Act} {v : AV}

def AVL.is (p : Pl) (n : Nat) : List AV → List Value → Prop
  | [], [] => True
  | x :: t, v :: u => x.is p n v ∧ AVL.is p n t u
  | _, _ => False
theorem evals_list (hf : fr.is p s.n a) : ∀ {l : List Operand} {vs : List AV}, evals fr l = some vs → AVL.is p s.n vs (l.map a.eval)
  | [], vs, h => by injection h with h; subst h; trivial
  | x :: t, vs, h => by
    unfold evals at h
    split at h
    · rename_i v l hv hl
      injection h with h; subst h
      exact ⟨hf.eval hv, evals_list hf hl⟩
    · cases h
theorem AVL.is.length {n : Nat} : ∀ {l : List AV} {u : List Value}, AVL.is p n l u → u.length = l.length
  | [], [], _ => rfl
  | _ :: _, _ :: _, h => by simp [AVL.is.length h.2]
  | [], _ :: _, h => h.elim
  | _ :: _, [], h => h.elim

theorem most_sound {n : Nat} (k : IntKind) (up : Bool) (w : World) : ∀ {l : List AV} {us : List Value} {x m : Int}, most up x l = some m → AVL.is p n l us →
    (us.foldlM (if up then Builtin.max2 else Builtin.min2) (.int k x)).run P w = .ok (.int k m) w
  | [], [], x, m, h, _ => by injection h with h; subst h; simp
  | y :: l, u :: us, x, m, h, hl => by
    unfold most at h
    split at h
    · rename_i h1; cases h1
    · rename_i k' z t h1
      injection h1 with h1 h2; subst h1 h2
      rw [show u = _ from hl.1]
      rw [List.foldlM_cons, Sem.run_bind]
      cases up
      · have := most_sound k false w h hl.2
        simpa [Builtin.min2] using this
      · have := most_sound k true w h hl.2
        simpa [Builtin.max2] using this
    · cases h
  | [], _ :: _, _, _, _, h => h.elim
  | _ :: _, [], _, _, _, h => h.elim

theorem args1 {n : Nat} {x : AV} {us : Array Value} (h : AVL.is p n [x] us.toList) : ∃ u, us = #[u] ∧ x.is p n u := by
  match us, h with
  | ⟨[u]⟩, h => exact ⟨u, rfl, h.1⟩
  | ⟨[]⟩, h => exact h.elim
  | ⟨_ :: _ :: _⟩, h => exact h.2.elim
theorem args2 {n : Nat} {x y : AV} {us : Array Value} (h : AVL.is p n [x, y] us.toList) : ∃ u v, us = #[u, v] ∧ x.is p n u ∧ y.is p n v := by
  match us, h with
  | ⟨[u, v]⟩, h => exact ⟨u, v, rfl, h.1, h.2.1⟩
  | ⟨[]⟩, h => exact h.elim
  | ⟨[_]⟩, h => exact h.2.elim
  | ⟨_ :: _ :: _ :: _⟩, h => exact h.2.2.elim

theorem builtin_sound (hr : Rel B p s w) (hB : B ≤ w.heap.size) {b : Builtin} {ts : Array TypeId} {args : List AV} {us : Array Value} (ha : AVL.is p s.n args us.toList) (h : builtin? P b ts.toList args s = some (v, s')) (ty : TypeId) (cs : Array Bool) :
    Fine P B p s w (builtin b ts ty cs us) v s' := by
  unfold builtin? at h
  split at h
  · -- len of a slice, a string, an array behind a pointer or a value
    rename_i t x hts
    have hts : ts = #[t] := by cases ts; simp at hts; simp [hts]
    subst hts
    obtain ⟨u, rfl, hu⟩ := args1 ha
    refine BFine.fine (x := Builtin.len_ #[t] ty #[u]) ?_
    split at h
    · rename_i e ht
      rw [Option.map_eq_some_iff] at h
      obtain ⟨n, hn, h⟩ := h
      injection h with h1 h2; subst h1 h2
      refine BFine.quiet hr (u := .int .i64 n) ?_ rfl
      unfold lenOf? at hn
      split at hn
      · injection hn with hn; subst hn; rw [show u = _ from hu]; simp [Builtin.len_, run_underlying' ht, goInt]
      · injection hn with hn; subst hn; rw [show u = _ from hu.2.2]; simp [Builtin.len_, run_underlying' ht, goInt]
      · injection hn with hn; subst hn; obtain ⟨_, c, _, _, rfl⟩ := hu; simp [Builtin.len_, run_underlying' ht, goInt]
      · cases hn
    · rename_i ht
      split at h
      · injection h with h; injection h with h1 h2; subst h1 h2
        rw [show u = _ from hu]
        exact BFine.quiet hr (by simp [Builtin.len_, run_underlying' ht, goInt]) rfl
      · cases h
    · rename_i n e ht
      injection h with h; injection h with h1 h2; subst h1 h2
      exact BFine.quiet hr (u := .int .i64 n) (by simp [Builtin.len_, run_underlying' ht, goInt]) rfl
    · rename_i k e ht
      rw [Option.map_eq_some_iff] at h
      obtain ⟨es, hes, h⟩ := h
      injection h with h1 h2; subst h1 h2
      refine BFine.quiet hr (u := .int .i64 es.length) ?_ rfl
      rcases entries_run hr hes hu with ⟨hu, he⟩ | ⟨i, clock, es', hmi, hu, hg, hh, hE⟩
      · rw [hu, he]; simp [Builtin.len_, run_underlying' ht, goInt]
      · rw [hu]; simp [Builtin.len_, run_underlying' ht, goInt, MapKept.run_getObj_map hh, ← hE.length]
    · cases h
  · rename_i t l hts
    have hts : ts = #[t] := by cases ts; simp at hts; simp [hts]
    subst hts
    obtain ⟨u, rfl, hu⟩ := args1 ha
    refine BFine.fine (x := Builtin.len_ #[t] ty #[u]) ?_
    split at h
    · rename_i n e ht
      injection h with h; injection h with h1 h2; subst h1 h2
      exact BFine.quiet hr (u := .int .i64 n) (by simp [Builtin.len_, run_underlying' ht, goInt]) rfl
    · cases h
  · rename_i t x hts
    have hts : ts = #[t] := by cases ts; simp at hts; simp [hts]
    subst hts
    obtain ⟨u, rfl, hu⟩ := args1 ha
    refine BFine.fine (x := Builtin.cap_ #[t] ty #[u]) ?_
    split at h
    · rename_i ht
      injection h with h; injection h with h1 h2; subst h1 h2
      rw [show u = _ from hu]
      exact BFine.quiet hr (u := .int .i64 0) (by simp [Builtin.cap_, run_underlying' ht, goInt]) rfl
    · rename_i c ht
      injection h with h; injection h with h1 h2; subst h1 h2
      rw [show u = _ from hu.2.2]
      exact BFine.quiet hr (u := .int .i64 c) (by simp [Builtin.cap_, run_underlying' ht, goInt]) rfl
    · cases h
  · rename_i k x rest
    rw [Option.map_eq_some_iff] at h
    obtain ⟨m, hm, h⟩ := h
    injection h with h1 h2; subst h1 h2
    refine BFine.fine (x := Builtin.max_ ts ty us) (BFine.quiet hr (u := .int k m) ?_ rfl)
    match us, ha with
    | ⟨[]⟩, ha => exact ha.elim
    | ⟨u :: us⟩, ha =>
      have := most_sound (P := P) k true w hm ha.2
      rw [show u = _ from ha.1]
      simpa [Builtin.max_] using this
  · rename_i k x rest
    rw [Option.map_eq_some_iff] at h
    obtain ⟨m, hm, h⟩ := h
    injection h with h1 h2; subst h1 h2
    refine BFine.fine (x := Builtin.min_ ts ty us) (BFine.quiet hr (u := .int k m) ?_ rfl)
    match us, ha with
    | ⟨[]⟩, ha => exact ha.elim
    | ⟨u :: us⟩, ha =>
      have := most_sound (P := P) k false w hm ha.2
      rw [show u = _ from ha.1]
      simpa [Builtin.min_] using this
  · rename_i t r x y hts
    have hts : ts = (t :: r).toArray := by cases ts; simp at hts; simp [hts]
    subst hts
    obtain ⟨u, u', rfl, hu, hu'⟩ := args2 ha
    refine BFine.fine (x := Builtin.append_ (t :: r).toArray ty #[u, u']) ?_
    split at h
    · rename_i z s1 hz
      injection h with h; injection h with h1 h2; subst h1 h2
      exact append_sound hr hB hu hu' hz
    · cases h
  · rename_i t r x y hts
    have h0 : ts[0]? = some t := by cases ts; simp at hts; simp [hts]
    obtain ⟨u, u', rfl, hu, hu'⟩ := args2 ha
    refine BFine.fine (x := Builtin.copy_ ts ty #[u, u']) ?_
    have h1 : (#[u, u'] : Array Value)[0]? = some u := rfl
    have h2 : (#[u, u'] : Array Value)[1]? = some u' := rfl
    split at h
    · rename_i e xl yl ht hxl hyl
      have hn := lenOf_run (P := P) hyl hu' w
      split at h
      · rename_i size hsz
        split at h
        · rename_i new i o l' c' hnew
          obtain ⟨vs, hvs, hvi⟩ := firstOf_run (P := P) hr hnew hu'
          rw [Option.map_eq_some_iff] at h
          obtain ⟨s1, hs1, h⟩ := h
          injection h with h1 h2; subst h1 h2
          unfold lenOf? at hxl; injection hxl with hxl; subst hxl
          obtain ⟨w', hrun, hpost⟩ := rowPut_sound (P := P) hr hs1 hvi
          rw [show u = _ from hu.2.2]
          refine ⟨.int .i64 (Nat.min yl l'), p, w', ?_, rfl, hpost⟩
          simp only [Builtin.copy_, h0, Sem.run_bind, run_underlying' ht, Result.andThen_ok, hn, run_sizeOf hsz, hvs w rfl, hrun, List.getElem?_toArray, List.getElem?_cons_zero, List.getElem?_cons_succ, Sem.run_pure, goInt]
        · rename_i new i o l' c' hnew
          obtain ⟨vs, hvs, hvi⟩ := firstOf_run (P := P) hr hnew hu'
          rw [Option.map_eq_some_iff] at h
          obtain ⟨s1, hs1, h⟩ := h
          injection h with h1 h2; subst h1 h2
          unfold lenOf? at hxl; injection hxl with hxl; subst hxl
          obtain ⟨w', hrun, hpost⟩ := rowPut_sound (P := P) hr hs1 hvi
          obtain ⟨_, cc, _, _, rfl⟩ := hu
          refine ⟨.int .i64 (Nat.min yl l'), p, w', ?_, rfl, hpost⟩
          simp only [Builtin.copy_, h0, Sem.run_bind, run_underlying' ht, Result.andThen_ok, hn, run_sizeOf hsz, hvs w rfl, hrun, List.getElem?_toArray, List.getElem?_cons_zero, List.getElem?_cons_succ, Sem.run_pure, goInt]
        · rename_i new hnew
          obtain ⟨vs, hvs, hvi⟩ := firstOf_run (P := P) hr hnew hu'
          injection h with h; injection h with h1 h2; subst h1 h2
          unfold lenOf? at hxl; injection hxl with hxl; subst hxl
          rw [show u = _ from hu]
          refine BFine.quiet hr (u := .int .i64 0) ?_ rfl
          have h00 : Nat.min yl 0 = 0 := Nat.min_zero yl
          have hvs0 := hvs w rfl
          rw [h00] at hvs0
          simp only [Builtin.copy_, h0, Sem.run_bind, run_underlying' ht, Result.andThen_ok, hn, run_sizeOf hsz, h00, hvs0, List.getElem?_toArray, List.getElem?_cons_zero, List.getElem?_cons_succ, Sem.run_pure, goInt]
          rfl
        · cases h
      · cases h
    · cases h
  · rename_i t x hts
    have hts : ts = #[t] := by cases ts; simp at hts; simp [hts]
    subst hts
    obtain ⟨u, rfl, hu⟩ := args1 ha
    refine BFine.fine (x := Builtin.clear_ #[t] ty #[u]) ?_
    split at h
    · rename_i ht
      injection h with h; injection h with h1 h2; subst h1 h2
      rw [show u = _ from hu]
      exact BFine.quiet hr (u := Go.undef) (by simp [Builtin.clear_, run_underlying' ht, Go.undef]) (AV.undef_is _ _)
    · rename_i e i o n c' ht
      split at h
      · rename_i hn0
        have hn0 := Nat.eq_of_beq_eq_true hn0
        subst hn0
        injection h with h; injection h with h1 h2; subst h1 h2
        rw [show u = _ from hu.2.2]
        exact BFine.quiet hr (u := Go.undef) (by simp [Builtin.clear_, run_underlying' ht, Go.undef]) (AV.undef_is _ _)
      · rename_i z hn0 hz
        have hn0 : n ≠ 0 := fun e => by subst e; cases hn0
        rw [Option.map_eq_some_iff] at h
        obtain ⟨s1, hs1, h⟩ := h
        injection h with h1 h2; subst h1 h2
        obtain ⟨zu, hzu, hzi⟩ := zeroAnywhere hz p s.n
        obtain ⟨w', hrun, hpost⟩ := rowPut_sound (P := P) hr hs1 (zeroCells_is hzi n)
        rw [show u = _ from hu.2.2]
        refine ⟨Go.undef, p, w', ?_, AV.undef_is _ _, hpost⟩
        obtain ⟨m, rfl⟩ : ∃ m, n = m + 1 := ⟨n - 1, by omega⟩
        simp [Builtin.clear_, run_underlying' ht, hzu, hrun, Go.undef]
      · cases h
    · rename_i e i o n c' ht
      split at h
      · rename_i hn0
        have hn0 := Nat.eq_of_beq_eq_true hn0
        subst hn0
        injection h with h; injection h with h1 h2; subst h1 h2
        obtain ⟨_, cc, _, _, rfl⟩ := hu
        exact BFine.quiet hr (u := Go.undef) (by simp [Builtin.clear_, run_underlying' ht, Go.undef]) (AV.undef_is _ _)
      · rename_i z hn0 hz
        have hn0 : n ≠ 0 := fun e => by subst e; cases hn0
        rw [Option.map_eq_some_iff] at h
        obtain ⟨s1, hs1, h⟩ := h
        injection h with h1 h2; subst h1 h2
        obtain ⟨zu, hzu, hzi⟩ := zeroAnywhere hz p s.n
        obtain ⟨w', hrun, hpost⟩ := rowPut_sound (P := P) hr hs1 (zeroCells_is hzi n)
        obtain ⟨_, cc, _, _, rfl⟩ := hu
        refine ⟨Go.undef, p, w', ?_, AV.undef_is _ _, hpost⟩
        obtain ⟨m, rfl⟩ : ∃ m, n = m + 1 := ⟨n - 1, by omega⟩
        simp [Builtin.clear_, run_underlying' ht, hzu, hrun, Go.undef]
      · cases h
    · cases h
  · cases h

end Go.Ax
