/- The symbolic run with calls from a list, quicker: what an operation does is found once. -/
import Derived.Test.YtipfdkecodadnaaGreatDoorAxOrc
namespace Go.Ax
open Go
noncomputable section

/-- The value of an operand, found once. -/
inductive EvC where
  | mk (g : Fr → Option AV)
def EvC.run (x : EvC) : Fr → Option AV := EvC.rec (fun g => g) x
def evC (x : Operand) : EvC :=
  match x with
  | .tmp t => .mk fun fr => fr.tmps.get t
  | .const v => Option.rec (.mk fun _ => none) (fun a => .mk fun _ => some a) (ofValue v)
  | .func f => .mk fun _ => some (.sc (.fn f []))
  | .global g => match Nat.ble (g + 1) 8 with
    | true => .mk fun _ => some (.sc (.ptr g 0))
    | false => .mk fun _ => none
theorem evC_run (x : Operand) (fr : Fr) : (evC x).run fr = fr.eval x := by
  cases x with
  | tmp t => rfl
  | const v =>
    show (EvC.run (Option.rec (EvC.mk fun _ => none) (fun a => .mk fun _ => some a) (ofValue v))) fr = ofValue v
    cases ofValue v <;> rfl
  | func f => rfl
  | global g =>
    show (EvC.run (match Nat.ble (g + 1) 8 with | true => .mk fun _ => some (.sc (.ptr g 0)) | false => .mk fun _ => none)) fr = (match Nat.ble (g + 1) 8 with | true => some (.sc (.ptr g 0)) | false => none)
    cases Nat.ble (g + 1) 8 <;> rfl

/-- A number's kind and value. -/
def intOf? (x : Option AV) : Option (IntKind × Int) :=
  Option.rec none (fun a => AV.rec (fun b => A1.rec (fun c => Sc.rec (fun _ => none) (fun k n => some (k, n)) (fun _ => none) (fun _ _ => none) none (fun _ _ _ _ => none) (fun _ _ _ _ => none) none (fun _ _ => none) (fun _ => none) none (fun _ => none) none c) (fun _ => none) b) (fun _ => none) a) x
theorem intOf_some {x : Option AV} {k : IntKind} {n : Int} (h : intOf? x = some (k, n)) : x = some (.one (.sc (.int k n))) := by
  cases x with
  | none => cases h
  | some a => cases a with
    | tup l => cases h
    | one b => cases b with
      | agg l => cases h
      | sc c => cases c <;> first | (cases h; done) | (cases h; rfl)
def kindEq (k l : IntKind) : Bool :=
  match k with
  | .i64 => (match l with | .i64 => true | _ => false)
  | _ => decide (k = l)
theorem kindEq_eq {k l : IntKind} (h : kindEq k l = true) : k = l := by
  cases k <;> first | (exact of_decide_eq_true h) | (cases l <;> first | rfl | cases h)
inductive IC where
  | mk (g : IntKind → Int → Int → Option Sc)
def IC.run (x : IC) : IntKind → Int → Int → Option Sc := IC.rec (fun g => g) x
def intOp (op : BinOp) : Option IC :=
  match op with
  | .add => some (.mk fun k x y => mkInt k (x + y))
  | .sub => some (.mk fun k x y => mkInt k (x - y))
  | .mul => some (.mk fun k x y => mkInt k (x * y))
  | .eql => some (.mk fun _ x y => some (.bool (eqFI x y)))
  | .neq => some (.mk fun _ x y => some (.bool (Bool.rec true false (eqFI x y))))
  | .lss => some (.mk fun _ x y => some (.bool (ltF x y)))
  | .leq => some (.mk fun _ x y => some (.bool (Bool.rec true false (ltF y x))))
  | .gtr => some (.mk fun _ x y => some (.bool (ltF y x)))
  | .geq => some (.mk fun _ x y => some (.bool (Bool.rec true false (ltF x y))))
  | .quo => some (.mk fun k x y => intBin .quo k x y)
  | .rem => some (.mk fun k x y => intBin .rem k x y)
  | _ => none
theorem notRec (b : Bool) : (Bool.rec true false b : Bool) = !b := by cases b <;> rfl
theorem intOp_bin {op : BinOp} {c : IC} (h : intOp op = some c) (P : Program) (t : TypeId) (k : IntKind) (x y : Int) :
    binOp? P op t (.one (.sc (.int k x))) (.one (.sc (.int k y))) = (c.run k x y).map .sc := by
  cases op <;> first | (cases h; done) | (cases h; simp only [binOp?, if_pos, IC.run, intBin, notRec, eqF])
inductive BC where
  | mk (g : Fr → St → Option (AV × St))
def BC.run (x : BC) : Fr → St → Option (AV × St) := BC.rec (fun g => g) x
def orBin (P : Program) (op : BinOp) (t : TypeId) (x y : Option AV) (s : St) : Option (AV × St) := xOneV (oBin P s op t x y)
def binRun (P : Program) (op : BinOp) (t : TypeId) (g : IntKind → Int → Int → Option Sc) (x y : Option AV) (s : St) : Option (AV × St) :=
  Option.rec (orBin P op t x y s) (fun a => Option.rec (orBin P op t x y s) (fun b => Bool.rec (orBin P op t x y s) (Option.rec none (fun c => some (.sc c, s)) (g a.1 a.2 b.2)) (kindEq a.1 b.1)) (intOf? y)) (intOf? x)
def binC (P : Program) (op : BinOp) (t : TypeId) (x y : Operand) : BC :=
  EvC.rec (fun gx => EvC.rec (fun gy => Option.rec (.mk fun fr s => orBin P op t (gx fr) (gy fr) s) (fun c => IC.rec (fun g => .mk fun fr s => binRun P op t g (gx fr) (gy fr) s) c) (intOp op)) (evC y)) (evC x)
theorem binRun_eq {P : Program} {op : BinOp} {t : TypeId} {c : IC} (hc : intOp op = some c) (x y : Option AV) (s : St) : binRun P op t c.run x y s = orBin P op t x y s := by
  unfold binRun
  cases hx : intOf? x with
  | none => rfl
  | some a => cases hy : intOf? y with
    | none => rfl
    | some b =>
      obtain ⟨k, m⟩ := a
      obtain ⟨l, n⟩ := b
      cases hk : kindEq k l with
      | false => simp only [hk]
      | true =>
        have := kindEq_eq hk; subst this
        rw [intOf_some hx, intOf_some hy]
        simp only [hk]
        unfold orBin oBin
        simp only [intOp_bin hc, xOneV]
        cases c.run k m n <;> rfl
theorem binC_run (P : Program) (op : BinOp) (t : TypeId) (x y : Operand) (fr : Fr) (s : St) : (binC P op t x y).run fr s = xOneV (oBin P s op t (fr.eval x) (fr.eval y)) := by
  rw [← evC_run x fr, ← evC_run y fr]
  unfold binC
  cases evC x with
  | mk gx => cases evC y with
    | mk gy => cases hc : intOp op with
      | none => rfl
      | some c => cases c with
        | mk g => exact binRun_eq (c := .mk g) hc (gx fr) (gy fr) s

/-- An operation without its guard. -/
inductive OC where
  | v (g : Fr → St → Option (AV × St))
  | c (g : Run → Fr → St → Option (AV × St))
def bodyC (P : Program) (o : Op) : OC :=
  match o with
  | .move x => EvC.rec (fun g => .v fun fr s => Option.rec none (fun v => some (v, s)) (g fr)) (evC x)
  | .assign x => EvC.rec (fun g => .v fun fr s => Option.rec none (fun v => some (v, s)) (g fr)) (evC x)
  | .binOp op t x y _ => BC.rec (fun g => .v g) (binC P op t x y)
  | .load t a => EvC.rec (fun g => .v fun fr s => xOneV (oLoad P s t (g fr))) (evC a)
  | .fieldAddr t x f => EvC.rec (fun g => .v fun fr s => xOneV (oFieldAddr P s t (g fr) f)) (evC x)
  | .extract t ix => EvC.rec (fun g => .v fun fr s => xOneV (oExtract s (g fr) ix)) (evC t)
  | o => Box.rec (fun f => .v fun fr s => xOneV (f fr s)) (fun c => .c fun r fr s => xOneC r (oCall P fr s c)) (boxOf P o)
def OC.run (x : OC) (r : Run) (fr : Fr) (s : St) : Option (AV × St) := OC.rec (fun g => g fr s) (fun g => g r fr s) x
theorem bodyC_run (P : Program) (r : Run) (fr : Fr) (s : St) (o : Op) : (bodyC P o).run r fr s = xBox P r fr s (boxOf P o) := by
  cases o
  case move x =>
    show (OC.run (EvC.rec (fun g => OC.v fun fr s => Option.rec none (fun v => some (v, s)) (g fr)) (evC x)) r fr s) = xOneV (oMove s (fr.eval x))
    rw [← evC_run x fr]
    cases evC x with | mk g => show (Option.rec none (fun v => some (v, s)) (g fr) : Option (AV × St)) = xOneV (oMove s (g fr)); cases g fr <;> rfl
  case assign x =>
    show (OC.run (EvC.rec (fun g => OC.v fun fr s => Option.rec none (fun v => some (v, s)) (g fr)) (evC x)) r fr s) = xOneV (oMove s (fr.eval x))
    rw [← evC_run x fr]
    cases evC x with | mk g => show (Option.rec none (fun v => some (v, s)) (g fr) : Option (AV × St)) = xOneV (oMove s (g fr)); cases g fr <;> rfl
  case binOp op t x y z =>
    show (OC.run (BC.rec (fun g => OC.v g) (binC P op t x y)) r fr s) = xOneV (oBin P s op t (fr.eval x) (fr.eval y))
    rw [← binC_run]
    cases binC P op t x y; rfl
  case load t a =>
    show (OC.run (EvC.rec (fun g => OC.v fun fr s => xOneV (oLoad P s t (g fr))) (evC a)) r fr s) = xOneV (oLoad P s t (fr.eval a))
    rw [← evC_run a fr]; cases evC a; rfl
  case fieldAddr t x f =>
    show (OC.run (EvC.rec (fun g => OC.v fun fr s => xOneV (oFieldAddr P s t (g fr) f)) (evC x)) r fr s) = xOneV (oFieldAddr P s t (fr.eval x) f)
    rw [← evC_run x fr]; cases evC x; rfl
  case extract t ix =>
    show (OC.run (EvC.rec (fun g => OC.v fun fr s => xOneV (oExtract s (g fr) ix)) (evC t)) r fr s) = xOneV (oExtract s (fr.eval t) ix)
    rw [← evC_run t fr]; cases evC t; rfl
  all_goals rfl

/-- An operation with its guard. -/
inductive OneC where
  | mk (g : Run → Fr → St → Option (AV × St))
def OneC.run (x : OneC) : Run → Fr → St → Option (AV × St) := OneC.rec (fun g => g) x
/-- A truth value. -/
def boolOf? (x : Option AV) : Option Bool :=
  Option.rec none (fun a => AV.rec (fun b => A1.rec (fun c => Sc.rec (fun b => some b) (fun _ _ => none) (fun _ => none) (fun _ _ => none) none (fun _ _ _ _ => none) (fun _ _ _ _ => none) none (fun _ _ => none) (fun _ => none) none (fun _ => none) none c) (fun _ => none) b) (fun _ => none) a) x
def gRun (want : Bool) (x : Option AV) (y : Option (AV × St)) (s : St) : Option (AV × St) :=
  Option.rec none (fun b => Bool.rec (Bool.rec y (some (.undef, s)) b) (Bool.rec (some (.undef, s)) y b) want) (boolOf? x)
def oneC (P : Program) (all : List Oper) (o : Oper) : OneC :=
  match o.guard with
  | none => OC.rec (fun g => .mk fun _ fr s => g fr s) (fun g => .mk g) (bodyC P o.op)
  | some (j, want) => (match lget all j with
    | some q => (match q.dst with
      | some d => OC.rec (fun g => .mk fun _ fr s => gRun want (fr.tmps.get d) (g fr s) s) (fun g => .mk fun r fr s => gRun want (fr.tmps.get d) (g r fr s) s) (bodyC P o.op)
      | none => .mk fun _ _ _ => none)
    | none => .mk fun _ _ _ => none)
theorem gRun_eq (want : Bool) (x : Option AV) (y : Option (AV × St)) (s : St) : gRun want x y s = (match (match x with | some (.one (.sc (.bool b))) => some (b == want) | _ => none) with | none => none | some false => some (.undef, s) | some true => y) := by
  cases x with
  | none => rfl
  | some a => cases a with
    | tup l => rfl
    | one b => cases b with
      | agg l => rfl
      | sc c => cases c <;> first | rfl | (rename_i b; cases b <;> cases want <;> rfl)
theorem oneC_run (P : Program) (r : Run) (all : List Oper) (fr : Fr) (o : Oper) (s : St) : (oneC P all o).run r fr s = xOne P r all fr o s := by
  unfold oneC
  split
  · rename_i hg
    have h1 : xOne P r all fr o s = xBox P r fr s (boxOf P o.op) := by unfold xOne guardOk; rw [hg]
    rw [h1, ← bodyC_run]
    cases bodyC P o.op <;> rfl
  · rename_i j want hg
    have h1 : xOne P r all fr o s = (match (match lget all j with | some g => (match g.dst with | some d => (match fr.get d with | some (.one (.sc (.bool b))) => some (b == want) | _ => none) | none => none) | none => none) with | none => none | some false => some (.undef, s) | some true => xBox P r fr s (boxOf P o.op)) := by unfold xOne guardOk; rw [hg]; rfl
    rw [h1]
    split
    · rename_i q hq
      split
      · rename_i d hd
        rw [← bodyC_run]
        show _ = (match (match fr.tmps.get d with | some (.one (.sc (.bool b))) => some (b == want) | _ => none) with | none => none | some false => some (AV.undef, s) | some true => (bodyC P o.op).run r fr s)
        rw [← gRun_eq]
        cases bodyC P o.op <;> rfl
      · rfl
    · rfl
/-- A value into a slot. -/
inductive PutC where
  | mk (g : Fr → AV → Fr)
def PutC.run (x : PutC) : Fr → AV → Fr := PutC.rec (fun g => g) x
def putC (d : Option Tmp) : PutC :=
  match d with
  | some d => .mk fun fr v => Fr.rec (fun fn nt tmps dfs => ⟨fn, nt, Bool.rec tmps (tmps.set deep d v) (Nat.ble (Nat.succ d) nt), dfs⟩) fr
  | none => .mk fun fr _ => fr
theorem putC_run (d : Option Tmp) (fr : Fr) (v : AV) : (putC d).run fr v = fr.put d v := by
  cases d with
  | none => rfl
  | some d =>
    cases fr with | mk fn nt tmps dfs =>
    show (⟨fn, nt, Bool.rec tmps (tmps.set deep d v) (Nat.ble (d + 1) nt), dfs⟩ : Fr) = match Nat.ble (d + 1) nt with | true => ⟨fn, nt, tmps.set deep d v, dfs⟩ | false => ⟨fn, nt, tmps, dfs⟩
    cases Nat.ble (d + 1) nt <;> rfl
/-- A list of operations. -/
inductive RegC where
  | mk (g : Run → Fr → St → Option (Fr × St))
def RegC.run (x : RegC) : Run → Fr → St → Option (Fr × St) := RegC.rec (fun g => g) x
def thenC (p : Fr → AV → Fr) (h : Run → Fr → St → Option (AV × St)) (g : Run → Fr → St → Option (Fr × St)) : RegC :=
  .mk fun r fr s => Option.rec none (fun x => Prod.rec (fun v s => g r (p fr v) s) x) (h r fr s)
def regC (P : Program) (all : List Oper) (l : List Oper) : RegC :=
  List.rec (.mk fun _ fr s => some (fr, s)) (fun o _ ih => RegC.rec (fun g => OneC.rec (fun h => PutC.rec (fun p => thenC p h g) (putC o.dst)) (oneC P all o)) ih) l
theorem regC_cons (P : Program) (all : List Oper) (o : Oper) (t : List Oper) (r : Run) (fr : Fr) (s : St) :
    (regC P all (o :: t)).run r fr s = match xOne P r all fr o s with | some (v, s) => (regC P all t).run r (fr.put o.dst v) s | none => none := by
  rw [← oneC_run]
  show (RegC.run (RegC.rec (fun g => OneC.rec (fun h => PutC.rec (fun p => thenC p h g) (putC o.dst)) (oneC P all o)) (regC P all t)) r fr s) = _
  simp only [← putC_run]
  cases regC P all t with | mk g => cases oneC P all o with | mk h => cases putC o.dst with | mk p =>
    show (Option.rec none (fun x => Prod.rec (fun v s => g r (p fr v) s) x) (h r fr s) : Option (Fr × St)) = match h r fr s with | some (v, s) => g r (p fr v) s | none => none
    cases h r fr s with
    | none => rfl
    | some x => obtain ⟨v, s⟩ := x; rfl
end

variable {P : Program}
theorem regC_fine {r : Run} (hr : RunFine P r) {rd : Option Nat} {all : List Oper} : ∀ {l : List Oper} {fr fr' : Fr} {s s' : St}, (regC P all l).run r fr s = some (fr', s') → OpsFine P rd all l fr s .normal fr' s'
  | [], fr, fr', s, s', h => by
    cases h
    intro B p w a n Q L hr hB hf hrd hL hQ
    have : L = [] := by cases L with | nil => rfl | cons => simp at hL
    subst this
    exact hQ p w a (Post.refl hr) hf
  | o :: rest, fr, fr', s, s', h => by
    rw [regC_cons] at h
    split at h
    · rename_i v s1 hone
      have hx := regC_fine hr (rd := rd) h
      intro B p w a n Q L hrel hB hf hrd hL hQ
      obtain ⟨i, L', rfl, hi, hL'⟩ := map_cons_split hL
      simp only [wpOpsIn, hi]
      refine one_fine hr hone B p w a n rd Q _ hrel hB hf fun q w' u hp hu => ?_
      rw [← fenceOf_fits hp.fits hrd]
      exact hx B q w' _ n Q L' hp.rel (Nat.le_trans hB hp.size) ((hf.fits hp.fits hp.le).put _ hu) (fun l hl => hp.fits.has hp.le (hrd l hl)) hL' fun q' w'' a'' hp' hf'' => hQ q' w'' a'' (hp.trans hp') hf''
    · cases h

noncomputable section
/-- A function's results, found once. -/
inductive ResC where
  | mk (g : St → Fr → Option (List A1))
def ResC.run (x : ResC) : St → Fr → Option (List A1) := ResC.rec (fun g => g) x
def oneOf? (x : Option AV) : Option A1 := Option.rec none (fun a => AV.rec (fun b => some b) (fun _ => none) a) x
def cellOf? (P : Program) (s : St) (t : TypeId) (x : Option AV) : Option A1 :=
  match x with
  | some (.one (.sc (.ptr i o))) => oneOf? (loadAt P s t i o)
  | _ => none
def consOf (a : Option A1) (l : Option (List A1)) : Option (List A1) := Option.rec none (fun a => Option.rec none (fun l => some (a :: l)) l) a
def resC (P : Program) (l : List ResultVar) : ResC :=
  List.rec (.mk fun _ _ => some []) (fun v _ ih => ResC.rec (fun g => match v with
    | .tmp t => .mk fun s fr => consOf (oneOf? (fr.tmps.get t)) (g s fr)
    | .cell a t => .mk fun s fr => consOf (cellOf? P s t (fr.tmps.get a)) (g s fr)) ih) l
theorem resC_run (P : Program) (s : St) (fr : Fr) : ∀ l : List ResultVar, (resC P l).run s fr = resultsOf P s fr l
  | [] => rfl
  | .tmp t :: r => by
    rw [resultsOf, ← resC_run P s fr r]
    show (ResC.run (ResC.rec (fun g => ResC.mk fun s fr => consOf (oneOf? (fr.tmps.get t)) (g s fr)) (resC P r))) s fr = _
    cases resC P r with | mk g =>
    show consOf (oneOf? (fr.tmps.get t)) (g s fr) = match fr.tmps.get t, g s fr with | some (.one a), some l => some (a :: l) | _, _ => none
    cases fr.tmps.get t with
    | none => rfl
    | some a => cases a <;> cases g s fr <;> rfl
  | .cell a t :: r => by
    rw [resultsOf, ← resC_run P s fr r]
    show (ResC.run (ResC.rec (fun g => ResC.mk fun s fr => consOf (cellOf? P s t (fr.tmps.get a)) (g s fr)) (resC P r))) s fr = _
    cases resC P r with | mk g =>
    show consOf (cellOf? P s t (fr.tmps.get a)) (g s fr) = match fr.tmps.get a, g s fr with | some (.one (.sc (.ptr i o))), some l => (match loadAt P s t i o with | some (.one a) => some (a :: l) | _ => none) | _, _ => none
    cases fr.tmps.get a with
    | none => rfl
    | some x => cases x with
      | tup l => rfl
      | one b => cases b with
        | agg l => rfl
        | sc c => cases c <;> first | rfl | skip
                  rename_i i o
                  cases g s fr with
                  | none => show consOf (oneOf? (loadAt P s t i o)) none = none; cases oneOf? (loadAt P s t i o) <;> rfl
                  | some l =>
                    show consOf (oneOf? (loadAt P s t i o)) (some l) = (match loadAt P s t i o with | some (.one a) => some (a :: l) | _ => none)
                    cases loadAt P s t i o with
                    | none => rfl
                    | some y => cases y <;> rfl
def leave1 (g : St → Fr → Option (List A1)) (s0 : St) (fr : Fr) (s : St) : Option (Out × St) :=
  List.rec (xResults s0 s (g s fr)) (fun _ _ _ => match dropMarks s fr.dfs with | some s => xResults s0 s (g s fr) | none => none) fr.dfs
def leaveF (g : St → Fr → Option (List A1)) (s0 : St) (x : Option (Out × St)) : Option (Out × St) :=
  Option.rec none (fun y => Prod.rec (fun o s => Out.rec (fun e fr => Ex.rec (leave1 g s0 fr s) (fun _ => none) (fun _ => none) (leave1 g s0 fr s) e) (fun _ => none) o) y) x
theorem leave1_eq (P : Program) (fn : Func) (s0 : St) (fr : Fr) (s : St) : leave1 (resC P fn.results.toList).run s0 fr s = (match dropMarks s fr.dfs with | some s => xResults s0 s (resultsOf P s fr fn.results.toList) | none => none) := by
  unfold leave1
  cases h : fr.dfs with
  | nil => simp only [resC_run, dropMarks]
  | cons d t => simp only [resC_run]
theorem leaveF_eq (P : Program) (fn : Func) (s0 : St) (x : Option (Out × St)) : leaveF (resC P fn.results.toList).run s0 x = xLeave P fn s0 x := by
  cases x with
  | none => rfl
  | some y =>
    obtain ⟨o, s⟩ := y
    cases o with
    | val v => rfl
    | left e fr => cases e <;> first | rfl | exact leave1_eq P fn s0 fr s
inductive FnC where
  | mk (g : Run → List AV → St → Option (Out × St))
def FnC.run (x : FnC) : Run → List AV → St → Option (Out × St) := FnC.rec (fun g => g) x
def fnC (P : Program) (f : FuncId) : FnC :=
  match P.funcs[f]? with
  | none => .mk fun _ _ _ => none
  | some fn => match fn.body with
    | none => .mk fun _ _ _ => none
    | some c => match decide (fn.name = "runtime.NumGoroutine") with
      | true => .mk fun _ _ _ => none
      | false => ResC.rec (fun g => .mk fun r args s => leaveF g s (r (.code none c { fn := f, nt := Nat.max fn.ntmps args.length, tmps := T.ofList args, dfs := [] }) { h := s.h, n := s.n, lo := big })) (resC P fn.results.toList)
theorem fnC_run (P : Program) (r : Run) (f : FuncId) (args : List AV) (s : St) : (fnC P f).run r args s = xCall P r f args s := by
  unfold fnC xCall
  cases P.funcs[f]? with
  | none => rfl
  | some fn =>
    simp only
    cases fn.body with
    | none => rfl
    | some c =>
      simp only
      cases decide (fn.name = "runtime.NumGoroutine") with
      | true => rfl
      | false =>
        simp only
        rw [← leaveF_eq]
        cases resC P fn.results.toList; rfl
def xCallF (P : Program) (es : List Ent) (r : Run) (f : FuncId) (args : List AV) (s : St) : Option (Out × St) :=
  match hasF es f with
  | false => FnC.rec (fun g => g r args s) (fnC P f)
  | true => match pick es f args s with
    | some e => some (.val e.v, e.go s)
    | none => FnC.rec (fun g => g r args s) (fnC P f)
theorem xCallF_eq (P : Program) (es : List Ent) (r : Run) (f : FuncId) (args : List AV) (s : St) : xCallF P es r f args s = xCallO P es r f args s := by
  have h : (FnC.rec (fun g => g r args s) (fnC P f) : Option (Out × St)) = xCall P r f args s := by rw [← fnC_run]; cases fnC P f; rfl
  unfold xCallF xCallO
  rw [h]
  cases hasF es f with
  | false => rfl
  | true => simp only; cases pick es f args s <;> rfl
def leftC (x : Option (Fr × St)) : Option (Out × St) := Option.rec none (fun y => Prod.rec (fun fr s => some (.left .normal fr, s)) y) x
def xCodeF (P : Program) (r : Run) (rd : Option Nat) (c : Code) (fr : Fr) (s : St) : Option (Out × St) :=
  match c with
  | .region _ ops false => RegC.rec (fun g => leftC (g r fr s)) (regC P ops.toList ops.toList)
  | .seq a b => xSeq r rd b (r (.code rd a fr) s)
  | .cond c a b => xCond r rd a b fr s (fr.eval c)
  | c => xCode P r rd c fr s
def xTaskF (P : Program) (es : List Ent) (r : Run) (t : Task) (s : St) : Option (Out × St) :=
  match t with
  | .code rd c fr => xCodeF P r rd c fr s
  | .ops rd all ops fr => xOps P r rd all ops fr s
  | .call f args => xCallF P es r f args s
  | .round l args => xRound r l args s
def execF (P : Program) (es : List Ent) (k : Nat) : Run := Nat.rec (fun _ _ => none) (fun _ r => xTaskF P es r) k
end

theorem regionC_fine {r : Run} (hr : RunFine P r) {rd : Option Nat} {id : Nat} {ops : Array Oper} {fr : Fr} {s s' : St} {o : Out} (h : (RegC.rec (fun g => leftC (g r fr s)) (regC P ops.toList ops.toList) : Option (Out × St)) = some (o, s')) :
    ∃ e fr', o = .left e fr' ∧ CodeFine P rd (.region id ops false) fr s e fr' s' := by
  have h' : leftC ((regC P ops.toList ops.toList).run r fr s) = some (o, s') := by
    revert h; cases regC P ops.toList ops.toList; exact fun hh => hh
  cases hx : (regC P ops.toList ops.toList).run r fr s with
  | none => rw [hx] at h'; cases h'
  | some y =>
    obtain ⟨fr', s1⟩ := y
    rw [hx] at h'
    cases h'
    have hx' := regC_fine hr (rd := rd) hx
    refine ⟨.normal, fr', rfl, fun B p w a n Q hrel hB hf hrd hQ => wpIn_region ?_⟩
    have := hx' B p w a n Q (List.range ops.size) hrel hB hf hrd (by
      refine List.ext_getElem? fun j => ?_
      rw [List.getElem?_map, List.getElem?_map]
      by_cases hj : j < ops.size
      · simp [hj]
      · rw [List.getElem?_eq_none (by simpa using hj), List.getElem?_eq_none (by simpa using hj)]; rfl) hQ
    simpa using this
theorem codeF_fine {r : Run} {k : Nat} (hr : RunFine P r) (hl : ∀ rd c fr s e fr' s', r (.code rd (.loop c) fr) s = some (.left e fr', s') → LoopFine P k rd c fr s e fr' s') {rd : Option Nat} {c : Code} {fr : Fr} {s s' : St} {o : Out} (h : xCodeF P r rd c fr s = some (o, s')) :
    ∃ e fr', o = .left e fr' ∧ CodeFine P rd c fr s e fr' s' := by
  unfold xCodeF at h
  split at h
  · exact regionC_fine hr h
  · exact seq_fine hr h
  · exact cond_fine hr h
  · exact code_fine hr hl h
theorem execF_fine {es : List Ent} (hes : ∀ e ∈ es, EntOk P e) : ∀ (k : Nat), RunFine P (execF P es k) ∧ ∀ rd c fr s e fr' s', execF P es k (.code rd (.loop c) fr) s = some (.left e fr', s') → LoopFine P k rd c fr s e fr' s'
  | 0 => ⟨(fun t s o s' h => by cases h), (fun rd c fr s e fr' s' h => by cases h)⟩
  | k + 1 => by
    obtain ⟨ih, ihl⟩ := execF_fine hes k
    refine ⟨fun t s o s' h => ?_, fun rd c fr s e fr' s' h => ?_⟩
    · change xTaskF P es (execF P es k) t s = some (o, s') at h
      cases t with
      | code rd c fr => obtain ⟨e, fr', rfl, hx⟩ := codeF_fine ih ihl h; exact hx
      | ops rd all ops fr => obtain ⟨fr', rfl, hx⟩ := ops_fine ih h; exact ⟨rfl, hx⟩
      | call f args =>
        change xCallF P es (execF P es k) f args s = some (o, s') at h
        rw [xCallF_eq] at h
        obtain ⟨v, rfl, hx⟩ := callO_fine hes ih h; exact hx
      | round l args => obtain ⟨v, rfl, hx⟩ := round_fine ih h; exact hx
    · change xTaskF P es (execF P es k) (.code rd (.loop c) fr) s = some (.left e fr', s') at h
      change xCode P (execF P es k) rd (.loop c) fr s = some (.left e fr', s') at h
      obtain ⟨e', fr'', he, hx⟩ := loop_fine ih (fun fr s e fr' s' h => ihl rd _ fr s e fr' s' h) h
      injection he with he1 he2; subst he1 he2
      exact hx
theorem entOkF_of {es : List Ent} (hes : ∀ e ∈ es, EntOk P e) {k : Nat} {e : Ent} (h : chk e (execF P es k (.call e.f e.args) e.s) = true) : EntOk P e := by
  unfold chk at h
  split at h
  · rename_i v s' hx
    simp only [Bool.and_eq_true] at h
    obtain ⟨h1, h2, h3, h4⟩ := h
    have := (execF_fine hes k).1 _ _ _ _ hx
    rw [← eqV_eq h1] at this
    exact ⟨s', this, Nat.eq_of_beq_eq_true h2, Nat.eq_of_beq_eq_true h3, h4⟩
  · cases h
/-- A run from nothing gives a contract in whatever world. -/
theorem calls_of_execF {es : List Ent} (hes : ∀ e ∈ es, EntOk P e) {k : Nat} {f : FuncId} {v : AV} {s' : St} (h : execF P es k (.call f []) { h := .leaf, n := 8, lo := big } = some (.val v, s')) (w : World) :
    Calls P f #[] w fun e w' => ∃ q u, e = .returned u ∧ v.is q s'.n u ∧ Rel w.heap.size q s' w' ∧ w.heap.size ≤ w'.heap.size ∧ (∀ b, b < w.heap.size → w'.heap[b]? = w.heap[b]?) ∧ w'.os = w.os ∧ w'.tape = w.tape ∧ w'.output = w.output := by
  have hx := (execF_fine hes k).1 _ _ _ _ h
  have hrel : Rel w.heap.size Pl.start { h := .leaf, n := 8, lo := big } w :=
    ⟨(fun i r hi _ => by cases hi), (fun i j hi _ _ => by obtain ⟨r, hi, _⟩ := hi; cases hi), Nat.le_refl _⟩
  refine (callsIn_wide (n := 0)).1 (hx w.heap.size _ w #[] 0 _ hrel (Nat.le_refl _) trivial fun q w' u hp hu => ?_).2
  exact ⟨q, u, rfl, hu, hp.rel, hp.size, hp.below hrel (Nat.le_refl _), hp.os, hp.tape, hp.output⟩
/-- The same where package variables lie as the rows say, which the call does not write. -/
theorem calls_of_execG {es : List Ent} (hes : ∀ e ∈ es, EntOk P e) {k : Nat} {f : FuncId} {v : AV} {s' : St} {rows : RowsK} (h : execF P es k (.call f []) { h := withRows .leaf (rows.map rowK), n := 8, lo := big } = some (.val v, s')) (hlo : 8 ≤ s'.lo) (w : World)
    (hw : ∀ x ∈ rows, x.1 < 8 ∧ x.1 < w.heap.size ∧ (Row.cells x.2.1 x.2.2.1 x.2.2.2.length (T.ofList x.2.2.2)).is Pl.start 8 x.1 w.heap[x.1]?) :
    Calls P f #[] w fun e w' => ∃ q u, e = .returned u ∧ v.is q s'.n u ∧ w.heap.size ≤ w'.heap.size ∧ (∀ b, b < w.heap.size → w'.heap[b]? = w.heap[b]?) ∧ w'.os = w.os ∧ w'.tape = w.tape ∧ w'.output = w.output := by
  have hx := (execF_fine hes k).1 _ _ _ _ h
  have hrel : Rel 0 Pl.start { h := withRows .leaf (rows.map rowK), n := 8, lo := big } w := by
    refine ⟨fun i r hg _ => ?_, fun i j _ _ e => e, Nat.le_refl _⟩
    obtain ⟨x, hx, rfl, rfl⟩ := rowK_mem hg
    obtain ⟨h1, h2, h3⟩ := hw x hx
    exact ⟨⟨h1, h1⟩, Nat.zero_le _, h2, h3⟩
  refine (callsIn_wide (n := 0)).1 (hx 0 _ w #[] 0 _ hrel (Nat.zero_le _) trivial fun q w' u hp hu => ?_).2
  refine ⟨q, u, rfl, hu, hp.size, fun b hb => hp.keep b hb fun i hi hl e => ?_, hp.os, hp.tape, hp.output⟩
  have := hrel.lt hl
  exact absurd (show i < 8 from this) (by omega)
end Go.Ax
