/- Each operation of a symbolic run is what the model does. -/
import Derived.Test.YtnjbhidncicfiaaAxRel
import Derived.IntWalk
import Derived.Laws.StructEq
namespace Go.Ax
open Go

variable {P : Program}

/-! ### Constants -/
theorem ofScalar_is {p : Pl} {n : Nat} {v : Value} {s : Sc} (h : ofScalar v = some s) : s.is p n v := by
  unfold ofScalar at h
  split at h <;> (try injection h with h) <;> (try subst h) <;> first | rfl | cases h
theorem ofScalars_is {p : Pl} {n : Nat} : ∀ {u : List Value} {l : List Sc}, ofScalars u = some l → ScL.is p n l u
  | [], l, h => by injection h with h; subst h; trivial
  | v :: t, l, h => by
    unfold ofScalars at h
    split at h
    · injection h with h; subst h; rename_i ha hb; exact ⟨ofScalar_is ha, ofScalars_is hb⟩
    · cases h
theorem ofA1_is {p : Pl} {n : Nat} {v : Value} {a : A1} (h : ofA1 v = some a) : a.is p n v := by
  unfold ofA1 at h
  split at h
  · rename_i cs
    rw [Option.map_eq_some_iff] at h
    obtain ⟨l, hl, rfl⟩ := h
    exact ⟨cs, rfl, ofScalars_is hl⟩
  · rw [Option.map_eq_some_iff] at h
    obtain ⟨l, hl, rfl⟩ := h
    exact ofScalar_is (p := p) (n := n) hl
theorem ofA1s_is {p : Pl} {n : Nat} : ∀ {u : List Value} {l : List A1}, ofA1s u = some l → A1L.is p n l u
  | [], l, h => by injection h with h; subst h; trivial
  | v :: t, l, h => by
    unfold ofA1s at h
    split at h
    · injection h with h; subst h; rename_i ha hb; exact ⟨ofA1_is ha, ofA1s_is hb⟩
    · cases h
theorem ofValue_is {p : Pl} {n : Nat} {v : Value} {a : AV} (h : ofValue v = some a) : a.is p n v := by
  unfold ofValue at h
  split at h
  · rename_i vs
    rw [Option.map_eq_some_iff] at h
    obtain ⟨l, hl, rfl⟩ := h
    exact ⟨vs, rfl, ofA1s_is hl⟩
  · rename_i f x y
    split at h
    · rename_i hs
      injection h with h; subst h
      have hx : x = #[] := Array.eq_empty_of_size_eq_zero hs.1
      have hy : y = #[] := Array.eq_empty_of_size_eq_zero hs.2
      subst hx hy
      exact ⟨by simp, by simp⟩
    · cases h
  · rw [Option.map_eq_some_iff] at h
    obtain ⟨l, hl, rfl⟩ := h
    exact ofA1_is (p := p) (n := n) hl

/-! ### Frames -/
structure Fr.is (p : Pl) (n : Nat) (fr : Fr) (a : Act) : Prop where
  size : a.tmps.size = fr.nt
  get : ∀ t v, fr.tmps.get t = some v → ∃ u, a.tmps[t]? = some u ∧ v.is p n u
  marks : a.defers = fr.dfs.map fun d => { target := .collected (p.ρ d), args := #[] }
  marksLt : ∀ d ∈ fr.dfs, p.has n d
theorem Fr.is.fits {p q : Pl} {n m : Nat} (h : p.fits q n) (hnm : n ≤ m) {fr : Fr} {a : Act} (hs : fr.is p n a) : fr.is q m a where
  size := hs.size
  get t v ht := let ⟨u, x, y⟩ := hs.get t v ht; ⟨u, x, y.fits h hnm⟩
  marks := by
    rw [hs.marks]
    exact List.map_congr_left fun d hd => by simp only [(h d (hs.marksLt d hd)).2.1]
  marksLt d hd := h.has hnm (hs.marksLt d hd)
theorem Fr.is.eval {p : Pl} {n : Nat} {fr : Fr} {a : Act} (hs : fr.is p n a) {x : Operand} {v : AV} (h : fr.eval x = some v) : v.is p n (a.eval x) := by
  cases x with
  | tmp t =>
    obtain ⟨u, hu, hv⟩ := hs.get t v h
    show v.is p n (a.tmps.getD t Go.undef)
    rw [Array.getD_eq_getD_getElem?, hu]; exact hv
  | const c => exact ofValue_is h
  | func f => injection h with h; subst h; exact ⟨by simp, by simp [Act.eval]⟩
  | global g => cases h
theorem Fr.is.put {p : Pl} {n : Nat} {fr : Fr} {a : Act} (hs : fr.is p n a) (d : Option Tmp) {v : AV} {u : Value} (h : v.is p n u) : (fr.put d v).is p n (a.put d u) := by
  cases d with
  | none => exact hs
  | some d =>
    unfold Fr.put Act.put
    simp only
    split
    · rename_i hb
      have hb : d < a.tmps.size := by have := Nat.le_of_ble_eq_true hb; rw [hs.size]; exact this
      refine ⟨by simp [hs.size], fun t x ht => ?_, hs.marks, hs.marksLt⟩
      change (fr.tmps.set deep d v).get t = some x at ht
      rcases T.get_set _ _ _ _ _ _ ht with ⟨rfl, rfl⟩ | ⟨hne, hg⟩
      · exact ⟨u, by rw [Array.getElem?_setIfInBounds_self_of_lt hb], h⟩
      · obtain ⟨y, hy, hv⟩ := hs.get t x hg
        exact ⟨y, by rw [Array.getElem?_setIfInBounds_ne (fun e => hne e.symm)]; exact hy, hv⟩
    · rename_i hb
      have : ¬ d < a.tmps.size := fun hl => by
        rw [Nat.ble_eq_true_of_le (show d + 1 ≤ fr.nt by rw [← hs.size]; exact hl)] at hb; cases hb
      rw [Array.setIfInBounds_eq_of_size_le (Nat.le_of_not_lt this)]
      exact hs
theorem evals_is {p : Pl} {n : Nat} {fr : Fr} {a : Act} (hs : fr.is p n a) : ∀ {l : List Operand} {vs : List AV}, evals fr l = some vs →
    vs.length = l.length ∧ ∀ (j : Nat) (v : AV), vs[j]? = some v → ∃ u, (l.map a.eval)[j]? = some u ∧ v.is p n u
  | [], vs, h => by injection h with h; subst h; simp
  | x :: t, vs, h => by
    unfold evals at h
    split at h
    · rename_i v l hv hl
      injection h with h; subst h
      obtain ⟨h1, h2⟩ := evals_is hs hl
      refine ⟨by simp [h1], fun j v hj => ?_⟩
      cases j with
      | zero => simp at hj; subst hj; exact ⟨_, by simp, hs.eval hv⟩
      | succ j => simp at hj ⊢; simpa using h2 j v hj
    · cases h

/-! ### What a quiet operation gives -/
/-- The operation gives u and leaves the world w'. -/
def Ran (P : Program) (x : Sem Next) (w : World) (u : Value) (w' : World) : Prop :=
  x.run P w = .ok (.value u) w' ∨ (x.run P w = .ok .skip w' ∧ u = Go.undef)

/-- A value without a step. -/
def Gives (P : Program) (p : Pl) (n : Nat) (w : World) (x : Sem Value) (v : AV) : Prop := ∃ u, x.run P w = .ok u w ∧ v.is p n u

theorem run_typeInfo {t : TypeId} {i : TypeInfo} (h : P.info? t = some i) (w : World) : (typeInfo t).run P w = .ok i w := by
  simp [typeInfo, h]
theorem run_underlying' {t : TypeId} {d : TypeDesc} (h : P.underlying t = some d) (w : World) : (underlying t).run P w = .ok d w := by
  simp [underlying, h]
theorem run_sizeOf {t : TypeId} {n : Nat} (h : sizeOf? P t = some n) (w : World) : (sizeOf t).run P w = .ok n w := by
  unfold sizeOf? at h
  rw [Option.map_eq_some_iff] at h
  obtain ⟨i, hi, rfl⟩ := h
  simp [sizeOf, run_typeInfo hi]
theorem run_isAgg {t : TypeId} {b : Bool} (h : isAgg? P t = some b) (w : World) : (isAgg t).run P w = .ok b w := by
  unfold isAgg? at h
  split at h
  · rename_i f hu; injection h with h; subst h; simp [isAgg, run_underlying' hu]
  · rename_i f e hu; injection h with h; subst h; simp [isAgg, run_underlying' hu]
  · rename_i d h1 h2 hu
    injection h with h; subst h
    simp only [isAgg, Sem.run_bind, run_underlying' hu, Result.andThen_ok]
    cases d <;> first | rfl | exact absurd hu (h1 _) | exact absurd hu (h2 _ _)
  · cases h
theorem run_zero {t : TypeId} {z : A1} (h : zeroOf P t = some z) (w : World) (p : Pl) (n : Nat) : ∃ u, (zeroValue t).run P w = .ok u w ∧ z.is p n u := by
  unfold zeroOf at h
  split at h
  · rename_i i hi
    split at h
    · rename_i u hu
      exact ⟨u, by simp [zeroValue, run_typeInfo hi, hu], ofA1_is h⟩
    · cases h
  · cases h
theorem run_zeroCells {t : TypeId} {z : List Sc} (h : zeroCellsOf P t = some z) (w : World) (p : Pl) (n : Nat) : ∃ u, (zeroValue t).run P w = .ok u w ∧ ScL.is p n z u.cells.toList := by
  unfold zeroCellsOf at h
  split at h
  · rename_i i hi
    split at h
    · rename_i u hu
      rw [Option.map_eq_some_iff] at h
      obtain ⟨a, ha, rfl⟩ := h
      exact ⟨u, by simp [zeroValue, run_typeInfo hi, hu], (ofA1_is ha).cells⟩
    · cases h
  · cases h

theorem ofList_get {l : List Sc} {j : Nat} {s : Sc} (h : (T.ofList l).get j = some s) : l[j]? = some s := by
  rcases T.get_sets l T.leaf 0 j s h with ⟨_, h⟩ | ⟨_, h⟩
  · simpa using h
  · cases h
theorem row_is {p : Pl} {n i : Nat} {e : TypeId} {l : List Sc} {cs : Array Value} (h : ScL.is p n l cs.toList) : (Row.cells e true l.length (T.ofList l)).is p n i (some (.cells cs e)) := by
  have hl := h.length
  refine ⟨cs, rfl, by simp at hl; omega, fun _ => by simpa using hl, fun e => absurd e (by simp), fun j s hj => by have := ofList_get hj; rw [List.getElem?_eq_some_iff] at this; exact this.1, fun j s hj => ?_⟩
  obtain ⟨v, hv, hs⟩ := h.get j s (ofList_get hj)
  exact ⟨v, by simpa using hv, hs⟩

theorem Pl.fits_set (p : Pl) (s : St) (w : World) (k : Nat) : p.fits (p.set s.n w.heap.size k) s.n := p.set_fits _ _ _

/-- A new row of known cells. -/
theorem newRow_sound {B : Nat} {p : Pl} {s : St} {w : World} (hr : Rel B p s w) (hB : B ≤ w.heap.size) (e : TypeId) {l : List Sc} {cs : Array Value} (h : ScL.is p s.n l cs.toList) :
    (newRow e cs).run P w = .ok ⟨w.heap.size, 0, none⟩ { w with heap := w.heap.push (.cells cs e) } ∧
    Post B p s w (p.set s.n w.heap.size 0) (s.row e true l) { w with heap := w.heap.push (.cells cs e) } := by
  refine ⟨by simp [newRow], ?_⟩
  rw [St.row_eq]
  exact Post.new' hr hB _ _ 0 (row_is (h.fits (p.fits_set s w 0) (by omega)))
theorem row_n (s : St) (e : TypeId) (x : Bool) (l : List Sc) : (s.row e x l).n = s.n + 1 := by rw [St.row_eq, St.new_eq]
theorem ptr_new (p : Pl) (s : St) (w : World) (k o : Nat) (m : Nat) (hm : s.n < m) : (AV.sc (.ptr s.n o)).is (p.set s.n w.heap.size k) m (.pointer (some ⟨w.heap.size, o, none⟩)) :=
  ⟨p.set_has _ _ _ _ hm, by simp only [Pl.at, p.set_ρ]⟩

section ops
variable {B : Nat} {p : Pl} {s s' : St} {w : World} {fr : Fr} {a : Act} {v : AV} {o : Oper}

/-- What is proved of an operation. -/
def Fine (P : Program) (B : Nat) (p : Pl) (s : St) (w : World) (x : Sem Next) (v : AV) (s' : St) : Prop :=
  ∃ u q w', Ran P x w u w' ∧ v.is q s'.n u ∧ Post B p s w q s' w'

theorem Fine.quiet (hr : Rel B p s w) {x : Sem Next} {u : Value} (h : x.run P w = .ok (.value u) w) (hv : v.is p s.n u) : Fine P B p s w x v s :=
  ⟨u, p, w, .inl h, hv, Post.refl hr⟩

theorem oMove_sound (hf : fr.is p s.n a) {x : Operand} (h : oMove s (fr.eval x) = some (.val v, s')) : s' = s ∧ v.is p s.n (a.eval x) := by
  unfold oMove at h
  split at h
  · rename_i y hy; injection h with h; injection h with h1 h2; injection h1 with h1; subst h1; exact ⟨h2.symm, hf.eval hy⟩
  · cases h
theorem oAlloc_sound (hr : Rel B p s w) (hB : B ≤ w.heap.size) {t : TypeId} (h : oAlloc P s t = some (.val v, s')) :
    Fine P B p s w (do pure (.value (← Instr.alloc t true (.tuple #[])))) v s' := by
  unfold oAlloc at h
  split at h
  · rename_i z hz
    injection h with h; injection h with h1 h2; injection h1 with h1; subst h1 h2
    obtain ⟨u, hu, hz⟩ := run_zero hz w p s.n
    obtain ⟨h1, h2⟩ := newRow_sound (P := P) hr hB t hz.cells
    refine ⟨_, _, _, .inl ?_, ptr_new p s w 0 0 _ (by rw [row_n]; omega), h2⟩
    simp [Instr.alloc, hu, newVar, h1]
  · cases h
theorem oBox_sound (hr : Rel B p s w) (hB : B ≤ w.heap.size) (hf : fr.is p s.n a) {t : TypeId} {x : Operand} (h : oBox s t (fr.eval x) = some (.val v, s')) :
    Fine P B p s w (do pure (.value (← Instr.box t (a.eval x)))) v s' := by
  unfold oBox at h
  split at h
  · rename_i z hz
    injection h with h; injection h with h1 h2; injection h1 with h1; subst h1 h2
    have hz := hf.eval hz
    obtain ⟨h1, h2⟩ := newRow_sound (P := P) hr hB t (A1.is.cells hz)
    refine ⟨_, _, _, .inl ?_, ptr_new p s w 0 0 _ (by rw [row_n]; omega), h2⟩
    simp [Instr.box, newVar, h1]
  · cases h


/-! ### Numbers -/
theorem wrap_i64 (n : Int) (h1 : -9223372036854775808 ≤ n) (h2 : n ≤ 9223372036854775807) : IntKind.i64.wrap n = n := IntWalk.i64_in n ⟨h1, h2⟩
theorem wrapF_eq (k : IntKind) (n : Int) : wrapF k n = k.wrap n := by
  unfold wrapF
  split
  · cases n with
    | ofNat a =>
      show (Bool.rec (motive := fun _ => Int) (IntKind.i64.wrap (.ofNat a)) (.ofNat a) (Nat.ble a 9223372036854775807)) = _
      cases h : Nat.ble a 9223372036854775807
      · rfl
      · have := Nat.le_of_ble_eq_true h
        exact (wrap_i64 (.ofNat a) (by first | omega | (simp; done) | (simp; omega)) (by first | omega | (simp; done) | (simp; omega))).symm
    | negSucc a =>
      show (Bool.rec (motive := fun _ => Int) (IntKind.i64.wrap (.negSucc a)) (.negSucc a) (Nat.ble a 9223372036854775807)) = _
      cases h : Nat.ble a 9223372036854775807
      · rfl
      · have := Nat.le_of_ble_eq_true h
        exact (wrap_i64 (.negSucc a) (by first | omega | (simp; omega)) (by first | omega | (simp; omega))).symm
  · rfl
theorem mkInt_eq (k : IntKind) (n : Int) : mkInt k n = some (.int k (k.wrap n)) := by
  unfold mkInt; rw [forceInt_eq, wrapF_eq]
theorem ble_eq (a b : Nat) : Nat.ble a b = decide (a ≤ b) := by
  cases h : Nat.ble a b
  · exact (decide_eq_false fun e => by rw [Nat.ble_eq_true_of_le e] at h; cases h).symm
  · exact (decide_eq_true (Nat.le_of_ble_eq_true h)).symm
theorem ltF_eq (x y : Int) : ltF x y = decide (x < y) := by
  cases x with
  | ofNat a => cases y with
    | ofNat b => show Nat.ble (a + 1) b = _; rw [ble_eq]; exact decide_eq_decide.2 (by simp; omega)
    | negSucc b => exact (decide_eq_false (by simp; omega)).symm
  | negSucc a => cases y with
    | ofNat b => exact (decide_eq_true (by simp; omega)).symm
    | negSucc b => show Nat.ble (b + 1) a = _; rw [ble_eq]; exact decide_eq_decide.2 (by omega)
theorem eqFI_eq (x y : Int) : eqFI x y = (x == y) := by
  cases x with
  | ofNat a => cases y with
    | ofNat b =>
      show Nat.beq a b = _
      rw [Bool.eq_iff_iff]
      simp
      omega
    | negSucc b => rfl
  | negSucc a => cases y with
    | ofNat b => rfl
    | negSucc b =>
      show Nat.beq a b = _
      rw [Bool.eq_iff_iff]
      simp
theorem eqF_eq (x y : Int) : eqF x y = (x == y) := eqFI_eq x y

theorem run_eqGuard {op : BinOp} {t : TypeId} {x y : Operand} {u v : Value} (w : World) (h1 : ∀ c, u ≠ .agg c) (h2 : u ≠ .nilIface) : (eqGuard op t x y u v).run P w = .ok () w := by
  unfold eqGuard
  cases u <;> first | exact absurd rfl h2 | exact absurd rfl (h1 _) | (split <;> rfl)

theorem intBin_sound {op : BinOp} {k : IntKind} {x y : Int} {r : Sc} (h : intBin op k x y = some r) (t : TypeId) (w : World) (p : Pl) (n : Nat) :
    ∃ u, (binOp op t (.int k x) (.int k y)).run P w = .ok u w ∧ r.is p n u := by
  unfold intBin at h
  split at h
  case h_4 =>
    split at h
    · cases h
    · rename_i hy
      rw [mkInt_eq] at h; injection h with h; subst h
      have hy : y ≠ 0 := fun e => by subst e; rw [eqF_eq] at hy; simp at hy
      exact ⟨_, by simp [binOp, Op.intDiv, hy], rfl⟩
  case h_5 =>
    split at h
    · cases h
    · rename_i hy
      rw [forceInt_eq] at h; injection h with h; subst h
      have hy : y ≠ 0 := fun e => by subst e; rw [eqF_eq] at hy; simp at hy
      exact ⟨_, by simp [binOp, Op.intDiv, hy], rfl⟩
  case h_15 => cases h
  all_goals
    (try rw [mkInt_eq] at h)
    injection h with h; subst h
    refine ⟨_, by simp [binOp, Op.intArith, Op.intCmp, Op.intBits]; rfl, ?_⟩
    simp only [Sc.is, eqF_eq, ltF_eq]
    try first
      | rfl
      | (congr 1; rw [Bool.eq_iff_iff]; simp; done)
      | (congr 1; rw [Bool.eq_iff_iff]; simp; omega)


theorem shiftBin_sound {op : BinOp} {k yk : IntKind} {x y : Int} {r : Sc} (h : shiftBin op k x y = some r) (t : TypeId) (w : World) (p : Pl) (n : Nat) :
    ∃ u, (binOp op t (.int k x) (.int yk y)).run P w = .ok u w ∧ r.is p n u := by
  unfold shiftBin at h
  split at h
  · cases h
  · rename_i hy
    split at h
    · injection h with h; subst h; exact ⟨_, by simp [binOp, Op.shift, hy], rfl⟩
    · injection h with h; subst h; exact ⟨_, by simp [binOp, Op.shift, hy], rfl⟩
    · cases h

/-! ### Equality of structs and arrays -/
theorem ScL.is.drop {p : Pl} {n : Nat} : ∀ {l : List Sc} {u : List Value} (k : Nat), ScL.is p n l u → ScL.is p n (l.drop k) (u.drop k)
  | _, _, 0, h => h
  | [], [], k + 1, _ => by simp [ScL.is]
  | _ :: _, _ :: _, k + 1, h => ScL.is.drop k h.2
  | [], _ :: _, _, h => h.elim
  | _ :: _, [], _, h => h.elim
theorem ScL.is.take {p : Pl} {n : Nat} : ∀ {l : List Sc} {u : List Value} (k : Nat), ScL.is p n l u → ScL.is p n (l.take k) (u.take k)
  | _, _, 0, _ => by simp [ScL.is]
  | [], [], k + 1, _ => by simp [ScL.is]
  | _ :: _, _ :: _, k + 1, h => ⟨h.1, ScL.is.take k h.2⟩
  | [], _ :: _, _, h => h.elim
  | _ :: _, [], _, h => h.elim
theorem lslice_is {p : Pl} {n : Nat} {l : List Sc} {cs : Array Value} (h : ScL.is p n l cs.toList) (o k : Nat) : ScL.is p n (lslice l o k) (cs.extract o (o + k)).toList := by
  have := (h.drop o).take k
  unfold lslice
  rw [Array.toList_extract, List.extract_eq_take_drop]
  rw [show o + k - o = k from by omega]
  exact this
theorem partOf_sound {t : TypeId} {c : List Sc} {off : Nat} {r : A1} (h : partOf P t c off = some r) {p : Pl} {n : Nat} {cs : Array Value} (hc : ScL.is p n c cs.toList) (w : World) :
    ∃ u, (part t cs off).run P w = .ok u w ∧ r.is p n u := by
  unfold partOf at h
  split at h
  · rename_i k ha hs
    split at h
    · injection h with h; subst h
      exact ⟨_, by simp [part, run_isAgg ha, run_sizeOf hs], _, rfl, lslice_is hc off k⟩
    · cases h
  · rename_i ha
    rw [Option.map_eq_some_iff] at h
    obtain ⟨s, hs, rfl⟩ := h
    rw [lget_eq] at hs
    obtain ⟨v, hv, hsv⟩ := hc.get off s hs
    refine ⟨v, ?_, hsv⟩
    have hv : cs[off]? = some v := by simpa using hv
    simp [part, run_isAgg ha, hv]
  · cases h


theorem fieldsOf_eq {t : TypeId} {fs : Array Field} (h : P.underlying t = some (.struct fs)) : P.fieldsOf t = fs := by simp [Program.fieldsOf, h]
/-- What is asked of a smaller depth. -/
def EqFine (P : Program) (d : Nat) (eq : TypeId → A1 → A1 → Option Bool) : Prop :=
  ∀ (t : TypeId) (x y : A1) (b : Bool), eq t x y = some b → ∀ (e : Nat), d ≤ e → ∀ (p : Pl) (n : Nat) (u v : Value) (w : World), x.is p n u → y.is p n v → (Op.equalIn e t u v).run P w = .ok b w
theorem equalFields_sound {d : Nat} {eq : TypeId → A1 → A1 → Option Bool} (heq : EqFine P d eq) {xs ys : List Sc} {cs ds : Array Value} {p : Pl} {n : Nat} (hx : ScL.is p n xs cs.toList) (hy : ScL.is p n ys ds.toList) (w : World) {e : Nat} (he : d ≤ e) :
    ∀ {fs : List Field} {b : Bool}, equalFields P eq xs ys fs = some b → (Op.eqFields e cs ds fs).run P w = .ok b w
  | [], b, h => by injection h with h; subst h; simp [Op.eqFields]
  | f :: t, b, h => by
    unfold equalFields at h
    split at h
    · rename_i x y hn h1 h2
      have hn : f.name ≠ "_" := by simpa using hn
      obtain ⟨u, hu, hux⟩ := partOf_sound h1 hx w
      obtain ⟨v, hv, hvy⟩ := partOf_sound h2 hy w
      split at h
      · rename_i ht
        have := heq _ _ _ _ ht e he p n u v w hux hvy
        simp only [Op.eqFields, if_pos hn, Sem.run_bind, hu, hv, this, Result.andThen_ok]
        simpa using equalFields_sound heq hx hy w he h
      · rename_i hnt
        cases b with
        | true => exact absurd h hnt
        | false =>
          have := heq _ _ _ _ h e he p n u v w hux hvy
          simp [Op.eqFields, hn, Sem.run_bind, hu, hv, this]
    · cases h
/-- The model's loop over an array's elements, by counting. -/
def eqElems (e : Nat) (elem : TypeId) (n : Nat) (xs ys : Array Value) (i : Nat) : Nat → Sem Bool
  | 0 => pure true
  | k + 1 => do
    let a ← part elem xs (i * n)
    let b ← part elem ys (i * n)
    let r ← Op.equalIn e elem a b
    if (!r) = true then pure false else eqElems e elem n xs ys (i + 1) k
theorem equalElems_sound {d : Nat} {eq : TypeId → A1 → A1 → Option Bool} (heq : EqFine P d eq) {xs ys : List Sc} {cs ds : Array Value} {p : Pl} {n : Nat} (hx : ScL.is p n xs cs.toList) (hy : ScL.is p n ys ds.toList) (w : World) {e : Nat} (he : d ≤ e) (elem z : Nat) :
    ∀ {k i : Nat} {b : Bool}, equalElems P eq elem z xs ys i k = some b → (eqElems e elem z cs ds i k).run P w = .ok b w
  | 0, i, b, h => by injection h with h; subst h; simp [eqElems]
  | k + 1, i, b, h => by
    unfold equalElems at h
    split at h
    · rename_i x y h1 h2
      obtain ⟨u, hu, hux⟩ := partOf_sound h1 hx w
      obtain ⟨v, hv, hvy⟩ := partOf_sound h2 hy w
      split at h
      · rename_i ht
        have := heq _ _ _ _ ht e he p n u v w hux hvy
        simp only [eqElems, Sem.run_bind, hu, hv, this, Result.andThen_ok]
        simpa using equalElems_sound heq hx hy w he elem z h
      · rename_i hnt
        cases b with
        | true => exact absurd h hnt
        | false =>
          have := heq _ _ _ _ h e he p n u v w hux hvy
          simp [eqElems, Sem.run_bind, hu, hv, this]
    · cases h
theorem run_equalIn_array (d : Nat) (t elem len n : Nat) (xs ys : Array Value) (w : World) (ht : P.underlying t = some (.array len elem)) (hn : sizeOf? P elem = some n) :
    (Op.equalIn (d + 1) t (.agg xs) (.agg ys)).run P w = (eqElems d elem n xs ys 0 len).run P w := by
  simp only [Op.equalIn, Sem.run_bind, run_underlying' ht, Result.andThen_ok, run_sizeOf hn]
  rw [Std.Legacy.Range.forIn_eq_forIn_range']
  simp only [Std.Legacy.Range.size, Nat.sub_zero, Nat.add_sub_cancel, Nat.div_one]
  generalize 0 = i
  clear ht
  induction len generalizing w i with
  | zero => simp [eqElems]
  | succ k ih =>
    simp only [List.range'_succ, List.forIn_cons, eqElems, Sem.run_bind, Sem.run_ite]
    generalize (part elem xs (i * n)).run P w = r1
    cases r1 with
    | ok a w1 =>
      simp only [Result.andThen_ok]
      generalize (part elem ys (i * n)).run P w1 = r2
      cases r2 with
      | ok b w2 =>
        simp only [Result.andThen_ok]
        generalize (Op.equalIn d elem a b).run P w2 = r3
        cases r3 with
        | ok r w3 =>
          cases r
          · simp only [Result.andThen_ok, Bool.not_false, if_true, Sem.run_pure]
          · simp only [Result.andThen_ok, Bool.not_true, Bool.false_eq_true, if_false, Sem.run_pure]
            exact ih w3 (i + 1)
        | halt x w3 => simp [Result.andThen]
      | halt x w2 => simp [Result.andThen]
    | halt x w1 => simp [Result.andThen]
theorem bytesEq_eq : ∀ (x y : List UInt8), bytesEq x y = (x == y)
  | [], [] => rfl
  | a :: x, b :: y => by
    unfold bytesEq
    cases h : Nat.beq a.toNat b.toNat
    · have hne : a ≠ b := fun e => by subst e; simp at h
      rw [Bool.eq_iff_iff]; simp [hne]
    · have he : a = b := UInt8.toNat_inj.1 (Nat.eq_of_beq_eq_true h)
      subst he
      simp only [bytesEq_eq x y]
      rw [Bool.eq_iff_iff]; simp
  | [], _ :: _ => rfl
  | _ :: _, [] => rfl
theorem equalA_sound : ∀ (d : Nat), EqFine P d (equalA P d)
  | 0 => fun _ _ _ _ h => by cases h
  | d + 1 => fun t x y b h e he p n u v w hx hy => by
    obtain ⟨e, rfl⟩ : ∃ e', e = e' + 1 := ⟨e - 1, by omega⟩
    have ih := equalA_sound d
    change eqStep P (equalA P d) t x y = some b at h
    unfold eqStep at h
    split at h
    · rename_i hu
      split at h
      · rename_i hk
        injection h with h; subst h hk
        rw [show u = _ from hx, show v = _ from hy, run_equalIn_int _ _ _ _ _ _ _ hu, eqFI_eq]
      · cases h
    · rename_i hu
      injection h with h; subst h
      rw [show u = _ from hx, show v = _ from hy, run_equalIn_bool' _ _ _ _ _ hu]
    · rename_i hu
      injection h with h; subst h
      rw [show u = _ from hx, show v = _ from hy, run_equalIn_string _ _ _ _ _ hu, bytesEq_eq, ByteArray.toList_eq, ByteArray.toList_eq]
    · rename_i fs xs ys hu
      split at h
      · cases h
      · rename_i hst
        obtain ⟨cs, rfl, hcs⟩ := hx
        obtain ⟨ds, rfl, hds⟩ := hy
        rw [run_equalIn_struct _ _ _ _ _ (by rw [fieldsOf_eq hu]; exact hu) hst, fieldsOf_eq hu]
        exact equalFields_sound ih hcs hds w (by omega) h
    · rename_i len e' xs ys hu
      split at h
      · rename_i z hz
        obtain ⟨cs, rfl, hcs⟩ := hx
        obtain ⟨ds, rfl, hds⟩ := hy
        rw [run_equalIn_array _ _ _ _ _ _ _ _ hu hz]
        exact equalElems_sound ih hcs hds w (by omega) e' z h
      · cases h
    · cases h

end ops
end Go.Ax
