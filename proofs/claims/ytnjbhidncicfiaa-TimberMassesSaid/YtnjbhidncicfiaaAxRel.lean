/- The relation between a symbolic state and a world, and what a symbolic step keeps. -/
import Derived.Test.YtnjbhidncicfiaaAx
import Derived.CallsIn
import Derived.RangeFuncIn
import Derived.RangeFuncLeaves
import Derived.Laws.Cells
import Derived.Laws.CopyRow
namespace Go.Ax
open Go

theorem forceNat_eq {α : Type} (n : Nat) (k : Nat → α) : forceNat n k = k n := by cases n <;> rfl
theorem T.force_eq {α β : Type} (t : T α) (k : T α → β) : t.force k = k t := by cases t <;> rfl
theorem T.get_leaf {α : Type} (n : Nat) : (T.leaf : T α).get n = none := rfl

/-! #### The tree of eights, plainly -/
def N.at {β : Type} (t : N β) : Nat → β
  | 0 => t.a | 1 => t.b | 2 => t.c | 3 => t.d | 4 => t.e | 5 => t.f | 6 => t.g | _ => t.h
def N.put {β : Type} (t : N β) (n : Nat) (x : β) : N β :=
  match n with
  | 0 => { t with a := x } | 1 => { t with b := x } | 2 => { t with c := x } | 3 => { t with d := x } | 4 => { t with e := x } | 5 => { t with f := x } | 6 => { t with g := x } | _ => { t with h := x }
theorem N.at_put {β : Type} (t : N β) (x : β) : ∀ n m, n < 8 → m < 8 → (t.put n x).at m = if m = n then x else t.at m := by
  intro n m hn hm
  match n, hn with
  | 0, _ | 1, _ | 2, _ | 3, _ | 4, _ | 5, _ | 6, _ | 7, _ =>
    match m, hm with
    | 0, _ | 1, _ | 2, _ | 3, _ | 4, _ | 5, _ | 6, _ | 7, _ => rfl
theorem p1_eq {β : Type} (n : Nat) (t : N β) : (P1.rec (fun p => p t) (p1 n : P1 β) : β) = t.at n := by
  match n with
  | 0 | 1 | 2 | 3 | 4 | 5 | 6 | _ + 7 => rfl
theorem u1_eq {β α : Type} (n : Nat) (t : N β) (k : β → (β → T α) → T α) (q : N β → T α) : (U1.rec (fun u => u t k q) (u1 n : U1 β α) : T α) = k (t.at n) fun x => q (t.put n x) := by
  match n with
  | 0 | 1 | 2 | 3 | 4 | 5 | 6 | _ + 7 => rfl
def D.n {α : Type} {k : Nat} (t : D α (k + 1)) : N (D α k) := t
def D.mk {α : Type} {k : Nat} (t : N (D α k)) : D α (k + 1) := t
def dget {α : Type} : (k : Nat) → Nat → D α k → Option α
  | 0, _, x => x
  | k + 1, n, t => dget k (n % 8 ^ k) (t.n.at (n / 8 ^ k))
def dset {α : Type} : (k : Nat) → Nat → D α k → α → D α k
  | 0, _, _, v => some v
  | k + 1, n, t, v => D.mk (t.n.put (n / 8 ^ k) (dset k (n % 8 ^ k) (t.n.at (n / 8 ^ k)) v))
theorem getD_step {α β : Type} (p : P1 β) (g : GD β α) (t : N β) : (GD.rec (fun g => g t) (P1.rec (fun p => GD.rec (fun g => .mk fun t => g (p t)) g) p : GD (N β) α) : Option α) = GD.rec (fun g => g (P1.rec (fun p => p t) p)) g := by
  cases p; cases g; rfl
theorem getD_eq {α : Type} : ∀ (k n : Nat) (x : D α k), (GD.rec (fun g => g x) (getD k n : GD (D α k) α) : Option α) = dget k n x
  | 0, _, _ => rfl
  | k + 1, n, t => (getD_step (p1 (n / 8 ^ k)) (getD k (n % 8 ^ k)) t).trans ((getD_eq k (n % 8 ^ k) _).trans (congrArg (dget k (n % 8 ^ k)) (p1_eq (n / 8 ^ k) t.n)))
theorem setD_step {α β : Type} (u : U1 β α) (s : SD β α) (t : N β) (v : α) (c : N β → T α) : (SD.rec (fun s => s t v c) (U1.rec (fun u => SD.rec (fun s => .mk fun t v c => u t (fun b q => s b v q) c) s) u : SD (N β) α) : T α) =
    U1.rec (fun u => u t (fun b q => SD.rec (fun s => s b v q) s) c) u := by
  cases u; cases s; rfl
theorem setD_eq {α : Type} : ∀ (k n : Nat) (x : D α k) (v : α) (c : D α k → T α), (SD.rec (fun s => s x v c) (setD k n : SD (D α k) α) : T α) = c (dset k n x v)
  | 0, _, _, _, _ => rfl
  | k + 1, n, t, v, c => (setD_step (u1 (n / 8 ^ k)) (setD k (n % 8 ^ k)) t v c).trans ((u1_eq (n / 8 ^ k) t.n _ _).trans (setD_eq k (n % 8 ^ k) _ v _))
theorem pow_div {n k : Nat} (h : n < 8 ^ (k + 1)) : n / 8 ^ k < 8 := by
  rw [Nat.pow_succ] at h
  exact (Nat.div_lt_iff_lt_mul (Nat.pow_pos (by decide))).2 (by rw [Nat.mul_comm]; exact h)
theorem dget_dset {α : Type} (v : α) : ∀ (k n m : Nat) (x : D α k), n < 8 ^ k → m < 8 ^ k → dget k m (dset k n x v) = if m = n then some v else dget k m x
  | 0, n, m, x, hn, hm => by
    have : m = n := by simp at hn hm; omega
    rw [if_pos this]; rfl
  | k + 1, n, m, t, hn, hm => by
    have hp : 0 < 8 ^ k := Nat.pow_pos (by decide)
    simp only [dget, dset]
    have hdn : ∀ x : N (D α k), (D.mk x).n = x := fun _ => rfl
    rw [hdn, N.at_put _ _ _ _ (pow_div hn) (pow_div hm)]
    by_cases hd : m / 8 ^ k = n / 8 ^ k
    · rw [if_pos hd, dget_dset v k _ _ _ (Nat.mod_lt _ hp) (Nat.mod_lt _ hp)]
      by_cases hm' : m % 8 ^ k = n % 8 ^ k
      · have : m = n := by rw [← Nat.div_add_mod m (8 ^ k), ← Nat.div_add_mod n (8 ^ k), hd, hm']
        rw [if_pos hm', if_pos this]
      · rw [if_neg hm', if_neg (fun e => hm' (by rw [e])), hd]
    · rw [if_neg hd, if_neg (fun e => hd (by rw [e]))]
def tget {α : Type} (k n : Nat) (x : D α k) : Option α := if n < 8 ^ k then dget k n x else none
theorem ble_succ (a b : Nat) : Nat.ble (Nat.succ a) b = decide (a < b) := by
  by_cases h : a < b
  · rw [decide_eq_true h]; exact Nat.ble_eq_true_of_le h
  · rw [decide_eq_false h]; cases hb : Nat.ble (Nat.succ a) b
    · rfl
    · exact absurd (Nat.le_of_ble_eq_true hb) h
theorem T.get_t {α : Type} (k n : Nat) (x : D α k) : (T.tree k x).get n = tget k n x := by
  show (GD.rec (fun g => g x) (Bool.rec (.mk fun _ => none) (getD k n) (Nat.ble (Nat.succ n) (8 ^ k)) : GD (D α k) α) : Option α) = _
  rw [ble_succ]; unfold tget
  by_cases h : n < 8 ^ k
  · rw [if_pos h, decide_eq_true h]; exact getD_eq k n x
  · rw [if_neg h, decide_eq_false h]
theorem dget_empty {α : Type} : ∀ (k n : Nat), dget k n (emptyD k : D α k) = none
  | 0, _ => rfl
  | k + 1, n => by
    have : (emptyD (k + 1) : D α (k + 1)).n.at (n / 8 ^ k) = emptyD k := by
      generalize n / 8 ^ k = i
      match i with
      | 0 | 1 | 2 | 3 | 4 | 5 | 6 | _ + 7 => rfl
    rw [dget, this, dget_empty k]
/-- What a write gives. -/
theorem setT_get {α : Type} (v : α) (n j : Nat) (y : α) : ∀ (f k : Nat) (x : D α k), (ST.rec (fun s => s x v) (setT f k n : ST (D α k) α) : T α).get j = some y → (j = n ∧ y = v) ∨ (j ≠ n ∧ tget k j x = some y)
  | 0, k, x, h => by cases h
  | f + 1, k, x, h => by
    by_cases hn : n < 8 ^ k
    · have e : (ST.rec (fun s => s x v) (setT (f + 1) k n : ST (D α k) α) : T α) = .tree k (dset k n x v) := by
        show (ST.rec (fun s => s x v) (Bool.rec (ST.rec (fun s => .mk fun x v => s (N.mk x (emptyD k) (emptyD k) (emptyD k) (emptyD k) (emptyD k) (emptyD k) (emptyD k)) v) (setT f (k + 1) n))
          (SD.rec (fun s => .mk fun x v => s x v fun y => .tree k y) (setD k n)) (Nat.ble (Nat.succ n) (8 ^ k)) : ST (D α k) α) : T α) = _
        rw [ble_succ, decide_eq_true hn, ← setD_eq k n x v (fun y => .tree k y)]
      rw [e, T.get_t] at h
      unfold tget at h ⊢
      split at h
      · rename_i hj
        rw [dget_dset v k n j x hn hj] at h
        split at h
        · rename_i hjn; exact .inl ⟨hjn, by injection h with h; exact h.symm⟩
        · rename_i hjn; exact .inr ⟨hjn, by rw [if_pos hj]; exact h⟩
      · cases h
    · have e : (ST.rec (fun s => s x v) (setT (f + 1) k n : ST (D α k) α) : T α) = (ST.rec (fun s => s (N.mk x (emptyD k) (emptyD k) (emptyD k) (emptyD k) (emptyD k) (emptyD k) (emptyD k)) v) (setT f (k + 1) n : ST (D α (k + 1)) α) : T α) := by
        show (ST.rec (fun s => s x v) (Bool.rec (ST.rec (fun s => .mk fun x v => s (N.mk x (emptyD k) (emptyD k) (emptyD k) (emptyD k) (emptyD k) (emptyD k) (emptyD k)) v) (setT f (k + 1) n))
          (SD.rec (fun s => .mk fun x v => s x v fun y => .tree k y) (setD k n)) (Nat.ble (Nat.succ n) (8 ^ k)) : ST (D α k) α) : T α) = _
        rw [ble_succ, decide_eq_false hn]
        generalize (setT f (k + 1) n : ST (D α (k + 1)) α) = s
        cases s; rfl
      rw [e] at h
      rcases setT_get v n j y f (k + 1) _ h with h | ⟨h1, h2⟩
      · exact .inl h
      · refine .inr ⟨h1, ?_⟩
        unfold tget at h2 ⊢
        split at h2
        · rename_i hj
          change dget k (j % 8 ^ k) ((D.n (k := k) (N.mk x (emptyD k) (emptyD k) (emptyD k) (emptyD k) (emptyD k) (emptyD k) (emptyD k))).at (j / 8 ^ k)) = _ at h2
          by_cases hjk : j < 8 ^ k
          · rw [if_pos hjk]
            rw [Nat.div_eq_of_lt hjk, Nat.mod_eq_of_lt hjk] at h2; exact h2
          · exfalso
            have h0 : j / 8 ^ k ≠ 0 := fun e => by
              have hp : 0 < 8 ^ k := Nat.pow_pos (by decide)
              have := Nat.div_pos (by omega : 8 ^ k ≤ j) hp
              omega
            have : (D.n (k := k) (N.mk x (emptyD k) (emptyD k) (emptyD k) (emptyD k) (emptyD k) (emptyD k) (emptyD k))).at (j / 8 ^ k) = emptyD k := by
              generalize j / 8 ^ k = i at h0
              match i with
              | 0 => exact absurd rfl h0
              | 1 | 2 | 3 | 4 | 5 | 6 | _ + 7 => rfl
            rw [this, dget_empty] at h2; cases h2
        · cases h2
theorem T.get_set {α : Type} (x : α) (d : Nat) (t : T α) (n j : Nat) (y : α) (h : (t.set d n x).get j = some y) : (j = n ∧ y = x) ∨ (j ≠ n ∧ t.get j = some y) := by
  cases t with
  | leaf =>
    rcases setT_get x n j y d 0 none h with h | ⟨h1, h2⟩
    · exact .inl h
    · unfold tget at h2; split at h2 <;> cases h2
  | tree k z =>
    rcases setT_get x n j y d k z h with h | ⟨h1, h2⟩
    · exact .inl h
    · exact .inr ⟨h1, by rw [T.get_t]; exact h2⟩
theorem T.sets_nil {α : Type} (t : T α) (n : Nat) : t.sets n [] = t := rfl
theorem T.sets_cons {α : Type} (t : T α) (n : Nat) (x : α) (l : List α) : t.sets n (x :: l) = (t.set deep n x).sets (n + 1) l := by
  show (t.set deep n x).force (fun t => forceNat (Nat.succ n) fun n => t.sets n l) = _
  rw [T.force_eq, forceNat_eq]
theorem T.get_sets {α : Type} : ∀ (l : List α) (t : T α) (n j : Nat) (y : α), (t.sets n l).get j = some y →
    (n ≤ j ∧ l[j - n]? = some y) ∨ ((j < n ∨ n + l.length ≤ j) ∧ t.get j = some y)
  | [], t, n, j, y, h => .inr ⟨by simp; omega, h⟩
  | x :: l, t, n, j, y, h => by
    rw [T.sets_cons] at h
    rcases T.get_sets l _ _ j y h with ⟨h1, h2⟩ | ⟨h1, h2⟩
    · refine .inl ⟨by omega, ?_⟩
      rw [show j - n = (j - (n + 1)) + 1 from by omega]; simpa using h2
    · rcases T.get_set x _ _ _ _ _ h2 with ⟨rfl, rfl⟩ | ⟨h3, h4⟩
      · exact .inl ⟨Nat.le_refl _, by simp⟩
      · refine .inr ⟨?_, h4⟩
        simp only [List.length_cons]; omega
theorem forceInt_eq {α : Type} (n : Int) (k : Int → α) : forceInt n k = k n := by
  cases n with
  | ofNat a => exact forceNat_eq a fun a => k (.ofNat a)
  | negSucc a => exact forceNat_eq a fun a => k (.negSucc a)
theorem lget_eq {α : Type} : ∀ (l : List α) (n : Nat), lget l n = l[n]?
  | [], n => by simp; rfl
  | x :: t, 0 => rfl
  | x :: t, n + 1 => by show lget t n = _; rw [lget_eq t n]; simp

/-! ### Values -/
/-- Where the rows lie, how many cells an open row has. -/
structure Pl where
  ρ : Nat → Nat
  κ : Nat → Nat
  ok : Nat → Prop
/-- A number that is given away. -/
def Pl.has (p : Pl) (n i : Nat) : Prop := i < n ∧ p.ok i
def Pl.fits (p q : Pl) (n : Nat) : Prop := ∀ i, p.has n i → q.ok i ∧ q.ρ i = p.ρ i ∧ q.κ i = p.κ i
theorem Pl.fits.has {p q : Pl} {n m i : Nat} (h : p.fits q n) (hnm : n ≤ m) (hi : p.has n i) : q.has m i := ⟨Nat.lt_of_lt_of_le hi.1 hnm, (h i hi).1⟩

def Pl.at (p : Pl) (i o : Nat) : Value := .pointer (some ⟨p.ρ i, o, none⟩)

def Sc.is (p : Pl) (n : Nat) : Sc → Value → Prop
  | .bool b, v => v = .bool b
  | .int k x, v => v = .int k x
  | .str z, v => v = .string z
  | .ptr i o, v => p.has n i ∧ v = p.at i o
  | .nilp, v => v = .pointer none
  | .slc i o len cap, v => p.has n i ∧ len ≤ cap ∧ v = .slice (some ⟨p.ρ i, o, none⟩) len cap
  | .slo i o len size, v => p.has n i ∧ ∃ c, len ≤ c ∧ o + c * size = p.κ i ∧ v = .slice (some ⟨p.ρ i, o, none⟩) len c
  | .nils, v => v = .slice none 0 0
  | .fn f cs, v => (∀ x ∈ cs, p.has n x.1) ∧ v = .func (.func f) #[] (cs.map fun x => p.at x.1 x.2).toArray
  | .yld l, v => p.has n l ∧ v = .func (.yield (p.ρ l)) #[] #[]
  | .nilf, v => v = .nilFunc
  | .mp i, v => p.has n i ∧ v = .map (some (p.ρ i))
  | .nilm, v => v = .map none

theorem Sc.is.fits {p q : Pl} {n m : Nat} (h : p.fits q n) (hnm : n ≤ m) {s : Sc} {v : Value} (hs : s.is p n v) : s.is q m v := by
  cases s with
  | ptr i o => exact ⟨h.has hnm hs.1, by rw [hs.2]; simp only [Pl.at, (h i hs.1).2.1]⟩
  | slc i o len cap => exact ⟨h.has hnm hs.1, hs.2.1, by rw [hs.2.2]; simp only [(h i hs.1).2.1]⟩
  | slo i o len size =>
    obtain ⟨h1, c, h2, h3, h4⟩ := hs
    exact ⟨h.has hnm h1, c, h2, by rw [(h i h1).2.2]; exact h3, by rw [h4]; simp only [(h i h1).2.1]⟩
  | fn f cs =>
    refine ⟨fun x hx => h.has hnm (hs.1 x hx), ?_⟩
    rw [hs.2]
    congr 2
    exact List.map_congr_left fun x hx => by simp only [Pl.at, (h _ (hs.1 x hx)).2.1]
  | yld l => exact ⟨h.has hnm hs.1, by rw [hs.2]; simp only [(h l hs.1).2.1]⟩
  | mp i => exact ⟨h.has hnm hs.1, by rw [hs.2]; simp only [(h i hs.1).2.1]⟩
  | _ => exact hs

def ScL.is (p : Pl) (n : Nat) : List Sc → List Value → Prop
  | [], [] => True
  | s :: t, v :: u => s.is p n v ∧ ScL.is p n t u
  | _, _ => False
theorem ScL.is.fits {p q : Pl} {n m : Nat} (h : p.fits q n) (hnm : n ≤ m) : ∀ {l : List Sc} {u : List Value}, ScL.is p n l u → ScL.is q m l u
  | [], [], _ => trivial
  | _ :: _, _ :: _, hs => ⟨hs.1.fits h hnm, ScL.is.fits h hnm hs.2⟩
  | [], _ :: _, hs => hs.elim
  | _ :: _, [], hs => hs.elim
theorem ScL.is.length {p : Pl} {n : Nat} : ∀ {l : List Sc} {u : List Value}, ScL.is p n l u → u.length = l.length
  | [], [], _ => rfl
  | _ :: _, _ :: _, hs => by simp [ScL.is.length hs.2]
  | [], _ :: _, hs => hs.elim
  | _ :: _, [], hs => hs.elim
theorem ScL.is.get {p : Pl} {n : Nat} : ∀ {l : List Sc} {u : List Value}, ScL.is p n l u → ∀ (j : Nat) (s : Sc), l[j]? = some s → ∃ v, u[j]? = some v ∧ s.is p n v
  | _ :: _, v :: _, hs, 0, s, hj => ⟨v, rfl, by simp at hj; exact hj ▸ hs.1⟩
  | _ :: _, _ :: _, hs, j + 1, s, hj => by simpa using ScL.is.get hs.2 j s (by simpa using hj)
  | [], [], _, j, s, hj => by simp at hj
  | [], _ :: _, hs, _, _, _ => hs.elim
  | _ :: _, [], hs, _, _, _ => hs.elim
theorem ScL.is.append {p : Pl} {n : Nat} : ∀ {l : List Sc} {u : List Value} {l' : List Sc} {u' : List Value}, ScL.is p n l u → ScL.is p n l' u' → ScL.is p n (l ++ l') (u ++ u')
  | [], [], _, _, _, h' => h'
  | _ :: _, _ :: _, _, _, hs, h' => ⟨hs.1, ScL.is.append hs.2 h'⟩
  | [], _ :: _, _, _, hs, _ => hs.elim
  | _ :: _, [], _, _, hs, _ => hs.elim

def A1.is (p : Pl) (n : Nat) : A1 → Value → Prop
  | .sc s, v => s.is p n v
  | .agg l, v => ∃ cs : Array Value, v = .agg cs ∧ ScL.is p n l cs.toList
theorem A1.is.fits {p q : Pl} {n m : Nat} (h : p.fits q n) (hnm : n ≤ m) {a : A1} {v : Value} (hs : a.is p n v) : a.is q m v := by
  cases a with
  | sc s => exact Sc.is.fits h hnm hs
  | agg l => obtain ⟨cs, hv, hc⟩ := hs; exact ⟨cs, hv, hc.fits h hnm⟩
def A1L.is (p : Pl) (n : Nat) : List A1 → List Value → Prop
  | [], [] => True
  | s :: t, v :: u => s.is p n v ∧ A1L.is p n t u
  | _, _ => False
theorem A1L.is.fits {p q : Pl} {n m : Nat} (h : p.fits q n) (hnm : n ≤ m) : ∀ {l : List A1} {u : List Value}, A1L.is p n l u → A1L.is q m l u
  | [], [], _ => trivial
  | _ :: _, _ :: _, hs => ⟨hs.1.fits h hnm, A1L.is.fits h hnm hs.2⟩
  | [], _ :: _, hs => hs.elim
  | _ :: _, [], hs => hs.elim
theorem A1L.is.get {p : Pl} {n : Nat} : ∀ {l : List A1} {u : List Value}, A1L.is p n l u → ∀ (j : Nat) (s : A1), l[j]? = some s → ∃ v, u[j]? = some v ∧ s.is p n v
  | _ :: _, v :: _, hs, 0, s, hj => ⟨v, rfl, by simp at hj; exact hj ▸ hs.1⟩
  | _ :: _, _ :: _, hs, j + 1, s, hj => by simpa using A1L.is.get hs.2 j s (by simpa using hj)
  | [], [], _, j, s, hj => by simp at hj
  | [], _ :: _, hs, _, _, _ => hs.elim
  | _ :: _, [], hs, _, _, _ => hs.elim
def AV.is (p : Pl) (n : Nat) : AV → Value → Prop
  | .one a, v => a.is p n v
  | .tup l, v => ∃ vs : Array Value, v = .tuple vs ∧ A1L.is p n l vs.toList
theorem AV.is.fits {p q : Pl} {n m : Nat} (h : p.fits q n) (hnm : n ≤ m) {a : AV} {v : Value} (hs : a.is p n v) : a.is q m v := by
  cases a with
  | one s => exact A1.is.fits h hnm hs
  | tup l => obtain ⟨cs, hv, hc⟩ := hs; exact ⟨cs, hv, hc.fits h hnm⟩
theorem AV.undef_is (p : Pl) (n : Nat) : AV.undef.is p n Go.undef := ⟨#[], rfl, trivial⟩

theorem Sc.is.one {p : Pl} {n : Nat} {s : Sc} {v : Value} (h : s.is p n v) : v.oneCell' = true := by
  cases s <;> simp only [Sc.is] at h
  case slo => obtain ⟨_, c, _, _, rfl⟩ := h; rfl
  all_goals first
    | (subst h; rfl)
    | (obtain ⟨_, rfl⟩ := h; rfl)
    | (obtain ⟨_, _, rfl⟩ := h; rfl)
theorem Sc.is.cells {p : Pl} {n : Nat} {s : Sc} {v : Value} (h : s.is p n v) : v.cells = #[v] := by
  have := h.one
  cases v <;> first | rfl | simp [Value.oneCell'] at this
theorem A1.is.cells {p : Pl} {n : Nat} {a : A1} {v : Value} (h : a.is p n v) : ScL.is p n a.cells v.cells.toList := by
  cases a with
  | sc s => rw [Sc.is.cells (s := s) h]; exact ⟨h, trivial⟩
  | agg l => obtain ⟨cs, rfl, hc⟩ := h; exact hc
theorem ScL.is.one {p : Pl} {n : Nat} : ∀ {l : List Sc} {u : List Value}, ScL.is p n l u → ∀ v ∈ u, v.oneCell' = true
  | [], [], _, v, hv => by simp at hv
  | _ :: _, w :: _, hs, v, hv => by
    rcases List.mem_cons.1 hv with rfl | hv
    · exact hs.1.one
    · exact ScL.is.one hs.2 v hv
  | [], _ :: _, hs, _, _ => hs.elim
  | _ :: _, [], hs, _, _ => hs.elim

/-! ### Rows, worlds -/
def LoopRow.is (p : Pl) (n : Nat) (r : LoopRow) (l : Loop) : Prop :=
  l.state = r.state ∧ l.pending = r.pending ∧ l.params.toList = r.params ∧ l.assign = r.assign ∧ l.body = r.body ∧ l.tmps.size = r.nt ∧ l.defers = p.ρ r.dfr ∧ p.has n r.dfr ∧
  ∀ t v, r.tmps.get t = some v → ∃ u, l.tmps[t]? = some u ∧ v.is p n u
/-- A map's entries. -/
def EntL.is (p : Pl) (n : Nat) : List (Sc × A1) → List MapEntry → Prop
  | [], [] => True
  | x :: l, e :: u => x.1.is p n e.key ∧ x.2.is p n e.val ∧ EntL.is p n l u
  | _, _ => False
theorem EntL.is.fits {p q : Pl} {n m : Nat} (h : p.fits q n) (hnm : n ≤ m) : ∀ {l : List (Sc × A1)} {u : List MapEntry}, EntL.is p n l u → EntL.is q m l u
  | [], [], _ => trivial
  | _ :: _, _ :: _, hs => ⟨hs.1.fits h hnm, hs.2.1.fits h hnm, EntL.is.fits h hnm hs.2.2⟩
  | [], _ :: _, hs => hs.elim
  | _ :: _, [], hs => hs.elim
theorem EntL.is.length {p : Pl} {n : Nat} : ∀ {l : List (Sc × A1)} {u : List MapEntry}, EntL.is p n l u → u.length = l.length
  | [], [], _ => rfl
  | _ :: _, _ :: _, hs => by simp [EntL.is.length hs.2.2]
  | [], _ :: _, hs => hs.elim
  | _ :: _, [], hs => hs.elim
theorem EntL.is.snoc {p : Pl} {n : Nat} {x : Sc × A1} {e : MapEntry} (hx : x.1.is p n e.key) (hy : x.2.is p n e.val) : ∀ {l : List (Sc × A1)} {u : List MapEntry}, EntL.is p n l u → EntL.is p n (l ++ [x]) (u ++ [e])
  | [], [], _ => ⟨hx, hy, trivial⟩
  | _ :: _, _ :: _, hs => ⟨hs.1, hs.2.1, EntL.is.snoc hx hy hs.2.2⟩
  | [], _ :: _, hs => hs.elim
  | _ :: _, [], hs => hs.elim
theorem EntL.is.set {p : Pl} {n : Nat} {x : Sc × A1} {e : MapEntry} (hx : x.1.is p n e.key) (hy : x.2.is p n e.val) : ∀ {l : List (Sc × A1)} {u : List MapEntry} (j : Nat), EntL.is p n l u → EntL.is p n (lset l j x) (u.set j e)
  | [], [], _, _ => trivial
  | _ :: _, _ :: _, 0, hs => ⟨hx, hy, hs.2.2⟩
  | _ :: _, _ :: _, _ + 1, hs => ⟨hs.1, hs.2.1, EntL.is.set hx hy _ hs.2.2⟩
  | [], _ :: _, _, hs => hs.elim
  | _ :: _, [], _, hs => hs.elim
def Row.is (p : Pl) (n i : Nat) : Row → Option Obj → Prop
  | .cells e exact len c, o => ∃ cs : Array Value, o = some (.cells cs e (0, 0)) ∧ len ≤ cs.size ∧ (exact = true → cs.size = len) ∧ (exact = false → cs.size = p.κ i) ∧ (∀ j s, c.get j = some s → j < len) ∧
    ∀ j s, c.get j = some s → ∃ v, cs[j]? = some v ∧ s.is p n v
  | .loop r, o => ∃ l : Loop, o = some (.loop l) ∧ r.is p n l
  | .dfr, o => o = some (.deferred (some []))
  | .dead, _ => True
  | .map es clock, o => ∃ es' : Array MapEntry, o = some (.map es' clock) ∧ EntL.is p n es es'.toList
def Row.live : Row → Bool
  | .dead => false
  | _ => true
theorem Row.is.fits {p q : Pl} {n m i : Nat} (h : p.fits q n) (hnm : n ≤ m) (hi : p.has n i) {r : Row} {o : Option Obj} (hr : r.is p n i o) : r.is q m i o := by
  cases r with
  | cells e x len c =>
    obtain ⟨cs, h1, h2, h3, h4, h4', h5⟩ := hr
    exact ⟨cs, h1, h2, h3, fun e => by rw [(h i hi).2.2]; exact h4 e, h4', fun j s hj => let ⟨v, a, b⟩ := h5 j s hj; ⟨v, a, b.fits h hnm⟩⟩
  | loop r =>
    obtain ⟨l, h1, a, b, c, d, e, f, g, g', k⟩ := hr
    exact ⟨l, h1, a, b, c, d, e, f, by rw [(h _ g').2.1]; exact g, h.has hnm g', fun t v ht => let ⟨u, x, y⟩ := k t v ht; ⟨u, x, y.fits h hnm⟩⟩
  | dfr => exact hr
  | dead => trivial
  | map es clock =>
    obtain ⟨es', h1, h2⟩ := hr
    exact ⟨es', h1, h2.fits h hnm⟩

def St.live (s : St) (i : Nat) : Prop := ∃ r, s.h.get i = some r ∧ r.live = true

/-- The world is as the state says; the call's own blocks begin at B. -/
structure Rel (B : Nat) (p : Pl) (s : St) (w : World) : Prop where
  row : ∀ i r, s.h.get i = some r → r.live = true → p.has s.n i ∧ B ≤ p.ρ i ∧ p.ρ i < w.heap.size ∧ r.is p s.n i w.heap[p.ρ i]?
  inj : ∀ i j, s.live i → s.live j → p.ρ i = p.ρ j → i = j

/-- What a step keeps. -/
structure Post (B : Nat) (p : Pl) (s : St) (w : World) (q : Pl) (s' : St) (w' : World) : Prop where
  base : Rel B p s w
  le : s.n ≤ s'.n
  lo : s'.lo ≤ s.lo
  fits : p.fits q s.n
  back : ∀ i, i < s.n → q.ok i → p.ok i
  rel : Rel B q s' w'
  size : w.heap.size ≤ w'.heap.size
  keep : ∀ b, b < w.heap.size → (∀ i, s'.lo ≤ i → s.live i → p.ρ i ≠ b) → w'.heap[b]? = w.heap[b]?
  new : ∀ i, s.n ≤ i → s'.live i → w.heap.size ≤ q.ρ i ∨ ∃ j, s'.lo ≤ j ∧ s.live j ∧ q.ρ i = p.ρ j
  old : ∀ i, i < s.n → s'.live i → s.live i
  os : w'.os = w.os
  tape : w'.tape = w.tape
  output : w'.output = w.output

theorem Rel.has {B : Nat} {p : Pl} {s : St} {w : World} (h : Rel B p s w) {i : Nat} (hi : s.live i) : p.has s.n i := let ⟨r, a, b⟩ := hi; (h.row i r a b).1
theorem Rel.lt {B : Nat} {p : Pl} {s : St} {w : World} (h : Rel B p s w) {i : Nat} (hi : s.live i) : i < s.n := (h.has hi).1
theorem Rel.place {B : Nat} {p : Pl} {s : St} {w : World} (h : Rel B p s w) {i : Nat} (hi : s.live i) : B ≤ p.ρ i ∧ p.ρ i < w.heap.size := let ⟨r, a, b⟩ := hi; ⟨(h.row i r a b).2.1, (h.row i r a b).2.2.1⟩

theorem Post.refl {B : Nat} {p : Pl} {s : St} {w : World} (h : Rel B p s w) : Post B p s w p s w :=
  ⟨h, Nat.le_refl _, Nat.le_refl _, fun _ h => ⟨h.2, rfl, rfl⟩, fun _ _ h => h, h, Nat.le_refl _, fun _ _ _ => rfl, fun i hi hl => absurd (h.lt hl) (by omega), fun _ _ h => h, rfl, rfl, rfl⟩

theorem Post.trans {B : Nat} {p q r : Pl} {s s' s'' : St} {w w' w'' : World} (h : Post B p s w q s' w') (k : Post B q s' w' r s'' w'') : Post B p s w r s'' w'' where
  base := h.base
  le := Nat.le_trans h.le k.le
  lo := Nat.le_trans k.lo h.lo
  fits i hi := let hi' := h.fits.has h.le hi; ⟨(k.fits i hi').1, (k.fits i hi').2.1.trans (h.fits i hi).2.1, (k.fits i hi').2.2.trans (h.fits i hi).2.2⟩
  back i hi ho := h.back i hi (k.back i (by have := h.le; omega) ho)
  rel := k.rel
  size := Nat.le_trans h.size k.size
  keep b hb hn := by
    rw [k.keep b (by have := h.size; omega) ?_]
    · exact h.keep b hb fun i hi hl => hn i (by have := k.lo; omega) hl
    · intro i hi hl e
      by_cases hlt : i < s.n
      · exact hn i hi (h.old i hlt hl) (by rw [← (h.fits i (h.base.has (h.old i hlt hl))).2.1]; exact e)
      · rcases h.new i (by omega) hl with hx | ⟨j, hj, hjl, hje⟩
        · omega
        · exact hn j (by have := k.lo; omega) hjl (by rw [← hje]; exact e)
  new i hi hl := by
    by_cases hlt : i < s'.n
    · have hl' := k.old i hlt hl
      rw [(k.fits i (h.rel.has hl')).2.1]
      rcases h.new i hi hl' with hx | ⟨j, hj, hjl, hje⟩
      · exact .inl hx
      · exact .inr ⟨j, by have := k.lo; omega, hjl, hje⟩
    · rcases k.new i (by omega) hl with hx | ⟨j, hj, hjl, hje⟩
      · exact .inl (by have := h.size; omega)
      · by_cases hjn : j < s.n
        · exact .inr ⟨j, hj, h.old j hjn hjl, by rw [hje, (h.fits j (h.base.has (h.old j hjn hjl))).2.1]⟩
        · rcases h.new j (by omega) hjl with hx | ⟨j', hj', hjl', hje'⟩
          · exact .inl (by rw [hje]; exact hx)
          · exact .inr ⟨j', by have := k.lo; omega, hjl', by rw [hje, hje']⟩
  old i hi hl := h.old i hi (k.old i (by have := h.le; omega) hl)
  os := k.os.trans h.os
  tape := k.tape.trans h.tape
  output := k.output.trans h.output

theorem Post.below {B : Nat} {p q : Pl} {s s' : St} {w w' : World} (h : Post B p s w q s' w') (hr : Rel B p s w) (hB : B ≤ w.heap.size) : ∀ b, b < B → w'.heap[b]? = w.heap[b]? :=
  fun b hb => h.keep b (by omega) fun _ _ hl e => by have := (hr.place hl).1; omega

theorem St.new_eq (s : St) (r : Row) : s.new r = { h := s.h.set deep s.n r, n := s.n + 1, lo := s.lo } := by
  unfold St.new; rw [forceNat_eq]
theorem St.put_eq (s : St) (i : Nat) (r : Row) : s.put i r = { h := s.h.set deep i r, n := s.n, lo := min i s.lo } := by
  unfold St.put
  rw [forceNat_eq]
  cases h : Nat.ble i s.lo
  · have : ¬ i ≤ s.lo := fun e => by rw [Nat.ble_eq_true_of_le e] at h; cases h
    simp only [Nat.min_def, if_neg this]
  · have : i ≤ s.lo := Nat.le_of_ble_eq_true h
    simp only [Nat.min_def, if_pos this]
theorem St.row_eq (s : St) (e : TypeId) (x : Bool) (c : List Sc) : s.row e x c = s.new (.cells e x c.length (T.ofList c)) := by
  unfold St.row; rw [forceNat_eq]

def Pl.set (p : Pl) (i b k : Nat) : Pl := { ρ := fun j => if j = i then b else p.ρ j, κ := fun j => if j = i then k else p.κ j, ok := fun j => j = i ∨ p.ok j }
theorem Pl.set_fits (p : Pl) (i b k : Nat) : p.fits (p.set i b k) i := fun j hj => by
  have : j ≠ i := by have := hj.1; omega
  exact ⟨.inr hj.2, by simp [Pl.set, this], by simp [Pl.set, this]⟩
theorem Pl.set_ρ (p : Pl) (i b k : Nat) : (p.set i b k).ρ i = b := by simp [Pl.set]
theorem Pl.set_has (p : Pl) (i b k m : Nat) (h : i < m) : (p.set i b k).has m i := ⟨h, .inl rfl⟩
theorem Pl.set_κ (p : Pl) (i b k : Nat) : (p.set i b k).κ i = k := by simp [Pl.set]

theorem heap_push (w : World) (o : Obj) (b : Nat) (h : b < w.heap.size) : (w.heap.push o)[b]? = w.heap[b]? := by
  rw [Array.getElem?_push, if_neg (by omega)]

/-- A new block. -/
theorem Post.new' {B : Nat} {p : Pl} {s : St} {w : World} (hr : Rel B p s w) (hB : B ≤ w.heap.size) (row : Row) (o : Obj) (k : Nat)
    (hrow : row.is (p.set s.n w.heap.size k) (s.n + 1) s.n (some o)) :
    Post B p s w (p.set s.n w.heap.size k) (s.new row) { w with heap := w.heap.push o } := by
  have hf := p.set_fits s.n w.heap.size k
  have hget : ∀ i r, (s.new row).h.get i = some r → (i = s.n ∧ r = row) ∨ (i ≠ s.n ∧ s.h.get i = some r) := fun i r h => by
    rw [St.new_eq] at h; change (s.h.set deep s.n row).get i = some r at h; exact T.get_set _ _ _ _ _ _ h
  have hn : (s.new row).n = s.n + 1 := by rw [St.new_eq]
  have hlo : (s.new row).lo = s.lo := by rw [St.new_eq]
  refine ⟨hr, by omega, by omega, hf, fun i hi ho => ho.resolve_left (by omega), ⟨fun i r hi hl => ?_, fun i j hi hj he => ?_⟩, by simp, fun b hb _ => heap_push w o b hb, fun i hi hl => ?_, fun i hi hl => ?_, rfl, rfl, rfl⟩
  · rcases hget i r hi with ⟨rfl, rfl⟩ | ⟨hne, hg⟩
    · rw [hn, p.set_ρ]
      refine ⟨p.set_has _ _ _ _ (by omega), hB, by simp, ?_⟩
      show r.is _ _ _ ((w.heap.push o)[w.heap.size]?)
      rw [Array.getElem?_push_size]; exact hrow
    · obtain ⟨h1, h2, h3, h4⟩ := hr.row i r hg hl
      rw [hn, (hf i h1).2.1]
      refine ⟨hf.has (by omega) h1, h2, by simp; omega, ?_⟩
      show r.is _ _ _ ((w.heap.push o)[p.ρ i]?)
      rw [heap_push w o _ h3]
      exact h4.fits hf (by omega) h1
  · obtain ⟨r, ha, hal⟩ := hi
    obtain ⟨r', hb, hbl⟩ := hj
    rcases hget i r ha with ⟨rfl, rfl⟩ | ⟨hne, hg⟩ <;> rcases hget j r' hb with ⟨rfl, rfl⟩ | ⟨hne', hg'⟩
    · rfl
    · exfalso; obtain ⟨h1, h2, h3, _⟩ := hr.row j r' hg' hbl; rw [p.set_ρ, (hf j h1).2.1] at he; omega
    · exfalso; obtain ⟨h1, h2, h3, _⟩ := hr.row i r hg hal; rw [p.set_ρ, (hf i h1).2.1] at he; omega
    · have h1 := (hr.row i r hg hal).1
      have h2 := (hr.row j r' hg' hbl).1
      exact hr.inj i j ⟨r, hg, hal⟩ ⟨r', hg', hbl⟩ (by rw [(hf i h1).2.1, (hf j h2).2.1] at he; exact he)
  · obtain ⟨r, ha, hal⟩ := hl
    rcases hget i r ha with ⟨rfl, rfl⟩ | ⟨hne, hg⟩
    · exact .inl (by rw [p.set_ρ]; exact Nat.le_refl _)
    · have := (hr.row i r hg hal).1.1; omega
  · obtain ⟨r, ha, hal⟩ := hl
    rcases hget i r ha with ⟨rfl, rfl⟩ | ⟨hne, hg⟩
    · omega
    · exact ⟨r, hg, hal⟩

/-- A write to one of the call's own blocks. -/
theorem Post.write {B : Nat} {p : Pl} {s : St} {w w' : World} (hr : Rel B p s w) {i : Nat} (hi : s.live i) (row : Row) (hsz : w'.heap.size = w.heap.size)
    (hrow : row.is p s.n i w'.heap[p.ρ i]?) (hoth : ∀ b, b ≠ p.ρ i → w'.heap[b]? = w.heap[b]?)
    (hos : w'.os = w.os) (ht : w'.tape = w.tape) (ho : w'.output = w.output) : Post B p s w p (s.put i row) w' := by
  have hget : ∀ j r, (s.put i row).h.get j = some r → (j = i ∧ r = row) ∨ (j ≠ i ∧ s.h.get j = some r) := fun j r h => by
    rw [St.put_eq] at h; change (s.h.set deep i row).get j = some r at h; exact T.get_set _ _ _ _ _ _ h
  have hn : (s.put i row).n = s.n := by rw [St.put_eq]
  have hlo : (s.put i row).lo = min i s.lo := by rw [St.put_eq]
  have hil := hr.lt hi
  have hip := hr.place hi
  have hlive : ∀ j, (s.put i row).live j → s.live j := fun j ⟨r, ha, hal⟩ => by
    rcases hget j r ha with ⟨rfl, rfl⟩ | ⟨_, hg⟩
    · exact hi
    · exact ⟨r, hg, hal⟩
  refine ⟨hr, by omega, by omega, fun _ h => ⟨h.2, rfl, rfl⟩, fun _ _ h => h, ⟨fun j r hj hl => ?_, fun a b ha hb he => hr.inj a b (hlive a ha) (hlive b hb) he⟩, by omega, fun b hb hx => ?_, fun j hj hl => ?_, fun j _ hl => hlive j hl, hos, ht, ho⟩
  · rcases hget j r hj with ⟨rfl, rfl⟩ | ⟨hne, hg⟩
    · exact ⟨by rw [hn]; exact hr.has hi, hip.1, by omega, by rw [hn]; exact hrow⟩
    · obtain ⟨h1, h2, h3, h4⟩ := hr.row j r hg hl
      refine ⟨by rw [hn]; exact h1, h2, by omega, ?_⟩
      rw [hn, hoth _ (fun e => hne (hr.inj j i ⟨r, hg, hl⟩ hi e))]
      exact h4
  · exact hoth b fun e => hx i (by omega) hi e.symm
  · have := hr.lt (hlive j hl); omega

theorem Post.drew {B : Nat} {p : Pl} {s : St} {w : World} (hr : Rel B p s w) : Post B p s w p s { w with drawn := w.drawn + 1 } :=
  ⟨hr, Nat.le_refl _, Nat.le_refl _, fun _ h => ⟨h.2, rfl, rfl⟩, fun _ _ h => h, ⟨hr.row, hr.inj⟩, Nat.le_refl _, fun _ _ _ => rfl, fun i hi hl => absurd (hr.lt hl) (by omega), fun _ _ h => h, rfl, rfl, rfl⟩

/-- Rows may be forgotten. -/
theorem Rel.less {B : Nat} {p : Pl} {s s' : St} {w : World} (hr : Rel B p s w) (hn : s'.n = s.n) (hh : ∀ i r, s'.h.get i = some r → s.h.get i = some r) : Rel B p s' w :=
  ⟨fun i r hi hl => by rw [hn]; exact hr.row i r (hh i r hi) hl, fun i j ⟨r, a, b⟩ ⟨r', a', b'⟩ he => hr.inj i j ⟨r, hh _ _ a, b⟩ ⟨r', hh _ _ a', b'⟩ he⟩

end Go.Ax
