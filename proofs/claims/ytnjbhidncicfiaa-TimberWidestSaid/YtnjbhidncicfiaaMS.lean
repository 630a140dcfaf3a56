/- Species and boards, plainly: no program. -/
import Derived.Test.YtnjbhidncicfiaaW2
import Derived.Test.YtnjbhidncicfiaaMN
namespace Go.Proofs.Ytnjbhidncicfiaa

structure Sp where
  nm : ByteArray
  al : Int
  ac : Int
  ra : Int
  de : Int
  st : Int
  sr : Int
structure Rc where
  x1 : Int
  y1 : Int
  x2 : Int
  y2 : Int
structure Bd where
  nm : ByteArray
  sp : ByteArray
  ln : Int
  wd : Int
  th : Int
  cu : Int
  mo : Int
  df : List Rc
def spRange (s : Sp) : Bool := allIn 0 2000 [s.al, s.ac, s.ra] && (allIn 1 2000 [s.de] && (allIn 1 100000 [s.st] && allIn 1 1000 [s.sr]))
def spCode (s : Sp) : Int := bif nameB s.nm then (bif spRange s then 0 else 2) else 4
/-- The first number of a name, or -1. -/
def findFrom (i : Nat) (nm : ByteArray) : List Sp → Int
  | [] => -1
  | s :: r => bif decide (s.nm = nm) then (i : Int) else findFrom (i + 1) nm r
theorem find_step {l : List Sp} {k : Nat} {nm : ByteArray} (h : k < l.length) : findFrom k nm (l.drop k) = bif decide (l[k].nm = nm) then (k : Int) else findFrom (k + 1) nm (l.drop (k + 1)) := by
  rw [List.drop_eq_getElem_cons h]; rfl
theorem find_end {l : List Sp} {k i : Nat} {nm : ByteArray} (h : ¬ k < l.length) : findFrom i nm (l.drop k) = -1 := by
  rw [List.drop_eq_nil_of_le (by omega)]; rfl
theorem find_ge : ∀ (l : List Sp) (i : Nat) (nm : ByteArray), findFrom i nm l = -1 ∨ ((i : Int) ≤ findFrom i nm l ∧ findFrom i nm l < i + l.length)
  | [], _, _ => .inl rfl
  | s :: r, i, nm => by
    show (bif decide (s.nm = nm) then (i : Int) else findFrom (i + 1) nm r) = -1 ∨ _ ≤ (bif decide (s.nm = nm) then (i : Int) else findFrom (i + 1) nm r) ∧ (bif decide (s.nm = nm) then (i : Int) else findFrom (i + 1) nm r) < _
    cases decide (s.nm = nm)
    · simp only [cond_false, List.length_cons]
      rcases find_ge r (i + 1) nm with h | h
      · exact .inl h
      · exact .inr (by omega)
    · simp only [cond_true, List.length_cons]
      exact .inr (by omega)
theorem find_snoc : ∀ (l : List Sp) (i : Nat) (nm : ByteArray) (x : Sp), findFrom i nm (l ++ [x]) = if findFrom i nm l = -1 then (bif decide (x.nm = nm) then ((i + l.length : Nat) : Int) else -1) else findFrom i nm l
  | [], i, nm, x => by
    show (bif decide (x.nm = nm) then (i : Int) else -1) = if (-1 : Int) = -1 then (bif decide (x.nm = nm) then ((i + 0 : Nat) : Int) else -1) else -1
    rw [if_pos rfl]; rfl
  | s :: r, i, nm, x => by
    have ih := find_snoc r (i + 1) nm x
    show (bif decide (s.nm = nm) then (i : Int) else findFrom (i + 1) nm (r ++ [x])) = if (bif decide (s.nm = nm) then (i : Int) else findFrom (i + 1) nm r) = -1 then _ else (bif decide (s.nm = nm) then (i : Int) else findFrom (i + 1) nm r)
    cases decide (s.nm = nm)
    · simp only [cond_false, List.length_cons]
      rw [ih, show i + 1 + r.length = i + (r.length + 1) by omega]
    · simp only [cond_true]
      rw [if_neg (by omega)]
theorem find_take {l : List Sp} {k : Nat} (h : k < l.length) (nm : ByteArray) : findFrom 0 nm (l.take (k + 1)) = if findFrom 0 nm (l.take k) = -1 then (bif decide (l[k].nm = nm) then (k : Int) else -1) else findFrom 0 nm (l.take k) := by
  rw [List.take_succ_eq_append_getElem h, find_snoc, List.length_take, Nat.zero_add, Nat.min_eq_left (by omega)]
/-- The error of the species from number k on. -/
def spFrom (l : List Sp) : Nat → Nat → Int
  | 0, _ => 0
  | n + 1, k => match l[k]? with
    | none => 0
    | some s => bif decide (spCode s = 0) then (bif decide (findFrom 0 s.nm (l.take k) = -1) then spFrom l n (k + 1) else 5) else spCode s
def spsCode (l : List Sp) : Int := bif decide (40 < l.length) then 8 else spFrom l l.length 0
theorem sp_step {l : List Sp} {k n : Nat} (h : k < l.length) : spFrom l (n + 1) k = bif decide (spCode l[k] = 0) then (bif decide (findFrom 0 l[k].nm (l.take k) = -1) then spFrom l n (k + 1) else 5) else spCode l[k] := by
  rw [spFrom, List.getElem?_eq_getElem h]
theorem sp_from {l : List Sp} {k : Nat} (h : k < l.length) : spFrom l (l.length - k) k = bif decide (spCode l[k] = 0) then (bif decide (findFrom 0 l[k].nm (l.take k) = -1) then spFrom l (l.length - (k + 1)) (k + 1) else 5) else spCode l[k] := by
  rw [show l.length - k = (l.length - (k + 1)) + 1 by omega, sp_step h]
theorem sp_end {l : List Sp} {k : Nat} (h : ¬ k < l.length) : spFrom l (l.length - k) k = 0 := by
  rw [show l.length - k = 0 by omega]; rfl
theorem spCode_le (s : Sp) : spCode s = 0 ∨ spCode s = 2 ∨ spCode s = 4 := by
  unfold spCode
  cases nameB s.nm <;> cases spRange s <;> simp
/-- What an accepted list is like. -/
theorem sps_each {l : List Sp} (h : spsCode l = 0) : l.length ≤ 40 ∧ ∀ k (hk : k < l.length), spCode l[k] = 0 ∧ findFrom 0 l[k].nm (l.take k) = -1 := by
  unfold spsCode at h
  cases h0 : decide (40 < l.length)
  · rw [h0] at h
    simp only [decide_eq_false_iff_not] at h0
    refine ⟨by omega, ?_⟩
    have all : ∀ k, k ≤ l.length → spFrom l (l.length - k) k = 0 := by
      intro k
      induction k with
      | zero => intro _; exact h
      | succ k ih =>
        intro hk
        have i := ih (by omega)
        rw [sp_from (by omega)] at i
        cases h1 : decide (spCode l[k] = 0)
        · rw [h1] at i
          simp only [decide_eq_false_iff_not] at h1
          exact absurd i h1
        · rw [h1] at i
          cases h2 : decide (findFrom 0 l[k].nm (l.take k) = -1)
          · rw [h2] at i; cases i
          · rw [h2] at i; exact i
    intro k hk
    have i := all k (by omega)
    rw [sp_from hk] at i
    cases h1 : decide (spCode l[k] = 0)
    · rw [h1] at i
      simp only [decide_eq_false_iff_not] at h1
      exact absurd i h1
    · rw [h1] at i
      simp only [decide_eq_true_eq] at h1
      refine ⟨h1, ?_⟩
      cases h2 : decide (findFrom 0 l[k].nm (l.take k) = -1)
      · rw [h2] at i; cases i
      · simpa using h2
  · rw [h0] at h; cases h
theorem sps_name {l : List Sp} (h : spsCode l = 0) {k : Nat} (hk : k < l.length) : nameB l[k].nm = true := by
  have := (sps_each h).2 k hk |>.1
  unfold spCode at this
  cases hn : nameB l[k].nm
  · rw [hn] at this; cases this
  · rfl

/-! ### Boards -/
def rcForm (r : Rc) : Bool := decide (r.x1 < r.x2) && decide (r.y1 < r.y2)
def rcCode (b : Bd) (r : Rc) : Int := bif rcForm r then (bif allIn 0 b.ln [r.x1, r.x2] && allIn 0 b.wd [r.y1, r.y2] then 0 else 2) else 3
def rcsFrom (b : Bd) : List Rc → Int
  | [] => 0
  | r :: l => bif decide (rcCode b r = 0) then rcsFrom b l else rcCode b r
theorem rcs_step {b : Bd} {l : List Rc} {k : Nat} (h : k < l.length) : rcsFrom b (l.drop k) = bif decide (rcCode b l[k] = 0) then rcsFrom b (l.drop (k + 1)) else rcCode b l[k] := by
  rw [List.drop_eq_getElem_cons h]; rfl
theorem rcs_end {b : Bd} {l : List Rc} {k : Nat} (h : ¬ k < l.length) : rcsFrom b (l.drop k) = 0 := by
  rw [List.drop_eq_nil_of_le (by omega)]; rfl
def bdRange (b : Bd) : Bool := allIn 1 600000 [b.ln] && (allIn 1 100000 [b.wd] && (allIn 1 20000 [b.th] && (allIn 0 1 [b.cu] && allIn 0 400 [b.mo])))
def bdCode (b : Bd) : Int := bif nameB b.nm && nameB b.sp then (bif bdRange b then (bif decide (60 < b.df.length) then 8 else rcsFrom b b.df) else 2) else 4
def bdOf (l : List Sp) (b : Bd) : Int := bif decide (bdCode b = 0) then (bif decide (findFrom 0 b.sp l = -1) then 6 else 0) else bdCode b
def chkBoard (l : List Sp) (b : Bd) : Int := bif decide (spsCode l = 0) then bdOf l b else spsCode l
end Go.Proofs.Ytnjbhidncicfiaa
