/- Names, plainly: no program. -/
namespace Go.Proofs.Ytnjbhidncicfiaa

theorem getD_at {α : Type} {l : List α} {k : Nat} {d : α} (h : k < l.length) : l.getD k d = l[k] := by
  rw [List.getD_eq_getElem?_getD, List.getElem?_eq_getElem h]; rfl
def letB (c : Int) : Bool := (decide (65 ≤ c) && decide (c ≤ 90)) || (decide (97 ≤ c) && decide (c ≤ 122))
def digB (c : Int) : Bool := decide (48 ≤ c) && decide (c ≤ 57)
def byteAt (s : ByteArray) (k : Nat) : Int := if h : k < s.size then ((s[k]'h).toNat : Int) else 0
theorem byteAt_eq {s : ByteArray} {k : Nat} (h : k < s.size) : byteAt s k = ((s[k]'h).toNat : Int) := dif_pos h
theorem byteAt_bd (s : ByteArray) (k : Nat) : 0 ≤ byteAt s k ∧ byteAt s k ≤ 255 := by
  unfold byteAt
  split
  · have := (s[k]).toNat_lt; omega
  · omega
/-- A byte behind the first one. -/
def restB (c : Int) : Bool := letB c || (digB c || c == 45)
def okAt (s : ByteArray) (k : Nat) : Bool := letB (byteAt s k) || (k != 0 && (digB (byteAt s k) || byteAt s k == 45))
def preB (s : ByteArray) : Nat → Bool
  | 0 => true
  | k + 1 => preB s k && okAt s k
def nameB (s : ByteArray) : Bool := decide (1 ≤ s.size) && (decide (s.size ≤ 12) && preB s s.size)
theorem pre_false {s : ByteArray} {k : Nat} (h : okAt s k = false) : ∀ n, k < n → preB s n = false
  | 0, hn => absurd hn (by omega)
  | n + 1, hn => by
    show (preB s n && okAt s n) = false
    by_cases e : k = n
    · subst e; rw [h, Bool.and_false]
    · rw [pre_false h n (by omega), Bool.false_and]
theorem okAt_zero (s : ByteArray) : okAt s 0 = letB (byteAt s 0) := by unfold okAt; simp
theorem okAt_pos {s : ByteArray} {k : Nat} (h : k ≠ 0) : okAt s k = restB (byteAt s k) := by
  have e : (k != 0) = true := bne_iff_ne.2 h
  unfold okAt restB; rw [e, Bool.true_and]
theorem okAt_rest {s : ByteArray} {k : Nat} (h0 : okAt s 0 = true) : okAt s k = restB (byteAt s k) := by
  by_cases h : k = 0
  · subst h; rw [h0]; rw [okAt_zero] at h0; unfold restB; rw [h0]; rfl
  · exact okAt_pos h
theorem name_empty {s : ByteArray} (h : s.size = 0) : nameB s = false := by unfold nameB; simp [h]
theorem name_long {s : ByteArray} (h : 12 < s.size) : nameB s = false := by unfold nameB; simp; omega
theorem name_bad {s : ByteArray} {k : Nat} (h : okAt s k = false) (hk : k < s.size) : nameB s = false := by unfold nameB; rw [pre_false h _ hk]; simp
theorem name_good {s : ByteArray} (h1 : 1 ≤ s.size) (h2 : s.size ≤ 12) (h : preB s s.size = true) : nameB s = true := by unfold nameB; simp [h1, h2, h]
end Go.Proofs.Ytnjbhidncicfiaa
