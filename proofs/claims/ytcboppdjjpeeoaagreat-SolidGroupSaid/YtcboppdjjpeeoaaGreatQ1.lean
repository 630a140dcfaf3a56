/- Mathematics: signed permutations, their table, what one and another one do. -/
import Derived.KernelRfl
namespace Go.Proofs.YtcboppdjjpeeoaaGreat

structure Sg where
  p0 : Int
  p1 : Int
  p2 : Int
  s0 : Int
  s1 : Int
  s2 : Int
  deriving DecidableEq
def selI (a b c i : Int) : Int := bif decide (i = 0) then a else bif decide (i = 1) then b else c
def Sg.p (t : Sg) (i : Int) : Int := selI t.p0 t.p1 t.p2 i
def Sg.s (t : Sg) (i : Int) : Int := selI t.s0 t.s1 t.s2 i
/-- One and then another one. -/
def Sg.comp (t u : Sg) : Sg := ⟨t.p u.p0, t.p u.p1, t.p u.p2, u.s0 * t.s u.p0, u.s1 * t.s u.p1, u.s2 * t.s u.p2⟩
structure V3 where
  x : Int
  y : Int
  z : Int
def V3.at (v : V3) (i : Int) : Int := selI v.x v.y v.z i
def Sg.image (t : Sg) (v : V3) : V3 := ⟨t.s0 * v.at t.p0, t.s1 * v.at t.p1, t.s2 * v.at t.p2⟩
def Sg.Ok (t : Sg) : Prop := (0 ≤ t.p0 ∧ t.p0 ≤ 2) ∧ (0 ≤ t.p1 ∧ t.p1 ≤ 2) ∧ (0 ≤ t.p2 ∧ t.p2 ≤ 2) ∧ (t.s0 = 1 ∨ t.s0 = -1) ∧ (t.s1 = 1 ∨ t.s1 = -1) ∧ (t.s2 = 1 ∨ t.s2 = -1)
def okB (t : Sg) : Bool :=
  (decide (0 ≤ t.p0) && decide (t.p0 ≤ 2)) && ((decide (0 ≤ t.p1) && decide (t.p1 ≤ 2)) && ((decide (0 ≤ t.p2) && decide (t.p2 ≤ 2)) && ((decide (t.s0 = 1) || decide (t.s0 = -1)) && ((decide (t.s1 = 1) || decide (t.s1 = -1)) && (decide (t.s2 = 1) || decide (t.s2 = -1))))))
theorem ok_of {t : Sg} (h : okB t = true) : t.Ok := by
  unfold okB at h
  simp only [Bool.and_eq_true, Bool.or_eq_true, decide_eq_true_eq] at h
  exact h
theorem i3 {i : Int} (h0 : 0 ≤ i) (h2 : i ≤ 2) : i = 0 ∨ i = 1 ∨ i = 2 := by omega
theorem comp_assoc {a b c : Sg} (hc : c.Ok) : (a.comp b).comp c = a.comp (b.comp c) := by
  obtain ⟨p0, p1, p2, s0, s1, s2⟩ := c
  obtain ⟨⟨h0, h0'⟩, ⟨h1, h1'⟩, ⟨h2, h2'⟩, -⟩ := hc
  simp only at h0 h0' h1 h1' h2 h2'
  rcases i3 h0 h0' with rfl | rfl | rfl <;> rcases i3 h1 h1' with rfl | rfl | rfl <;> rcases i3 h2 h2' with rfl | rfl | rfl <;>
    simp [Sg.comp, Sg.p, Sg.s, selI, Int.mul_assoc]
theorem image_comp {a b : Sg} (hb : b.Ok) (v : V3) : b.image (a.image v) = (a.comp b).image v := by
  obtain ⟨p0, p1, p2, s0, s1, s2⟩ := b
  obtain ⟨⟨h0, h0'⟩, ⟨h1, h1'⟩, ⟨h2, h2'⟩, -⟩ := hb
  simp only at h0 h0' h1 h1' h2 h2'
  rcases i3 h0 h0' with rfl | rfl | rfl <;> rcases i3 h1 h1' with rfl | rfl | rfl <;> rcases i3 h2 h2' with rfl | rfl | rfl <;>
    simp [Sg.comp, Sg.image, Sg.p, Sg.s, V3.at, selI, Int.mul_assoc]
def oneS : Sg := ⟨0, 1, 2, 1, 1, 1⟩
theorem comp_one {a : Sg} : a.comp oneS = a := by obtain ⟨p0, p1, p2, s0, s1, s2⟩ := a; simp [Sg.comp, oneS, Sg.p, Sg.s, selI]
theorem one_comp {a : Sg} (ha : a.Ok) : oneS.comp a = a := by
  obtain ⟨p0, p1, p2, s0, s1, s2⟩ := a
  obtain ⟨⟨h0, h0'⟩, ⟨h1, h1'⟩, ⟨h2, h2'⟩, -⟩ := ha
  simp only at h0 h0' h1 h1' h2 h2'
  rcases i3 h0 h0' with rfl | rfl | rfl <;> rcases i3 h1 h1' with rfl | rfl | rfl <;> rcases i3 h2 h2' with rfl | rfl | rfl <;> simp [Sg.comp, oneS, Sg.p, Sg.s, selI]

def tabS : List Sg := [⟨0, 1, 2, 1, 1, 1⟩,
  ⟨0, 1, 2, 1, -1, -1⟩,
  ⟨0, 1, 2, -1, 1, -1⟩,
  ⟨0, 1, 2, -1, -1, 1⟩,
  ⟨0, 2, 1, 1, 1, -1⟩,
  ⟨0, 2, 1, 1, -1, 1⟩,
  ⟨0, 2, 1, -1, 1, 1⟩,
  ⟨0, 2, 1, -1, -1, -1⟩,
  ⟨1, 0, 2, 1, 1, -1⟩,
  ⟨1, 0, 2, 1, -1, 1⟩,
  ⟨1, 0, 2, -1, 1, 1⟩,
  ⟨1, 0, 2, -1, -1, -1⟩,
  ⟨1, 2, 0, 1, 1, 1⟩,
  ⟨1, 2, 0, 1, -1, -1⟩,
  ⟨1, 2, 0, -1, 1, -1⟩,
  ⟨1, 2, 0, -1, -1, 1⟩,
  ⟨2, 0, 1, 1, 1, 1⟩,
  ⟨2, 0, 1, 1, -1, -1⟩,
  ⟨2, 0, 1, -1, 1, -1⟩,
  ⟨2, 0, 1, -1, -1, 1⟩,
  ⟨2, 1, 0, 1, 1, -1⟩,
  ⟨2, 1, 0, 1, -1, 1⟩,
  ⟨2, 1, 0, -1, 1, 1⟩,
  ⟨2, 1, 0, -1, -1, -1⟩,
  ⟨0, 1, 2, 1, 1, -1⟩,
  ⟨0, 1, 2, 1, -1, 1⟩,
  ⟨0, 1, 2, -1, 1, 1⟩,
  ⟨0, 1, 2, -1, -1, -1⟩,
  ⟨0, 2, 1, 1, 1, 1⟩,
  ⟨0, 2, 1, 1, -1, -1⟩,
  ⟨0, 2, 1, -1, 1, -1⟩,
  ⟨0, 2, 1, -1, -1, 1⟩,
  ⟨1, 0, 2, 1, 1, 1⟩,
  ⟨1, 0, 2, 1, -1, -1⟩,
  ⟨1, 0, 2, -1, 1, -1⟩,
  ⟨1, 0, 2, -1, -1, 1⟩,
  ⟨1, 2, 0, 1, 1, -1⟩,
  ⟨1, 2, 0, 1, -1, 1⟩,
  ⟨1, 2, 0, -1, 1, 1⟩,
  ⟨1, 2, 0, -1, -1, -1⟩,
  ⟨2, 0, 1, 1, 1, -1⟩,
  ⟨2, 0, 1, 1, -1, 1⟩,
  ⟨2, 0, 1, -1, 1, 1⟩,
  ⟨2, 0, 1, -1, -1, -1⟩,
  ⟨2, 1, 0, 1, 1, 1⟩,
  ⟨2, 1, 0, 1, -1, -1⟩,
  ⟨2, 1, 0, -1, 1, -1⟩,
  ⟨2, 1, 0, -1, -1, 1⟩]
def sgAt (k : Nat) : Sg := tabS.getD k oneS
def sgCells (t : Sg) : List Int := [t.p0, t.p1, t.p2, t.s0, t.s1, t.s2]
def tabI : List Int := tabS.flatMap sgCells
def idxFrom (t : Sg) : Nat → List Sg → Int
  | _, [] => -1
  | i, u :: r => bif decide (t = u) then (i : Int) else idxFrom t (i + 1) r
def idxS (t : Sg) : Int := idxFrom t 0 tabS
def bothS (a b : Nat) : Int := idxS ((sgAt a).comp (sgAt b))
theorem idx_step {t : Sg} {l : List Sg} {k : Nat} (h : k < l.length) : idxFrom t k (l.drop k) = bif decide (t = l[k]) then (k : Int) else idxFrom t (k + 1) (l.drop (k + 1)) := by
  rw [List.drop_eq_getElem_cons h]; rfl
theorem idx_end {t : Sg} {l : List Sg} {k : Nat} (h : ¬ k < l.length) : idxFrom t k (l.drop k) = -1 := by rw [List.drop_eq_nil_of_le (by omega)]; rfl
noncomputable section
/-- A quick look: whether two are equal. -/
def eqI (x y : Int) : Bool := Int.rec (fun a => Int.rec (fun b => Nat.beq a b) (fun _ => false) y) (fun a => Int.rec (fun _ => false) (fun b => Nat.beq a b) y) x
theorem eqI_eq {x y : Int} : eqI x y = decide (x = y) := by
  cases x with
  | ofNat a => cases y with
    | ofNat b => show Nat.beq a b = _; rw [Bool.eq_iff_iff, Nat.beq_eq, decide_eq_true_eq]; exact ⟨fun h => by rw [h], fun h => by injection h⟩
    | negSucc b => exact (decide_eq_false (by intro h; cases h)).symm
  | negSucc a => cases y with
    | ofNat b => exact (decide_eq_false (by intro h; cases h)).symm
    | negSucc b => show Nat.beq a b = _; rw [Bool.eq_iff_iff, Nat.beq_eq, decide_eq_true_eq]; exact ⟨fun h => by rw [h], fun h => by injection h⟩
def eqS (t u : Sg) : Bool := eqI t.p0 u.p0 && (eqI t.p1 u.p1 && (eqI t.p2 u.p2 && (eqI t.s0 u.s0 && (eqI t.s1 u.s1 && eqI t.s2 u.s2))))
theorem eqS_eq (t u : Sg) : eqS t u = decide (t = u) := by
  obtain ⟨a, b, c, d, e, f⟩ := t
  obtain ⟨a', b', c', d', e', f'⟩ := u
  unfold eqS
  simp only [eqI_eq]
  rw [Bool.eq_iff_iff]
  simp
def idxF (t : Sg) : Nat → List Sg → Int
  | _, [] => -1
  | i, u :: r => match eqS t u with
    | true => (i : Int)
    | false => idxF t (i + 1) r
theorem idxF_eq (t : Sg) : ∀ (l : List Sg) (i : Nat), idxF t i l = idxFrom t i l
  | [], _ => rfl
  | u :: r, i => by
    unfold idxF idxFrom
    rw [eqS_eq]
    cases decide (t = u)
    · exact idxF_eq t r (i + 1)
    · rfl
/-- What holds of each two. -/
def pairB (a b : Nat) : Bool :=
  match idxF ((sgAt a).comp (sgAt b)) 0 tabS with
  | .ofNat k => Nat.ble (k + 1) 48 && (eqS (sgAt k) ((sgAt a).comp (sgAt b)) && (Nat.ble (k + 1) 24 == (Nat.ble (a + 1) 24 == Nat.ble (b + 1) 24)))
  | .negSucc _ => false
def upTo : Nat → List Nat
  | 0 => []
  | n + 1 => n :: upTo n
theorem upTo_mem : ∀ {n k : Nat}, k < n → k ∈ upTo n
  | n + 1, k, h => by
    by_cases e : k = n
    · rw [e]; exact List.mem_cons_self ..
    · exact List.mem_cons_of_mem _ (upTo_mem (by omega))
def allPairs : Bool := (upTo 48).all fun a => (upTo 48).all fun b => pairB a b
def oneBack (a : Nat) : Nat → Nat
  | 0 => 0
  | n + 1 => match eqI (idxF ((sgAt a).comp (sgAt n)) 0 tabS) 0 with
    | true => oneBack a n + 1
    | false => oneBack a n
def allBack : Bool := (upTo 48).all fun a => Nat.beq (oneBack a 48) 1
def allOk : Bool := (upTo 48).all fun a => okB (sgAt a) && eqI (idxF (sgAt a) 0 tabS) a
set_option maxRecDepth 100000 in
theorem allOk_true : allOk = true := by kernel_rfl
set_option maxRecDepth 100000 in
theorem allPairs_true : allPairs = true := by kernel_rfl
set_option maxRecDepth 100000 in
theorem allBack_true : allBack = true := by kernel_rfl
theorem tab_len : tabS.length = 48 := by kernel_rfl
theorem sg_ok {a : Nat} (h : a < 48) : (sgAt a).Ok ∧ idxS (sgAt a) = a := by
  have := List.all_eq_true.1 allOk_true a (upTo_mem h)
  rw [Bool.and_eq_true, eqI_eq, decide_eq_true_eq, idxF_eq] at this
  exact ⟨ok_of this.1, this.2⟩
theorem pair_ok {a b : Nat} (ha : a < 48) (hb : b < 48) : ∃ k : Nat, bothS a b = k ∧ k < 48 ∧ sgAt k = (sgAt a).comp (sgAt b) ∧ (decide (k < 24) = (decide (a < 24) == decide (b < 24))) := by
  have h := List.all_eq_true.1 (List.all_eq_true.1 allPairs_true a (upTo_mem ha)) b (upTo_mem hb)
  unfold pairB at h
  rw [idxF_eq] at h
  split at h
  · rename_i k hk
    simp only [Bool.and_eq_true, eqS_eq, decide_eq_true_eq, beq_iff_eq] at h
    refine ⟨k, hk, Nat.le_of_ble_eq_true h.1, h.2.1, ?_⟩
    have key : ∀ x y : Nat, Nat.ble (x + 1) y = decide (x < y) := fun x y => by
      rw [Bool.eq_iff_iff, decide_eq_true_eq]
      exact ⟨fun e => Nat.le_of_ble_eq_true e, fun e => Nat.ble_eq_true_of_le e⟩
    simp only [key] at h
    exact h.2.2
  · cases h
def backN (a : Nat) : Nat → Nat
  | 0 => 0
  | n + 1 => if bothS a n = 0 then backN a n + 1 else backN a n
theorem back_eq (a : Nat) : ∀ n, oneBack a n = backN a n
  | 0 => rfl
  | n + 1 => by
    unfold oneBack backN
    rw [eqI_eq, idxF_eq, back_eq a n]
    show (match decide (bothS a n = 0) with | true => backN a n + 1 | false => backN a n) = _
    by_cases h : bothS a n = 0
    · rw [decide_eq_true h, if_pos h]
    · rw [decide_eq_false h, if_neg h]
theorem back_one {a : Nat} (h : a < 48) : backN a 48 = 1 := by
  have := List.all_eq_true.1 allBack_true a (upTo_mem h)
  rw [back_eq] at this
  exact Nat.eq_of_beq_eq_true this
end
end Go.Proofs.YtcboppdjjpeeoaaGreat
