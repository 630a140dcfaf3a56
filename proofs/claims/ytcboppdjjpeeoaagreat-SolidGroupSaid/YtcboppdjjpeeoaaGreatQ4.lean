/- Walks over the solid seat: the number of a turn. -/
import Derived.Test.YtcboppdjjpeeoaaGreatQ3
namespace Go.Proofs.YtcboppdjjpeeoaaGreat
open Go.RowKit Go.Ax

noncomputable section
def andO (a b : Option Bool) : Option Bool := match a with | some true => b | r => r
theorem st3 (eq : TypeId → A1 → A1 → Option Bool) (x y : Int) : eqStep Tryz.prog eq 3 (.sc (.int .i64 x)) (.sc (.int .i64 y)) = some (eqFI x y) := by kernel_rfl
set_option maxRecDepth 100000 in
theorem st76 (eq : TypeId → A1 → A1 → Option Bool) (a b c d e f : Sc) : eqStep Tryz.prog eq 76 (.agg [a, b, c]) (.agg [d, e, f]) = andO (eq 3 (.sc a) (.sc d)) (andO (eq 3 (.sc b) (.sc e)) (andO (eq 3 (.sc c) (.sc f)) (some true))) := by kernel_rfl
set_option maxRecDepth 100000 in
theorem st130 (eq : TypeId → A1 → A1 → Option Bool) (a b c d e f a' b' c' d' e' f' : Sc) : eqStep Tryz.prog eq 130 (.agg [a, b, c, d, e, f]) (.agg [a', b', c', d', e', f']) = andO (eq 76 (.agg [a, b, c]) (.agg [a', b', c'])) (andO (eq 76 (.agg [d, e, f]) (.agg [d', e', f'])) (some true)) := by kernel_rfl
def sgL (t : Sg) : List Sc := [.int .i64 t.p0, .int .i64 t.p1, .int .i64 t.p2, .int .i64 t.s0, .int .i64 t.s1, .int .i64 t.s2]
theorem eqA_succ (d : Nat) : equalA Tryz.prog (d + 1) = eqStep Tryz.prog (equalA Tryz.prog d) := rfl
theorem h3A (d : Nat) (x y : Int) : equalA Tryz.prog (d + 1) 3 (.sc (.int .i64 x)) (.sc (.int .i64 y)) = some (eqFI x y) := by
  rw [eqA_succ]; exact st3 _ x y
theorem h76A (d : Nat) (a b c a' b' c' : Int) : equalA Tryz.prog (d + 2) 76 (.agg [.int .i64 a, .int .i64 b, .int .i64 c]) (.agg [.int .i64 a', .int .i64 b', .int .i64 c']) = andO (some (eqFI a a')) (andO (some (eqFI b b')) (andO (some (eqFI c c')) (some true))) := by
  rw [eqA_succ, st76, h3A, h3A, h3A]
theorem h130A (d : Nat) (t u : Sg) : equalA Tryz.prog (d + 3) 130 (.agg (sgL t)) (.agg (sgL u)) = andO (andO (some (eqFI t.p0 u.p0)) (andO (some (eqFI t.p1 u.p1)) (andO (some (eqFI t.p2 u.p2)) (some true)))) (andO (andO (some (eqFI t.s0 u.s0)) (andO (some (eqFI t.s1 u.s1)) (andO (some (eqFI t.s2 u.s2)) (some true)))) (some true)) := by
  rw [eqA_succ]; unfold sgL; rw [st130, h76A, h76A]
theorem eqA130 (d : Nat) (t u : Sg) : equalA Tryz.prog (d + 3) 130 (.agg (sgL t)) (.agg (sgL u)) = some (decide (t = u)) := by
  rw [h130A]
  obtain ⟨a, b, c, e, f, g⟩ := t
  obtain ⟨a', b', c', e', f', g'⟩ := u
  simp only [eqFI_eq]
  by_cases h1 : a = a' <;> by_cases h2 : b = b' <;> by_cases h3 : c = c' <;> by_cases h4 : e = e' <;> by_cases h5 : f = f' <;> by_cases h6 : g = g' <;> simp [andO, h1, h2, h3, h4, h5, h6]
set_option maxRecDepth 100000 in
theorem eq130 (t u : Sg) (w : World) : (Op.equalIn 10000 130 (sgV t) (sgV u)).run Tryz.prog w = .ok (decide (t = u)) w := by
  have := equalA_sound (P := Tryz.prog) 20 _ _ _ _ (eqA130 17 t u) 10000 (by omega) { ρ := fun _ => 0, κ := fun _ => 0, ok := fun _ => False } 0 (sgV t) (sgV u) w ⟨_, rfl, rfl, rfl, rfl, rfl, rfl, rfl, trivial⟩ ⟨_, rfl, rfl, rfl, rfl, rfl, rfl, rfl, trivial⟩
  exact this
end
end Go.Proofs.YtcboppdjjpeeoaaGreat
