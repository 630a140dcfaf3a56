/- Walks over beams: sags of weights. -/
import Derived.Test.YtablphoicidlkaaSJ
namespace Go.Proofs.Ytablphoicidlkaa
open Go.RowKit

set_option maxHeartbeats 2000000 in
theorem sagOfPoint_any {b : Bm} {p : Pt} {x : Int} (hb : BmOk b) (hp : PtOk b.s p) (x0 : 0 ≤ x) (x1 : x ≤ b.s) (w : World) :
    Calls Try.prog 162 #[bmV b, .int .i64 p.a, .int .i64 p.n, .int .i64 x] w fun e w' => e = .returned (.int .i64 (ptS b x p)) ∧ Below w.heap.size w w' := by
  obtain ⟨s, ww, t, en⟩ := b
  obtain ⟨a, v⟩ := p
  obtain ⟨s0, s1, w0, w1, t0, t1, e0⟩ := hb
  obtain ⟨a0, a1, n0, n1⟩ := hp
  simp only at s0 s1 e0 a0 a1 n0 n1 x1
  unfold bmV ptS sgP
  simp only
  clear w0 w1 t0 t1
  have E1 : Ev s s 2000 := .of (by omega)
  have E2 : Ev a a 2000 := .of (by omega)
  have E3 : Ev v v 2000 := .of (by omega)
  have E4 : Ev x x 2000 := .of (by omega)
  by_cases hax : a < x
  · have hd : Hid (decide (a < x) = true) := Lib.hid (decide_eq_true hax)
    rw [hd.out, cond_true]
    rcases e0 with rfl | rfl
    · simp only [show ((0 : Int) == 1) = false from rfl, cond_false]
      have q0 : wrap64 (4 * v * (s - x)) = 4 * v * (s - x) := by (apply Ev.e; repeat' (first | with_reducible assumption | with_reducible apply Ev.wrap | with_reducible apply Ev.mul | with_reducible apply Ev.add | with_reducible apply Ev.sub | with_reducible apply Ev.neg | exact Ev.lit _ | (decide +kernel)))
      have q1 : wrap64 (4 * v * (s - x) * a) = 4 * v * (s - x) * a := by (apply Ev.e; repeat' (first | with_reducible assumption | with_reducible apply Ev.wrap | with_reducible apply Ev.mul | with_reducible apply Ev.add | with_reducible apply Ev.sub | with_reducible apply Ev.neg | exact Ev.lit _ | (decide +kernel)))
      have q2 : wrap64 (s * s) = s * s := by (apply Ev.e; repeat' (first | with_reducible assumption | with_reducible apply Ev.wrap | with_reducible apply Ev.mul | with_reducible apply Ev.add | with_reducible apply Ev.sub | with_reducible apply Ev.neg | exact Ev.lit _ | (decide +kernel)))
      have q3 : wrap64 ((s - x) * (s - x)) = (s - x) * (s - x) := by (apply Ev.e; repeat' (first | with_reducible assumption | with_reducible apply Ev.wrap | with_reducible apply Ev.mul | with_reducible apply Ev.add | with_reducible apply Ev.sub | with_reducible apply Ev.neg | exact Ev.lit _ | (decide +kernel)))
      have q4 : wrap64 (s * s - (s - x) * (s - x)) = s * s - (s - x) * (s - x) := by (apply Ev.e; repeat' (first | with_reducible assumption | with_reducible apply Ev.wrap | with_reducible apply Ev.mul | with_reducible apply Ev.add | with_reducible apply Ev.sub | with_reducible apply Ev.neg | exact Ev.lit _ | (decide +kernel)))
      have q5 : wrap64 (a * a) = a * a := by (apply Ev.e; repeat' (first | with_reducible assumption | with_reducible apply Ev.wrap | with_reducible apply Ev.mul | with_reducible apply Ev.add | with_reducible apply Ev.sub | with_reducible apply Ev.neg | exact Ev.lit _ | (decide +kernel)))
      have q6 : wrap64 (s * s - (s - x) * (s - x) - a * a) = s * s - (s - x) * (s - x) - a * a := by (apply Ev.e; repeat' (first | with_reducible assumption | with_reducible apply Ev.wrap | with_reducible apply Ev.mul | with_reducible apply Ev.add | with_reducible apply Ev.sub | with_reducible apply Ev.neg | exact Ev.lit _ | (decide +kernel)))
      have q7 : wrap64 (4 * v * (s - x) * a * (s * s - (s - x) * (s - x) - a * a)) = 4 * v * (s - x) * a * (s * s - (s - x) * (s - x) - a * a) := by (apply Ev.e; repeat' (first | with_reducible assumption | with_reducible apply Ev.wrap | with_reducible apply Ev.mul | with_reducible apply Ev.add | with_reducible apply Ev.sub | with_reducible apply Ev.neg | exact Ev.lit _ | (decide +kernel)))
      clear E1 E2 E3 E4
      go_enter Try.func162, Try.ntmps162
      go_wp2
      go_ret
      exact ⟨ret_int (by first | rfl | exact q7), (Below.refl _ _).alloc (Nat.le_refl _) _⟩
    · simp only [show ((1 : Int) == 1) = true from rfl, cond_true]
      have q0 : wrap64 (4 * s * v) = 4 * s * v := by (apply Ev.e; repeat' (first | with_reducible assumption | with_reducible apply Ev.wrap | with_reducible apply Ev.mul | with_reducible apply Ev.add | with_reducible apply Ev.sub | with_reducible apply Ev.neg | exact Ev.lit _ | (decide +kernel)))
      have q1 : wrap64 (4 * s * v * a) = 4 * s * v * a := by (apply Ev.e; repeat' (first | with_reducible assumption | with_reducible apply Ev.wrap | with_reducible apply Ev.mul | with_reducible apply Ev.add | with_reducible apply Ev.sub | with_reducible apply Ev.neg | exact Ev.lit _ | (decide +kernel)))
      have q2 : wrap64 (4 * s * v * a * a) = 4 * s * v * a * a := by (apply Ev.e; repeat' (first | with_reducible assumption | with_reducible apply Ev.wrap | with_reducible apply Ev.mul | with_reducible apply Ev.add | with_reducible apply Ev.sub | with_reducible apply Ev.neg | exact Ev.lit _ | (decide +kernel)))
      have q3 : wrap64 (4 * s * v * a * a * (3 * x - a)) = 4 * s * v * a * a * (3 * x - a) := by (apply Ev.e; repeat' (first | with_reducible assumption | with_reducible apply Ev.wrap | with_reducible apply Ev.mul | with_reducible apply Ev.add | with_reducible apply Ev.sub | with_reducible apply Ev.neg | exact Ev.lit _ | (decide +kernel)))
      clear E1 E2 E3 E4
      go_enter Try.func162, Try.ntmps162
      go_wp2
      go_ret
      exact ⟨ret_int (by first | rfl | exact q3), (Below.refl _ _).alloc (Nat.le_refl _) _⟩
  · have hd : Hid (decide (a < x) = false) := Lib.hid (decide_eq_false hax)
    rw [hd.out, cond_false]
    rcases e0 with rfl | rfl
    · simp only [show ((0 : Int) == 1) = false from rfl, cond_false]
      have q0 : wrap64 (4 * v * (s - a)) = 4 * v * (s - a) := by (apply Ev.e; repeat' (first | with_reducible assumption | with_reducible apply Ev.wrap | with_reducible apply Ev.mul | with_reducible apply Ev.add | with_reducible apply Ev.sub | with_reducible apply Ev.neg | exact Ev.lit _ | (decide +kernel)))
      have q1 : wrap64 (4 * v * (s - a) * x) = 4 * v * (s - a) * x := by (apply Ev.e; repeat' (first | with_reducible assumption | with_reducible apply Ev.wrap | with_reducible apply Ev.mul | with_reducible apply Ev.add | with_reducible apply Ev.sub | with_reducible apply Ev.neg | exact Ev.lit _ | (decide +kernel)))
      have q2 : wrap64 (s * s) = s * s := by (apply Ev.e; repeat' (first | with_reducible assumption | with_reducible apply Ev.wrap | with_reducible apply Ev.mul | with_reducible apply Ev.add | with_reducible apply Ev.sub | with_reducible apply Ev.neg | exact Ev.lit _ | (decide +kernel)))
      have q3 : wrap64 ((s - a) * (s - a)) = (s - a) * (s - a) := by (apply Ev.e; repeat' (first | with_reducible assumption | with_reducible apply Ev.wrap | with_reducible apply Ev.mul | with_reducible apply Ev.add | with_reducible apply Ev.sub | with_reducible apply Ev.neg | exact Ev.lit _ | (decide +kernel)))
      have q4 : wrap64 (s * s - (s - a) * (s - a)) = s * s - (s - a) * (s - a) := by (apply Ev.e; repeat' (first | with_reducible assumption | with_reducible apply Ev.wrap | with_reducible apply Ev.mul | with_reducible apply Ev.add | with_reducible apply Ev.sub | with_reducible apply Ev.neg | exact Ev.lit _ | (decide +kernel)))
      have q5 : wrap64 (x * x) = x * x := by (apply Ev.e; repeat' (first | with_reducible assumption | with_reducible apply Ev.wrap | with_reducible apply Ev.mul | with_reducible apply Ev.add | with_reducible apply Ev.sub | with_reducible apply Ev.neg | exact Ev.lit _ | (decide +kernel)))
      have q6 : wrap64 (s * s - (s - a) * (s - a) - x * x) = s * s - (s - a) * (s - a) - x * x := by (apply Ev.e; repeat' (first | with_reducible assumption | with_reducible apply Ev.wrap | with_reducible apply Ev.mul | with_reducible apply Ev.add | with_reducible apply Ev.sub | with_reducible apply Ev.neg | exact Ev.lit _ | (decide +kernel)))
      have q7 : wrap64 (4 * v * (s - a) * x * (s * s - (s - a) * (s - a) - x * x)) = 4 * v * (s - a) * x * (s * s - (s - a) * (s - a) - x * x) := by (apply Ev.e; repeat' (first | with_reducible assumption | with_reducible apply Ev.wrap | with_reducible apply Ev.mul | with_reducible apply Ev.add | with_reducible apply Ev.sub | with_reducible apply Ev.neg | exact Ev.lit _ | (decide +kernel)))
      clear E1 E2 E3 E4
      go_enter Try.func162, Try.ntmps162
      go_wp2
      go_ret
      exact ⟨ret_int (by first | rfl | exact q7), (Below.refl _ _).alloc (Nat.le_refl _) _⟩
    · simp only [show ((1 : Int) == 1) = true from rfl, cond_true]
      have q0 : wrap64 (4 * s * v) = 4 * s * v := by (apply Ev.e; repeat' (first | with_reducible assumption | with_reducible apply Ev.wrap | with_reducible apply Ev.mul | with_reducible apply Ev.add | with_reducible apply Ev.sub | with_reducible apply Ev.neg | exact Ev.lit _ | (decide +kernel)))
      have q1 : wrap64 (4 * s * v * x) = 4 * s * v * x := by (apply Ev.e; repeat' (first | with_reducible assumption | with_reducible apply Ev.wrap | with_reducible apply Ev.mul | with_reducible apply Ev.add | with_reducible apply Ev.sub | with_reducible apply Ev.neg | exact Ev.lit _ | (decide +kernel)))
      have q2 : wrap64 (4 * s * v * x * x) = 4 * s * v * x * x := by (apply Ev.e; repeat' (first | with_reducible assumption | with_reducible apply Ev.wrap | with_reducible apply Ev.mul | with_reducible apply Ev.add | with_reducible apply Ev.sub | with_reducible apply Ev.neg | exact Ev.lit _ | (decide +kernel)))
      have q3 : wrap64 (4 * s * v * x * x * (3 * a - x)) = 4 * s * v * x * x * (3 * a - x) := by (apply Ev.e; repeat' (first | with_reducible assumption | with_reducible apply Ev.wrap | with_reducible apply Ev.mul | with_reducible apply Ev.add | with_reducible apply Ev.sub | with_reducible apply Ev.neg | exact Ev.lit _ | (decide +kernel)))
      clear E1 E2 E3 E4
      go_enter Try.func162, Try.ntmps162
      go_wp2
      go_ret
      exact ⟨ret_int (by first | rfl | exact q3), (Below.refl _ _).alloc (Nat.le_refl _) _⟩
set_option maxHeartbeats 2000000 in
theorem sagOfSpread_any {b : Bm} {S x : Int} (hb : BmOk b) (h0 : -20000 ≤ S) (h1 : S ≤ 20000) (x0 : 0 ≤ x) (x1 : x ≤ b.s) (w : World) :
    Calls Try.prog 161 #[bmV b, .int .i64 S, .int .i64 x] w fun e w' => e = .returned (.int .i64 (spS b S x)) ∧ Below w.heap.size w w' := by
  obtain ⟨s, ww, t, en⟩ := b
  obtain ⟨s0, s1, w0, w1, t0, t1, e0⟩ := hb
  simp only at s0 s1 e0 x1
  unfold bmV spS
  simp only
  clear w0 w1 t0 t1
  have E1 : Ev s s 2000 := .of (by omega)
  have E3 : Ev S S 20000 := .of (by omega)
  have E4 : Ev x x 2000 := .of (by omega)
  rcases e0 with rfl | rfl
  · simp only [show ((0 : Int) == 1) = false from rfl, cond_false]
    have q0 : wrap64 (S * x) = S * x := by (apply Ev.e; repeat' (first | with_reducible assumption | with_reducible apply Ev.wrap | with_reducible apply Ev.mul | with_reducible apply Ev.add | with_reducible apply Ev.sub | with_reducible apply Ev.neg | exact Ev.lit _ | (decide +kernel)))
    have q1 : wrap64 (s * s) = s * s := by (apply Ev.e; repeat' (first | with_reducible assumption | with_reducible apply Ev.wrap | with_reducible apply Ev.mul | with_reducible apply Ev.add | with_reducible apply Ev.sub | with_reducible apply Ev.neg | exact Ev.lit _ | (decide +kernel)))
    have q2 : wrap64 (s * s * s) = s * s * s := by (apply Ev.e; repeat' (first | with_reducible assumption | with_reducible apply Ev.wrap | with_reducible apply Ev.mul | with_reducible apply Ev.add | with_reducible apply Ev.sub | with_reducible apply Ev.neg | exact Ev.lit _ | (decide +kernel)))
    have q3 : wrap64 (2 * s * x) = 2 * s * x := by (apply Ev.e; repeat' (first | with_reducible assumption | with_reducible apply Ev.wrap | with_reducible apply Ev.mul | with_reducible apply Ev.add | with_reducible apply Ev.sub | with_reducible apply Ev.neg | exact Ev.lit _ | (decide +kernel)))
    have q4 : wrap64 (2 * s * x * x) = 2 * s * x * x := by (apply Ev.e; repeat' (first | with_reducible assumption | with_reducible apply Ev.wrap | with_reducible apply Ev.mul | with_reducible apply Ev.add | with_reducible apply Ev.sub | with_reducible apply Ev.neg | exact Ev.lit _ | (decide +kernel)))
    have q5 : wrap64 (s * s * s - 2 * s * x * x) = s * s * s - 2 * s * x * x := by (apply Ev.e; repeat' (first | with_reducible assumption | with_reducible apply Ev.wrap | with_reducible apply Ev.mul | with_reducible apply Ev.add | with_reducible apply Ev.sub | with_reducible apply Ev.neg | exact Ev.lit _ | (decide +kernel)))
    have q6 : wrap64 (x * x) = x * x := by (apply Ev.e; repeat' (first | with_reducible assumption | with_reducible apply Ev.wrap | with_reducible apply Ev.mul | with_reducible apply Ev.add | with_reducible apply Ev.sub | with_reducible apply Ev.neg | exact Ev.lit _ | (decide +kernel)))
    have q7 : wrap64 (x * x * x) = x * x * x := by (apply Ev.e; repeat' (first | with_reducible assumption | with_reducible apply Ev.wrap | with_reducible apply Ev.mul | with_reducible apply Ev.add | with_reducible apply Ev.sub | with_reducible apply Ev.neg | exact Ev.lit _ | (decide +kernel)))
    have q8 : wrap64 (s * s * s - 2 * s * x * x + x * x * x) = s * s * s - 2 * s * x * x + x * x * x := by (apply Ev.e; repeat' (first | with_reducible assumption | with_reducible apply Ev.wrap | with_reducible apply Ev.mul | with_reducible apply Ev.add | with_reducible apply Ev.sub | with_reducible apply Ev.neg | exact Ev.lit _ | (decide +kernel)))
    have q9 : wrap64 (S * x * (s * s * s - 2 * s * x * x + x * x * x)) = S * x * (s * s * s - 2 * s * x * x + x * x * x) := by (apply Ev.e; repeat' (first | with_reducible assumption | with_reducible apply Ev.wrap | with_reducible apply Ev.mul | with_reducible apply Ev.add | with_reducible apply Ev.sub | with_reducible apply Ev.neg | exact Ev.lit _ | (decide +kernel)))
    clear E1 E3 E4
    go_enter Try.func161, Try.ntmps161
    go_wp2
    go_ret
    exact ⟨ret_int (by first | rfl | exact q9), (Below.refl _ _).alloc (Nat.le_refl _) _⟩
  · simp only [show ((1 : Int) == 1) = true from rfl, cond_true]
    have q0 : wrap64 (S * x) = S * x := by (apply Ev.e; repeat' (first | with_reducible assumption | with_reducible apply Ev.wrap | with_reducible apply Ev.mul | with_reducible apply Ev.add | with_reducible apply Ev.sub | with_reducible apply Ev.neg | exact Ev.lit _ | (decide +kernel)))
    have q1 : wrap64 (S * x * x) = S * x * x := by (apply Ev.e; repeat' (first | with_reducible assumption | with_reducible apply Ev.wrap | with_reducible apply Ev.mul | with_reducible apply Ev.add | with_reducible apply Ev.sub | with_reducible apply Ev.neg | exact Ev.lit _ | (decide +kernel)))
    have q2 : wrap64 (x * x) = x * x := by (apply Ev.e; repeat' (first | with_reducible assumption | with_reducible apply Ev.wrap | with_reducible apply Ev.mul | with_reducible apply Ev.add | with_reducible apply Ev.sub | with_reducible apply Ev.neg | exact Ev.lit _ | (decide +kernel)))
    have q3 : wrap64 (4 * s * x) = 4 * s * x := by (apply Ev.e; repeat' (first | with_reducible assumption | with_reducible apply Ev.wrap | with_reducible apply Ev.mul | with_reducible apply Ev.add | with_reducible apply Ev.sub | with_reducible apply Ev.neg | exact Ev.lit _ | (decide +kernel)))
    have q4 : wrap64 (x * x - 4 * s * x) = x * x - 4 * s * x := by (apply Ev.e; repeat' (first | with_reducible assumption | with_reducible apply Ev.wrap | with_reducible apply Ev.mul | with_reducible apply Ev.add | with_reducible apply Ev.sub | with_reducible apply Ev.neg | exact Ev.lit _ | (decide +kernel)))
    have q5 : wrap64 (6 * s * s) = 6 * s * s := by (apply Ev.e; repeat' (first | with_reducible assumption | with_reducible apply Ev.wrap | with_reducible apply Ev.mul | with_reducible apply Ev.add | with_reducible apply Ev.sub | with_reducible apply Ev.neg | exact Ev.lit _ | (decide +kernel)))
    have q6 : wrap64 (x * x - 4 * s * x + 6 * s * s) = x * x - 4 * s * x + 6 * s * s := by (apply Ev.e; repeat' (first | with_reducible assumption | with_reducible apply Ev.wrap | with_reducible apply Ev.mul | with_reducible apply Ev.add | with_reducible apply Ev.sub | with_reducible apply Ev.neg | exact Ev.lit _ | (decide +kernel)))
    have q7 : wrap64 (S * x * x * (x * x - 4 * s * x + 6 * s * s)) = S * x * x * (x * x - 4 * s * x + 6 * s * s) := by (apply Ev.e; repeat' (first | with_reducible assumption | with_reducible apply Ev.wrap | with_reducible apply Ev.mul | with_reducible apply Ev.add | with_reducible apply Ev.sub | with_reducible apply Ev.neg | exact Ev.lit _ | (decide +kernel)))
    clear E1 E3 E4
    go_enter Try.func161, Try.ntmps161
    go_wp2
    go_ret
    exact ⟨ret_int (by first | rfl | exact q7), (Below.refl _ _).alloc (Nat.le_refl _) _⟩
/-! ### Bounds -/
theorem sg_bds {b : Bm} {p : Pt} {S x : Int} (hb : BmOk b) (x0 : 0 ≤ x) (x1 : x ≤ b.s) : (PtOk b.s p → (ptS b x p).natAbs ≤ 600000000000000000) ∧ (-20000 ≤ S → S ≤ 20000 → (spS b S x).natAbs ≤ 3600000000000000000) := by
  have E1 : Ev b.s b.s 2000 := .of (by have := hb.s0; have := hb.s1; omega)
  have E4 : Ev x x 2000 := .of (by have := hb.s1; omega)
  have hs := hb.e0
  constructor
  · intro hp
    have E2 : Ev p.a p.a 2000 := .of (by have := hp.a0; have := hp.a1; have := hb.s1; omega)
    have E3 : Ev p.n p.n 2000 := .of (by have := hp.n0; have := hp.n1; omega)
    have E5 : Ev (b.s - p.a) (b.s - p.a) 2000 := .of (by have := hp.a0; have := hp.a1; have := hb.s1; omega)
    have E6 : Ev (b.s - x) (b.s - x) 2000 := .of (by have := hb.s1; omega)
    unfold ptS sgP
    rcases hs with e | e <;> rw [e] <;> cases decide (p.a < x)
    · exact ev_bd (Ev.mul (Ev.mul (Ev.mul (Ev.mul (Ev.lit 4) E3) E5) E4) (Ev.sub (Ev.sub (Ev.mul E1 E1) (Ev.mul E5 E5)) (Ev.mul E4 E4))) (by decide +kernel)
    · exact ev_bd (Ev.mul (Ev.mul (Ev.mul (Ev.mul (Ev.lit 4) E3) E6) E2) (Ev.sub (Ev.sub (Ev.mul E1 E1) (Ev.mul E6 E6)) (Ev.mul E2 E2))) (by decide +kernel)
    · exact ev_bd (Ev.mul (Ev.mul (Ev.mul (Ev.mul (Ev.mul (Ev.lit 4) E1) E3) E4) E4) (Ev.sub (Ev.mul (Ev.lit 3) E2) E4)) (by decide +kernel)
    · exact ev_bd (Ev.mul (Ev.mul (Ev.mul (Ev.mul (Ev.mul (Ev.lit 4) E1) E3) E2) E2) (Ev.sub (Ev.mul (Ev.lit 3) E4) E2)) (by decide +kernel)
  · intro h0 h1
    have E3 : Ev S S 20000 := .of (by omega)
    unfold spS
    rcases hs with e | e <;> rw [e]
    · exact ev_bd (Ev.mul (Ev.mul E3 E4) (Ev.add (Ev.sub (Ev.mul (Ev.mul E1 E1) E1) (Ev.mul (Ev.mul (Ev.mul (Ev.lit 2) E1) E4) E4)) (Ev.mul (Ev.mul E4 E4) E4))) (by decide +kernel)
    · exact ev_bd (Ev.mul (Ev.mul (Ev.mul E3 E4) E4) (Ev.add (Ev.sub (Ev.mul E4 E4) (Ev.mul (Ev.mul (Ev.lit 4) E1) E4)) (Ev.mul (Ev.mul (Ev.lit 6) E1) E1))) (by decide +kernel)
theorem sag_bd {b : Bm} {l : List Pt} {S x : Int} (hb : BmOk b) (hl : WtOk b.s l S) (x0 : 0 ≤ x) (x1 : x ≤ b.s) : (sag b l S x).natAbs ≤ 9000000000000000000 := by
  have h1 := (sg_bds (p := ⟨0, 0⟩) (S := S) hb x0 x1).2 hl.S0 hl.S1
  have h2 := sumL_bd8 (f := ptS b x) hl.len (fun p hp => (sg_bds (S := 0) hb x0 x1).1 (hl.pt p hp))
  unfold sag
  omega
end Go.Proofs.Ytablphoicidlkaa
