/- Walks over beams: reactions. -/
import Derived.Test.YtablphoicidlkaaSE
namespace Go.Proofs.Ytablphoicidlkaa
open Go.RowKit

set_option maxHeartbeats 1000000 in
theorem toPoint_any {b : Bm} {p : Pt} (hb : BmOk b) (hp : PtOk b.s p) (w : World) :
    Calls Try.prog 141 #[bmV b, .int .i64 p.a, .int .i64 p.n] w fun e w' => e = .returned (.agg #[.int .i64 (ptR b p), .int .i64 (ptQ b p), .int .i64 (ptM b p)]) ∧ Below w.heap.size w w' := by
  obtain ⟨s, ww, t, en⟩ := b
  obtain ⟨a, v⟩ := p
  obtain ⟨s0, s1, w0, w1, t0, t1, e0⟩ := hb
  obtain ⟨a0, a1, n0, n1⟩ := hp
  simp only at s0 s1 e0 a0 a1 n0 n1
  unfold bmV ptR ptQ ptM
  simp only
  clear w0 w1 t0 t1
  have E1 : Ev s s 2000 := .of (by omega)
  have E2 : Ev a a 2000 := .of (by omega)
  have E3 : Ev v v 2000 := .of (by omega)
  rcases e0 with rfl | rfl
  · simp only [show ((0 : Int) == 1) = false from rfl, cond_false]
    go_enter Try.func141, Try.ntmps141
    go_wp2
    have e0 : wrap64 (2 * v * (s - a)) = 2 * v * (s - a) := by (apply Ev.e; repeat' (first | with_reducible assumption | with_reducible apply Ev.wrap | with_reducible apply Ev.mul | with_reducible apply Ev.add | with_reducible apply Ev.sub | with_reducible apply Ev.neg | exact Ev.lit _ | (decide +kernel)))
    have e1 : wrap64 (2 * v * a) = 2 * v * a := by (apply Ev.e; repeat' (first | with_reducible assumption | with_reducible apply Ev.wrap | with_reducible apply Ev.mul | with_reducible apply Ev.add | with_reducible apply Ev.sub | with_reducible apply Ev.neg | exact Ev.lit _ | (decide +kernel)))
    refine bodyPost_ret (v := .agg #[.int .i64 (wrap64 (2 * v * (s - a))), .int .i64 (wrap64 (2 * v * a)), .int .i64 (0)]) (by simp [results, Try.results141, go_sem]) rfl ⟨by rw [e0]; rw [e1]; skip, ((Below.refl _ _).alloc (Nat.le_refl _) _).alloc (by simp) _⟩
  · simp only [show ((1 : Int) == 1) = true from rfl, cond_true]
    go_enter Try.func141, Try.ntmps141
    go_wp2
    have e0 : wrap64 (2 * s * v) = 2 * s * v := by (apply Ev.e; repeat' (first | with_reducible assumption | with_reducible apply Ev.wrap | with_reducible apply Ev.mul | with_reducible apply Ev.add | with_reducible apply Ev.sub | with_reducible apply Ev.neg | exact Ev.lit _ | (decide +kernel)))
    have e2 : wrap64 (wrap64 (-2 * s * v) * a) = -2 * s * v * a := by (apply Ev.e; repeat' (first | with_reducible assumption | with_reducible apply Ev.wrap | with_reducible apply Ev.mul | with_reducible apply Ev.add | with_reducible apply Ev.sub | with_reducible apply Ev.neg | exact Ev.lit _ | (decide +kernel)))
    refine bodyPost_ret (v := .agg #[.int .i64 (wrap64 (2 * s * v)), .int .i64 (0), .int .i64 (wrap64 (wrap64 (-2 * s * v) * a))]) (by simp [results, Try.results141, go_sem]) rfl ⟨by rw [e0]; rw [e2]; skip, ((Below.refl _ _).alloc (Nat.le_refl _) _).alloc (by simp) _⟩
set_option maxHeartbeats 1000000 in
theorem toSpread_any {b : Bm} {S : Int} (hb : BmOk b) (h0 : -20000 ≤ S) (h1 : S ≤ 20000) (w : World) :
    Calls Try.prog 140 #[bmV b, .int .i64 S] w fun e w' => e = .returned (.agg #[.int .i64 (spR b S), .int .i64 (spQ b S), .int .i64 (spM b S)]) ∧ Below w.heap.size w w' := by
  obtain ⟨s, ww, t, en⟩ := b
  obtain ⟨s0, s1, w0, w1, t0, t1, e0⟩ := hb
  simp only at s0 s1 e0
  unfold bmV spR spQ spM
  simp only
  clear w0 w1 t0 t1
  have E1 : Ev s s 2000 := .of (by omega)
  have E3 : Ev S S 20000 := .of (by omega)
  rcases e0 with rfl | rfl
  · simp only [show ((0 : Int) == 1) = false from rfl, cond_false]
    go_enter Try.func140, Try.ntmps140
    go_wp2
    have e0 : wrap64 (S * s) = S * s := by (apply Ev.e; repeat' (first | with_reducible assumption | with_reducible apply Ev.wrap | with_reducible apply Ev.mul | with_reducible apply Ev.add | with_reducible apply Ev.sub | with_reducible apply Ev.neg | exact Ev.lit _ | (decide +kernel)))
    refine bodyPost_ret (v := .agg #[.int .i64 (wrap64 (S * s)), .int .i64 (wrap64 (S * s)), .int .i64 (0)]) (by simp [results, Try.results140, go_sem]) rfl ⟨by rw [e0]; skip, ((Below.refl _ _).alloc (Nat.le_refl _) _).alloc (by simp) _⟩
  · simp only [show ((1 : Int) == 1) = true from rfl, cond_true]
    go_enter Try.func140, Try.ntmps140
    go_wp2
    have e0 : wrap64 (2 * s * S) = 2 * s * S := by (apply Ev.e; repeat' (first | with_reducible assumption | with_reducible apply Ev.wrap | with_reducible apply Ev.mul | with_reducible apply Ev.add | with_reducible apply Ev.sub | with_reducible apply Ev.neg | exact Ev.lit _ | (decide +kernel)))
    have e2 : wrap64 (wrap64 (-S * s) * s) = -S * s * s := by (apply Ev.e; repeat' (first | with_reducible assumption | with_reducible apply Ev.wrap | with_reducible apply Ev.mul | with_reducible apply Ev.add | with_reducible apply Ev.sub | with_reducible apply Ev.neg | exact Ev.lit _ | (decide +kernel)))
    refine bodyPost_ret (v := .agg #[.int .i64 (wrap64 (2 * s * S)), .int .i64 (0), .int .i64 (wrap64 (wrap64 (-S * s) * s))]) (by simp [results, Try.results140, go_sem]) rfl ⟨by rw [e0]; rw [e2]; skip, ((Below.refl _ _).alloc (Nat.le_refl _) _).alloc (by simp) _⟩
end Go.Proofs.Ytablphoicidlkaa
