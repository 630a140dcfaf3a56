/- Walks over the solid seat: where a turn takes a vector. -/
import Derived.Test.YtcboppdjjpeeoaaGreatQ8
namespace Go.Proofs.YtcboppdjjpeeoaaGreat
open Go.RowKit

theorem sign_near {s x : Int} (hs : s = 1 ∨ s = -1) (h : -600000 ≤ x ∧ x ≤ 600000) : -600000 ≤ s * x ∧ s * x ≤ 600000 := by
  rcases hs with rfl | rfl <;> omega
set_option maxHeartbeats 4000000 in
set_option maxRecDepth 20000 in
theorem image_0 {s0 s1 s2 x y z : Int} (hs : (s0 = 1 ∨ s0 = -1) ∧ (s1 = 1 ∨ s1 = -1) ∧ (s2 = 1 ∨ s2 = -1)) (hx : -600000 ≤ x ∧ x ≤ 600000) (hy : -600000 ≤ y ∧ y ≤ 600000) (hz : -600000 ≤ z ∧ z ≤ 600000) (w : World) :
    Calls Tryz.prog 78 #[.agg #[.int .i64 0, .int .i64 1, .int .i64 2, .int .i64 s0, .int .i64 s1, .int .i64 s2], .agg #[.int .i64 x, .int .i64 y, .int .i64 z]] w fun e w' => e = .returned (.agg #[.int .i64 (s0 * x), .int .i64 (s1 * y), .int .i64 (s2 * z)]) ∧ Below w.heap.size w w' := by
  obtain ⟨m0a, m0b⟩ := sign_near hs.1 hx
  obtain ⟨m1a, m1b⟩ := sign_near hs.2.1 hy
  obtain ⟨m2a, m2b⟩ := sign_near hs.2.2 hz
  clear hs hx hy hz
  go_enter Tryz.func78, Tryz.ntmps78
  go_wp2
  refine wp_loop_rounds 4 ?_
  rw [rounds_succ]
  go_wp2
  go_region
  go_wp2
  rw [rounds_succ]
  go_wp2
  go_region
  go_wp2
  rw [rounds_succ]
  go_wp2
  go_region
  go_wp2
  rw [rounds_succ]
  go_wp2
  refine bodyPost_ret (by simp [results, Tryz.results78, go_sem]) rfl ⟨rfl, ?_⟩
  go_grown
set_option maxHeartbeats 4000000 in
set_option maxRecDepth 20000 in
theorem image_1 {s0 s1 s2 x y z : Int} (hs : (s0 = 1 ∨ s0 = -1) ∧ (s1 = 1 ∨ s1 = -1) ∧ (s2 = 1 ∨ s2 = -1)) (hx : -600000 ≤ x ∧ x ≤ 600000) (hy : -600000 ≤ y ∧ y ≤ 600000) (hz : -600000 ≤ z ∧ z ≤ 600000) (w : World) :
    Calls Tryz.prog 78 #[.agg #[.int .i64 0, .int .i64 2, .int .i64 1, .int .i64 s0, .int .i64 s1, .int .i64 s2], .agg #[.int .i64 x, .int .i64 y, .int .i64 z]] w fun e w' => e = .returned (.agg #[.int .i64 (s0 * x), .int .i64 (s1 * z), .int .i64 (s2 * y)]) ∧ Below w.heap.size w w' := by
  obtain ⟨m0a, m0b⟩ := sign_near hs.1 hx
  obtain ⟨m1a, m1b⟩ := sign_near hs.2.1 hz
  obtain ⟨m2a, m2b⟩ := sign_near hs.2.2 hy
  clear hs hx hy hz
  go_enter Tryz.func78, Tryz.ntmps78
  go_wp2
  refine wp_loop_rounds 4 ?_
  rw [rounds_succ]
  go_wp2
  go_region
  go_wp2
  rw [rounds_succ]
  go_wp2
  go_region
  go_wp2
  rw [rounds_succ]
  go_wp2
  go_region
  go_wp2
  rw [rounds_succ]
  go_wp2
  refine bodyPost_ret (by simp [results, Tryz.results78, go_sem]) rfl ⟨rfl, ?_⟩
  go_grown
set_option maxHeartbeats 4000000 in
set_option maxRecDepth 20000 in
theorem image_2 {s0 s1 s2 x y z : Int} (hs : (s0 = 1 ∨ s0 = -1) ∧ (s1 = 1 ∨ s1 = -1) ∧ (s2 = 1 ∨ s2 = -1)) (hx : -600000 ≤ x ∧ x ≤ 600000) (hy : -600000 ≤ y ∧ y ≤ 600000) (hz : -600000 ≤ z ∧ z ≤ 600000) (w : World) :
    Calls Tryz.prog 78 #[.agg #[.int .i64 1, .int .i64 0, .int .i64 2, .int .i64 s0, .int .i64 s1, .int .i64 s2], .agg #[.int .i64 x, .int .i64 y, .int .i64 z]] w fun e w' => e = .returned (.agg #[.int .i64 (s0 * y), .int .i64 (s1 * x), .int .i64 (s2 * z)]) ∧ Below w.heap.size w w' := by
  obtain ⟨m0a, m0b⟩ := sign_near hs.1 hy
  obtain ⟨m1a, m1b⟩ := sign_near hs.2.1 hx
  obtain ⟨m2a, m2b⟩ := sign_near hs.2.2 hz
  clear hs hx hy hz
  go_enter Tryz.func78, Tryz.ntmps78
  go_wp2
  refine wp_loop_rounds 4 ?_
  rw [rounds_succ]
  go_wp2
  go_region
  go_wp2
  rw [rounds_succ]
  go_wp2
  go_region
  go_wp2
  rw [rounds_succ]
  go_wp2
  go_region
  go_wp2
  rw [rounds_succ]
  go_wp2
  refine bodyPost_ret (by simp [results, Tryz.results78, go_sem]) rfl ⟨rfl, ?_⟩
  go_grown
set_option maxHeartbeats 4000000 in
set_option maxRecDepth 20000 in
theorem image_3 {s0 s1 s2 x y z : Int} (hs : (s0 = 1 ∨ s0 = -1) ∧ (s1 = 1 ∨ s1 = -1) ∧ (s2 = 1 ∨ s2 = -1)) (hx : -600000 ≤ x ∧ x ≤ 600000) (hy : -600000 ≤ y ∧ y ≤ 600000) (hz : -600000 ≤ z ∧ z ≤ 600000) (w : World) :
    Calls Tryz.prog 78 #[.agg #[.int .i64 1, .int .i64 2, .int .i64 0, .int .i64 s0, .int .i64 s1, .int .i64 s2], .agg #[.int .i64 x, .int .i64 y, .int .i64 z]] w fun e w' => e = .returned (.agg #[.int .i64 (s0 * y), .int .i64 (s1 * z), .int .i64 (s2 * x)]) ∧ Below w.heap.size w w' := by
  obtain ⟨m0a, m0b⟩ := sign_near hs.1 hy
  obtain ⟨m1a, m1b⟩ := sign_near hs.2.1 hz
  obtain ⟨m2a, m2b⟩ := sign_near hs.2.2 hx
  clear hs hx hy hz
  go_enter Tryz.func78, Tryz.ntmps78
  go_wp2
  refine wp_loop_rounds 4 ?_
  rw [rounds_succ]
  go_wp2
  go_region
  go_wp2
  rw [rounds_succ]
  go_wp2
  go_region
  go_wp2
  rw [rounds_succ]
  go_wp2
  go_region
  go_wp2
  rw [rounds_succ]
  go_wp2
  refine bodyPost_ret (by simp [results, Tryz.results78, go_sem]) rfl ⟨rfl, ?_⟩
  go_grown
set_option maxHeartbeats 4000000 in
set_option maxRecDepth 20000 in
theorem image_4 {s0 s1 s2 x y z : Int} (hs : (s0 = 1 ∨ s0 = -1) ∧ (s1 = 1 ∨ s1 = -1) ∧ (s2 = 1 ∨ s2 = -1)) (hx : -600000 ≤ x ∧ x ≤ 600000) (hy : -600000 ≤ y ∧ y ≤ 600000) (hz : -600000 ≤ z ∧ z ≤ 600000) (w : World) :
    Calls Tryz.prog 78 #[.agg #[.int .i64 2, .int .i64 0, .int .i64 1, .int .i64 s0, .int .i64 s1, .int .i64 s2], .agg #[.int .i64 x, .int .i64 y, .int .i64 z]] w fun e w' => e = .returned (.agg #[.int .i64 (s0 * z), .int .i64 (s1 * x), .int .i64 (s2 * y)]) ∧ Below w.heap.size w w' := by
  obtain ⟨m0a, m0b⟩ := sign_near hs.1 hz
  obtain ⟨m1a, m1b⟩ := sign_near hs.2.1 hx
  obtain ⟨m2a, m2b⟩ := sign_near hs.2.2 hy
  clear hs hx hy hz
  go_enter Tryz.func78, Tryz.ntmps78
  go_wp2
  refine wp_loop_rounds 4 ?_
  rw [rounds_succ]
  go_wp2
  go_region
  go_wp2
  rw [rounds_succ]
  go_wp2
  go_region
  go_wp2
  rw [rounds_succ]
  go_wp2
  go_region
  go_wp2
  rw [rounds_succ]
  go_wp2
  refine bodyPost_ret (by simp [results, Tryz.results78, go_sem]) rfl ⟨rfl, ?_⟩
  go_grown
set_option maxHeartbeats 4000000 in
set_option maxRecDepth 20000 in
theorem image_5 {s0 s1 s2 x y z : Int} (hs : (s0 = 1 ∨ s0 = -1) ∧ (s1 = 1 ∨ s1 = -1) ∧ (s2 = 1 ∨ s2 = -1)) (hx : -600000 ≤ x ∧ x ≤ 600000) (hy : -600000 ≤ y ∧ y ≤ 600000) (hz : -600000 ≤ z ∧ z ≤ 600000) (w : World) :
    Calls Tryz.prog 78 #[.agg #[.int .i64 2, .int .i64 1, .int .i64 0, .int .i64 s0, .int .i64 s1, .int .i64 s2], .agg #[.int .i64 x, .int .i64 y, .int .i64 z]] w fun e w' => e = .returned (.agg #[.int .i64 (s0 * z), .int .i64 (s1 * y), .int .i64 (s2 * x)]) ∧ Below w.heap.size w w' := by
  obtain ⟨m0a, m0b⟩ := sign_near hs.1 hz
  obtain ⟨m1a, m1b⟩ := sign_near hs.2.1 hy
  obtain ⟨m2a, m2b⟩ := sign_near hs.2.2 hx
  clear hs hx hy hz
  go_enter Tryz.func78, Tryz.ntmps78
  go_wp2
  refine wp_loop_rounds 4 ?_
  rw [rounds_succ]
  go_wp2
  go_region
  go_wp2
  rw [rounds_succ]
  go_wp2
  go_region
  go_wp2
  rw [rounds_succ]
  go_wp2
  go_region
  go_wp2
  rw [rounds_succ]
  go_wp2
  refine bodyPost_ret (by simp [results, Tryz.results78, go_sem]) rfl ⟨rfl, ?_⟩
  go_grown
theorem image_any {t : Sg} (ht : t.Ok) (hp : Perm3 t) {x y z : Int} (hv : nearB x y z = true) (w : World) :
    Calls Tryz.prog 78 #[sgV t, .agg #[.int .i64 x, .int .i64 y, .int .i64 z]] w fun e w' => e = .returned (.agg #[.int .i64 (t.image ⟨x, y, z⟩).x, .int .i64 (t.image ⟨x, y, z⟩).y, .int .i64 (t.image ⟨x, y, z⟩).z]) ∧ Below w.heap.size w w' := by
  obtain ⟨hx, hy, hz⟩ := near_of hv
  obtain ⟨-, -, -, hs⟩ := ht
  obtain ⟨p0, p1, p2, s0, s1, s2⟩ := t
  simp only at hs
  rcases hp with ⟨h0, h1, h2⟩ | ⟨h0, h1, h2⟩ | ⟨h0, h1, h2⟩ | ⟨h0, h1, h2⟩ | ⟨h0, h1, h2⟩ | ⟨h0, h1, h2⟩
  · simp only at h0 h1 h2; subst h0 h1 h2; exact image_0 hs hx hy hz w
  · simp only at h0 h1 h2; subst h0 h1 h2; exact image_1 hs hx hy hz w
  · simp only at h0 h1 h2; subst h0 h1 h2; exact image_2 hs hx hy hz w
  · simp only at h0 h1 h2; subst h0 h1 h2; exact image_3 hs hx hy hz w
  · simp only at h0 h1 h2; subst h0 h1 h2; exact image_4 hs hx hy hz w
  · simp only at h0 h1 h2; subst h0 h1 h2; exact image_5 hs hx hy hz w
theorem image_near {t : Sg} (ht : t.Ok) {v : V3} (hv : nearB v.x v.y v.z = true) : nearB (t.image v).x (t.image v).y (t.image v).z = true := by
  obtain ⟨hx, hy, hz⟩ := near_of hv
  obtain ⟨h0, h1, h2, hs⟩ := ht
  have hat : ∀ i, -600000 ≤ v.at i ∧ v.at i ≤ 600000 := fun i => by
    unfold V3.at selI
    cases decide (i = 0) <;> cases decide (i = 1) <;> simp <;> omega
  have a0 := sign_near hs.1 (hat t.p0)
  have a1 := sign_near hs.2.1 (hat t.p1)
  have a2 := sign_near hs.2.2 (hat t.p2)
  exact near_iff.2 ⟨a0, a1, a2⟩
end Go.Proofs.YtcboppdjjpeeoaaGreat
