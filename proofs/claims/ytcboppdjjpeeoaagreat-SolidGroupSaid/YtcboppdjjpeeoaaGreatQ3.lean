/- Walks over the solid seat: what does one turn and then another one. -/
import Derived.Test.YtcboppdjjpeeoaaGreatQ2
namespace Go.Proofs.YtcboppdjjpeeoaaGreat
open Go.RowKit

def sgV (t : Sg) : Value := .agg #[.int .i64 t.p0, .int .i64 t.p1, .int .i64 t.p2, .int .i64 t.s0, .int .i64 t.s1, .int .i64 t.s2]
def Perm3 (t : Sg) : Prop := (t.p0 = 0 ∧ t.p1 = 1 ∧ t.p2 = 2) ∨ (t.p0 = 0 ∧ t.p1 = 2 ∧ t.p2 = 1) ∨ (t.p0 = 1 ∧ t.p1 = 0 ∧ t.p2 = 2) ∨ (t.p0 = 1 ∧ t.p1 = 2 ∧ t.p2 = 0) ∨ (t.p0 = 2 ∧ t.p1 = 0 ∧ t.p2 = 1) ∨ (t.p0 = 2 ∧ t.p1 = 1 ∧ t.p2 = 0)
theorem run_index76 (x y z i v : Int) (h : (i = 0 ∧ v = x) ∨ (i = 1 ∧ v = y) ∨ (i = 2 ∧ v = z)) (w : World) :
    (Instr.index 76 (.agg #[.int .i64 x, .int .i64 y, .int .i64 z]) (.int .i64 i)).run Tryz.prog w = .ok (.int .i64 v) w := by
  rcases h with ⟨rfl, rfl⟩ | ⟨rfl, rfl⟩ | ⟨rfl, rfl⟩
  all_goals
    simp [Instr.index, run_underlying Tryz.underlying76, Result.andThen, asIntOf, go_sem]
theorem sign_mul {a b : Int} (ha : a = 1 ∨ a = -1) (hb : b = 1 ∨ b = -1) : -1 ≤ a * b ∧ a * b ≤ 1 := by
  rcases ha with rfl | rfl <;> rcases hb with rfl | rfl <;> decide
set_option maxHeartbeats 4000000 in
set_option maxRecDepth 20000 in
theorem before_0 {tp0 tp1 tp2 ts0 ts1 ts2 us0 us1 us2 : Int} (hts : (ts0 = 1 ∨ ts0 = -1) ∧ (ts1 = 1 ∨ ts1 = -1) ∧ (ts2 = 1 ∨ ts2 = -1)) (hus : (us0 = 1 ∨ us0 = -1) ∧ (us1 = 1 ∨ us1 = -1) ∧ (us2 = 1 ∨ us2 = -1)) (w : World) :
    Calls Tryz.prog 77 #[.agg #[.int .i64 tp0, .int .i64 tp1, .int .i64 tp2, .int .i64 ts0, .int .i64 ts1, .int .i64 ts2], .agg #[.int .i64 0, .int .i64 1, .int .i64 2, .int .i64 us0, .int .i64 us1, .int .i64 us2]] w fun e w' => e = .returned (.agg #[.int .i64 tp0, .int .i64 tp1, .int .i64 tp2, .int .i64 (us0 * ts0), .int .i64 (us1 * ts1), .int .i64 (us2 * ts2)]) ∧ Below w.heap.size w w' := by
  have hix := run_index76 0 1 2 _ _ (.inl ⟨rfl, rfl⟩)
  have hiy := run_index76 0 1 2 _ _ (.inr (.inl ⟨rfl, rfl⟩))
  have hiz := run_index76 0 1 2 _ _ (.inr (.inr ⟨rfl, rfl⟩))
  obtain ⟨m0a, m0b⟩ := sign_mul hus.1 hts.1
  obtain ⟨m1a, m1b⟩ := sign_mul hus.2.1 hts.2.1
  obtain ⟨m2a, m2b⟩ := sign_mul hus.2.2 hts.2.2
  clear hts hus
  go_enter Tryz.func77, Tryz.ntmps77
  go_wp2
  refine wp_loop_rounds 4 ?_
  rw [rounds_succ]
  go_wp2
  go_region
  go_wp2
  rw [rounds_succ]
  go_wp2
  go_region
  go_wp2
  rw [rounds_succ]
  go_wp2
  go_region
  go_wp2
  rw [rounds_succ]
  go_wp2
  refine bodyPost_ret (by simp [results, Tryz.results77, go_sem]) rfl ⟨rfl, ?_⟩
  go_grown
set_option maxHeartbeats 4000000 in
set_option maxRecDepth 20000 in
theorem before_1 {tp0 tp1 tp2 ts0 ts1 ts2 us0 us1 us2 : Int} (hts : (ts0 = 1 ∨ ts0 = -1) ∧ (ts1 = 1 ∨ ts1 = -1) ∧ (ts2 = 1 ∨ ts2 = -1)) (hus : (us0 = 1 ∨ us0 = -1) ∧ (us1 = 1 ∨ us1 = -1) ∧ (us2 = 1 ∨ us2 = -1)) (w : World) :
    Calls Tryz.prog 77 #[.agg #[.int .i64 tp0, .int .i64 tp1, .int .i64 tp2, .int .i64 ts0, .int .i64 ts1, .int .i64 ts2], .agg #[.int .i64 0, .int .i64 2, .int .i64 1, .int .i64 us0, .int .i64 us1, .int .i64 us2]] w fun e w' => e = .returned (.agg #[.int .i64 tp0, .int .i64 tp2, .int .i64 tp1, .int .i64 (us0 * ts0), .int .i64 (us1 * ts2), .int .i64 (us2 * ts1)]) ∧ Below w.heap.size w w' := by
  have hix := run_index76 0 2 1 _ _ (.inl ⟨rfl, rfl⟩)
  have hiy := run_index76 0 2 1 _ _ (.inr (.inl ⟨rfl, rfl⟩))
  have hiz := run_index76 0 2 1 _ _ (.inr (.inr ⟨rfl, rfl⟩))
  obtain ⟨m0a, m0b⟩ := sign_mul hus.1 hts.1
  obtain ⟨m1a, m1b⟩ := sign_mul hus.2.1 hts.2.2
  obtain ⟨m2a, m2b⟩ := sign_mul hus.2.2 hts.2.1
  clear hts hus
  go_enter Tryz.func77, Tryz.ntmps77
  go_wp2
  refine wp_loop_rounds 4 ?_
  rw [rounds_succ]
  go_wp2
  go_region
  go_wp2
  rw [rounds_succ]
  go_wp2
  go_region
  go_wp2
  rw [rounds_succ]
  go_wp2
  go_region
  go_wp2
  rw [rounds_succ]
  go_wp2
  refine bodyPost_ret (by simp [results, Tryz.results77, go_sem]) rfl ⟨rfl, ?_⟩
  go_grown
set_option maxHeartbeats 4000000 in
set_option maxRecDepth 20000 in
theorem before_2 {tp0 tp1 tp2 ts0 ts1 ts2 us0 us1 us2 : Int} (hts : (ts0 = 1 ∨ ts0 = -1) ∧ (ts1 = 1 ∨ ts1 = -1) ∧ (ts2 = 1 ∨ ts2 = -1)) (hus : (us0 = 1 ∨ us0 = -1) ∧ (us1 = 1 ∨ us1 = -1) ∧ (us2 = 1 ∨ us2 = -1)) (w : World) :
    Calls Tryz.prog 77 #[.agg #[.int .i64 tp0, .int .i64 tp1, .int .i64 tp2, .int .i64 ts0, .int .i64 ts1, .int .i64 ts2], .agg #[.int .i64 1, .int .i64 0, .int .i64 2, .int .i64 us0, .int .i64 us1, .int .i64 us2]] w fun e w' => e = .returned (.agg #[.int .i64 tp1, .int .i64 tp0, .int .i64 tp2, .int .i64 (us0 * ts1), .int .i64 (us1 * ts0), .int .i64 (us2 * ts2)]) ∧ Below w.heap.size w w' := by
  have hix := run_index76 1 0 2 _ _ (.inl ⟨rfl, rfl⟩)
  have hiy := run_index76 1 0 2 _ _ (.inr (.inl ⟨rfl, rfl⟩))
  have hiz := run_index76 1 0 2 _ _ (.inr (.inr ⟨rfl, rfl⟩))
  obtain ⟨m0a, m0b⟩ := sign_mul hus.1 hts.2.1
  obtain ⟨m1a, m1b⟩ := sign_mul hus.2.1 hts.1
  obtain ⟨m2a, m2b⟩ := sign_mul hus.2.2 hts.2.2
  clear hts hus
  go_enter Tryz.func77, Tryz.ntmps77
  go_wp2
  refine wp_loop_rounds 4 ?_
  rw [rounds_succ]
  go_wp2
  go_region
  go_wp2
  rw [rounds_succ]
  go_wp2
  go_region
  go_wp2
  rw [rounds_succ]
  go_wp2
  go_region
  go_wp2
  rw [rounds_succ]
  go_wp2
  refine bodyPost_ret (by simp [results, Tryz.results77, go_sem]) rfl ⟨rfl, ?_⟩
  go_grown
set_option maxHeartbeats 4000000 in
set_option maxRecDepth 20000 in
theorem before_3 {tp0 tp1 tp2 ts0 ts1 ts2 us0 us1 us2 : Int} (hts : (ts0 = 1 ∨ ts0 = -1) ∧ (ts1 = 1 ∨ ts1 = -1) ∧ (ts2 = 1 ∨ ts2 = -1)) (hus : (us0 = 1 ∨ us0 = -1) ∧ (us1 = 1 ∨ us1 = -1) ∧ (us2 = 1 ∨ us2 = -1)) (w : World) :
    Calls Tryz.prog 77 #[.agg #[.int .i64 tp0, .int .i64 tp1, .int .i64 tp2, .int .i64 ts0, .int .i64 ts1, .int .i64 ts2], .agg #[.int .i64 1, .int .i64 2, .int .i64 0, .int .i64 us0, .int .i64 us1, .int .i64 us2]] w fun e w' => e = .returned (.agg #[.int .i64 tp1, .int .i64 tp2, .int .i64 tp0, .int .i64 (us0 * ts1), .int .i64 (us1 * ts2), .int .i64 (us2 * ts0)]) ∧ Below w.heap.size w w' := by
  have hix := run_index76 1 2 0 _ _ (.inl ⟨rfl, rfl⟩)
  have hiy := run_index76 1 2 0 _ _ (.inr (.inl ⟨rfl, rfl⟩))
  have hiz := run_index76 1 2 0 _ _ (.inr (.inr ⟨rfl, rfl⟩))
  obtain ⟨m0a, m0b⟩ := sign_mul hus.1 hts.2.1
  obtain ⟨m1a, m1b⟩ := sign_mul hus.2.1 hts.2.2
  obtain ⟨m2a, m2b⟩ := sign_mul hus.2.2 hts.1
  clear hts hus
  go_enter Tryz.func77, Tryz.ntmps77
  go_wp2
  refine wp_loop_rounds 4 ?_
  rw [rounds_succ]
  go_wp2
  go_region
  go_wp2
  rw [rounds_succ]
  go_wp2
  go_region
  go_wp2
  rw [rounds_succ]
  go_wp2
  go_region
  go_wp2
  rw [rounds_succ]
  go_wp2
  refine bodyPost_ret (by simp [results, Tryz.results77, go_sem]) rfl ⟨rfl, ?_⟩
  go_grown
set_option maxHeartbeats 4000000 in
set_option maxRecDepth 20000 in
theorem before_4 {tp0 tp1 tp2 ts0 ts1 ts2 us0 us1 us2 : Int} (hts : (ts0 = 1 ∨ ts0 = -1) ∧ (ts1 = 1 ∨ ts1 = -1) ∧ (ts2 = 1 ∨ ts2 = -1)) (hus : (us0 = 1 ∨ us0 = -1) ∧ (us1 = 1 ∨ us1 = -1) ∧ (us2 = 1 ∨ us2 = -1)) (w : World) :
    Calls Tryz.prog 77 #[.agg #[.int .i64 tp0, .int .i64 tp1, .int .i64 tp2, .int .i64 ts0, .int .i64 ts1, .int .i64 ts2], .agg #[.int .i64 2, .int .i64 0, .int .i64 1, .int .i64 us0, .int .i64 us1, .int .i64 us2]] w fun e w' => e = .returned (.agg #[.int .i64 tp2, .int .i64 tp0, .int .i64 tp1, .int .i64 (us0 * ts2), .int .i64 (us1 * ts0), .int .i64 (us2 * ts1)]) ∧ Below w.heap.size w w' := by
  have hix := run_index76 2 0 1 _ _ (.inl ⟨rfl, rfl⟩)
  have hiy := run_index76 2 0 1 _ _ (.inr (.inl ⟨rfl, rfl⟩))
  have hiz := run_index76 2 0 1 _ _ (.inr (.inr ⟨rfl, rfl⟩))
  obtain ⟨m0a, m0b⟩ := sign_mul hus.1 hts.2.2
  obtain ⟨m1a, m1b⟩ := sign_mul hus.2.1 hts.1
  obtain ⟨m2a, m2b⟩ := sign_mul hus.2.2 hts.2.1
  clear hts hus
  go_enter Tryz.func77, Tryz.ntmps77
  go_wp2
  refine wp_loop_rounds 4 ?_
  rw [rounds_succ]
  go_wp2
  go_region
  go_wp2
  rw [rounds_succ]
  go_wp2
  go_region
  go_wp2
  rw [rounds_succ]
  go_wp2
  go_region
  go_wp2
  rw [rounds_succ]
  go_wp2
  refine bodyPost_ret (by simp [results, Tryz.results77, go_sem]) rfl ⟨rfl, ?_⟩
  go_grown
set_option maxHeartbeats 4000000 in
set_option maxRecDepth 20000 in
theorem before_5 {tp0 tp1 tp2 ts0 ts1 ts2 us0 us1 us2 : Int} (hts : (ts0 = 1 ∨ ts0 = -1) ∧ (ts1 = 1 ∨ ts1 = -1) ∧ (ts2 = 1 ∨ ts2 = -1)) (hus : (us0 = 1 ∨ us0 = -1) ∧ (us1 = 1 ∨ us1 = -1) ∧ (us2 = 1 ∨ us2 = -1)) (w : World) :
    Calls Tryz.prog 77 #[.agg #[.int .i64 tp0, .int .i64 tp1, .int .i64 tp2, .int .i64 ts0, .int .i64 ts1, .int .i64 ts2], .agg #[.int .i64 2, .int .i64 1, .int .i64 0, .int .i64 us0, .int .i64 us1, .int .i64 us2]] w fun e w' => e = .returned (.agg #[.int .i64 tp2, .int .i64 tp1, .int .i64 tp0, .int .i64 (us0 * ts2), .int .i64 (us1 * ts1), .int .i64 (us2 * ts0)]) ∧ Below w.heap.size w w' := by
  have hix := run_index76 2 1 0 _ _ (.inl ⟨rfl, rfl⟩)
  have hiy := run_index76 2 1 0 _ _ (.inr (.inl ⟨rfl, rfl⟩))
  have hiz := run_index76 2 1 0 _ _ (.inr (.inr ⟨rfl, rfl⟩))
  obtain ⟨m0a, m0b⟩ := sign_mul hus.1 hts.2.2
  obtain ⟨m1a, m1b⟩ := sign_mul hus.2.1 hts.2.1
  obtain ⟨m2a, m2b⟩ := sign_mul hus.2.2 hts.1
  clear hts hus
  go_enter Tryz.func77, Tryz.ntmps77
  go_wp2
  refine wp_loop_rounds 4 ?_
  rw [rounds_succ]
  go_wp2
  go_region
  go_wp2
  rw [rounds_succ]
  go_wp2
  go_region
  go_wp2
  rw [rounds_succ]
  go_wp2
  go_region
  go_wp2
  rw [rounds_succ]
  go_wp2
  refine bodyPost_ret (by simp [results, Tryz.results77, go_sem]) rfl ⟨rfl, ?_⟩
  go_grown
theorem before_any {t u : Sg} (ht : t.Ok) (hu : u.Ok) (hp : Perm3 u) (w : World) :
    Calls Tryz.prog 77 #[sgV t, sgV u] w fun e w' => e = .returned (sgV (t.comp u)) ∧ Below w.heap.size w w' := by
  obtain ⟨-, -, -, hts⟩ := ht
  obtain ⟨-, -, -, hus⟩ := hu
  obtain ⟨tp0, tp1, tp2, ts0, ts1, ts2⟩ := t
  obtain ⟨up0, up1, up2, us0, us1, us2⟩ := u
  simp only at hts hus
  rcases hp with ⟨h0, h1, h2⟩ | ⟨h0, h1, h2⟩ | ⟨h0, h1, h2⟩ | ⟨h0, h1, h2⟩ | ⟨h0, h1, h2⟩ | ⟨h0, h1, h2⟩
  · simp only at h0 h1 h2; subst h0 h1 h2; exact before_0 hts hus w
  · simp only at h0 h1 h2; subst h0 h1 h2; exact before_1 hts hus w
  · simp only at h0 h1 h2; subst h0 h1 h2; exact before_2 hts hus w
  · simp only at h0 h1 h2; subst h0 h1 h2; exact before_3 hts hus w
  · simp only at h0 h1 h2; subst h0 h1 h2; exact before_4 hts hus w
  · simp only at h0 h1 h2; subst h0 h1 h2; exact before_5 hts hus w
end Go.Proofs.YtcboppdjjpeeoaaGreat
