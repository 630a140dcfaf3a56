/- Walks over the fits: exact sizes. -/
import Derived.Test.YtffmaoalnilkkaaFB
import Derived.Deep.QuietTactic
import Derived.BigQuiet
namespace Go.Proofs.Ytffmaoalnilkkaa
open Go.RowKit

theorem below_drewN {B : Nat} {a w : World} (h : Below B a w) (n : Nat) : Below B a (w.drewN n) := ⟨h.os, h.tape, h.output, h.size, h.block⟩
set_option maxHeartbeats 400000 in
theorem millionths_timber {size rate f t : Int} (h : Mov size rate f t) (w : World) :
    Calls Try.prog 101 #[.int .i64 size, .int .i64 rate, .int .i64 f, .int .i64 t] w fun e w' => e = .returned (.int .i64 (millis size rate f t)) ∧ w = w' := by
  obtain ⟨s0, s1, r0, r1, f0, f1, t0, t1⟩ := h
  have hall : ∀ d : Int, -280 ≤ d → d ≤ 280 → d = min t 280 - min f 280 → wrap64 (size * wrap64 (1000000 + wrap64 (rate * wrap64 d))) = millis size rate f t := fun d d0 d1 hd => by
    rw [millis_wrap s0 s1 r0 r1 d0 d1, hd]; rfl
  have H := Lib.hid hall
  clear hall s0 s1 r0 r1
  have F0 := Lib.hid f0; have F1 := Lib.hid f1; have T0 := Lib.hid t0; have T1 := Lib.hid t1
  clear f0 f1 t0 t1
  go_enter Try.func101, Try.ntmps101
  go_wp2
  all_goals
    go_ret
    have f0 := F0.out; have f1 := F1.out; have t0 := T0.out; have t1 := T1.out
    exact ⟨ret_int (H.out _ (by omega) (by omega) (by omega)), rfl⟩
def GcdOut (a b : Nat) (w : World) (e : Ending) (w' : World) : Prop := e = .returned (.int .i64 (Nat.gcd a b : Int)) ∧ ∃ n, w' = w.drewN n
set_option maxHeartbeats 400000 in
theorem gcd_any (a b : Nat) (ha : a ≤ 1000000000000) (hb : b ≤ 1000000000000) (w : World) :
    Calls Try.prog 102 #[.int .i64 a, .int .i64 b] w (GcdOut a b w) := by
  have HA := Lib.hid ha; have HB := Lib.hid hb
  clear ha hb
  go_enter Try.func102, Try.ntmps102
  go_wp2
  go_loopw [0, 1] (fun p q wr => ∃ x y n : Nat, x ≤ 1000000000000 ∧ y ≤ 1000000000000 ∧ Nat.gcd x y = Nat.gcd a b ∧ p = .int .i64 x ∧ q = .int .i64 y ∧ wr = w.drewN n) (fun _ q _ => (intOf q).toNat)
  case atStart => exact ⟨a, b, 0, HA.out, HB.out, rfl, rfl, rfl, rfl⟩
  case round =>
    obtain ⟨x, y, n, hx, hy, hg, rfl, rfl, rfl⟩ := hrel
    have HG := Lib.hid hg
    clear hg
    by_cases h0 : y = 0
    · subst h0
      go_wp2
      go_ret
      exact ⟨ret_int (by rw [← HG.out]; simp), n, rfl⟩
    · have hne : ((y : Int) == 0) = false := by simp; omega
      have hne' : ((y : Int) != 0) = true := by simp; omega
      have ht : (x : Int).tmod (y : Int) = ((x % y : Nat) : Int) := rfl
      have HLT := Lib.hid (Nat.mod_lt x (Nat.pos_of_ne_zero h0))
      have HGR := Lib.hid (Nat.gcd_rec y x)
      have hpos := Lib.hid (Nat.pos_of_ne_zero h0)
      go_wp2
      go_region
      go_wp2
      go_roundw
      case rel => exact ⟨y, x % y, n + 1, hy, by have := HLT.out; omega, by rw [← HG.out, Nat.gcd_comm y, Nat.gcd_comm x y]; exact (Nat.gcd_rec y x).symm, rfl, by simp, rfl⟩
      case measure => have := HLT.out; simp [intOf]; omega
set_option maxHeartbeats 400000 in
/-- No error of a movement whose numbers are within their ends. -/
theorem checkMovement_ok {size rate f t : Int} (h : Mov size rate f t) (w : World) (e : TypeId) {blk : Nat} (hblk : blk = w.heap.size) :
    Calls Try.prog 100 #[.int .i64 size, .int .i64 rate, .slice (some ⟨blk, 0, none⟩) 2 2] (w.alloc (.cells #[.int .i64 f, .int .i64 t] e)) fun e' w' => e' = .returned (.int .i64 0) ∧ Below w.heap.size w w' := by
  subst hblk
  obtain ⟨s0, s1, r0, r1, f0, f1, t0, t1⟩ := h
  have X1 := Lib.hid (allIn_one.2 ⟨s0, s1⟩)
  have X2 := Lib.hid (allIn_one.2 ⟨r0, r1⟩)
  have X3 : Hid (allIn 0 400 [f, t] = true) := Lib.hid (allIn_iff.2 (by simp [f0, f1, t0, t1]))
  clear s0 s1 r0 r1 f0 f1 t0 t1
  obtain ⟨w0, hw0⟩ : ∃ w0, w.alloc (.cells #[.int .i64 f, .int .i64 t] e) = w0 := ⟨_, rfl⟩
  have hs0 : w.heap.size < w0.heap.size := by rw [← hw0]; simp
  have HB0 : Hid (Below w.heap.size w w0) := Lib.hid (by rw [← hw0]; exact (Below.refl _ _).alloc (Nat.le_refl _) _)
  have HC : Hid (∀ k (h : k < [f, t].length), w0.cell? ⟨w.heap.size, 0 + k, none⟩ = some (.int .i64 [f, t][k])) := Lib.hid (fun k h => by
    rw [← hw0, World.cell?_alloc_new]
    match k, h with
    | 0, _ => rfl
    | 1, _ => rfl)
  rw [hw0]
  clear hw0
  go_enter Try.func100, Try.ntmps100
  go_wp2_with (go_at_call 111; (with_reducible refine (withinOne_timber X1.out _ _ (by simp)).mono ?_); rintro e w1 ⟨rfl, hb1⟩)
  go_wp2_with (go_at_call 111; (with_reducible refine (withinOne_timber X2.out _ _ (by simp)).mono ?_); rintro e w2 ⟨rfl, hb2⟩)
  have hB := hb1.trans (hb2.mono hb1.size)
  go_wp2_with (go_at_call 111; refine (withinIs_timber X3.out _ _ _ _ _ rfl (by simp) (fun k h => by rw [hB.cell (p := ⟨w.heap.size, 0 + k, none⟩) hs0]; exact HC.out k h) (Nat.lt_of_lt_of_le hs0 hB.size)).mono ?_; rintro e w3 ⟨rfl, hb3⟩)
  go_ret
  exact ⟨rfl, HB0.out.trans ((hB.trans (hb3.mono hB.size)).mono (Nat.le_of_lt hs0))⟩

/-! ### Exact sizes -/
def fracNum (p : Nat) : Int := ((p / Nat.gcd p 1000000 : Nat) : Int)
def fracDen (p : Nat) : Int := ((1000000 / Nat.gcd p 1000000 : Nat) : Int)
set_option maxHeartbeats 1000000 in
theorem exact_ok {size rate a b : Int} {p : Nat} (hm : Mov size rate a b) (hp : millis size rate a b = (p : Int)) (hp' : p ≤ 1000000000000) (w : World) :
    Calls Try.prog 85 #[.int .i64 size, .int .i64 rate, .agg #[.int .i64 a, .int .i64 b]] w
      fun e w' => e = .returned (.tuple #[.agg #[.int .i64 (fracNum p), .int .i64 (fracDen p)], .int .i64 0]) ∧ Below w.heap.size w w' := by
  have HM := Lib.hid hm
  have M := fun w => Lib.hid (millionths_timber hm w)
  rw [hp] at M
  have hg0 : 0 < Nat.gcd p 1000000 := Nat.gcd_pos_of_pos_right _ (by decide)
  have hgl : Nat.gcd p 1000000 ≤ 1000000 := Nat.gcd_le_right _ (by decide)
  have G := fun w => Lib.hid (gcd_any p 1000000 hp' (by decide) w)
  have F1 : Hid (((p / Nat.gcd p 1000000 : Nat) : Int) = fracNum p) := Lib.hid rfl
  have F2 : Hid (((1000000 / Nat.gcd p 1000000 : Nat) : Int) = fracDen p) := Lib.hid rfl
  unfold GcdOut at G
  generalize Nat.gcd p 1000000 = g at *
  have hne : ¬ g = 0 := by omega
  have d1 := Nat.div_le_self p g
  have d2 := Nat.div_le_self 1000000 g
  have B1 : Hid (-9223372036854775808 ≤ fracNum p ∧ fracNum p ≤ 9223372036854775807) := Lib.hid (by rw [← F1.out]; generalize p / g = q at d1; omega)
  clear hm hp d1 d2
  go_enter Try.func85, Try.ntmps85
  go_wp2_with (first | (go_at_call 100; (with_reducible refine (checkMovement_ok HM.out _ _ (by simp)).mono ?_); rintro e w' ⟨rfl, hb⟩; have hz : w.heap.size + 1 < w'.heap.size := (by have := hb.size; simp at this; omega); obtain ⟨hc, hf⟩ := bcell hb) | (go_at_call 101; (refine Calls.mono (M _).out ?_); rintro e w2 ⟨rfl, rfl⟩) | (go_at_call 102; (refine Calls.mono (G _).out ?_); rintro e w3 ⟨rfl, n, rfl⟩))
  have c0 : w'.cell? ⟨w.heap.size + 1, 0, none⟩ = some (.int .i64 0) := by rw [hc _ _ (by simp)]; simp [go_sem]
  have c1 : w'.cell? ⟨w.heap.size + 1, 1, none⟩ = some (.int .i64 0) := by rw [hc _ _ (by simp)]; simp [go_sem]
  have f0 : w'.frozen? ⟨w.heap.size + 1, 0, none⟩ = false := by rw [hf _ _ (by simp)]; simp [go_sem]
  have f1 : w'.frozen? ⟨w.heap.size + 1, 1, none⟩ = false := by rw [hf _ _ (by simp)]; simp [go_sem]
  have HBB := Lib.hid hb
  clear hc hf hb
  go_region
  go_wp2
  have e1 : wrap64 ((p : Int) / (g : Int)) = fracNum p := by
    have h : (p : Int) / (g : Int) = fracNum p := F1.out
    rw [h]; exact w64 B1.out
  have e2 : (1000000 : Int) / (g : Int) = fracDen p := F2.out
  refine bodyPost_ret (v := .tuple #[.agg #[.int .i64 (wrap64 ((p : Int) / (g : Int))), .int .i64 ((1000000 : Int) / (g : Int))], .int .i64 0]) (by simp [results, Try.results85, go_sem, c0, c1]) rfl ⟨by rw [e1, e2], ?_⟩
  exact ((below_drewN ((((Below.refl _ _).alloc (Nat.le_refl _) _).alloc (by simp) _).trans (HBB.out.mono (by simp; omega))) _).setCell (by simp) _).setCell (by simp) _

/-! ### Sizes in millionths -/
/-- The value of a piece. -/
def mdV (x : Md) : Value := .agg #[.int .i64 x.s, .int .i64 x.r, .int .i64 x.m, .int .i64 x.g, .int .i64 x.lo, .int .i64 x.hi]
theorem frac_back (p : Nat) : ∃ q g : Nat, fracNum p = (q : Int) ∧ fracDen p = ((1000000 / g : Nat) : Int) ∧ 1000000 / g ≠ 0 ∧ 1000000 / (1000000 / g) = g ∧ q * g = p ∧ g ≤ 1000000 ∧ q ≤ p := by
  have hg0 : 0 < Nat.gcd p 1000000 := Nat.gcd_pos_of_pos_right _ (by decide)
  have hd := Nat.gcd_dvd_right p 1000000
  have hgl : Nat.gcd p 1000000 ≤ 1000000 := Nat.gcd_le_right _ (by decide)
  refine ⟨p / Nat.gcd p 1000000, Nat.gcd p 1000000, rfl, rfl, ?_, ?_, Nat.div_mul_cancel (Nat.gcd_dvd_left p 1000000), hgl, Nat.div_le_self _ _⟩
  · exact Nat.ne_of_gt (Nat.div_pos hgl hg0)
  · exact Nat.div_div_self hd (by decide)
set_option maxHeartbeats 1000000 in
theorem millionths_fit {size t : Int} {x : Md} (hm : Mov size x.r x.m t) (w : World) :
    Calls Try.prog 62 #[.int .i64 size, mdV x, .int .i64 t] w fun e w' => e = .returned (.int .i64 (millis size x.r x.m t)) ∧ Below w.heap.size w w' := by
  obtain ⟨p, hp, hp'⟩ := millis_nat hm
  have E := fun wx => Lib.hid (exact_ok hm hp hp' wx)
  obtain ⟨q, g, h1, h2, h3, h4, h5, h6, h7⟩ := frac_back p
  rw [h1, h2] at E
  have HV : Hid (millis size x.r x.m t = (q : Int) * (g : Int)) := Lib.hid (by rw [hp, ← h5]; simp)
  have hb1 : Hid (-9223372036854775808 ≤ (q : Int) * (g : Int) ∧ (q : Int) * (g : Int) ≤ 9223372036854775807) := Lib.hid (by rw [← HV.out, hp]; omega)
  obtain ⟨d, hd⟩ : ∃ d, 1000000 / g = d := ⟨_, rfl⟩
  rw [hd] at E h3 h4
  have hne : ((d : Int) == 0) = false := by simp; omega
  have hne' : ¬ (d : Int) = 0 := by omega
  have HT : Hid ((1000000 : Int).tdiv (d : Int) = (g : Int)) := Lib.hid (by show ((1000000 / d : Nat) : Int) = _; rw [h4])
  have HT' : Hid ((1000000 : Int) / (d : Int) = (g : Int)) := Lib.hid (by show ((1000000 / d : Nat) : Int) = _; rw [h4])
  have hgB : Hid ((g : Int) ≤ 1000000) := Lib.hid (by omega)
  unfold mdV
  clear hm hp hp' h1 h2 h4 h5 h6 h7 hd
  go_enter Try.func62, Try.ntmps62
  go_wp2_with (go_at_call 85; (refine Calls.mono (E _).out ?_); rintro e w1 ⟨rfl, hb⟩; have hz : w.heap.size < w1.heap.size := (by have := hb.size; simp at this; omega))
  go_region
  go_wp2
  go_ret
  refine ⟨ret_int (by rw [HT'.out, w64 hb1.out]; exact HV.out.symm), ?_⟩
  exact ((((Below.refl _ _).alloc (Nat.le_refl _) _).trans (hb.mono (by simp))).alloc (by omega) _).drew
end Go.Proofs.Ytffmaoalnilkkaa
