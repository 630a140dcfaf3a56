/- Walks over beams: what spans bear, the library's binary search. -/
import Derived.Test.YtablphoicidlkaaSP
namespace Go.Proofs.Ytablphoicidlkaa
open Go.RowKit

/-- What a search hands back: the answer changes there. -/
def Found (N : Nat) (q : Nat → Bool) (r : Nat) : Prop := r ≤ N ∧ (r = 0 ∨ q (r - 1) = false) ∧ (r = N ∨ q r = true)
set_option maxHeartbeats 8000000 in
set_option maxRecDepth 20000 in
theorem search_any {N : Nat} (hN : N ≤ 1000000) {q : Nat → Bool} {a b : Addr} (w : World)
    (hF : ∀ (wx : World) (m : Nat), m < N → Below w.heap.size w wx → Calls Try.prog 155 #[.int .i64 m, .pointer (some a), .pointer (some b)] wx fun e w' => e = .returned (.bool (q m)) ∧ Below wx.heap.size wx w') :
    Calls Try.prog 154 #[.int .i64 N, .func (.func 155) #[] #[.pointer (some a), .pointer (some b)]] w
      fun e w' => ∃ r, e = .returned (.int .i64 (r : Nat)) ∧ Found N q r ∧ Below w.heap.size w w' := by
  have HF := Lib.hid hF
  clear hF
  go_enter Try.func154, Try.ntmps154
  go_wp2
  go_loopw [5, 6] (fun i j wr => ∃ x y : Nat, x ≤ y ∧ y ≤ N ∧ i = .int .i64 x ∧ j = .int .i64 y ∧ (x = 0 ∨ q (x - 1) = false) ∧ (y = N ∨ q y = true) ∧ Below w.heap.size w wr) (fun i j _ => (intOf j).toNat - (intOf i).toNat)
  case atStart => exact ⟨0, N, Nat.zero_le _, Nat.le_refl _, rfl, rfl, .inl rfl, .inl rfl, Below.refl _ _⟩
  case round =>
    obtain ⟨x, y, hxy, hy, rfl, rfl, hq1, hq2, hbw⟩ := hrel
    have HB := Lib.hid hbw
    have H1 := Lib.hid hq1; have H2 := Lib.hid hq2
    clear hbw hq1 hq2
    by_cases hlt : x < y
    · obtain ⟨m, hm⟩ : ∃ m, (x + y) / 2 = m := ⟨_, rfl⟩
      have hc : ((m : Nat) : Int) = ((x : Int) + (y : Int)) / 2 := by omega
      have hm1 : x ≤ m := by omega
      have hm2 : m < y := by omega
      have HC := Lib.hid hc
      clear hm
      cases hq : q m
      · have HQ := Lib.hid hq
        have CF : Hid _ := Lib.hid (HF.out wr m (by omega) HB.out)
        rw [hc, hq] at CF
        clear hq hc
        go_wp2_with (go_at_call 155; (refine Calls.mono CF.out ?_); rintro e w1 ⟨rfl, hb1⟩)
        go_roundw
        case rel => exact ⟨m + 1, y, by omega, hy, by rw [← HC.out]; go_num, rfl, .inr (by simpa using HQ.out), H2.out, HB.out.trans (hb1.mono HB.out.size)⟩
        case measure => simp [intOf]; omega
      · have HQ := Lib.hid hq
        have CF : Hid _ := Lib.hid (HF.out wr m (by omega) HB.out)
        rw [hc, hq] at CF
        clear hq hc
        go_wp2_with (go_at_call 155; (refine Calls.mono CF.out ?_); rintro e w1 ⟨rfl, hb1⟩)
        go_roundw
        case rel => exact ⟨x, m, by omega, by omega, rfl, by rw [← HC.out], H1.out, .inr HQ.out, HB.out.trans (hb1.mono HB.out.size)⟩
        case measure => simp [intOf]; omega
    · have he : x = y := by omega
      subst he
      go_wp2
      go_ret
      exact ⟨x, rfl, ⟨hy, H1.out, H2.out⟩, HB.out⟩

/-! ### What a span bears -/
def bearsB (b : Bm) (x : Wd) (n p r : Int) : Bool :=
  bif b.e == 1 then decide (6 * p * n * n ≤ 2000 * (x.st * (b.w * b.t * b.t))) && decide (3 * (p * n * n * n * r) ≤ 2000 * (x.lo * (b.w * b.t * b.t) * b.t))
  else decide (6 * p * n * n ≤ 8000 * (x.st * (b.w * b.t * b.t))) && decide (p * n * n * n * r ≤ 6400 * (x.lo * (b.w * b.t * b.t) * b.t))
set_option maxHeartbeats 4000000 in
set_option maxRecDepth 20000 in
theorem bears_any {b : Bm} {x : Wd} {n p r : Int} (hb : BmOk b) (hx : WdOk x) (n0 : 0 ≤ n) (n1 : n ≤ 2001) (p0 : 1 ≤ p) (p1 : p ≤ 10000) (r0 : 1 ≤ r) (r1 : r ≤ 1000) (w : World) :
    Calls Try.prog 122 #[bmV b, wdV x, .int .i64 n, .int .i64 p, .int .i64 r] w fun e w' => e = .returned (.bool (bearsB b x n p r)) ∧ Below w.heap.size w w' := by
  obtain ⟨s, ww, t, en⟩ := b
  obtain ⟨lo, hi, st⟩ := x
  obtain ⟨s0, s1, w0, w1, t0, t1, e0⟩ := hb
  obtain ⟨l0, l1, h1, st0, st1⟩ := hx
  simp only at s0 s1 w0 w1 t0 t1 e0 l0 l1 h1 st0 st1
  unfold bmV wdV
  simp only
  have E1 : Ev n n 2001 := .of (by omega)
  have E2 : Ev ww ww 1000 := .of (by omega)
  have E3 : Ev t t 300 := .of (by omega)
  have E4 : Ev p p 10000 := .of (by omega)
  have E5 : Ev r r 1000 := .of (by omega)
  have E6 : Ev lo lo 30000 := .of (by omega)
  have E7 : Ev st st 1000 := .of (by omega)
  have q0 : wrap64 (ww * t) = ww * t := by (apply Ev.e; repeat' (first | with_reducible assumption | with_reducible apply Ev.wrap | with_reducible apply Ev.mul | with_reducible apply Ev.add | with_reducible apply Ev.sub | with_reducible apply Ev.neg | exact Ev.lit _ | (decide +kernel)))
  have q1 : wrap64 (ww * t * t) = ww * t * t := by (apply Ev.e; repeat' (first | with_reducible assumption | with_reducible apply Ev.wrap | with_reducible apply Ev.mul | with_reducible apply Ev.add | with_reducible apply Ev.sub | with_reducible apply Ev.neg | exact Ev.lit _ | (decide +kernel)))
  have p10 : IntKind.i64.wrap (6 * p) = 6 * p := i64w (by (apply Ev.e; repeat' (first | with_reducible assumption | with_reducible apply Ev.wrap | with_reducible apply Ev.mul | with_reducible apply Ev.add | with_reducible apply Ev.sub | with_reducible apply Ev.neg | exact Ev.lit _ | (decide +kernel))))
  have p11 : IntKind.i64.wrap (6 * p * n) = 6 * p * n := i64w (by (apply Ev.e; repeat' (first | with_reducible assumption | with_reducible apply Ev.wrap | with_reducible apply Ev.mul | with_reducible apply Ev.add | with_reducible apply Ev.sub | with_reducible apply Ev.neg | exact Ev.lit _ | (decide +kernel))))
  have p12 : IntKind.i64.wrap (6 * p * n * n) = 6 * p * n * n := i64w (by (apply Ev.e; repeat' (first | with_reducible assumption | with_reducible apply Ev.wrap | with_reducible apply Ev.mul | with_reducible apply Ev.add | with_reducible apply Ev.sub | with_reducible apply Ev.neg | exact Ev.lit _ | (decide +kernel))))
  have p13 : IntKind.i64.wrap (st * (ww * t * t)) = st * (ww * t * t) := i64w (by (apply Ev.e; repeat' (first | with_reducible assumption | with_reducible apply Ev.wrap | with_reducible apply Ev.mul | with_reducible apply Ev.add | with_reducible apply Ev.sub | with_reducible apply Ev.neg | exact Ev.lit _ | (decide +kernel))))
  have p14 : IntKind.i64.wrap (p * n) = p * n := i64w (by (apply Ev.e; repeat' (first | with_reducible assumption | with_reducible apply Ev.wrap | with_reducible apply Ev.mul | with_reducible apply Ev.add | with_reducible apply Ev.sub | with_reducible apply Ev.neg | exact Ev.lit _ | (decide +kernel))))
  have p15 : IntKind.i64.wrap (p * n * n) = p * n * n := i64w (by (apply Ev.e; repeat' (first | with_reducible assumption | with_reducible apply Ev.wrap | with_reducible apply Ev.mul | with_reducible apply Ev.add | with_reducible apply Ev.sub | with_reducible apply Ev.neg | exact Ev.lit _ | (decide +kernel))))
  have p16 : IntKind.i64.wrap (p * n * n * n) = p * n * n * n := i64w (by (apply Ev.e; repeat' (first | with_reducible assumption | with_reducible apply Ev.wrap | with_reducible apply Ev.mul | with_reducible apply Ev.add | with_reducible apply Ev.sub | with_reducible apply Ev.neg | exact Ev.lit _ | (decide +kernel))))
  have p17 : IntKind.i64.wrap (p * n * n * n * r) = p * n * n * n * r := i64w (by (apply Ev.e; repeat' (first | with_reducible assumption | with_reducible apply Ev.wrap | with_reducible apply Ev.mul | with_reducible apply Ev.add | with_reducible apply Ev.sub | with_reducible apply Ev.neg | exact Ev.lit _ | (decide +kernel))))
  have p18 : IntKind.i64.wrap (lo * (ww * t * t)) = lo * (ww * t * t) := i64w (by (apply Ev.e; repeat' (first | with_reducible assumption | with_reducible apply Ev.wrap | with_reducible apply Ev.mul | with_reducible apply Ev.add | with_reducible apply Ev.sub | with_reducible apply Ev.neg | exact Ev.lit _ | (decide +kernel))))
  have p19 : IntKind.i64.wrap (lo * (ww * t * t) * t) = lo * (ww * t * t) * t := i64w (by (apply Ev.e; repeat' (first | with_reducible assumption | with_reducible apply Ev.wrap | with_reducible apply Ev.mul | with_reducible apply Ev.add | with_reducible apply Ev.sub | with_reducible apply Ev.neg | exact Ev.lit _ | (decide +kernel))))
  have v1 : wrap64 (2000 * (st * (ww * t * t))) = 2000 * (st * (ww * t * t)) := by (apply Ev.e; repeat' (first | with_reducible assumption | with_reducible apply Ev.wrap | with_reducible apply Ev.mul | with_reducible apply Ev.add | with_reducible apply Ev.sub | with_reducible apply Ev.neg | exact Ev.lit _ | (decide +kernel)))
  have v2 : wrap64 (3 * (p * n * n * n * r)) = 3 * (p * n * n * n * r) := by (apply Ev.e; repeat' (first | with_reducible assumption | with_reducible apply Ev.wrap | with_reducible apply Ev.mul | with_reducible apply Ev.add | with_reducible apply Ev.sub | with_reducible apply Ev.neg | exact Ev.lit _ | (decide +kernel)))
  have v3 : wrap64 (2000 * (lo * (ww * t * t) * t)) = 2000 * (lo * (ww * t * t) * t) := by (apply Ev.e; repeat' (first | with_reducible assumption | with_reducible apply Ev.wrap | with_reducible apply Ev.mul | with_reducible apply Ev.add | with_reducible apply Ev.sub | with_reducible apply Ev.neg | exact Ev.lit _ | (decide +kernel)))
  have v4 : wrap64 (8000 * (st * (ww * t * t))) = 8000 * (st * (ww * t * t)) := by (apply Ev.e; repeat' (first | with_reducible assumption | with_reducible apply Ev.wrap | with_reducible apply Ev.mul | with_reducible apply Ev.add | with_reducible apply Ev.sub | with_reducible apply Ev.neg | exact Ev.lit _ | (decide +kernel)))
  have v5 : wrap64 (6400 * (lo * (ww * t * t) * t)) = 6400 * (lo * (ww * t * t) * t) := by (apply Ev.e; repeat' (first | with_reducible assumption | with_reducible apply Ev.wrap | with_reducible apply Ev.mul | with_reducible apply Ev.add | with_reducible apply Ev.sub | with_reducible apply Ev.neg | exact Ev.lit _ | (decide +kernel)))
  clear E1 E2 E3 E4 E5 E6 E7 s0 s1 w0 w1 t0 t1 l0 l1 h1 st0 st1 n0 n1 p0 p1 r0 r1
  have HBB : Hid (Below w.heap.size w ((w.alloc (.cells #[.int .i64 s, .int .i64 ww, .int .i64 t, .int .i64 en] 23)).alloc (.cells #[.int .i64 lo, .int .i64 hi, .int .i64 st] 79))) := Lib.hid (((Below.refl _ _).alloc (Nat.le_refl _) _).alloc (by simp) _)
  go_enter Try.func122, Try.ntmps122
  go_wp2
  go_quiet (fail)
  go_wp2
  go_quiet (fail)
  have g1 := q1
  rw [q1]
  generalize hz1 : 6 * p * n * n = z1 at *
  generalize hz2 : st * (ww * t * t) = z2 at *
  generalize hz3 : p * n * n * n * r = z3 at *
  generalize hz4 : lo * (ww * t * t) * t = z4 at *
  have HZ := Lib.hid (And.intro hz1 (And.intro hz2 (And.intro hz3 hz4)))
  clear hz1 hz2 hz3 hz4 p10 p11 p12 p13 p14 p15 p16 p17 p18 p19 g1
  rcases e0 with rfl | rfl
  · by_cases h1 : z1 ≤ 8000 * z2
    · have d1 : decide (z1 ≤ 8000 * z2) = true := decide_eq_true h1
      by_cases h2 : z3 ≤ 6400 * z4
      · have d2 : decide (z3 ≤ 6400 * z4) = true := decide_eq_true h2
        have HD := Lib.hid (And.intro d1 d2)
        go_wp2
        go_ret
        exact ⟨ret_bool (by obtain ⟨i1, i2, i3, i4⟩ := HZ.out; obtain ⟨j1, j2⟩ := HD.out; unfold bearsB; simp only [i1, i2, i3, i4]; simp [h1, h2]), below_drewN HBB.out _⟩
      · have d2 : decide (z3 ≤ 6400 * z4) = false := decide_eq_false h2
        have HD := Lib.hid (And.intro d1 d2)
        go_wp2
        go_ret
        exact ⟨ret_bool (by obtain ⟨i1, i2, i3, i4⟩ := HZ.out; obtain ⟨j1, j2⟩ := HD.out; unfold bearsB; simp only [i1, i2, i3, i4]; simp [h1, h2]), below_drewN HBB.out _⟩
    · have d1 : decide (z1 ≤ 8000 * z2) = false := decide_eq_false h1
      have HD := Lib.hid d1
      go_wp2
      go_ret
      exact ⟨ret_bool (by obtain ⟨i1, i2, i3, i4⟩ := HZ.out; unfold bearsB; simp only [i1, i2, i3, i4]; show false = (decide (z1 ≤ 8000 * z2) && decide (z3 ≤ 6400 * z4)); rw [HD.out]; rfl), below_drewN HBB.out _⟩
  · by_cases h1 : z1 ≤ 2000 * z2
    · have d1 : decide (z1 ≤ 2000 * z2) = true := decide_eq_true h1
      by_cases h2 : 3 * z3 ≤ 2000 * z4
      · have d2 : decide (3 * z3 ≤ 2000 * z4) = true := decide_eq_true h2
        have HD := Lib.hid (And.intro d1 d2)
        go_wp2
        go_ret
        exact ⟨ret_bool (by obtain ⟨i1, i2, i3, i4⟩ := HZ.out; obtain ⟨j1, j2⟩ := HD.out; unfold bearsB; simp only [i1, i2, i3, i4]; simp [h1, h2]), below_drewN HBB.out _⟩
      · have d2 : decide (3 * z3 ≤ 2000 * z4) = false := decide_eq_false h2
        have HD := Lib.hid (And.intro d1 d2)
        go_wp2
        go_ret
        exact ⟨ret_bool (by obtain ⟨i1, i2, i3, i4⟩ := HZ.out; obtain ⟨j1, j2⟩ := HD.out; unfold bearsB; simp only [i1, i2, i3, i4]; simp [h1, h2]), below_drewN HBB.out _⟩
    · have d1 : decide (z1 ≤ 2000 * z2) = false := decide_eq_false h1
      have HD := Lib.hid d1
      go_wp2
      go_ret
      exact ⟨ret_bool (by obtain ⟨i1, i2, i3, i4⟩ := HZ.out; unfold bearsB; simp only [i1, i2, i3, i4]; show false = (decide (z1 ≤ 2000 * z2) && decide (3 * z3 ≤ 2000 * z4)); rw [HD.out]; rfl), below_drewN HBB.out _⟩
end Go.Proofs.Ytablphoicidlkaa
