/- Glue in the reference. -/
import Derived.Test.YtndkikalbghhaaaBC
namespace Go.Proofs.Ytndkikalbghhaaa
open Go.RowKit

theorem three_wi {a b d lo hi : Int} : rngE lo hi [a, b, d] = bif wiB a lo hi && (wiB b lo hi && wiB d lo hi) then 0 else 2 := by
  cases h1 : wiB a lo hi && (wiB b lo hi && wiB d lo hi)
  · rcases rngE_two (lo := lo) (hi := hi) (zs := [a, b, d]) with e | e
    · have k := rngE_ok.1 e
      rw [wiB_iff.2 (k a (by simp)), wiB_iff.2 (k b (by simp)), wiB_iff.2 (k d (by simp))] at h1; cases h1
    · exact e
  · rw [Bool.and_eq_true, Bool.and_eq_true, wiB_iff, wiB_iff, wiB_iff] at h1
    exact rngE_ok.2 (fun m hm => by
      simp only [List.mem_cons, List.not_mem_nil, or_false] at hm
      rcases hm with rfl | rfl | rfl
      · exact h1.1
      · exact h1.2.1
      · exact h1.2.2)
theorem car_wi (x y z ax sh pu : Int) : carE x y z ax sh pu = bif wiB x 0 1000000000000 && (wiB y 0 1000000000000 && (wiB z 0 1000000000000 && (wiB ax 0 2 && (wiB sh 0 100000 && wiB pu 0 100000)))) then 0 else 2 := by
  unfold carE
  rw [three_wi, rng_wi, two_wi]
  cases wiB x 0 1000000000000 <;> cases wiB y 0 1000000000000 <;> cases wiB z 0 1000000000000 <;> cases wiB ax 0 2 <;> cases wiB sh 0 100000 <;> cases wiB pu 0 100000 <;> rfl
set_option maxHeartbeats 8000000 in
set_option maxRecDepth 20000 in
theorem rcheckCarries_any (x y z ax sh pu : Int) (w : World) : Calls Try.prog 86 #[arV x y z, .int .i64 ax, .int .i64 sh, .int .i64 pu] w
    fun e w' => e = .returned (.int .i64 (carE x y z ax sh pu)) ∧ Below w.heap.size w w' := by
  rw [car_wi]
  unfold arV
  have W1 := fun wx => Lib.hid (within_any x 0 1000000000000 wx)
  have W2 := fun wx => Lib.hid (within_any y 0 1000000000000 wx)
  have W3 := fun wx => Lib.hid (within_any z 0 1000000000000 wx)
  have W4 := fun wx => Lib.hid (within_any ax 0 2 wx)
  have W5 := fun wx => Lib.hid (within_any sh 0 100000 wx)
  have W6 := fun wx => Lib.hid (within_any pu 0 100000 wx)
  generalize wiB x 0 1000000000000 = v1 at *
  generalize wiB y 0 1000000000000 = v2 at *
  generalize wiB z 0 1000000000000 = v3 at *
  generalize wiB ax 0 2 = v4 at *
  generalize wiB sh 0 100000 = v5 at *
  generalize wiB pu 0 100000 = v6 at *
  go_enter Try.func86, Try.ntmps86
  go_upto_region 1 with fail
  obtain ⟨w0, hw0⟩ : ∃ w0, (w.alloc (.cells #[.int .i64 x, .int .i64 y, .int .i64 z] 136)) = w0 := ⟨_, rfl⟩
  have HB0 : Hid (Below w.heap.size w w0) := Lib.hid (by rw [← hw0]; exact ((Below.refl _ _).alloc (Nat.le_refl _) _))
  have HC := Lib.hid (fun wx (hb : Below w0.heap.size w0 wx) => (show wx.cell? ⟨w.heap.size, 0, none⟩ = some (.int .i64 x) ∧ wx.cell? ⟨w.heap.size, 1, none⟩ = some (.int .i64 y) ∧ wx.cell? ⟨w.heap.size, 2, none⟩ = some (.int .i64 z) from by
    subst hw0
    obtain ⟨k, kf⟩ := bcell hb
    exact ⟨(k _ _ (by simp; try omega)).trans (by simp [go_sem]), (k _ _ (by simp; try omega)).trans (by simp [go_sem]), (k _ _ (by simp; try omega)).trans (by simp [go_sem])⟩))
  rw [hw0]
  clear hw0

  obtain ⟨c0, c1, c2⟩ := HC.out w0 (Below.refl _ _)
  clear HC
  go_wp2
  go_loopw [9] (fun i wr => (i = .int .i64 0 ∨ (i = .int .i64 1 ∧ v1 = true) ∨ (i = .int .i64 2 ∧ v1 = true ∧ v2 = true) ∨ (i = .int .i64 3 ∧ v1 = true ∧ v2 = true ∧ v3 = true)) ∧ wr = w0) (fun i _ => 3 - (intOf i).toNat)
  case atStart => exact ⟨.inl rfl, rfl⟩
  case round =>
    obtain ⟨hcase, rfl⟩ := hrel
    rcases hcase with rfl | ⟨rfl, rfl⟩ | ⟨rfl, rfl, rfl⟩ | ⟨rfl, rfl, rfl, rfl⟩
    · cases v1
      · go_wp2_with (first | (go_at_call 32; (with_reducible refine Calls.mono (W1 _).out ?_); rintro e w9 ⟨rfl, rfl⟩) | (go_at_call 32; (with_reducible refine Calls.mono (W2 _).out ?_); rintro e w9 ⟨rfl, rfl⟩) | (go_at_call 32; (with_reducible refine Calls.mono (W3 _).out ?_); rintro e w9 ⟨rfl, rfl⟩) | (go_at_call 32; (with_reducible refine Calls.mono (W4 _).out ?_); rintro e w9 ⟨rfl, rfl⟩) | (go_at_call 32; (with_reducible refine Calls.mono (W5 _).out ?_); rintro e w9 ⟨rfl, rfl⟩) | (go_at_call 32; (with_reducible refine Calls.mono (W6 _).out ?_); rintro e w9 ⟨rfl, rfl⟩) | fail)
        go_ret
        exact ⟨rfl, HB0.out⟩
      · go_wp2_with (first | (go_at_call 32; (with_reducible refine Calls.mono (W1 _).out ?_); rintro e w9 ⟨rfl, rfl⟩) | (go_at_call 32; (with_reducible refine Calls.mono (W2 _).out ?_); rintro e w9 ⟨rfl, rfl⟩) | (go_at_call 32; (with_reducible refine Calls.mono (W3 _).out ?_); rintro e w9 ⟨rfl, rfl⟩) | (go_at_call 32; (with_reducible refine Calls.mono (W4 _).out ?_); rintro e w9 ⟨rfl, rfl⟩) | (go_at_call 32; (with_reducible refine Calls.mono (W5 _).out ?_); rintro e w9 ⟨rfl, rfl⟩) | (go_at_call 32; (with_reducible refine Calls.mono (W6 _).out ?_); rintro e w9 ⟨rfl, rfl⟩) | fail)
        exact ⟨by simp, by simp [intOf]⟩
    · cases v2
      · go_wp2_with (first | (go_at_call 32; (with_reducible refine Calls.mono (W1 _).out ?_); rintro e w9 ⟨rfl, rfl⟩) | (go_at_call 32; (with_reducible refine Calls.mono (W2 _).out ?_); rintro e w9 ⟨rfl, rfl⟩) | (go_at_call 32; (with_reducible refine Calls.mono (W3 _).out ?_); rintro e w9 ⟨rfl, rfl⟩) | (go_at_call 32; (with_reducible refine Calls.mono (W4 _).out ?_); rintro e w9 ⟨rfl, rfl⟩) | (go_at_call 32; (with_reducible refine Calls.mono (W5 _).out ?_); rintro e w9 ⟨rfl, rfl⟩) | (go_at_call 32; (with_reducible refine Calls.mono (W6 _).out ?_); rintro e w9 ⟨rfl, rfl⟩) | fail)
        go_ret
        exact ⟨rfl, HB0.out⟩
      · go_wp2_with (first | (go_at_call 32; (with_reducible refine Calls.mono (W1 _).out ?_); rintro e w9 ⟨rfl, rfl⟩) | (go_at_call 32; (with_reducible refine Calls.mono (W2 _).out ?_); rintro e w9 ⟨rfl, rfl⟩) | (go_at_call 32; (with_reducible refine Calls.mono (W3 _).out ?_); rintro e w9 ⟨rfl, rfl⟩) | (go_at_call 32; (with_reducible refine Calls.mono (W4 _).out ?_); rintro e w9 ⟨rfl, rfl⟩) | (go_at_call 32; (with_reducible refine Calls.mono (W5 _).out ?_); rintro e w9 ⟨rfl, rfl⟩) | (go_at_call 32; (with_reducible refine Calls.mono (W6 _).out ?_); rintro e w9 ⟨rfl, rfl⟩) | fail)
        exact ⟨by simp, by simp [intOf]⟩
    · cases v3
      · go_wp2_with (first | (go_at_call 32; (with_reducible refine Calls.mono (W1 _).out ?_); rintro e w9 ⟨rfl, rfl⟩) | (go_at_call 32; (with_reducible refine Calls.mono (W2 _).out ?_); rintro e w9 ⟨rfl, rfl⟩) | (go_at_call 32; (with_reducible refine Calls.mono (W3 _).out ?_); rintro e w9 ⟨rfl, rfl⟩) | (go_at_call 32; (with_reducible refine Calls.mono (W4 _).out ?_); rintro e w9 ⟨rfl, rfl⟩) | (go_at_call 32; (with_reducible refine Calls.mono (W5 _).out ?_); rintro e w9 ⟨rfl, rfl⟩) | (go_at_call 32; (with_reducible refine Calls.mono (W6 _).out ?_); rintro e w9 ⟨rfl, rfl⟩) | fail)
        go_ret
        exact ⟨rfl, HB0.out⟩
      · go_wp2_with (first | (go_at_call 32; (with_reducible refine Calls.mono (W1 _).out ?_); rintro e w9 ⟨rfl, rfl⟩) | (go_at_call 32; (with_reducible refine Calls.mono (W2 _).out ?_); rintro e w9 ⟨rfl, rfl⟩) | (go_at_call 32; (with_reducible refine Calls.mono (W3 _).out ?_); rintro e w9 ⟨rfl, rfl⟩) | (go_at_call 32; (with_reducible refine Calls.mono (W4 _).out ?_); rintro e w9 ⟨rfl, rfl⟩) | (go_at_call 32; (with_reducible refine Calls.mono (W5 _).out ?_); rintro e w9 ⟨rfl, rfl⟩) | (go_at_call 32; (with_reducible refine Calls.mono (W6 _).out ?_); rintro e w9 ⟨rfl, rfl⟩) | fail)
        exact ⟨by simp, by simp [intOf]⟩
    · cases v4 <;> cases v5 <;> cases v6
      all_goals
        go_wp2_with (first | (go_at_call 32; (with_reducible refine Calls.mono (W1 _).out ?_); rintro e w9 ⟨rfl, rfl⟩) | (go_at_call 32; (with_reducible refine Calls.mono (W2 _).out ?_); rintro e w9 ⟨rfl, rfl⟩) | (go_at_call 32; (with_reducible refine Calls.mono (W3 _).out ?_); rintro e w9 ⟨rfl, rfl⟩) | (go_at_call 32; (with_reducible refine Calls.mono (W4 _).out ?_); rintro e w9 ⟨rfl, rfl⟩) | (go_at_call 32; (with_reducible refine Calls.mono (W5 _).out ?_); rintro e w9 ⟨rfl, rfl⟩) | (go_at_call 32; (with_reducible refine Calls.mono (W6 _).out ?_); rintro e w9 ⟨rfl, rfl⟩) | fail)
        go_ret
        exact ⟨rfl, HB0.out⟩
set_option maxHeartbeats 8000000 in
set_option maxRecDepth 20000 in
theorem rcarries_any {x y z ax sh pu : Int} (h : CarOk x y z ax sh pu) (w : World) : Calls Try.prog 87 #[arV x y z, .int .i64 ax, .int .i64 sh, .int .i64 pu] w
    fun e w' => e = .returned (.int .i64 (carSum x y z ax sh pu / 10000000)) ∧ Below w.heap.size w w' := by
  unfold arV
  obtain ⟨x0, y0, z0, a0, s0, p0⟩ := h
  have EX : Ev x x 1000000000000 := .of (by omega)
  have EY : Ev y y 1000000000000 := .of (by omega)
  have EZ : Ev z z 1000000000000 := .of (by omega)
  have ES : Ev sh sh 100000 := .of (by omega)
  have EP : Ev pu pu 100000 := .of (by omega)
  have nx := Int.mul_nonneg x0.1 s0.1
  have nbx := Int.mul_le_mul x0.2 s0.2 s0.1 (by decide)
  have ny := Int.mul_nonneg y0.1 s0.1
  have nby := Int.mul_le_mul y0.2 s0.2 s0.1 (by decide)
  have nz := Int.mul_nonneg z0.1 s0.1
  have nbz := Int.mul_le_mul z0.2 s0.2 s0.1 (by decide)
  have px := Int.mul_nonneg x0.1 p0.1
  have pbx := Int.mul_le_mul x0.2 p0.2 p0.1 (by decide)
  have py := Int.mul_nonneg y0.1 p0.1
  have pby := Int.mul_le_mul y0.2 p0.2 p0.1 (by decide)
  have pz := Int.mul_nonneg z0.1 p0.1
  have pbz := Int.mul_le_mul z0.2 p0.2 p0.1 (by decide)
  obtain rfl | rfl | rfl : ax = 0 ∨ ax = 1 ∨ ax = 2 := by omega
  · have hs : carSum x y z 0 sh pu = x * pu + y * sh + z * sh := by simp [carSum]
    have HS : Hid (wrap64 ((x * pu + y * sh + z * sh).tdiv 10000000) = carSum x y z 0 sh pu / 10000000) := Lib.hid (by rw [hs, Int.tdiv_eq_ediv_of_nonneg (by omega)]; exact w64 (by omega))
    clear hs
    have q0 : IntKind.i64.wrap (x * pu) = x * pu := i64w (by (apply Ev.e; repeat' (first | with_reducible assumption | with_reducible apply Ev.wrap | with_reducible apply Ev.mul | with_reducible apply Ev.add | with_reducible apply Ev.sub | with_reducible apply Ev.neg | exact Ev.lit _ | (decide +kernel))))
    have q1 : IntKind.i64.wrap (y * sh) = y * sh := i64w (by (apply Ev.e; repeat' (first | with_reducible assumption | with_reducible apply Ev.wrap | with_reducible apply Ev.mul | with_reducible apply Ev.add | with_reducible apply Ev.sub | with_reducible apply Ev.neg | exact Ev.lit _ | (decide +kernel))))
    have q2 : IntKind.i64.wrap (z * sh) = z * sh := i64w (by (apply Ev.e; repeat' (first | with_reducible assumption | with_reducible apply Ev.wrap | with_reducible apply Ev.mul | with_reducible apply Ev.add | with_reducible apply Ev.sub | with_reducible apply Ev.neg | exact Ev.lit _ | (decide +kernel))))
    have q3 : IntKind.i64.wrap (x * pu + y * sh) = x * pu + y * sh := i64w (by (apply Ev.e; repeat' (first | with_reducible assumption | with_reducible apply Ev.wrap | with_reducible apply Ev.mul | with_reducible apply Ev.add | with_reducible apply Ev.sub | with_reducible apply Ev.neg | exact Ev.lit _ | (decide +kernel))))
    have q4 : IntKind.i64.wrap (x * pu + y * sh + z * sh) = x * pu + y * sh + z * sh := i64w (by (apply Ev.e; repeat' (first | with_reducible assumption | with_reducible apply Ev.wrap | with_reducible apply Ev.mul | with_reducible apply Ev.add | with_reducible apply Ev.sub | with_reducible apply Ev.neg | exact Ev.lit _ | (decide +kernel))))
    clear EX EY EZ ES EP x0 y0 z0 a0 s0 p0 nx ny nz px py pz nbx nby nbz pbx pby pbz
    go_enter Try.func87, Try.ntmps87
    go_upto_region 1 with fail
    obtain ⟨w0, hw0⟩ : ∃ w0, (w.alloc (.cells #[.int .i64 x, .int .i64 y, .int .i64 z] 136)) = w0 := ⟨_, rfl⟩
    have HB0 : Hid (Below w.heap.size w w0) := Lib.hid (by rw [← hw0]; exact ((Below.refl _ _).alloc (Nat.le_refl _) _))
    have HC := Lib.hid (fun wx (hb : Below w0.heap.size w0 wx) => (show wx.cell? ⟨w.heap.size, 0, none⟩ = some (.int .i64 x) ∧ wx.cell? ⟨w.heap.size, 1, none⟩ = some (.int .i64 y) ∧ wx.cell? ⟨w.heap.size, 2, none⟩ = some (.int .i64 z) from by
      subst hw0
      obtain ⟨k, kf⟩ := bcell hb
      exact ⟨(k _ _ (by simp; try omega)).trans (by simp [go_sem]), (k _ _ (by simp; try omega)).trans (by simp [go_sem]), (k _ _ (by simp; try omega)).trans (by simp [go_sem])⟩))
    rw [hw0]
    clear hw0
    obtain ⟨c0, c1, c2⟩ := HC.out w0 (Below.refl _ _)
    clear HC
    go_wp2
    go_loopw [9, 10] (fun s i wr => ((i = .int .i64 0 ∧ s = .int .i64 (0)) ∨ (i = .int .i64 1 ∧ s = .int .i64 (x * pu)) ∨ (i = .int .i64 2 ∧ s = .int .i64 (x * pu + y * sh)) ∨ (i = .int .i64 3 ∧ s = .int .i64 (x * pu + y * sh + z * sh))) ∧ wr = w0) (fun _ i _ => 3 - (intOf i).toNat)
    case atStart => exact ⟨.inl ⟨rfl, rfl⟩, rfl⟩
    case round =>
      obtain ⟨hcase, rfl⟩ := hrel
      rcases hcase with ⟨rfl, rfl⟩ | ⟨rfl, rfl⟩ | ⟨rfl, rfl⟩ | ⟨rfl, rfl⟩
      · go_wp2
        exact ⟨by simp, by simp [intOf]⟩
      · go_wp2
        exact ⟨by simp, by simp [intOf]⟩
      · go_wp2
        exact ⟨by simp, by simp [intOf]⟩
      · go_wp2
        go_ret
        exact ⟨ret_int HS.out, HB0.out⟩
  · have hs : carSum x y z 1 sh pu = x * sh + y * pu + z * sh := by simp [carSum]
    have HS : Hid (wrap64 ((x * sh + y * pu + z * sh).tdiv 10000000) = carSum x y z 1 sh pu / 10000000) := Lib.hid (by rw [hs, Int.tdiv_eq_ediv_of_nonneg (by omega)]; exact w64 (by omega))
    clear hs
    have q0 : IntKind.i64.wrap (x * sh) = x * sh := i64w (by (apply Ev.e; repeat' (first | with_reducible assumption | with_reducible apply Ev.wrap | with_reducible apply Ev.mul | with_reducible apply Ev.add | with_reducible apply Ev.sub | with_reducible apply Ev.neg | exact Ev.lit _ | (decide +kernel))))
    have q1 : IntKind.i64.wrap (y * pu) = y * pu := i64w (by (apply Ev.e; repeat' (first | with_reducible assumption | with_reducible apply Ev.wrap | with_reducible apply Ev.mul | with_reducible apply Ev.add | with_reducible apply Ev.sub | with_reducible apply Ev.neg | exact Ev.lit _ | (decide +kernel))))
    have q2 : IntKind.i64.wrap (z * sh) = z * sh := i64w (by (apply Ev.e; repeat' (first | with_reducible assumption | with_reducible apply Ev.wrap | with_reducible apply Ev.mul | with_reducible apply Ev.add | with_reducible apply Ev.sub | with_reducible apply Ev.neg | exact Ev.lit _ | (decide +kernel))))
    have q3 : IntKind.i64.wrap (x * sh + y * pu) = x * sh + y * pu := i64w (by (apply Ev.e; repeat' (first | with_reducible assumption | with_reducible apply Ev.wrap | with_reducible apply Ev.mul | with_reducible apply Ev.add | with_reducible apply Ev.sub | with_reducible apply Ev.neg | exact Ev.lit _ | (decide +kernel))))
    have q4 : IntKind.i64.wrap (x * sh + y * pu + z * sh) = x * sh + y * pu + z * sh := i64w (by (apply Ev.e; repeat' (first | with_reducible assumption | with_reducible apply Ev.wrap | with_reducible apply Ev.mul | with_reducible apply Ev.add | with_reducible apply Ev.sub | with_reducible apply Ev.neg | exact Ev.lit _ | (decide +kernel))))
    clear EX EY EZ ES EP x0 y0 z0 a0 s0 p0 nx ny nz px py pz nbx nby nbz pbx pby pbz
    go_enter Try.func87, Try.ntmps87
    go_upto_region 1 with fail
    obtain ⟨w0, hw0⟩ : ∃ w0, (w.alloc (.cells #[.int .i64 x, .int .i64 y, .int .i64 z] 136)) = w0 := ⟨_, rfl⟩
    have HB0 : Hid (Below w.heap.size w w0) := Lib.hid (by rw [← hw0]; exact ((Below.refl _ _).alloc (Nat.le_refl _) _))
    have HC := Lib.hid (fun wx (hb : Below w0.heap.size w0 wx) => (show wx.cell? ⟨w.heap.size, 0, none⟩ = some (.int .i64 x) ∧ wx.cell? ⟨w.heap.size, 1, none⟩ = some (.int .i64 y) ∧ wx.cell? ⟨w.heap.size, 2, none⟩ = some (.int .i64 z) from by
      subst hw0
      obtain ⟨k, kf⟩ := bcell hb
      exact ⟨(k _ _ (by simp; try omega)).trans (by simp [go_sem]), (k _ _ (by simp; try omega)).trans (by simp [go_sem]), (k _ _ (by simp; try omega)).trans (by simp [go_sem])⟩))
    rw [hw0]
    clear hw0
    obtain ⟨c0, c1, c2⟩ := HC.out w0 (Below.refl _ _)
    clear HC
    go_wp2
    go_loopw [9, 10] (fun s i wr => ((i = .int .i64 0 ∧ s = .int .i64 (0)) ∨ (i = .int .i64 1 ∧ s = .int .i64 (x * sh)) ∨ (i = .int .i64 2 ∧ s = .int .i64 (x * sh + y * pu)) ∨ (i = .int .i64 3 ∧ s = .int .i64 (x * sh + y * pu + z * sh))) ∧ wr = w0) (fun _ i _ => 3 - (intOf i).toNat)
    case atStart => exact ⟨.inl ⟨rfl, rfl⟩, rfl⟩
    case round =>
      obtain ⟨hcase, rfl⟩ := hrel
      rcases hcase with ⟨rfl, rfl⟩ | ⟨rfl, rfl⟩ | ⟨rfl, rfl⟩ | ⟨rfl, rfl⟩
      · go_wp2
        exact ⟨by simp, by simp [intOf]⟩
      · go_wp2
        exact ⟨by simp, by simp [intOf]⟩
      · go_wp2
        exact ⟨by simp, by simp [intOf]⟩
      · go_wp2
        go_ret
        exact ⟨ret_int HS.out, HB0.out⟩
  · have hs : carSum x y z 2 sh pu = x * sh + y * sh + z * pu := by simp [carSum]
    have HS : Hid (wrap64 ((x * sh + y * sh + z * pu).tdiv 10000000) = carSum x y z 2 sh pu / 10000000) := Lib.hid (by rw [hs, Int.tdiv_eq_ediv_of_nonneg (by omega)]; exact w64 (by omega))
    clear hs
    have q0 : IntKind.i64.wrap (x * sh) = x * sh := i64w (by (apply Ev.e; repeat' (first | with_reducible assumption | with_reducible apply Ev.wrap | with_reducible apply Ev.mul | with_reducible apply Ev.add | with_reducible apply Ev.sub | with_reducible apply Ev.neg | exact Ev.lit _ | (decide +kernel))))
    have q1 : IntKind.i64.wrap (y * sh) = y * sh := i64w (by (apply Ev.e; repeat' (first | with_reducible assumption | with_reducible apply Ev.wrap | with_reducible apply Ev.mul | with_reducible apply Ev.add | with_reducible apply Ev.sub | with_reducible apply Ev.neg | exact Ev.lit _ | (decide +kernel))))
    have q2 : IntKind.i64.wrap (z * pu) = z * pu := i64w (by (apply Ev.e; repeat' (first | with_reducible assumption | with_reducible apply Ev.wrap | with_reducible apply Ev.mul | with_reducible apply Ev.add | with_reducible apply Ev.sub | with_reducible apply Ev.neg | exact Ev.lit _ | (decide +kernel))))
    have q3 : IntKind.i64.wrap (x * sh + y * sh) = x * sh + y * sh := i64w (by (apply Ev.e; repeat' (first | with_reducible assumption | with_reducible apply Ev.wrap | with_reducible apply Ev.mul | with_reducible apply Ev.add | with_reducible apply Ev.sub | with_reducible apply Ev.neg | exact Ev.lit _ | (decide +kernel))))
    have q4 : IntKind.i64.wrap (x * sh + y * sh + z * pu) = x * sh + y * sh + z * pu := i64w (by (apply Ev.e; repeat' (first | with_reducible assumption | with_reducible apply Ev.wrap | with_reducible apply Ev.mul | with_reducible apply Ev.add | with_reducible apply Ev.sub | with_reducible apply Ev.neg | exact Ev.lit _ | (decide +kernel))))
    clear EX EY EZ ES EP x0 y0 z0 a0 s0 p0 nx ny nz px py pz nbx nby nbz pbx pby pbz
    go_enter Try.func87, Try.ntmps87
    go_upto_region 1 with fail
    obtain ⟨w0, hw0⟩ : ∃ w0, (w.alloc (.cells #[.int .i64 x, .int .i64 y, .int .i64 z] 136)) = w0 := ⟨_, rfl⟩
    have HB0 : Hid (Below w.heap.size w w0) := Lib.hid (by rw [← hw0]; exact ((Below.refl _ _).alloc (Nat.le_refl _) _))
    have HC := Lib.hid (fun wx (hb : Below w0.heap.size w0 wx) => (show wx.cell? ⟨w.heap.size, 0, none⟩ = some (.int .i64 x) ∧ wx.cell? ⟨w.heap.size, 1, none⟩ = some (.int .i64 y) ∧ wx.cell? ⟨w.heap.size, 2, none⟩ = some (.int .i64 z) from by
      subst hw0
      obtain ⟨k, kf⟩ := bcell hb
      exact ⟨(k _ _ (by simp; try omega)).trans (by simp [go_sem]), (k _ _ (by simp; try omega)).trans (by simp [go_sem]), (k _ _ (by simp; try omega)).trans (by simp [go_sem])⟩))
    rw [hw0]
    clear hw0
    obtain ⟨c0, c1, c2⟩ := HC.out w0 (Below.refl _ _)
    clear HC
    go_wp2
    go_loopw [9, 10] (fun s i wr => ((i = .int .i64 0 ∧ s = .int .i64 (0)) ∨ (i = .int .i64 1 ∧ s = .int .i64 (x * sh)) ∨ (i = .int .i64 2 ∧ s = .int .i64 (x * sh + y * sh)) ∨ (i = .int .i64 3 ∧ s = .int .i64 (x * sh + y * sh + z * pu))) ∧ wr = w0) (fun _ i _ => 3 - (intOf i).toNat)
    case atStart => exact ⟨.inl ⟨rfl, rfl⟩, rfl⟩
    case round =>
      obtain ⟨hcase, rfl⟩ := hrel
      rcases hcase with ⟨rfl, rfl⟩ | ⟨rfl, rfl⟩ | ⟨rfl, rfl⟩ | ⟨rfl, rfl⟩
      · go_wp2
        exact ⟨by simp, by simp [intOf]⟩
      · go_wp2
        exact ⟨by simp, by simp [intOf]⟩
      · go_wp2
        exact ⟨by simp, by simp [intOf]⟩
      · go_wp2
        go_ret
        exact ⟨ret_int HS.out, HB0.out⟩
end Go.Proofs.Ytndkikalbghhaaa
