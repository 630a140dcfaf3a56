/- Glue and hinges. -/
import Derived.Test.YtablphoicidlkaaBA
namespace Go.Proofs.Ytablphoicidlkaa
open Go.RowKit

def arV (x y z : Int) : Value := .agg #[.int .i64 x, .int .i64 y, .int .i64 z]
def carE (x y z ax sh pu : Int) : Int := firstE [rngE 0 1000000000000 [x, y, z], rngE 0 2 [ax], rngE 0 100000 [sh, pu]]
def carSum (x y z ax sh pu : Int) : Int := x * (bif ax == 0 then pu else sh) + y * (bif ax == 1 then pu else sh) + z * (bif ax == 2 then pu else sh)
structure CarOk (x y z ax sh pu : Int) : Prop where
  x0 : 0 ≤ x ∧ x ≤ 1000000000000
  y0 : 0 ≤ y ∧ y ≤ 1000000000000
  z0 : 0 ≤ z ∧ z ≤ 1000000000000
  a0 : 0 ≤ ax ∧ ax ≤ 2
  s0 : 0 ≤ sh ∧ sh ≤ 100000
  p0 : 0 ≤ pu ∧ pu ≤ 100000
theorem carE_ok {x y z ax sh pu : Int} : carE x y z ax sh pu = 0 ↔ CarOk x y z ax sh pu := by
  unfold carE
  rw [firstE_ok]
  simp only [List.mem_cons, List.not_mem_nil, or_false, forall_eq_or_imp, forall_eq, rngE_ok]
  constructor
  · rintro ⟨⟨a, b, c⟩, d, e, f⟩
    exact ⟨a, b, c, d, e, f⟩
  · rintro ⟨a, b, c, d, e, f⟩
    exact ⟨⟨a, b, c⟩, d, e, f⟩
theorem carE_two (x y z ax sh pu : Int) : carE x y z ax sh pu = 0 ∨ carE x y z ax sh pu = 2 := by
  unfold carE
  refine firstE_two fun x hx => ?_
  simp only [List.mem_cons, List.not_mem_nil, or_false] at hx
  rcases hx with rfl | rfl | rfl <;> exact rngE_two
theorem run_indexA (x y z i v : Int) (h : (i = 0 ∧ v = x) ∨ (i = 1 ∧ v = y) ∨ (i = 2 ∧ v = z)) (w : World) :
    (Instr.index 136 (.agg #[.int .i64 x, .int .i64 y, .int .i64 z]) (.int .i64 i)).run Try.prog w = .ok (.int .i64 v) w := by
  rcases h with ⟨rfl, rfl⟩ | ⟨rfl, rfl⟩ | ⟨rfl, rfl⟩ <;> kernel_rfl
set_option maxHeartbeats 4000000 in
set_option maxRecDepth 20000 in
theorem carries_any (x y z ax sh pu : Int) (w : World) : Calls Try.prog 83 #[arV x y z, .int .i64 ax, .int .i64 sh, .int .i64 pu] w
    fun e w' => e = .returned (bif carE x y z ax sh pu == 0 then .tuple #[.int .i64 (carSum x y z ax sh pu / 10000000), .int .i64 0] else .tuple #[.int .i64 0, .int .i64 2]) ∧ Below w.heap.size w w' := by
  have HE : Hid (carE x y z ax sh pu = firstE [rngE 0 1000000000000 [x, y, z], rngE 0 2 [ax], rngE 0 100000 [sh, pu]]) := Lib.hid rfl
  have C1 := fun wx b c (h : IntRow wx (some ⟨b, 0, none⟩) 3 [x, y, z]) => Lib.hid (checkRange_any (c := c) (lo := 0) (hi := 1000000000000) wx h (by decide))
  have C2 := fun wx b (h : IntRow wx (some ⟨b, 0, none⟩) 1 [ax]) => Lib.hid (checkRange_any (c := 1) (lo := 0) (hi := 2) wx h (by decide))
  have C3 := fun wx b (h : IntRow wx (some ⟨b, 0, none⟩) 2 [sh, pu]) => Lib.hid (checkRange_any (c := 2) (lo := 0) (hi := 100000) wx h (by decide))
  have htw := carE_two x y z ax sh pu
  have HOK := Lib.hid (fun h => (carE_ok (x := x) (y := y) (z := z) (ax := ax) (sh := sh) (pu := pu)).1 h)
  unfold arV
  generalize hee : carE x y z ax sh pu = ee at *
  clear hee
  generalize rngE 0 1000000000000 [x, y, z] = e1 at *
  generalize rngE 0 2 [ax] = e2 at *
  generalize rngE 0 100000 [sh, pu] = e3 at *
  have C4 := fun wx b (h : IntRow wx (some ⟨b, 0, none⟩) 3 [e1, e2, e3]) => Lib.hid (firstError_any (c := 3) wx h (by decide))
  rw [← HE.out] at C4
  clear HE
  have HTW := Lib.hid htw
  clear htw
  have R1 := Lib.hid (fun wx => intRow_new wx [x, y, z] 136 _ rfl (n := 3) rfl)
  go_enter Try.func83, Try.ntmps83
  go_upto_region 1 with fail
  obtain ⟨w0, hw0⟩ : ∃ w0, (w.alloc (.cells #[.int .i64 x, .int .i64 y, .int .i64 z] 136)) = w0 := ⟨_, rfl⟩
  have HB0 : Hid (Below w.heap.size w w0) := Lib.hid (by rw [← hw0]; exact ((Below.refl _ _).alloc (Nat.le_refl _) _))
  have HC := Lib.hid (fun wx (hb : Below w0.heap.size w0 wx) => (show wx.cell? ⟨w.heap.size, 0, none⟩ = some (.int .i64 x) ∧ wx.cell? ⟨w.heap.size, 1, none⟩ = some (.int .i64 y) ∧ wx.cell? ⟨w.heap.size, 2, none⟩ = some (.int .i64 z) from by
    subst hw0
    obtain ⟨k, kf⟩ := bcell hb
    exact ⟨(k _ _ (by simp; try omega)).trans (by simp [go_sem]), (k _ _ (by simp; try omega)).trans (by simp [go_sem]), (k _ _ (by simp; try omega)).trans (by simp [go_sem])⟩))
  rw [hw0]
  have hw0' := hw0
  clear hw0
  have A1 := Lib.hid (show IntRow (w0.alloc (.cells #[.int .i64 ax] 3)) (some ⟨w0.heap.size, 0, none⟩) 1 [ax] from intRow_new w0 [ax] 3 _ rfl (n := 1) rfl)
  have A2 := Lib.hid (show IntRow ((w0.alloc (.cells #[.int .i64 ax] 3)).alloc (.cells #[.int .i64 sh, .int .i64 pu] 3)) (some ⟨w0.heap.size + 1, 0, none⟩) 2 [sh, pu] from (by have := intRow_new (w0.alloc (.cells #[.int .i64 ax] 3)) [sh, pu] 3 _ rfl (n := 2) rfl; simpa using this))
  have A3 := Lib.hid (show IntRow (((w0.alloc (.cells #[.int .i64 ax] 3)).alloc (.cells #[.int .i64 sh, .int .i64 pu] 3)).alloc (.cells #[.int .i64 e1, .int .i64 e2, .int .i64 e3] 31)) (some ⟨w0.heap.size + 2, 0, none⟩) 3 [e1, e2, e3] from (by have := intRow_new ((w0.alloc (.cells #[.int .i64 ax] 3)).alloc (.cells #[.int .i64 sh, .int .i64 pu] 3)) [e1, e2, e3] 31 _ rfl (n := 3) rfl; simpa using this))
  have RB := Lib.hid (show IntRow w0 (some ⟨w.heap.size, 0, none⟩) 3 [x, y, z] from by rw [← hw0']; exact R1.out w)
  clear R1 hw0'
  go_upto_region 2 with (first | (go_at_call 96; (with_reducible refine Calls.mono (C1 _ _ _ RB.out).out ?_); rintro e w1 ⟨rfl, rfl⟩) | (go_at_call 96; (with_reducible refine Calls.mono (C2 _ _ A1.out).out ?_); rintro e w1 ⟨rfl, rfl⟩) | (go_at_call 96; (with_reducible refine Calls.mono (C3 _ _ A2.out).out ?_); rintro e w1 ⟨rfl, rfl⟩) | (go_at_call 95; (with_reducible refine Calls.mono (C4 _ _ A3.out).out ?_); rintro e w1 ⟨rfl, rfl⟩) | fail)
  obtain ⟨w5, hw5⟩ : ∃ w5, (((w0.alloc (.cells #[.int .i64 ax] 3)).alloc (.cells #[.int .i64 sh, .int .i64 pu] 3)).alloc (.cells #[.int .i64 e1, .int .i64 e2, .int .i64 e3] 31)) = w5 := ⟨_, rfl⟩
  have hb5 : Below w0.heap.size w0 w5 := by rw [← hw5]; exact (((Below.refl _ _).alloc (Nat.le_refl _) _).alloc (by simp) _).alloc (by simp; try omega) _
  rw [hw5]
  clear hw5 A1 A2 A3 RB C1 C2 C3 C4
  obtain ⟨c0, c1, c2⟩ := HC.out w5 hb5
  have HBX := Lib.hid (HB0.out.trans (hb5.mono HB0.out.size))
  clear hb5 HC
  rcases HTW.out with rfl | rfl
  · obtain ⟨x0, y0, z0, a0, s0, p0⟩ := HOK.out rfl
    clear HOK HTW
    have EX : Ev x x 1000000000000 := .of (by omega)
    have EY : Ev y y 1000000000000 := .of (by omega)
    have EZ : Ev z z 1000000000000 := .of (by omega)
    have ES : Ev sh sh 100000 := .of (by omega)
    have EP : Ev pu pu 100000 := .of (by omega)
    have nx := Int.mul_nonneg x0.1 s0.1
    have ny := Int.mul_nonneg y0.1 s0.1
    have nz := Int.mul_nonneg z0.1 s0.1
    have px := Int.mul_nonneg x0.1 p0.1
    have py := Int.mul_nonneg y0.1 p0.1
    have pz := Int.mul_nonneg z0.1 p0.1
    have bx := Int.mul_le_mul x0.2 p0.2 p0.1 (by decide)
    have by1 := Int.mul_le_mul y0.2 p0.2 p0.1 (by decide)
    have bz := Int.mul_le_mul z0.2 p0.2 p0.1 (by decide)
    have cx := Int.mul_le_mul x0.2 s0.2 s0.1 (by decide)
    have cy := Int.mul_le_mul y0.2 s0.2 s0.1 (by decide)
    have cz := Int.mul_le_mul z0.2 s0.2 s0.1 (by decide)
    obtain rfl | rfl | rfl : ax = 0 ∨ ax = 1 ∨ ax = 2 := by omega
    · have hs : carSum x y z 0 sh pu = x * pu + y * sh + z * sh := by simp [carSum]
      have HS : Hid (wrap64 ((x * pu + y * sh + z * sh).tdiv 10000000) = carSum x y z 0 sh pu / 10000000) := Lib.hid (by rw [hs, Int.tdiv_eq_ediv_of_nonneg (by omega)]; exact w64 (by omega))
      clear hs bx by1 bz cx cy cz
      have q0 : IntKind.i64.wrap (x * pu) = x * pu := i64w (by (apply Ev.e; repeat' (first | with_reducible assumption | with_reducible apply Ev.wrap | with_reducible apply Ev.mul | with_reducible apply Ev.add | with_reducible apply Ev.sub | with_reducible apply Ev.neg | exact Ev.lit _ | (decide +kernel))))
      have q1 : IntKind.i64.wrap (y * sh) = y * sh := i64w (by (apply Ev.e; repeat' (first | with_reducible assumption | with_reducible apply Ev.wrap | with_reducible apply Ev.mul | with_reducible apply Ev.add | with_reducible apply Ev.sub | with_reducible apply Ev.neg | exact Ev.lit _ | (decide +kernel))))
      have q2 : IntKind.i64.wrap (x * pu + y * sh) = x * pu + y * sh := i64w (by (apply Ev.e; repeat' (first | with_reducible assumption | with_reducible apply Ev.wrap | with_reducible apply Ev.mul | with_reducible apply Ev.add | with_reducible apply Ev.sub | with_reducible apply Ev.neg | exact Ev.lit _ | (decide +kernel))))
      have q3 : IntKind.i64.wrap (z * sh) = z * sh := i64w (by (apply Ev.e; repeat' (first | with_reducible assumption | with_reducible apply Ev.wrap | with_reducible apply Ev.mul | with_reducible apply Ev.add | with_reducible apply Ev.sub | with_reducible apply Ev.neg | exact Ev.lit _ | (decide +kernel))))
      have q4 : IntKind.i64.wrap (x * pu + y * sh + z * sh) = x * pu + y * sh + z * sh := i64w (by (apply Ev.e; repeat' (first | with_reducible assumption | with_reducible apply Ev.wrap | with_reducible apply Ev.mul | with_reducible apply Ev.add | with_reducible apply Ev.sub | with_reducible apply Ev.neg | exact Ev.lit _ | (decide +kernel))))
      clear EX EY EZ ES EP x0 y0 z0 a0 s0 p0 nx ny nz px py pz
      go_wp2
      go_loopw [11, 12, 13, 34] (fun s _ _ i wr => ((i = .int .i64 0 ∧ s = .int .i64 (x * pu)) ∨ (i = .int .i64 1 ∧ s = .int .i64 (x * pu)) ∨ (i = .int .i64 2 ∧ s = .int .i64 (x * pu + y * sh)) ∨ (i = .int .i64 3 ∧ s = .int .i64 (x * pu + y * sh + z * sh))) ∧ Below w.heap.size w wr) (fun _ _ _ i _ => 3 - (intOf i).toNat)
      case atStart => exact ⟨.inl ⟨rfl, rfl⟩, HBX.out⟩
      case round =>
        obtain ⟨hcase, hbw⟩ := hrel
        have HBW := Lib.hid hbw
        clear hbw
        have IX0 := run_indexA x y z _ _ (.inl ⟨rfl, rfl⟩)
        have IX1 := run_indexA x y z _ _ (.inr (.inl ⟨rfl, rfl⟩))
        have IX2 := run_indexA x y z _ _ (.inr (.inr ⟨rfl, rfl⟩))
        rcases hcase with ⟨rfl, rfl⟩ | ⟨rfl, rfl⟩ | ⟨rfl, rfl⟩ | ⟨rfl, rfl⟩
        · go_wp2
          exact ⟨⟨.inr (.inl ⟨rfl, rfl⟩), HBW.out⟩, by simp [intOf]⟩
        · go_wp2
          exact ⟨⟨.inr (.inr (.inl ⟨rfl, rfl⟩)), HBW.out⟩, by simp [intOf]⟩
        · go_wp2
          exact ⟨⟨.inr (.inr (.inr ⟨rfl, rfl⟩)), HBW.out⟩, by simp [intOf]⟩
        · go_wp2
          refine bodyPost_ret (v := .tuple #[.int .i64 (carSum x y z 0 sh pu / 10000000), .int .i64 0]) (by rw [← HS.out]; simp [results, Try.results83, go_sem]) rfl ⟨rfl, HBW.out⟩
    · have hs : carSum x y z 1 sh pu = y * pu + x * sh + z * sh := by simp [carSum]; omega
      have HS : Hid (wrap64 ((y * pu + x * sh + z * sh).tdiv 10000000) = carSum x y z 1 sh pu / 10000000) := Lib.hid (by rw [hs, Int.tdiv_eq_ediv_of_nonneg (by omega)]; exact w64 (by omega))
      clear hs bx by1 bz cx cy cz
      have q0 : IntKind.i64.wrap (y * pu) = y * pu := i64w (by (apply Ev.e; repeat' (first | with_reducible assumption | with_reducible apply Ev.wrap | with_reducible apply Ev.mul | with_reducible apply Ev.add | with_reducible apply Ev.sub | with_reducible apply Ev.neg | exact Ev.lit _ | (decide +kernel))))
      have q1 : IntKind.i64.wrap (x * sh) = x * sh := i64w (by (apply Ev.e; repeat' (first | with_reducible assumption | with_reducible apply Ev.wrap | with_reducible apply Ev.mul | with_reducible apply Ev.add | with_reducible apply Ev.sub | with_reducible apply Ev.neg | exact Ev.lit _ | (decide +kernel))))
      have q2 : IntKind.i64.wrap (y * pu + x * sh) = y * pu + x * sh := i64w (by (apply Ev.e; repeat' (first | with_reducible assumption | with_reducible apply Ev.wrap | with_reducible apply Ev.mul | with_reducible apply Ev.add | with_reducible apply Ev.sub | with_reducible apply Ev.neg | exact Ev.lit _ | (decide +kernel))))
      have q3 : IntKind.i64.wrap (z * sh) = z * sh := i64w (by (apply Ev.e; repeat' (first | with_reducible assumption | with_reducible apply Ev.wrap | with_reducible apply Ev.mul | with_reducible apply Ev.add | with_reducible apply Ev.sub | with_reducible apply Ev.neg | exact Ev.lit _ | (decide +kernel))))
      have q4 : IntKind.i64.wrap (y * pu + x * sh + z * sh) = y * pu + x * sh + z * sh := i64w (by (apply Ev.e; repeat' (first | with_reducible assumption | with_reducible apply Ev.wrap | with_reducible apply Ev.mul | with_reducible apply Ev.add | with_reducible apply Ev.sub | with_reducible apply Ev.neg | exact Ev.lit _ | (decide +kernel))))
      clear EX EY EZ ES EP x0 y0 z0 a0 s0 p0 nx ny nz px py pz
      go_wp2
      go_loopw [11, 12, 13, 34] (fun s _ _ i wr => ((i = .int .i64 0 ∧ s = .int .i64 (y * pu)) ∨ (i = .int .i64 1 ∧ s = .int .i64 (y * pu + x * sh)) ∨ (i = .int .i64 2 ∧ s = .int .i64 (y * pu + x * sh)) ∨ (i = .int .i64 3 ∧ s = .int .i64 (y * pu + x * sh + z * sh))) ∧ Below w.heap.size w wr) (fun _ _ _ i _ => 3 - (intOf i).toNat)
      case atStart => exact ⟨.inl ⟨rfl, rfl⟩, HBX.out⟩
      case round =>
        obtain ⟨hcase, hbw⟩ := hrel
        have HBW := Lib.hid hbw
        clear hbw
        have IX0 := run_indexA x y z _ _ (.inl ⟨rfl, rfl⟩)
        have IX1 := run_indexA x y z _ _ (.inr (.inl ⟨rfl, rfl⟩))
        have IX2 := run_indexA x y z _ _ (.inr (.inr ⟨rfl, rfl⟩))
        rcases hcase with ⟨rfl, rfl⟩ | ⟨rfl, rfl⟩ | ⟨rfl, rfl⟩ | ⟨rfl, rfl⟩
        · go_wp2
          exact ⟨⟨.inr (.inl ⟨rfl, rfl⟩), HBW.out⟩, by simp [intOf]⟩
        · go_wp2
          exact ⟨⟨.inr (.inr (.inl ⟨rfl, rfl⟩)), HBW.out⟩, by simp [intOf]⟩
        · go_wp2
          exact ⟨⟨.inr (.inr (.inr ⟨rfl, rfl⟩)), HBW.out⟩, by simp [intOf]⟩
        · go_wp2
          refine bodyPost_ret (v := .tuple #[.int .i64 (carSum x y z 1 sh pu / 10000000), .int .i64 0]) (by rw [← HS.out]; simp [results, Try.results83, go_sem]) rfl ⟨rfl, HBW.out⟩
    · have hs : carSum x y z 2 sh pu = z * pu + x * sh + y * sh := by simp [carSum]; omega
      have HS : Hid (wrap64 ((z * pu + x * sh + y * sh).tdiv 10000000) = carSum x y z 2 sh pu / 10000000) := Lib.hid (by rw [hs, Int.tdiv_eq_ediv_of_nonneg (by omega)]; exact w64 (by omega))
      clear hs bx by1 bz cx cy cz
      have q0 : IntKind.i64.wrap (z * pu) = z * pu := i64w (by (apply Ev.e; repeat' (first | with_reducible assumption | with_reducible apply Ev.wrap | with_reducible apply Ev.mul | with_reducible apply Ev.add | with_reducible apply Ev.sub | with_reducible apply Ev.neg | exact Ev.lit _ | (decide +kernel))))
      have q1 : IntKind.i64.wrap (x * sh) = x * sh := i64w (by (apply Ev.e; repeat' (first | with_reducible assumption | with_reducible apply Ev.wrap | with_reducible apply Ev.mul | with_reducible apply Ev.add | with_reducible apply Ev.sub | with_reducible apply Ev.neg | exact Ev.lit _ | (decide +kernel))))
      have q2 : IntKind.i64.wrap (z * pu + x * sh) = z * pu + x * sh := i64w (by (apply Ev.e; repeat' (first | with_reducible assumption | with_reducible apply Ev.wrap | with_reducible apply Ev.mul | with_reducible apply Ev.add | with_reducible apply Ev.sub | with_reducible apply Ev.neg | exact Ev.lit _ | (decide +kernel))))
      have q3 : IntKind.i64.wrap (y * sh) = y * sh := i64w (by (apply Ev.e; repeat' (first | with_reducible assumption | with_reducible apply Ev.wrap | with_reducible apply Ev.mul | with_reducible apply Ev.add | with_reducible apply Ev.sub | with_reducible apply Ev.neg | exact Ev.lit _ | (decide +kernel))))
      have q4 : IntKind.i64.wrap (z * pu + x * sh + y * sh) = z * pu + x * sh + y * sh := i64w (by (apply Ev.e; repeat' (first | with_reducible assumption | with_reducible apply Ev.wrap | with_reducible apply Ev.mul | with_reducible apply Ev.add | with_reducible apply Ev.sub | with_reducible apply Ev.neg | exact Ev.lit _ | (decide +kernel))))
      clear EX EY EZ ES EP x0 y0 z0 a0 s0 p0 nx ny nz px py pz
      go_wp2
      go_loopw [11, 12, 13, 34] (fun s _ _ i wr => ((i = .int .i64 0 ∧ s = .int .i64 (z * pu)) ∨ (i = .int .i64 1 ∧ s = .int .i64 (z * pu + x * sh)) ∨ (i = .int .i64 2 ∧ s = .int .i64 (z * pu + x * sh + y * sh)) ∨ (i = .int .i64 3 ∧ s = .int .i64 (z * pu + x * sh + y * sh))) ∧ Below w.heap.size w wr) (fun _ _ _ i _ => 3 - (intOf i).toNat)
      case atStart => exact ⟨.inl ⟨rfl, rfl⟩, HBX.out⟩
      case round =>
        obtain ⟨hcase, hbw⟩ := hrel
        have HBW := Lib.hid hbw
        clear hbw
        have IX0 := run_indexA x y z _ _ (.inl ⟨rfl, rfl⟩)
        have IX1 := run_indexA x y z _ _ (.inr (.inl ⟨rfl, rfl⟩))
        have IX2 := run_indexA x y z _ _ (.inr (.inr ⟨rfl, rfl⟩))
        rcases hcase with ⟨rfl, rfl⟩ | ⟨rfl, rfl⟩ | ⟨rfl, rfl⟩ | ⟨rfl, rfl⟩
        · go_wp2
          exact ⟨⟨.inr (.inl ⟨rfl, rfl⟩), HBW.out⟩, by simp [intOf]⟩
        · go_wp2
          exact ⟨⟨.inr (.inr (.inl ⟨rfl, rfl⟩)), HBW.out⟩, by simp [intOf]⟩
        · go_wp2
          exact ⟨⟨.inr (.inr (.inr ⟨rfl, rfl⟩)), HBW.out⟩, by simp [intOf]⟩
        · go_wp2
          refine bodyPost_ret (v := .tuple #[.int .i64 (carSum x y z 2 sh pu / 10000000), .int .i64 0]) (by rw [← HS.out]; simp [results, Try.results83, go_sem]) rfl ⟨rfl, HBW.out⟩
  · clear HOK HTW
    go_wp2
    refine bodyPost_ret (v := .tuple #[.int .i64 0, .int .i64 2]) (by simp [results, Try.results83, go_sem]) rfl ⟨rfl, HBX.out⟩
end Go.Proofs.Ytablphoicidlkaa
