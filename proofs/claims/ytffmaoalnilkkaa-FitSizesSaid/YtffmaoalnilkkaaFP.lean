/- Walks over the fits: the fits of a panel. -/
import Derived.Test.YtffmaoalnilkkaaFN
import Derived.BigRegion
namespace Go.Proofs.Ytffmaoalnilkkaa
open Go.RowKit Go.Maps

/-- The value of a panel. -/
def pnV (W O : Md) (ho pl : Int) : Value := .agg #[.int .i64 W.s, .int .i64 W.r, .int .i64 W.m, .int .i64 W.g, .int .i64 W.lo, .int .i64 W.hi, .int .i64 O.s, .int .i64 O.r, .int .i64 O.m, .int .i64 O.g, .int .i64 O.lo, .int .i64 O.hi, .int .i64 ho, .int .i64 pl]
def grF (W O : Md) (ho pl : Int) (dep : Int) : Nat → FitD
  | 0 => ⟨pl, 600000, [O, ⟨2 * dep, 0, 0, O.g, 0, 0⟩], [W]⟩
  | _ => ⟨ho, 600000, [W], [O, ⟨dep, 0, 0, O.g, 0, 0⟩]⟩
theorem mdRow1 {w : World} {b : Nat} {x : Md} (h : MdAt w b 0 x) (hb : b < w.heap.size) : MdRow w (some ⟨b, 0, none⟩) 1 [x] :=
  ⟨rfl, fun _ => ⟨b, 0, rfl, hb, fun k hk => by match k, hk with | 0, _ => simpa using h⟩⟩
theorem mdRow2 {w : World} {b : Nat} {x y : Md} (h : MdAt w b 0 x) (h' : MdAt w b 6 y) (hb : b < w.heap.size) : MdRow w (some ⟨b, 0, none⟩) 2 [x, y] :=
  ⟨rfl, fun _ => ⟨b, 0, rfl, hb, fun k hk => by match k, hk with | 0, _ => simpa using h | 1, _ => simpa using h'⟩⟩
set_option maxHeartbeats 4000000 in
set_option maxRecDepth 20000 in
theorem groovesOf_any {W O : Md} {ho pl dep : Int} (hd : -1000000 ≤ dep ∧ dep ≤ 1000000) (w : World) :
    Calls Try.prog 68 #[pnV W O ho pl, .int .i64 dep] w fun e w' => ∃ blk, e = .returned (.slice (some ⟨blk, 0, none⟩) 2 2) ∧ FitAt w' blk 0 (grF W O ho pl dep 0) ∧ FitAt w' blk 5 (grF W O ho pl dep 1) ∧ Below w.heap.size w w' := by
  obtain ⟨a1, a2, a3, a4, a5, a6⟩ := W
  obtain ⟨b1, b2, b3, b4, b5, b6⟩ := O
  have hw1 : IntKind.i64.wrap (2 * dep) = 2 * dep := by rw [IntKind.wrap_i64]; omega
  unfold pnV
  go_enter Try.func68, Try.ntmps68
  go_wp2
  go_region
  all_goals
    go_wp2
    go_ret
    refine ⟨w.heap.size + 1 + 1 + 1 + 1 + 1 + 1 + 1, rfl, ⟨_, some ⟨w.heap.size + 1 + 1 + 1, 0, none⟩, 2, 2, some ⟨w.heap.size + 1 + 1 + 1 + 1, 0, none⟩, 1, 1, by simp [go_sem]; rfl, by simp [go_sem], by simp [go_sem], by simp [go_sem, grF], by simp [go_sem, grF], mdRow2 (by simp [MdAt, go_sem]) (by simp [MdAt, go_sem]) (by first | (simp; done) | (simp; omega)), mdRow1 (by simp [MdAt, go_sem]) (by first | (simp; done) | (simp; omega))⟩, ⟨_, some ⟨w.heap.size + 1 + 1 + 1 + 1 + 1, 0, none⟩, 1, 1, some ⟨w.heap.size + 1 + 1 + 1 + 1 + 1 + 1, 0, none⟩, 2, 2, by simp [go_sem]; rfl, by simp [go_sem], by simp [go_sem], by simp [go_sem, grF], by simp [go_sem, grF], mdRow1 (by simp [MdAt, go_sem]) (by first | (simp; done) | (simp; omega)), mdRow2 (by simp [MdAt, go_sem]) (by simp [MdAt, go_sem]) (by first | (simp; done) | (simp; omega))⟩, ?_⟩
    exact (((((((((Below.refl _ _).alloc (Nat.le_refl _) _).alloc (by simp) _).alloc (by simp; omega) _).alloc (by simp; omega) _).alloc (by simp; omega) _).alloc (by simp; omega) _).alloc (by simp; omega) _).alloc (by simp; omega) _).drew

theorem groove1_any {W O : Md} {ho pl dep : Int} {q : Nat} (hd : -1000000 ≤ dep ∧ dep ≤ 1000000) (w : World) (hq : ∀ k v, (#[.int .i64 W.s, .int .i64 W.r, .int .i64 W.m, .int .i64 W.g, .int .i64 W.lo, .int .i64 W.hi, .int .i64 O.s, .int .i64 O.r, .int .i64 O.m, .int .i64 O.g, .int .i64 O.lo, .int .i64 O.hi, .int .i64 ho, .int .i64 pl] : Array Value)[k]? = some v → w.cell? ⟨q, k, none⟩ = some v) :
    Calls Try.prog 67 #[.int .i64 dep, .pointer (some ⟨q, 0, none⟩)] w fun e w' => ∃ blk, e = .returned (.slice (some ⟨blk, 0, none⟩) 2 2) ∧ FitAt w' blk 0 (grF W O ho pl dep 0) ∧ FitAt w' blk 5 (grF W O ho pl dep 1) ∧ Below w.heap.size w w' := by
  have GR := Lib.hid (groovesOf_any (W := W) (O := O) (ho := ho) (pl := pl) hd w)
  have k0 := hq 0 _ rfl; have k1 := hq 1 _ rfl; have k2 := hq 2 _ rfl; have k3 := hq 3 _ rfl; have k4 := hq 4 _ rfl; have k5 := hq 5 _ rfl; have k6 := hq 6 _ rfl; have k7 := hq 7 _ rfl; have k8 := hq 8 _ rfl; have k9 := hq 9 _ rfl; have k10 := hq 10 _ rfl; have k11 := hq 11 _ rfl; have k12 := hq 12 _ rfl; have k13 := hq 13 _ rfl
  clear hq
  unfold pnV at GR
  go_enter Try.func67, Try.ntmps67
  go_wp2_with (go_at_call 68; refine Calls.mono GR.out ?_; rintro e w1 ⟨blk, rfl, hf0, hf1, hb1⟩)
  go_ret
  exact ⟨blk, rfl, hf0, hf1, hb1⟩
set_option maxHeartbeats 4000000 in
theorem panel1_any {W O : Md} {ho pl dep sz : Int} {q q2 : Nat} (hd : -1000000 ≤ dep ∧ dep ≤ 1000000) (w : World) (hq : ∀ k v, (#[.int .i64 W.s, .int .i64 W.r, .int .i64 W.m, .int .i64 W.g, .int .i64 W.lo, .int .i64 W.hi, .int .i64 O.s, .int .i64 O.r, .int .i64 O.m, .int .i64 O.g, .int .i64 O.lo, .int .i64 O.hi, .int .i64 ho, .int .i64 pl] : Array Value)[k]? = some v → w.cell? ⟨q, k, none⟩ = some v) (hq2 : w.cell? ⟨q2, 0, none⟩ = some (.int .i64 dep)) :
    Calls Try.prog 71 #[.int .i64 sz, .pointer (some ⟨q, 0, none⟩), .pointer (some ⟨q2, 0, none⟩)] w fun e w' => ∃ blk, e = .returned (.slice (some ⟨blk, 0, none⟩) 2 2) ∧ FitAt w' blk 0 (grF {W with s := sz} O ho pl dep 0) ∧ FitAt w' blk 5 (grF {W with s := sz} O ho pl dep 1) ∧ Below w.heap.size w w' := by
  have l2 := World.block_lt_of_cell? w _ hq2
  simp only at l2
  have hal : ∀ o, (w.alloc o).cell? ⟨q2, 0, none⟩ = some (.int .i64 dep) := fun o => (((Below.refl w.heap.size w).alloc (Nat.le_refl _) o).cell (p := ⟨q2, 0, none⟩) l2).trans hq2
  have GR := Lib.hid (fun o => groovesOf_any (W := {W with s := sz}) (O := O) (ho := ho) (pl := pl) hd (w.alloc o))
  have k0 := hq 0 _ rfl; have k1 := hq 1 _ rfl; have k2 := hq 2 _ rfl; have k3 := hq 3 _ rfl; have k4 := hq 4 _ rfl; have k5 := hq 5 _ rfl; have k6 := hq 6 _ rfl; have k7 := hq 7 _ rfl; have k8 := hq 8 _ rfl; have k9 := hq 9 _ rfl; have k10 := hq 10 _ rfl; have k11 := hq 11 _ rfl; have k12 := hq 12 _ rfl; have k13 := hq 13 _ rfl
  clear hq
  unfold pnV at GR
  go_enter Try.func71, Try.ntmps71
  go_wp2_with (go_at_call 68; refine Calls.mono (GR.out _) ?_; rintro e w1 ⟨blk, rfl, hf0, hf1, hb1⟩)
  go_ret
  exact ⟨blk, rfl, hf0, hf1, ((Below.refl _ _).alloc (Nat.le_refl _) _).trans (hb1.mono (by simp))⟩
theorem sizesOf_any {x : Md} (h : 0 ≤ x.hi ∧ x.hi ≤ 600000) (w : World) :
    Calls Try.prog 70 #[mdV x] w fun e w' => e = .returned (.agg #[.int .i64 x.lo, .int .i64 (600000 - x.hi)]) ∧ Below w.heap.size w w' := by
  have hw1 : IntKind.i64.wrap (600000 - x.hi) = 600000 - x.hi := by rw [IntKind.wrap_i64]; omega
  have hw2 : wrap64 (600000 - x.hi) = 600000 - x.hi := w64 (by omega)
  unfold mdV
  go_enter Try.func70, Try.ntmps70
  go_wp2
  refine bodyPost_ret (v := .agg #[.int .i64 x.lo, .int .i64 (600000 - x.hi)]) (by simp [results, Try.results70, go_sem]) rfl ⟨rfl, ?_⟩
  exact ((Below.refl _ _).alloc (Nat.le_refl _) _).alloc (by simp) _
set_option maxHeartbeats 4000000 in
set_option maxRecDepth 20000 in
theorem checkPanel_ok {W O : Md} {ho pl : Int} (hW : MdOk W) (hO : MdOk O) (hh : allIn 0 100000 [ho, pl] = true) (w : World) :
    Calls Try.prog 65 #[pnV W O ho pl] w fun e w' => e = .returned (.int .i64 0) ∧ Below w.heap.size w w' := by
  have CW := fun wx => Lib.hid (made_any (w := wx) (madeCode_ok hW))
  have CO := fun wx => Lib.hid (made_any (w := wx) (madeCode_ok hO))
  have X := Lib.hid hh
  obtain ⟨a1, a2, a3, a4, a5, a6⟩ := W
  obtain ⟨b1, b2, b3, b4, b5, b6⟩ := O
  have hi0 : ∀ w, (Instr.index 135 (.agg #[.int .i64 a1, .int .i64 a2, .int .i64 a3, .int .i64 a4, .int .i64 a5, .int .i64 a6, .int .i64 b1, .int .i64 b2, .int .i64 b3, .int .i64 b4, .int .i64 b5, .int .i64 b6]) (.int .i64 0)).run Try.prog w = .ok (.agg #[.int .i64 a1, .int .i64 a2, .int .i64 a3, .int .i64 a4, .int .i64 a5, .int .i64 a6]) w := fun w => by
    simp [Instr.index, run_underlying Try.underlying135, Result.andThen, asIntOf, go_sem, Try.sizeOf44, Try.isAgg44]
  have hi1 : ∀ w, (Instr.index 135 (.agg #[.int .i64 a1, .int .i64 a2, .int .i64 a3, .int .i64 a4, .int .i64 a5, .int .i64 a6, .int .i64 b1, .int .i64 b2, .int .i64 b3, .int .i64 b4, .int .i64 b5, .int .i64 b6]) (.int .i64 1)).run Try.prog w = .ok (.agg #[.int .i64 b1, .int .i64 b2, .int .i64 b3, .int .i64 b4, .int .i64 b5, .int .i64 b6]) w := fun w => by
    simp [Instr.index, run_underlying Try.underlying135, Result.andThen, asIntOf, go_sem, Try.sizeOf44, Try.isAgg44]
  clear hW hO hh
  unfold pnV
  unfold mdV at CW CO
  simp only at CW CO
  go_enter Try.func65, Try.ntmps65
  go_wp2
  go_loopw [11] (fun i wr => ∃ k : Nat, k ≤ 2 ∧ i = .int .i64 k ∧ wr.cell? ⟨w.heap.size, 12, none⟩ = some (.int .i64 ho) ∧ wr.cell? ⟨w.heap.size, 13, none⟩ = some (.int .i64 pl) ∧ Hid (Below w.heap.size w wr) ∧ w.heap.size < wr.heap.size) (fun i _ => 2 - (intOf i).toNat)
  case atStart => exact ⟨0, by omega, rfl, by simp [go_sem], by simp [go_sem], Lib.hid ((Below.refl _ _).alloc (Nat.le_refl _) _), by simp⟩
  case round =>
    obtain ⟨k, hk, rfl, c12, c13, hb, hsz⟩ := hrel
    obtain rfl | rfl | rfl : k = 0 ∨ k = 1 ∨ k = 2 := by omega
    · go_wp2_with (go_at_call 23; refine Calls.mono (CW _).out ?_; rintro e w1 ⟨rfl, hb1⟩; have hbx := (((Below.refl wr.heap.size wr).alloc (Nat.le_refl _) _).trans (hb1.mono (by simp)) : Below wr.heap.size wr w1))
      go_roundw
      case rel => exact ⟨1, by omega, by go_num, (hbx.cell (p := ⟨w.heap.size, 12, none⟩) hsz).trans c12, (hbx.cell (p := ⟨w.heap.size, 13, none⟩) hsz).trans c13, Lib.hid (hb.out.trans (hbx.mono hb.out.size)), Nat.lt_of_lt_of_le hsz hbx.size⟩
      case measure => simp [intOf]
    · go_wp2_with (go_at_call 23; refine Calls.mono (CO _).out ?_; rintro e w1 ⟨rfl, hb1⟩; have hbx := (((Below.refl wr.heap.size wr).alloc (Nat.le_refl _) _).trans (hb1.mono (by simp)) : Below wr.heap.size wr w1))
      go_roundw
      case rel => exact ⟨2, by omega, by go_num, (hbx.cell (p := ⟨w.heap.size, 12, none⟩) hsz).trans c12, (hbx.cell (p := ⟨w.heap.size, 13, none⟩) hsz).trans c13, Lib.hid (hb.out.trans (hbx.mono hb.out.size)), Nat.lt_of_lt_of_le hsz hbx.size⟩
      case measure => simp [intOf]
    · go_wp2_with (go_at_call 54; (with_reducible refine (withinTwo_fit X.out _ _ (by simp)).mono ?_); rintro e w1 ⟨rfl, hb1⟩)
      go_ret
      exact ⟨rfl, hb.out.trans (hb1.mono hb.out.size)⟩
set_option maxHeartbeats 4000000 in
theorem checkGrooves_ok {W O : Md} {ho pl dep : Int} (hW : MdOk W) (hO : MdOk O) (hh : allIn 0 100000 [ho, pl] = true) (hd : allIn 0 300000 [dep] = true) (w : World) :
    Calls Try.prog 69 #[pnV W O ho pl, .int .i64 dep] w fun e w' => e = .returned (.int .i64 0) ∧ Below w.heap.size w w' := by
  have CP := fun wx => Lib.hid (checkPanel_ok hW hO hh wx)
  have X := Lib.hid hd
  clear hd hh hW hO
  unfold pnV at CP ⊢
  go_enter Try.func69, Try.ntmps69
  go_wp2_with (go_at_call 65; refine Calls.mono (CP _).out ?_; rintro e w1 ⟨rfl, hb1⟩)
  go_wp2_with (go_at_call 54; (with_reducible refine (withinOne_fit X.out _ _ (by simp)).mono ?_); rintro e w2 ⟨rfl, hb2⟩)
  go_ret
  exact ⟨rfl, ((Below.refl _ _).alloc (Nat.le_refl _) _).trans ((hb1.mono (by simp)).trans (hb2.mono (by have := hb1.size; simp at this; omega)))⟩
end Go.Proofs.Ytffmaoalnilkkaa
