/- Walks over beams: the least number. -/
import Derived.Deep.RegionHeld3
import Derived.Test.YtablphoicidlkaaSQ
namespace Go.Proofs.Ytablphoicidlkaa
open Go.RowKit

set_option maxHeartbeats 2000000 in
theorem leastCloLS_any {p0 p1 p2 p3 P3 P5 : Addr} {i : Nat} (hi : i < 2000) {v : Bool} (w : World)
    (hq : Calls Try.prog 121 #[.int .i64 (1 + (i : Int)), .pointer (some p0), .pointer (some p1), .pointer (some p2), .pointer (some p3)] w fun e w' => e = .returned (.bool v) ∧ Below w.heap.size w w')
    (c5 : w.cell? P5 = some (.func (.func 121) #[] #[.pointer (some p0), .pointer (some p1), .pointer (some p2), .pointer (some p3)])) (c3 : w.cell? P3 = some (.int .i64 1)) :
    Calls Try.prog 155 #[.int .i64 i, .pointer (some P5), .pointer (some P3)] w fun e w' => e = .returned (.bool v) ∧ Below w.heap.size w w' := by
  have HQ := Lib.hid hq
  clear hq
  have hi2 : (i : Int) < 2000 := by omega
  go_enter Try.func155, Try.ntmps155
  go_wp2_with (go_at_call 121; (refine Calls.mono HQ.out ?_); rintro e w1 ⟨rfl, hb1⟩; have HX := Lib.hid hb1; clear hb1)
  go_ret
  exact ⟨rfl, HX.out⟩
def LeastOutLS (q : Nat → Bool) (w : World) (e : Ending) (w' : World) : Prop := ∃ r : Nat, e = .returned (.int .i64 (1 + (r : Int))) ∧ Found 2000 q r ∧ Below w.heap.size w w'
set_option maxHeartbeats 4000000 in
set_option maxRecDepth 20000 in
theorem leastLS_any {p0 p1 p2 p3 : Addr} {q : Nat → Bool} (w : World)
    (hQ : ∀ (wx : World) (i : Nat), i < 2000 → Below w.heap.size w wx → Calls Try.prog 121 #[.int .i64 (1 + (i : Int)), .pointer (some p0), .pointer (some p1), .pointer (some p2), .pointer (some p3)] wx fun e w' => e = .returned (.bool (q i)) ∧ Below wx.heap.size wx w') :
    Calls Try.prog 119 #[.int .i64 1, .int .i64 2000, .func (.func 121) #[] #[.pointer (some p0), .pointer (some p1), .pointer (some p2), .pointer (some p3)]] w (LeastOutLS q w) := by
  have HS := Lib.hid (fun wy (hy : Below w.heap.size w wy) (c5 : wy.cell? ⟨w.heap.size + 1, 0, none⟩ = some (.func (.func 121) #[] #[.pointer (some p0), .pointer (some p1), .pointer (some p2), .pointer (some p3)])) (c3 : wy.cell? ⟨w.heap.size, 0, none⟩ = some (.int .i64 1)) (hlt : w.heap.size + 1 < wy.heap.size) =>
    search_any (N := 2000) (q := q) (a := ⟨w.heap.size + 1, 0, none⟩) (b := ⟨w.heap.size, 0, none⟩) (by decide) wy (fun wx m hm hx => leastCloLS_any hm wx (hQ wx m hm (hy.trans (hx.mono hy.size))) (((bcell hx).1 _ _ hlt).trans c5) (((bcell hx).1 _ _ (by omega)).trans c3)))
  clear hQ
  go_enter Try.func119, Try.ntmps119
  go_wp2
  obtain ⟨w0, hw0⟩ : ∃ w0, ((w.alloc (.cells #[.int .i64 1] 3)).alloc (.cells #[.func (.func 121) #[] #[.pointer (some p0), .pointer (some p1), .pointer (some p2), .pointer (some p3)]] 59)) = w0 := ⟨_, rfl⟩
  have HB0 : Hid (Below w.heap.size w w0) := Lib.hid (by rw [← hw0]; exact (((Below.refl _ _).alloc (Nat.le_refl _) _).alloc (by simp) _))
  have HC := Lib.hid (fun wx (hb : Below w0.heap.size w0 wx) => (show Below w0.heap.size w0 wx ∧ wx.cell? ⟨w.heap.size, 0, none⟩ = some (.int .i64 1) ∧ wx.cell? ⟨w.heap.size + 1, 0, none⟩ = some (.func (.func 121) #[] #[.pointer (some p0), .pointer (some p1), .pointer (some p2), .pointer (some p3)]) from by
    refine ⟨hb, ?_⟩
    subst hw0
    obtain ⟨k, kf⟩ := bcell hb
    exact ⟨(k _ _ (by simp; try omega)).trans (by simp [go_sem]), (k _ _ (by simp; try omega)).trans (by simp [go_sem])⟩))
  have HL : Hid (w.heap.size + 1 < w0.heap.size) := Lib.hid (by rw [← hw0]; simp)
  rw [hw0]
  clear hw0
  have HS2 := Lib.hid (fun wy (hy : Below w0.heap.size w0 wy) => let c := HC.out wy hy; HS.out wy (HB0.out.trans (hy.mono HB0.out.size)) c.2.2 c.2.1 (Nat.lt_of_lt_of_le HL.out hy.size))
  have hsub : IntKind.i64.wrap (2000 - 1 : Int) = 1999 := by decide
  have hadd : IntKind.i64.wrap (1999 + 1 : Int) = 2000 := by decide
  go_region_held3 (fun wx => Below w0.heap.size w0 wx ∧ wx.cell? ⟨w.heap.size, 0, none⟩ = some (.int .i64 1) ∧ wx.cell? ⟨w.heap.size + 1, 0, none⟩ = some (.func (.func 121) #[] #[.pointer (some p0), .pointer (some p1), .pointer (some p2), .pointer (some p3)])) (first | assumption | exact HC.out _ (Below.refl _ _).drew | exact HC.out _ (Below.trans (And.left (by assumption)) (Below.mono hbx (Below.size (And.left (by assumption)))))) (first | (go_at_call 154; refine Calls.mono (HS2.out _ (And.left (by assumption))) ?_; rintro e wa ⟨r, rfl, hr, hbx⟩; have hrN := hr.1; have HRF := Lib.hid hr; have hwr : IntKind.i64.wrap (1 + (r : Int)) = 1 + (r : Int) := (by rw [IntKind.wrap_i64]; omega); clear hr) | fail)
  all_goals
    have HX := Lib.hid (And.left (by assumption) : Below w0.heap.size w0 wa)
    go_wp2
    go_ret
    exact ⟨r, by first | rfl | (rw [hwr]), HRF.out, HB0.out.trans (HX.out.mono HB0.out.size)⟩
end Go.Proofs.Ytablphoicidlkaa
