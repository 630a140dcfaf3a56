/- Walks over the solid seat: the number of a turn, by a loop. -/
import Derived.Test.YtcboppdjjpeeoaaGreatQ4
namespace Go.Proofs.YtcboppdjjpeeoaaGreat
open Go.RowKit

theorem below_drewN {B : Nat} {a w : World} (h : Below B a w) (n : Nat) : Below B a (w.drewN n) := ⟨h.os, h.tape, h.output, h.size, h.block⟩
/-- The table lies in a block from a place on. -/
def TabAt (w : World) (g : Nat) : Prop := ∀ k : Nat, k < 48 →
  w.cell? ⟨g, k * 6, none⟩ = some (.int .i64 (sgAt k).p0) ∧ w.cell? ⟨g, k * 6 + 1, none⟩ = some (.int .i64 (sgAt k).p1) ∧ w.cell? ⟨g, k * 6 + 2, none⟩ = some (.int .i64 (sgAt k).p2) ∧
  w.cell? ⟨g, k * 6 + 3, none⟩ = some (.int .i64 (sgAt k).s0) ∧ w.cell? ⟨g, k * 6 + 4, none⟩ = some (.int .i64 (sgAt k).s1) ∧ w.cell? ⟨g, k * 6 + 5, none⟩ = some (.int .i64 (sgAt k).s2)
set_option maxHeartbeats 4000000 in
set_option maxRecDepth 20000 in
theorem index_any {t : Sg} {v : Int} (hv : idxS t = v) (w : World) {g : Nat} (hg : g < w.heap.size) (ht : TabAt w g) :
    Calls Tryz.prog 76 #[.slice (some ⟨g, 0, none⟩) 48 48, sgV t] w fun e w' => e = .returned (.int .i64 v) ∧ Below w.heap.size w w' := by
  have HT := Lib.hid ht
  have HV := Lib.hid hv
  have EQ := fun (u : Sg) wx => eq130 t u wx
  have hBL : Below w.heap.size w (w.alloc (.cells #[.int .i64 t.p0, .int .i64 t.p1, .int .i64 t.p2, .int .i64 t.s0, .int .i64 t.s1, .int .i64 t.s2] 130)) := (Below.refl _ _).alloc (Nat.le_refl _) _
  have HB := Lib.hid hBL
  unfold sgV at EQ ⊢
  clear ht hv hBL
  go_enter Tryz.func76, Tryz.ntmps76
  go_wp2
  go_loopw [8] (fun i wr => ∃ k : Nat, k ≤ 48 ∧ i = .int .i64 k ∧ idxFrom t k (tabS.drop k) = v ∧ ∃ q, wr = (w.alloc (.cells #[.int .i64 t.p0, .int .i64 t.p1, .int .i64 t.p2, .int .i64 t.s0, .int .i64 t.s1, .int .i64 t.s2] 130)).drewN q) (fun i _ => 48 - (intOf i).toNat)
  case atStart => exact ⟨0, Nat.zero_le _, rfl, HV.out, 0, rfl⟩
  case round =>
    obtain ⟨k, hk, rfl, hix, q, rfl⟩ := hrel
    by_cases hlt : k < 48
    · have hkl : k < tabS.length := by rw [tab_len]; exact hlt
      rw [idx_step hkl] at hix
      have hgk : tabS[k] = sgAt k := by unfold sgAt; rw [List.getD_eq_getElem?_getD, List.getElem?_eq_getElem hkl]; rfl
      rw [hgk] at hix
      obtain ⟨c0, c1, c2, c3, c4, c5⟩ := HT.out k hlt
      have EQk := EQ (sgAt k)
      have hkj : (k : Int) < 48 := by omega
      clear EQ hgk hkl
      generalize sgAt k = u at *
      by_cases he : t = u
      · rw [decide_eq_true he] at hix EQk
        have HX := Lib.hid (show (k : Int) = v from hix)
        clear hix HT HV he
        go_wp2
        go_quiet (fail)
        go_wp2
        go_ret
        exact ⟨ret_int HX.out, below_drewN (below_drewN HB.out _) _⟩
      · rw [decide_eq_false he] at hix EQk
        have hixk : idxFrom t (k + 1) (tabS.drop (k + 1)) = v := hix
        clear hix HT HV
        go_wp2
        go_quiet (fail)
        go_wp2
        go_roundw
        case rel => exact ⟨k + 1, by omega, by go_num, hixk, _, rfl⟩
        case measure => simp [intOf]; omega
    · have hk' : k = 48 := by omega
      subst hk'
      rw [idx_end (by rw [tab_len]; omega)] at hix
      go_wp2
      go_ret
      exact ⟨ret_int hix, below_drewN HB.out _⟩
end Go.Proofs.YtcboppdjjpeeoaaGreat
