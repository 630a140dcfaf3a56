/- Walks over the solid seat: both turns. -/
import Derived.Test.YtcboppdjjpeeoaaGreatQ6
namespace Go.Proofs.YtcboppdjjpeeoaaGreat
open Go.RowKit

/-- What the block of a turn keeps. -/
def SgAt (w : World) (g o : Nat) (t : Sg) : Prop :=
  w.cell? ⟨g, o, none⟩ = some (.int .i64 t.p0) ∧ w.cell? ⟨g, o + 1, none⟩ = some (.int .i64 t.p1) ∧ w.cell? ⟨g, o + 2, none⟩ = some (.int .i64 t.p2) ∧
  w.cell? ⟨g, o + 3, none⟩ = some (.int .i64 t.s0) ∧ w.cell? ⟨g, o + 4, none⟩ = some (.int .i64 t.s1) ∧ w.cell? ⟨g, o + 5, none⟩ = some (.int .i64 t.s2)
theorem keptS {W wx w' : World} {g o p : Nat} {v0 v1 v2 v3 v4 v5 u0 u1 u2 u3 u4 u5 : Value} (hb : Below wx.heap.size wx w')
    (h : Below W.heap.size W wx ∧ wx.cell? ⟨g, o, none⟩ = some v0 ∧ wx.cell? ⟨g, o + 1, none⟩ = some v1 ∧ wx.cell? ⟨g, o + 2, none⟩ = some v2 ∧ wx.cell? ⟨g, o + 3, none⟩ = some v3 ∧ wx.cell? ⟨g, o + 4, none⟩ = some v4 ∧ wx.cell? ⟨g, o + 5, none⟩ = some v5 ∧ wx.cell? ⟨g, p, none⟩ = some u0 ∧ wx.cell? ⟨g, p + 1, none⟩ = some u1 ∧ wx.cell? ⟨g, p + 2, none⟩ = some u2 ∧ wx.cell? ⟨g, p + 3, none⟩ = some u3 ∧ wx.cell? ⟨g, p + 4, none⟩ = some u4 ∧ wx.cell? ⟨g, p + 5, none⟩ = some u5)
    (h0 : g < W.heap.size) : Below W.heap.size W w' ∧ w'.cell? ⟨g, o, none⟩ = some v0 ∧ w'.cell? ⟨g, o + 1, none⟩ = some v1 ∧ w'.cell? ⟨g, o + 2, none⟩ = some v2 ∧ w'.cell? ⟨g, o + 3, none⟩ = some v3 ∧ w'.cell? ⟨g, o + 4, none⟩ = some v4 ∧ w'.cell? ⟨g, o + 5, none⟩ = some v5 ∧ w'.cell? ⟨g, p, none⟩ = some u0 ∧ w'.cell? ⟨g, p + 1, none⟩ = some u1 ∧ w'.cell? ⟨g, p + 2, none⟩ = some u2 ∧ w'.cell? ⟨g, p + 3, none⟩ = some u3 ∧ w'.cell? ⟨g, p + 4, none⟩ = some u4 ∧ w'.cell? ⟨g, p + 5, none⟩ = some u5 := by
  obtain ⟨a, c0, c1, c2, c3, c4, c5, c6, c7, c8, c9, c10, c11⟩ := h
  have hs := a.size
  have k : ∀ o, w'.cell? ⟨g, o, none⟩ = wx.cell? ⟨g, o, none⟩ := fun o => hb.cell (p := ⟨g, o, none⟩) (Nat.lt_of_lt_of_le h0 hs)
  exact ⟨a.trans (hb.mono hs), by rw [k, c0], by rw [k, c1], by rw [k, c2], by rw [k, c3], by rw [k, c4], by rw [k, c5], by rw [k, c6], by rw [k, c7], by rw [k, c8], by rw [k, c9], by rw [k, c10], by rw [k, c11]⟩
theorem heldT {W wx : World} {g : Nat} {R : Prop} (HT : Hid (TabAt W g)) (HG : Hid (g < W.heap.size)) (h : Below W.heap.size W wx ∧ R) : g < wx.heap.size ∧ TabAt wx g :=
  ⟨Nat.lt_of_lt_of_le HG.out h.1.size, HT.out.below HG.out h.1⟩
set_option maxHeartbeats 4000000 in
set_option maxRecDepth 20000 in
theorem both_any {a b : Nat} (ha : a < 48) (hb : b < 48) {v : Int} (hv : bothS a b = v) (w : World) :
    Calls Tryz.prog 37 #[.int .i64 a, .int .i64 b] w fun e w' => e = .returned (.tuple #[.int .i64 v, .int .i64 0]) ∧ Below w.heap.size w w' := by
  have IA := fun wx => Lib.hid (isTurn_any (a := a) (v := true) (by unfold turnB; simp; omega) wx)
  have IB := fun wx => Lib.hid (isTurn_any (a := b) (v := true) (by unfold turnB; simp; omega) wx)
  have TU := fun wx => Lib.hid (turns_any wx)
  have TS := tab_store
  have TN := Lib.hid tab_new
  have hsz := tabA_size
  have BE := fun wx => Lib.hid (before_any (sg_ok ha).1 (sg_ok hb).1 (perm_sg hb) wx)
  have IX := fun wx g hg ht => Lib.hid (index_any (t := (sgAt a).comp (sgAt b)) (v := v) hv wx (g := g) hg ht)
  rw [show (tabI.map (Value.int .i64)).toArray = tabA from rfl] at TU
  have hai : (a : Int) < 48 := by omega
  have hbi : (b : Int) < 48 := by omega
  have HV := Lib.hid hv
  clear hv
  generalize tabA = A at *
  go_enter Tryz.func37, Tryz.ntmps37
  go_wp2_with (first | (go_at_call 74; (first | (refine Calls.mono (IA _).out ?_; rintro e w1 ⟨rfl, rfl⟩) | (refine Calls.mono (IB _).out ?_; rintro e w1 ⟨rfl, rfl⟩))) | (go_at_call 75; (refine Calls.mono (TU _).out ?_; rintro e w1 ⟨rfl, hb1⟩)))
  have hT := TN.out w1
  have hB2 : Below w.heap.size w (w1.alloc (.cells A 131)) := hb1.alloc hb1.size _
  have hG : w1.heap.size < (w1.alloc (.cells A 131)).heap.size := by simp
  generalize w1.alloc (.cells A 131) = W at *
  generalize w1.heap.size = g at *
  have HT := Lib.hid hT
  have HG := Lib.hid hG
  obtain ⟨c0, c1, c2, c3, c4, c5⟩ := hT a ha
  obtain ⟨d0, d1, d2, d3, d4, d5⟩ := hT b hb
  clear hT hsz TS TN TU IA IB hb1
  unfold sgV at BE IX
  generalize (sgAt a).comp (sgAt b) = s at *
  generalize sgAt a = t at *
  generalize sgAt b = u at *
  go_wp2
  go_region_held3 (fun wx => Below W.heap.size W wx ∧ wx.cell? ⟨g, a * 6, none⟩ = some (.int .i64 t.p0) ∧ wx.cell? ⟨g, a * 6 + 1, none⟩ = some (.int .i64 t.p1) ∧ wx.cell? ⟨g, a * 6 + 2, none⟩ = some (.int .i64 t.p2) ∧ wx.cell? ⟨g, a * 6 + 3, none⟩ = some (.int .i64 t.s0) ∧ wx.cell? ⟨g, a * 6 + 4, none⟩ = some (.int .i64 t.s1) ∧ wx.cell? ⟨g, a * 6 + 5, none⟩ = some (.int .i64 t.s2) ∧ wx.cell? ⟨g, b * 6, none⟩ = some (.int .i64 u.p0) ∧ wx.cell? ⟨g, b * 6 + 1, none⟩ = some (.int .i64 u.p1) ∧ wx.cell? ⟨g, b * 6 + 2, none⟩ = some (.int .i64 u.p2) ∧ wx.cell? ⟨g, b * 6 + 3, none⟩ = some (.int .i64 u.s0) ∧ wx.cell? ⟨g, b * 6 + 4, none⟩ = some (.int .i64 u.s1) ∧ wx.cell? ⟨g, b * 6 + 5, none⟩ = some (.int .i64 u.s2)) ((first | (refine ⟨(Below.refl _ _).drew, ?_, ?_, ?_, ?_, ?_, ?_, ?_, ?_, ?_, ?_, ?_, ?_⟩ <;> assumption) | (refine ⟨?_, ?_, ?_, ?_, ?_, ?_, ?_, ?_, ?_, ?_, ?_, ?_, ?_⟩ <;> assumption) | (apply keptS <;> first | assumption | exact HG.out))) (first | (go_at_call 77; refine Calls.mono (BE _).out ?_; rintro e w' ⟨rfl, hbx⟩) | (go_at_call 76; refine Calls.mono (IX _ g (heldT HT HG (by assumption)).1 (heldT HT HG (by assumption)).2).out ?_; rintro e w' ⟨rfl, hbx⟩))
  obtain ⟨hWx, -⟩ := ‹Below W.heap.size W w' ∧ _›
  go_wp2
  refine bodyPost_ret (by simp [results, Tryz.results37, go_sem]) rfl ⟨rfl, ?_⟩
  exact hB2.trans (hWx.mono hB2.size)
end Go.Proofs.YtcboppdjjpeeoaaGreat
