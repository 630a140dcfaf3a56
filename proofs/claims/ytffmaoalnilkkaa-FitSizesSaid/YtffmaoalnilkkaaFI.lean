/- Walks over the fits: whether a fit is broken in a season with a side, and whether it keeps its limits in all seasons. -/
import Derived.Test.YtffmaoalnilkkaaFG
namespace Go.Proofs.Ytffmaoalnilkkaa
open Go.RowKit Go.Maps

/-- The value of a fit. -/
abbrev ftV (nm : ByteArray) (A : Option Addr) (n c : Nat) (A' : Option Addr) (n' c' : Nat) (le mo : Int) : Value := .agg #[.string nm, .slice A n c, .slice A' n' c', .int .i64 le, .int .i64 mo]
set_option maxHeartbeats 4000000 in
theorem exchanged_any {nm : ByteArray} {A A' : Option Addr} {n c n' c' : Nat} {le mo : Int} (hl : -600000 ≤ le ∧ le ≤ 600000) (hm : -600000 ≤ mo ∧ mo ≤ 600000) (w : World) :
    Calls Try.prog 81 #[ftV nm A n c A' n' c' le mo] w fun e w' => e = .returned (ftV nm A' n' c' A n c (-mo) (-le)) ∧ Below w.heap.size w w' := by
  have hw1 : IntKind.i64.wrap (-mo) = -mo := by rw [IntKind.wrap_i64]; omega
  have hw2 : IntKind.i64.wrap (-le) = -le := by rw [IntKind.wrap_i64]; omega
  have hw3 : wrap64 (-mo) = -mo := w64 (by omega)
  have hw4 : wrap64 (-le) = -le := w64 (by omega)
  unfold ftV
  go_enter Try.func81, Try.ntmps81
  go_wp2
  refine bodyPost_ret (v := .agg #[.string nm, .slice A' n' c', .slice A n c, .int .i64 (-mo), .int .i64 (-le)]) (by simp [results, Try.results81, go_sem]) rfl ⟨rfl, ?_⟩
  exact ((Below.refl _ _).alloc (Nat.le_refl _) _).alloc (by simp) _
set_option maxHeartbeats 4000000 in
theorem seenMuch_any {nm : ByteArray} {A A' : Option Addr} {n c n' c' : Nat} {le mo : Int} (hl : -600000 ≤ le ∧ le ≤ 600000) (hm : -600000 ≤ mo ∧ mo ≤ 600000) (w : World) :
    Calls Try.prog 103 #[ftV nm A n c A' n' c' le mo, .int .i64 1] w fun e w' => e = .returned (ftV nm A' n' c' A n c (-mo) (-le)) ∧ Below w.heap.size w w' := by
  have EX := fun wx => Lib.hid (exchanged_any (nm := nm) (A := A) (n := n) (c := c) (A' := A') (n' := n') (c' := c') hl hm wx)
  unfold ftV at EX ⊢
  go_enter Try.func103, Try.ntmps103
  go_wp2_with (go_at_call 81; (refine Calls.mono (EX _).out ?_); rintro e w1 ⟨rfl, hb1⟩; have hz : w.heap.size + 1 < w1.heap.size := (by have := hb1.size; simp at this; omega); obtain ⟨hc1, hf1⟩ := bcell hb1)
  refine bodyPost_ret (v := .agg #[.string nm, .slice A' n' c', .slice A n c, .int .i64 (-mo), .int .i64 (-le)]) (by simp [results, Try.results103, go_sem, hc1]) rfl ⟨rfl, ?_⟩
  repeat (refine Below.setCell ?_ (by simp) _)
  exact (((Below.refl _ _).alloc (Nat.le_refl _) _).alloc (by simp) _).trans (hb1.mono (by simp; omega))
set_option maxHeartbeats 4000000 in
theorem seenLittle_any {nm : ByteArray} {A A' : Option Addr} {n c n' c' : Nat} {le mo side : Int} (hs : side ≠ 1) (w : World) :
    Calls Try.prog 103 #[ftV nm A n c A' n' c' le mo, .int .i64 side] w fun e w' => e = .returned (ftV nm A n c A' n' c' le mo) ∧ Below w.heap.size w w' := by
  have hb : (side == 1) = false := beq_eq_false_iff_ne.2 hs
  unfold ftV
  go_enter Try.func103, Try.ntmps103
  go_wp2
  refine bodyPost_ret (v := .agg #[.string nm, .slice A n c, .slice A' n' c', .int .i64 le, .int .i64 mo]) (by simp [results, Try.results103, go_sem]) rfl ⟨rfl, ?_⟩
  exact ((Below.refl _ _).alloc (Nat.le_refl _) _).alloc (by simp) _

/-- Whether a fit is broken in a season with a side. -/
def brkB (side le mo : Int) (o i : List Md) (lo hi : Int) : Bool := bif decide (side = 1) then decide (leastS i o lo hi < -mo * 1000000) else decide (leastS o i lo hi < le * 1000000)
def brkM (side : Int) (o i : List Md) (lo hi : Int) : List Int := bif decide (side = 1) then moistS i o lo hi else moistS o i lo hi
set_option maxHeartbeats 8000000 in
set_option maxRecDepth 20000 in
theorem broken_core {nm sn : ByteArray} {A A' A1 A2 : Option Addr} {n c n' c' n1 c1 n2 c2 : Nat} {le mo l1 m1 lo hi side : Int} {o1 i1 : List Md} (ho : ∀ x ∈ o1, MdOk x) (hi' : ∀ x ∈ i1, MdOk x) (hn : n1 + n2 ≤ 20) (hl : -600000 ≤ l1 ∧ l1 ≤ 600000) (l0 : 0 ≤ lo) (l1' : lo ≤ 400) (h0 : 0 ≤ hi) (h1 : hi ≤ 400)
    (SF : ∀ wx, Calls Try.prog 103 #[ftV nm A n c A' n' c' le mo, .int .i64 side] wx fun e w' => e = .returned (ftV nm A1 n1 c1 A2 n2 c2 l1 m1) ∧ Below wx.heap.size wx w')
    (w : World) (hA : MdRow w A1 n1 o1) (hA' : MdRow w A2 n2 i1) :
    Calls Try.prog 88 #[ftV nm A n c A' n' c' le mo, .agg #[.string sn, .int .i64 lo, .int .i64 hi], .int .i64 side] w
      fun e w' => ∃ v, e = .returned (.tuple #[v, .bool (decide (leastS o1 i1 lo hi < l1 * 1000000))]) ∧ w'.ownsRow w.heap.size 3 1 v (moistS o1 i1 lo hi).length ((moistS o1 i1 lo hi).map (Value.int .i64)) ∧ Below w.heap.size w w' := by
  have HSF := Lib.hid SF
  have HMD := Lib.hid (fun wx (hb : Below w.heap.size w wx) => And.intro (hA.below hb) (hA'.below hb))
  have LO := fun wx (hr : MdRow wx A1 n1 o1) (hr' : MdRow wx A2 n2 i1) => Lib.hid (leastOver_any (nm := nm) (sn := sn) (c := c1) (c' := c2) (le := l1) (mo := m1) ho hi' hn l0 l1' h0 h1 wx hr hr')
  have hw1 : IntKind.i64.wrap (l1 * 1000000) = l1 * 1000000 := by rw [IntKind.wrap_i64]; omega
  have hw2 : wrap64 (l1 * 1000000) = l1 * 1000000 := w64 (by omega)
  obtain ⟨L, hL⟩ : ∃ L, leastS o1 i1 lo hi = L := ⟨_, rfl⟩
  obtain ⟨M, hM⟩ : ∃ M, moistS o1 i1 lo hi = M := ⟨_, rfl⟩
  simp only [hL, hM] at LO ⊢
  clear SF hA hA' ho hi' hL hM
  unfold ftV at HSF ⊢
  go_enter Try.func88, Try.ntmps88
  go_wp2_with (first | (go_at_call 103; (refine Calls.mono (HSF.out _) ?_); rintro e w1 ⟨rfl, hb1⟩; have hz : w.heap.size + 1 < w1.heap.size := (by have := hb1.size; simp at this; omega); have hB1 : Below w.heap.size w w1 := (((Below.refl _ _).alloc (Nat.le_refl _) _).alloc (by simp) _).trans (hb1.mono (by simp; omega)); obtain ⟨hc1, hf1⟩ := bcell hb1) | (go_at_call 82; refine Calls.mono (LO _ (HMD.out _ (hB1.alloc (by omega) _)).1 (HMD.out _ (hB1.alloc (by omega) _)).2).out ?_; rintro e w2 ⟨v, rfl, hrow, hb2⟩; have hz2 : w1.heap.size < w2.heap.size := (by have := hb2.size; simp at this; omega); obtain ⟨hc2, hf2⟩ := bcell hb2))
  go_quiet (fail)
  go_wp2
  go_ret2
  refine ⟨v, rfl, own_low (own_kept hrow (below_drewN (Below.refl _ _) _)) (by simp; omega), ?_⟩
  exact below_drewN ((hB1.alloc (by omega) _).trans (hb2.mono (by simp; omega))) _

theorem brokenIn_any {nm sn : ByteArray} {A A' : Option Addr} {n c n' c' : Nat} {le mo lo hi side : Int} {o i0 : List Md} (ho : ∀ x ∈ o, MdOk x) (hi' : ∀ x ∈ i0, MdOk x) (hn : n + n' ≤ 20) (hl : -600000 ≤ le ∧ le ≤ 600000) (hm : -600000 ≤ mo ∧ mo ≤ 600000) (l0 : 0 ≤ lo) (l1' : lo ≤ 400) (h0 : 0 ≤ hi) (h1 : hi ≤ 400)
    (w : World) (hA : MdRow w A n o) (hA' : MdRow w A' n' i0) :
    Calls Try.prog 88 #[ftV nm A n c A' n' c' le mo, .agg #[.string sn, .int .i64 lo, .int .i64 hi], .int .i64 side] w
      fun e w' => ∃ v, e = .returned (.tuple #[v, .bool (brkB side le mo o i0 lo hi)]) ∧ w'.ownsRow w.heap.size 3 1 v (brkM side o i0 lo hi).length ((brkM side o i0 lo hi).map (Value.int .i64)) ∧ Below w.heap.size w w' := by
  by_cases hs : side = 1
  · subst hs
    have h := broken_core (nm := nm) (sn := sn) (A := A) (n := n) (c := c) (A' := A') (n' := n') (c' := c') (le := le) (mo := mo) (A1 := A') (n1 := n') (c1 := c') (A2 := A) (n2 := n) (c2 := c) (l1 := -mo) (m1 := -le) (side := 1) hi' ho (by omega) (by omega) l0 l1' h0 h1 (fun wx => seenMuch_any hl hm wx) w hA' hA
    unfold brkB brkM
    simpa using h
  · have h := broken_core (nm := nm) (sn := sn) (A := A) (n := n) (c := c) (A' := A') (n' := n') (c' := c') (le := le) (mo := mo) (A1 := A) (n1 := n) (c1 := c) (A2 := A') (n2 := n') (c2 := c') (l1 := le) (m1 := mo) (side := side) ho hi' hn hl l0 l1' h0 h1 (fun wx => seenLittle_any hs wx) w hA hA'
    unfold brkB brkM
    simpa [hs] using h
end Go.Proofs.Ytffmaoalnilkkaa
