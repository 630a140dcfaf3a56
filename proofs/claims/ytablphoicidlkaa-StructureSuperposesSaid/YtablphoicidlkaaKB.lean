/- The law of superposition: the walk. -/
import Derived.Test.YtablphoicidlkaaKA
import Derived.Test.YtablphoicidlkaaDF
import Derived.Test.YtablphoicidlkaaRN
import Derived.Test.YtablphoicidlkaaSW
import Derived.Test.YtablphoicidlkaaCA
import Derived.Test.YtablphoicidlkaaBF
namespace Go.Proofs.Ytablphoicidlkaa
open Go.RowKit

theorem i64f {x y : Int} (h : wrap64 x = y) : IntKind.i64.wrap x = y := by rw [IntKind.wrap_i64]; unfold wrap64 at h; exact h
theorem oper_append_pts {w : World} {o : Oper} {a : Act} {K : Act → World → Prop} {Q : Exit → Act → World → Prop} (s x : Operand)
    (ho : o.op = .call { callee := .builtin .append, args := #[s, x], argTypes := #[24, 24] })
    {base : Nat} {v : Value} {n m c : Nat} {xs : List Value} {A : Option Addr} {l : List Pt} (hs : a.eval s = v) (hx : a.eval x = .slice A m c) (hown : w.ownsRow base 90 2 v n xs) (hrow : PtRow w A m l) (hlen : n + m ≤ 1000000) (hbase : base ≤ w.heap.size)
    (h : ∀ v' w', w'.ownsRow base 90 2 v' (n + m) (xs ++ flatP l) → w.grownBy w' v.ownBlock → (v'.ownBlock = v.ownBlock ∨ v'.ownBlock = some w.heap.size) → K (a.put o.dst v') w') :
    o.wp Try.prog a w K Q := by
  obtain ⟨v', w', hr, h2, h3, h5⟩ := run_append_pts (c := c) o.type hown hrow hlen hbase
  unfold Oper.wp execOp
  simp only [ho, resolve, invoke, builtin, Sem.run_bind, Sem.run_pure, Result.andThen_ok, List.map_toArray, List.map_cons, List.map_nil, hs, hx, hr]
  exact h v' w' h2 h3 h5
set_option maxHeartbeats 16000000 in
set_option maxRecDepth 20000 in
theorem super_good {s ww t en S1 S2 E x SS dd a1 a2 a3 a4 un un2 E2 m1 m2 k1 k2 v1 v2 p1 p2 q1 q2 r1 r2 t1 t2 : Int} {A1 A2 : Option Addr} {n1 n2 c1 c2 : Nat} {l1 l2 : List Pt} {wb : Bool} (hn1 : n1 ≤ 4) (hn2 : n2 ≤ 4) (w : World) (R1 : PtRow w A1 n1 l1) (R2 : PtRow w A2 n2 l2)
    (CB1 : ∀ wx, Below w.heap.size w wx → Calls Try.prog 23 #[.agg #[.int .i64 s, .int .i64 ww, .int .i64 t, .int .i64 en], .agg #[.slice A1 n1 c1, .int .i64 S1]] wx fun e w' => e = .returned (.int .i64 0) ∧ Below wx.heap.size wx w')
    (CB2 : ∀ wx, Below w.heap.size w wx → Calls Try.prog 23 #[.agg #[.int .i64 s, .int .i64 ww, .int .i64 t, .int .i64 en], .agg #[.slice A2 n2 c2, .int .i64 S2]] wx fun e w' => e = .returned (.int .i64 0) ∧ Below wx.heap.size wx w')
    (W1 : ∀ wx, Calls Try.prog 32 #[.int .i64 x, .int .i64 0, .int .i64 s] wx fun e w' => e = .returned (.bool true) ∧ wx = w')
    (W2 : ∀ wx, Calls Try.prog 32 #[.int .i64 E, .int .i64 1, .int .i64 15000] wx fun e w' => e = .returned (.bool true) ∧ wx = w')
    (W3 : ∀ wx, Calls Try.prog 32 #[.int .i64 SS, .int .i64 (-20000), .int .i64 20000] wx fun e w' => e = .returned (.bool wb) ∧ wx = w')
    (M1 : ∀ wx, Below w.heap.size w wx → Calls Try.prog 31 #[.agg #[.int .i64 s, .int .i64 ww, .int .i64 t, .int .i64 en], .agg #[.slice A1 n1 c1, .int .i64 S1], .int .i64 x] wx fun e w' => e = .returned (.tuple #[.agg #[.int .i64 m1, .int .i64 m2], .int .i64 0]) ∧ Below wx.heap.size wx w')
    (M2 : ∀ wx, Below w.heap.size w wx → Calls Try.prog 31 #[.agg #[.int .i64 s, .int .i64 ww, .int .i64 t, .int .i64 en], .agg #[.slice A2 n2 c2, .int .i64 S2], .int .i64 x] wx fun e w' => e = .returned (.tuple #[.agg #[.int .i64 k1, .int .i64 k2], .int .i64 0]) ∧ Below wx.heap.size wx w')
    (M3 : wb = true → ∀ A c wx, PtRow wx A (n1 + n2) (l1 ++ l2) → Calls Try.prog 31 #[.agg #[.int .i64 s, .int .i64 ww, .int .i64 t, .int .i64 en], .agg #[.slice A (n1 + n2) c, .int .i64 SS], .int .i64 x] wx fun e w' => e = .returned (.tuple #[.agg #[.int .i64 v1, .int .i64 v2], .int .i64 0]) ∧ Below wx.heap.size wx w')
    (G1 : ∀ wx, Below w.heap.size w wx → Calls Try.prog 39 #[.agg #[.int .i64 s, .int .i64 ww, .int .i64 t, .int .i64 en], .int .i64 E, .agg #[.slice A1 n1 c1, .int .i64 S1], .int .i64 x] wx fun e w' => e = .returned (.tuple #[.agg #[.int .i64 p1, .int .i64 p2], .int .i64 0]) ∧ Below wx.heap.size wx w')
    (G2 : ∀ wx, Below w.heap.size w wx → Calls Try.prog 39 #[.agg #[.int .i64 s, .int .i64 ww, .int .i64 t, .int .i64 en], .int .i64 E, .agg #[.slice A2 n2 c2, .int .i64 S2], .int .i64 x] wx fun e w' => e = .returned (.tuple #[.agg #[.int .i64 q1, .int .i64 q2], .int .i64 0]) ∧ Below wx.heap.size wx w')
    (G3 : wb = true → ∀ A c wx, PtRow wx A (n1 + n2) (l1 ++ l2) → Calls Try.prog 39 #[.agg #[.int .i64 s, .int .i64 ww, .int .i64 t, .int .i64 en], .int .i64 E, .agg #[.slice A (n1 + n2) c, .int .i64 SS], .int .i64 x] wx fun e w' => e = .returned (.tuple #[.agg #[.int .i64 r1, .int .i64 r2], .int .i64 0]) ∧ Below wx.heap.size wx w')
    (G4 : wb = true → ∀ A c wx, PtRow wx A (n1 + n2) (l1 ++ l2) → Calls Try.prog 39 #[.agg #[.int .i64 s, .int .i64 ww, .int .i64 t, .int .i64 en], .int .i64 E2, .agg #[.slice A (n1 + n2) c, .int .i64 SS], .int .i64 x] wx fun e w' => e = .returned (.tuple #[.agg #[.int .i64 t1, .int .i64 t2], .int .i64 0]) ∧ Below wx.heap.size wx w')
    (PL : wb = true → (∀ wx, Calls Try.prog 88 #[.agg #[.int .i64 m1, .int .i64 m2], .agg #[.int .i64 k1, .int .i64 k2], .agg #[.int .i64 v1, .int .i64 v2], .int .i64 dd] wx fun e w' => e = .returned (.bool true) ∧ Below wx.heap.size wx w') ∧ (∀ wx, Calls Try.prog 88 #[.agg #[.int .i64 p1, .int .i64 p2], .agg #[.int .i64 q1, .int .i64 q2], .agg #[.int .i64 r1, .int .i64 r2], .int .i64 un] wx fun e w' => e = .returned (.bool true) ∧ Below wx.heap.size wx w') ∧ (∀ wx, Calls Try.prog 88 #[.agg #[.int .i64 t1, .int .i64 t2], .agg #[.int .i64 t1, .int .i64 t2], .agg #[.int .i64 r1, .int .i64 r2], .int .i64 un2] wx fun e w' => e = .returned (.bool true) ∧ Below wx.heap.size wx w'))
    (NU : wrap64 (S1 + S2) = SS ∧ wrap64 (2 * E) = E2 ∧ wrap64 (2 * s) = dd ∧ wrap64 (dd * E) = a1 ∧ wrap64 (a1 * ww) = a2 ∧ wrap64 (a2 * t) = a3 ∧ wrap64 (a3 * t) = a4 ∧ wrap64 (a4 * t) = un ∧ wrap64 (2 * un) = un2) :
    Calls Try.prog 17 #[.agg #[.int .i64 s, .int .i64 ww, .int .i64 t, .int .i64 en], .agg #[.slice A1 n1 c1, .int .i64 S1, .slice A2 n2 c2, .int .i64 S2], .agg #[.int .i64 E, .int .i64 x]] w fun e w' => e = .returned (.bool true) ∧ Below w.heap.size w w' := by
  have HR1 := Lib.hid R1
  have HR2 := Lib.hid R2
  have HCB1 := Lib.hid CB1
  have HCB2 := Lib.hid CB2
  have HW1 := Lib.hid W1
  have HW2 := Lib.hid W2
  have HW3 := Lib.hid W3
  have HM1 := Lib.hid M1
  have HM2 := Lib.hid M2
  have HM3 := Lib.hid M3
  have HG1 := Lib.hid G1
  have HG2 := Lib.hid G2
  have HG3 := Lib.hid G3
  have HG4 := Lib.hid G4
  have HPL := Lib.hid PL
  have HNU := Lib.hid NU
  have AW := fun wx => Lib.hid (awake_any wx)
  clear R1 R2 CB1 CB2 W1 W2 W3 M1 M2 M3 G1 G2 G3 G4 PL NU
  have e1 : ¬ (4 : Int) < (n1 : Int) := by omega
  have e2 : ¬ (4 : Int) < (n2 : Int) := by omega
  have e3 : decide ((4 : Int) < (n1 : Int)) = false := decide_eq_false e1
  have e4 : decide ((4 : Int) < (n2 : Int)) = false := decide_eq_false e2
  go_enter Try.func17, Try.ntmps17
  go_upto_region 1 with fail
  obtain ⟨w0, hw0⟩ : ∃ w0, (((w.alloc (.cells #[.int .i64 s, .int .i64 ww, .int .i64 t, .int .i64 en] 23)).alloc (.cells #[.slice A1 n1 c1, .int .i64 S1, .slice A2 n2 c2, .int .i64 S2] 70)).alloc (.cells #[.int .i64 E, .int .i64 x] 56)) = w0 := ⟨_, rfl⟩
  have HB0 : Hid (Below w.heap.size w w0) := Lib.hid (by rw [← hw0]; exact ((((Below.refl _ _).alloc (Nat.le_refl _) _).alloc (by simp; try omega) _).alloc (by simp; try omega) _))
  have HC := Lib.hid (fun wx (hb : Below w0.heap.size w0 wx) => (show wx.cell? ⟨w.heap.size, 0, none⟩ = some (.int .i64 s) ∧ wx.cell? ⟨w.heap.size, 1, none⟩ = some (.int .i64 ww) ∧ wx.cell? ⟨w.heap.size, 2, none⟩ = some (.int .i64 t) ∧ wx.cell? ⟨w.heap.size, 3, none⟩ = some (.int .i64 en) ∧ wx.cell? ⟨w.heap.size + 1, 0, none⟩ = some (.slice A1 n1 c1) ∧ wx.cell? ⟨w.heap.size + 1, 1, none⟩ = some (.int .i64 S1) ∧ wx.cell? ⟨w.heap.size + 1, 2, none⟩ = some (.slice A2 n2 c2) ∧ wx.cell? ⟨w.heap.size + 1, 3, none⟩ = some (.int .i64 S2) ∧ wx.cell? ⟨w.heap.size + 2, 0, none⟩ = some (.int .i64 E) ∧ wx.cell? ⟨w.heap.size + 2, 1, none⟩ = some (.int .i64 x) from by
    subst hw0
    obtain ⟨k, kf⟩ := bcell hb
    exact ⟨(k _ _ (by simp; try omega)).trans (by simp [go_sem]), (k _ _ (by simp; try omega)).trans (by simp [go_sem]), (k _ _ (by simp; try omega)).trans (by simp [go_sem]), (k _ _ (by simp; try omega)).trans (by simp [go_sem]), (k _ _ (by simp; try omega)).trans (by simp [go_sem]), (k _ _ (by simp; try omega)).trans (by simp [go_sem]), (k _ _ (by simp; try omega)).trans (by simp [go_sem]), (k _ _ (by simp; try omega)).trans (by simp [go_sem]), (k _ _ (by simp; try omega)).trans (by simp [go_sem]), (k _ _ (by simp; try omega)).trans (by simp [go_sem])⟩))
  rw [hw0]
  clear hw0
  go_upto_region 3 with (go_at_call 19; (refine Calls.mono (AW _).out ?_); rintro e w1 ⟨rfl, hb1⟩; have H1 := Lib.hid hb1; clear hb1)
  obtain ⟨c0, c1, c2, c3, c4, c5, c6, c7, c8, c9⟩ := HC.out w1 H1.out
  have HW1w := Lib.hid (HB0.out.trans (H1.out.mono HB0.out.size))
  go_upto_region 5 with (first | (go_at_call 23; (with_reducible refine Calls.mono (HCB1.out _ HW1w.out) ?_); rintro e w2 ⟨rfl, hb2⟩; have H2 := Lib.hid (H1.out.trans (hb2.mono H1.out.size)); have HW2w := Lib.hid (HW1w.out.trans (hb2.mono HW1w.out.size)); clear hb2 HCB1; clear c0 c1 c2 c3 c4 c5 c6 c7 c8 c9; obtain ⟨c0, c1, c2, c3, c4, c5, c6, c7, c8, c9⟩ := HC.out w2 H2.out) | (go_at_call 23; (with_reducible refine Calls.mono (HCB2.out _ HW2w.out) ?_); rintro e w3 ⟨rfl, hb3⟩; have H3 := Lib.hid (H2.out.trans (hb3.mono H2.out.size)); have HW3w := Lib.hid (HW2w.out.trans (hb3.mono HW2w.out.size)); clear hb3; clear c0 c1 c2 c3 c4 c5 c6 c7 c8 c9; obtain ⟨c0, c1, c2, c3, c4, c5, c6, c7, c8, c9⟩ := HC.out w3 H3.out) | (go_at_call 32; (with_reducible refine Calls.mono (HW1.out _) ?_); rintro e w9 ⟨rfl, rfl⟩) | (go_at_call 32; (with_reducible refine Calls.mono (HW2.out _) ?_); rintro e w9 ⟨rfl, rfl⟩) | fail)
  clear c0 c1 c2 c3 c4 c5 c6 c7 c8 c9 e1 e2 e3 e4
  have HC3 := Lib.hid (fun wy (hy : Below w3.heap.size w3 wy) => HC.out wy (H3.out.trans (hy.mono H3.out.size)))
  have j0 : IntKind.i64.wrap (S1 + S2) = SS := i64f HNU.out.1
  have GE : w0.heap.size ≤ w3.heap.size := H3.out.size
  refine wp_region_sp [65, 66, 67, 68, 69, 70, 71, 72, 73, 74, 75, 76, 77, 78, 79, 80, 81, 7, 220] [(rAny), rEq (.pointer (some ⟨w.heap.size + 1, 0, none⟩)), rEq (.pointer (some ⟨w.heap.size + 1, 0, none⟩)), rEq (.slice A1 n1 c1), (rAny), rEq (.pointer (some ⟨w.heap.size + 1, 2, none⟩)), rEq (.pointer (some ⟨w.heap.size + 1, 2, none⟩)), rEq (.slice A2 n2 c2), (rAny), rEq (.pointer (some ⟨w.heap.size + 1, 0, none⟩)), rEq (.pointer (some ⟨w.heap.size + 1, 1, none⟩)), rEq (.int .i64 S1), rEq (.pointer (some ⟨w.heap.size + 1, 2, none⟩)), rEq (.pointer (some ⟨w.heap.size + 1, 3, none⟩)), rEq (.int .i64 S2), rEq (.int .i64 SS), (rAny), (rAny), (rAny)] [0, 4, 8, 16, 17, 18] (by kernel_rfl) (by kernel_rfl) (by decide) rfl ?_ ?_ ?_ (SpR w3.heap.size n1 n2 l1 l2 SS) ?_ ?_ ?_ ?_ ?_ ?_
  · intro j v w1' w2' h
    match j, h with
    | 0, h => exact trivial
    | 1, h => exact h
    | 2, h => exact h
    | 3, h => exact h
    | 4, h => exact trivial
    | 5, h => exact h
    | 6, h => exact h
    | 7, h => exact h
    | 8, h => exact trivial
    | 9, h => exact h
    | 10, h => exact h
    | 11, h => exact h
    | 12, h => exact h
    | 13, h => exact h
    | 14, h => exact h
    | 15, h => exact h
    | 16, h => exact trivial
    | 17, h => exact trivial
    | 18, h => exact trivial
    | _ + 19, _ => exact trivial
  · intro i hi
    simp only [List.mem_cons, List.not_mem_nil, or_false] at hi
    rcases hi with rfl | rfl | rfl | rfl | rfl | rfl <;> exact ⟨by decide +kernel, rfl⟩
  · intro i h1 h2
    revert h2
    revert h1
    revert i
    decide +kernel
  · intro wy hy
    exact ⟨hy.size, .slice none 0 0, 0, [], (fun h => by cases h), (fun h => by cases h), (fun h => by cases h), (fun h => by cases h), (fun h => by cases h), (fun h => by cases h)⟩
  · intro D D' a a' wy hD hs h
    exact spR_keep D D' a a' wy hD (hs 0 (by decide)) (hs 4 (by decide)) (hs 8 (by decide)) (hs 16 (by decide)) (hs 17 (by decide)) h
  · intro D a wy w' hb h
    exact spR_below D a wy w' hb h
  · refine ⟨?_, ?_, ?_, ?_, ?_, ?_, ?_, ?_, ?_, ?_, ?_, ?_, ?_, ?_, ?_, ?_, ?_, ?_, ?_, trivial⟩
    · intro h; cases h
    · intro _ ac wx hf hb hd -- 1
      have f4 : ac.tmps[4]?.getD undef = .pointer (some ⟨w.heap.size + 1, 0, none⟩) := by rw [← Array.getD_eq_getD_getElem?]; exact hf.same 4 (by decide)
      exact rstep_eq (by simp [execOp, Act.eval, f4, go_sem]) rfl
    · intro _ ac wx hf hb hd -- 2
      have d1 : ac.tmps[66]?.getD undef = .pointer (some ⟨w.heap.size + 1, 0, none⟩) := by rw [← Array.getD_eq_getD_getElem?]; exact hd 1 (by decide)
      exact rstep_eq (by simp [execOp, Act.eval, d1, go_sem]) rfl
    · intro _ ac wx hf hb hd -- 3
      have d2 : ac.tmps[67]?.getD undef = .pointer (some ⟨w.heap.size + 1, 0, none⟩) := by rw [← Array.getD_eq_getD_getElem?]; exact hd 2 (by decide)
      obtain ⟨c0, c1, c2, c3, c4, c5, c6, c7, c8, c9⟩ := HC3.out wx hb
      exact rstep_eq (by simp [execOp, Act.eval, d2, c4, go_sem]) rfl
    · intro h; cases h
    · intro _ ac wx hf hb hd -- 5
      have f4 : ac.tmps[4]?.getD undef = .pointer (some ⟨w.heap.size + 1, 0, none⟩) := by rw [← Array.getD_eq_getD_getElem?]; exact hf.same 4 (by decide)
      exact rstep_eq (by simp [execOp, Act.eval, f4, go_sem]) rfl
    · intro _ ac wx hf hb hd -- 6
      have d5 : ac.tmps[70]?.getD undef = .pointer (some ⟨w.heap.size + 1, 2, none⟩) := by rw [← Array.getD_eq_getD_getElem?]; exact hd 5 (by decide)
      exact rstep_eq (by simp [execOp, Act.eval, d5, go_sem]) rfl
    · intro _ ac wx hf hb hd -- 7
      have d6 : ac.tmps[71]?.getD undef = .pointer (some ⟨w.heap.size + 1, 2, none⟩) := by rw [← Array.getD_eq_getD_getElem?]; exact hd 6 (by decide)
      obtain ⟨c0, c1, c2, c3, c4, c5, c6, c7, c8, c9⟩ := HC3.out wx hb
      exact rstep_eq (by simp [execOp, Act.eval, d6, c6, go_sem]) rfl
    · intro h; cases h
    · intro _ ac wx hf hb hd -- 9
      have f4 : ac.tmps[4]?.getD undef = .pointer (some ⟨w.heap.size + 1, 0, none⟩) := by rw [← Array.getD_eq_getD_getElem?]; exact hf.same 4 (by decide)
      exact rstep_eq (by simp [execOp, Act.eval, f4, go_sem]) rfl
    · intro _ ac wx hf hb hd -- 10
      have d9 : ac.tmps[74]?.getD undef = .pointer (some ⟨w.heap.size + 1, 0, none⟩) := by rw [← Array.getD_eq_getD_getElem?]; exact hd 9 (by decide)
      exact rstep_eq (by simp [execOp, Act.eval, d9, go_sem]) rfl
    · intro _ ac wx hf hb hd -- 11
      have d10 : ac.tmps[75]?.getD undef = .pointer (some ⟨w.heap.size + 1, 1, none⟩) := by rw [← Array.getD_eq_getD_getElem?]; exact hd 10 (by decide)
      obtain ⟨c0, c1, c2, c3, c4, c5, c6, c7, c8, c9⟩ := HC3.out wx hb
      exact rstep_eq (by simp [execOp, Act.eval, d10, c5, go_sem]) rfl
    · intro _ ac wx hf hb hd -- 12
      have f4 : ac.tmps[4]?.getD undef = .pointer (some ⟨w.heap.size + 1, 0, none⟩) := by rw [← Array.getD_eq_getD_getElem?]; exact hf.same 4 (by decide)
      exact rstep_eq (by simp [execOp, Act.eval, f4, go_sem]) rfl
    · intro _ ac wx hf hb hd -- 13
      have d12 : ac.tmps[77]?.getD undef = .pointer (some ⟨w.heap.size + 1, 2, none⟩) := by rw [← Array.getD_eq_getD_getElem?]; exact hd 12 (by decide)
      exact rstep_eq (by simp [execOp, Act.eval, d12, go_sem]) rfl
    · intro _ ac wx hf hb hd -- 14
      have d13 : ac.tmps[78]?.getD undef = .pointer (some ⟨w.heap.size + 1, 3, none⟩) := by rw [← Array.getD_eq_getD_getElem?]; exact hd 13 (by decide)
      obtain ⟨c0, c1, c2, c3, c4, c5, c6, c7, c8, c9⟩ := HC3.out wx hb
      exact rstep_eq (by simp [execOp, Act.eval, d13, c7, go_sem]) rfl
    · intro _ ac wx hf hb hd -- 15
      have d11 : ac.tmps[76]?.getD undef = .int .i64 S1 := by rw [← Array.getD_eq_getD_getElem?]; exact hd 11 (by decide)
      have d14 : ac.tmps[79]?.getD undef = .int .i64 S2 := by rw [← Array.getD_eq_getD_getElem?]; exact hd 14 (by decide)
      exact rstep_eq (by simp [execOp, Act.eval, d11, d14, j0, go_sem]) rfl
    · intro h; cases h
    · intro h; cases h
    · intro h; cases h
  · intro i hi
    simp only [List.mem_cons, List.not_mem_nil, or_false] at hi
    rcases hi with rfl | rfl | rfl | rfl | rfl | rfl
    · intro D o a wy ho hfr hb hDi hdeps hcl hf hsp
      have ho2 : _ = o := Option.some.inj ho
      subst ho2
      clear ho
      have hz : a.tmps.size = 221 := hfr.size
      have d4 : D 4 = false := by
        cases hc : D 4
        · rfl
        · have := hcl 4 _ rfl hc 0 (by decide)
          rw [hDi] at this
          cases this
      have d8 : D 8 = false := by
        cases hc : D 8
        · rfl
        · have := hcl 8 _ rfl hc 4 (by decide)
          rw [d4] at this
          cases this
      have d16 : D 16 = false := by
        cases hc : D 16
        · rfl
        · have := hcl 16 _ rfl hc 8 (by decide)
          rw [d8] at this
          cases this
      have d18 : D 18 = false := by
        cases hc : D 18
        · rfl
        · have := hcl 18 _ rfl hc 16 (by decide)
          rw [d16] at this
          cases this
      have hr : ∀ o : Oper, o.op = .buildSlice 24 0 #[] → (execOp a.eval o).run Try.prog wy = .ok (.value (.slice (some ⟨wy.heap.size, 0, none⟩) 0 0)) (wy.alloc (.cells #[] 90)) := fun o ho => by unfold execOp; rw [ho]; simp [go_sem]
      unfold Oper.wp
      rw [hr _ rfl]
      exact ⟨.inr ⟨_, rfl⟩, hb.alloc hb.size _, spR_op0 (by omega) d4 d8 d16 d18 hsp⟩
    · intro D o a wy ho hfr hb hDi hdeps hcl hf hsp
      have ho2 : _ = o := Option.some.inj ho
      subst ho2
      clear ho
      have hz : a.tmps.size = 221 := hfr.size
      have d0 : D 0 = true := hdeps 0 (by decide)
      have d8 : D 8 = false := by
        cases hc : D 8
        · rfl
        · have := hcl 8 _ rfl hc 4 (by decide)
          rw [hDi] at this
          cases this
      have d16 : D 16 = false := by
        cases hc : D 16
        · rfl
        · have := hcl 16 _ rfl hc 8 (by decide)
          rw [d8] at this
          cases this
      have d18 : D 18 = false := by
        cases hc : D 18
        · rfl
        · have := hcl 18 _ rfl hc 16 (by decide)
          rw [d16] at this
          cases this
      obtain ⟨hB, vr, nr, lr, o0, o1, o2, o3, o4, o5⟩ := id hsp
      obtain ⟨g1, g2, g3⟩ := o1 d0 hDi
      have ow := o0 d0
      rw [g2, g3] at ow
      have f1 : a.tmps[65]?.getD undef = vr := by rw [← Array.getD_eq_getD_getElem?]; exact g1
      have f2 : a.tmps[68]?.getD undef = .slice A1 n1 c1 := by rw [← Array.getD_eq_getD_getElem?]; exact hf 3 68 (hdeps 3 (by decide)) rfl
      refine oper_append_pts (c := c1) (.tmp 65) (.tmp 68) rfl (by simpa [Act.eval] using f1) (by simpa [Act.eval] using f2) ow (HR1.out.below (HW3w.out.trans (hb.mono HW3w.out.size))) (by omega) hB ?_
      intro v' w' h2 h3 h5
      rw [← g1] at h3 h5
      refine ⟨.inr ⟨_, rfl⟩, hb.grown h3 hB (fun j hj => by rw [g1] at hj; exact ((o0 d0).lt j hj).1), ?_⟩
      exact spR_op4 (by omega) d0 hDi d8 d16 d18 h3.size (by simpa [flatP] using h2) h3 h5 hsp
    · intro D o a wy ho hfr hb hDi hdeps hcl hf hsp
      have ho2 : _ = o := Option.some.inj ho
      subst ho2
      clear ho
      have hz : a.tmps.size = 221 := hfr.size
      have d0 : D 0 = true := hcl 4 _ rfl (hdeps 4 (by decide)) 0 (by decide)
      have d4 : D 4 = true := hdeps 4 (by decide)
      have d16 : D 16 = false := by
        cases hc : D 16
        · rfl
        · have := hcl 16 _ rfl hc 8 (by decide)
          rw [hDi] at this
          cases this
      have d18 : D 18 = false := by
        cases hc : D 18
        · rfl
        · have := hcl 18 _ rfl hc 16 (by decide)
          rw [d16] at this
          cases this
      obtain ⟨hB, vr, nr, lr, o0, o1, o2, o3, o4, o5⟩ := id hsp
      obtain ⟨g1, g2, g3⟩ := o2 d4 hDi
      have ow := o0 d0
      rw [g2, g3] at ow
      have f1 : a.tmps[69]?.getD undef = vr := by rw [← Array.getD_eq_getD_getElem?]; exact g1
      have f2 : a.tmps[72]?.getD undef = .slice A2 n2 c2 := by rw [← Array.getD_eq_getD_getElem?]; exact hf 7 72 (hdeps 7 (by decide)) rfl
      refine oper_append_pts (c := c2) (.tmp 69) (.tmp 72) rfl (by simpa [Act.eval] using f1) (by simpa [Act.eval] using f2) ow (HR2.out.below (HW3w.out.trans (hb.mono HW3w.out.size))) (by omega) hB ?_
      intro v' w' h2 h3 h5
      rw [← g1] at h3 h5
      refine ⟨.inr ⟨_, rfl⟩, hb.grown h3 hB (fun j hj => by rw [g1] at hj; exact ((o0 d0).lt j hj).1), ?_⟩
      exact spR_op8 (by omega) d0 d4 hDi d16 d18 h3.size (by rw [flatP_append]; exact h2) h3 h5 hsp
    · intro D o a wy ho hfr hb hDi hdeps hcl hf hsp
      have ho2 : _ = o := Option.some.inj ho
      subst ho2
      clear ho
      have hz : a.tmps.size = 221 := hfr.size
      have d8 : D 8 = true := hdeps 8 (by decide)
      have d0 : D 0 = true := hcl 4 _ rfl (hcl 8 _ rfl d8 4 (by decide)) 0 (by decide)
      obtain ⟨hB, vr, nr, lr, o0, o1, o2, o3, o4, o5⟩ := id hsp
      obtain ⟨g1, g2, g3⟩ := o3 d8
      have ow := o0 d0
      rw [g2, g3] at ow
      obtain ⟨A, c, hv, -⟩ := own_pts ow
      have e73 : a.tmps.getD 73 undef = .slice A (n1 + n2) c := g1.trans hv
      have f1 : a.tmps[73]?.getD undef = .slice A (n1 + n2) c := by rw [← Array.getD_eq_getD_getElem?]; exact e73
      have f2 : a.tmps[80]?.getD undef = .int .i64 SS := by rw [← Array.getD_eq_getD_getElem?]; exact hf 15 80 (hdeps 15 (by decide)) rfl
      have hr : ∀ o : Oper, o.op = .build 26 #[(0, .tmp 73), (1, .tmp 80)] → (execOp a.eval o).run Try.prog wy = .ok (.value (.agg #[.slice A (n1 + n2) c, .int .i64 SS])) wy := fun o ho => by unfold execOp; rw [ho]; simp [Act.eval, f1, f2, go_sem]
      unfold Oper.wp
      rw [hr _ rfl]
      refine ⟨.inr ⟨_, rfl⟩, hb, ?_⟩
      have := spR_op16 (by omega) hsp
      rw [e73] at this
      exact this
    · intro D o a wy ho hfr hb hDi hdeps hcl hf hsp
      have ho2 : _ = o := Option.some.inj ho
      subst ho2
      clear ho
      have hz : a.tmps.size = 221 := hfr.size
      have d18 : D 18 = false := by
        cases hc : D 18
        · rfl
        · have := hcl 18 _ rfl hc 17 (by decide)
          rw [hDi] at this
          cases this
      have hr : ∀ o : Oper, o.op = .alloc 26 → (execOp a.eval o).run Try.prog wy = .ok (.value (.pointer (some ⟨wy.heap.size, 0, none⟩))) (wy.alloc (.cells #[.slice none 0 0, .int .i64 0] 26)) := fun o ho => by unfold execOp; rw [ho]; simp [go_sem]
      unfold Oper.wp
      rw [hr _ rfl]
      exact ⟨.inr ⟨_, rfl⟩, hb.alloc hb.size _, spR_op17 (by omega) d18 hsp⟩
    · intro D o a wy ho hfr hb hDi hdeps hcl hf hsp
      have ho2 : _ = o := Option.some.inj ho
      subst ho2
      clear ho
      have hz : a.tmps.size = 221 := hfr.size
      have d16 : D 16 = true := hdeps 16 (by decide)
      have d17 : D 17 = true := hdeps 17 (by decide)
      have d8 : D 8 = true := hcl 16 _ rfl d16 8 (by decide)
      have d0 : D 0 = true := hcl 4 _ rfl (hcl 8 _ rfl d8 4 (by decide)) 0 (by decide)
      obtain ⟨hB, vr, nr, lr, o0, o1, o2, o3, o4, o5⟩ := id hsp
      obtain ⟨g1, g2, g3⟩ := o3 d8
      have ow := o0 d0
      rw [g2, g3] at ow
      obtain ⟨A, c, hv, -⟩ := own_pts ow
      have e73 : a.tmps.getD 73 undef = .slice A (n1 + n2) c := g1.trans hv
      obtain ⟨p, y0, y1, y2, y3, y4, y5, y6, y7⟩ := o5 d17
      obtain ⟨y8, y9⟩ := y6 hDi
      have dp : a.tmps[7]?.getD undef = .pointer (some ⟨p, 0, none⟩) := by rw [← Array.getD_eq_getD_getElem?]; exact y0
      have dv : a.tmps[81]?.getD undef = .agg #[.slice A (n1 + n2) c, .int .i64 SS] := by rw [← Array.getD_eq_getD_getElem?, o4 d16, e73]
      have fin := spR_op18 d0 d8 y0 d17 hDi hsp
      rw [e73] at fin
      simp [Oper.wp, Oper.upon, execOp, Act.eval, go_sem, dp, dv, y4, y5, y8, y9]
      exact ⟨(hb.setCell y1 _).setCell y1 _, fin⟩
  rintro ac w4 hf hbw4 hall hsp
  obtain ⟨hB5, vr, nr, lr, o0, -, -, o3, -, o5⟩ := hsp
  obtain ⟨pB, hxB, plB, psB, -, -, -, -, pcB⟩ := o5 rfl
  obtain ⟨pa0, pc0⟩ := pcB rfl
  obtain ⟨-, g2, g3⟩ := o3 rfl
  have ow := o0 rfl
  rw [g2, g3] at ow
  obtain ⟨A, c, rfl, hrow⟩ := own_pts ow
  obtain ⟨gg, hg⟩ : ∃ gg : Nat → Value, ∀ t, ac.tmps.getD t undef = gg t := ⟨fun t => ac.tmps.getD t undef, fun _ => rfl⟩
  have hac := frame_is (a := ac) (xs := [.agg #[.int .i64 s, .int .i64 ww, .int .i64 t, .int .i64 en], .agg #[.slice A1 n1 c1, .int .i64 S1, .slice A2 n2 c2, .int .i64 S2], .agg #[.int .i64 E, .int .i64 x], .pointer (some ⟨w.heap.size, 0, none⟩), .pointer (some ⟨w.heap.size + 1, 0, none⟩), .pointer (some ⟨w.heap.size + 2, 0, none⟩), gg 6, .pointer (some ⟨pB, 0, none⟩), gg 8, gg 9, gg 10, gg 11, gg 12, gg 13, gg 14, gg 15, gg 16, gg 17, gg 18, gg 19, gg 20, gg 21, gg 22, gg 23, gg 24, gg 25, gg 26, gg 27, gg 28, gg 29, gg 30, gg 31, gg 32, gg 33, gg 34, gg 35, gg 36, gg 37, gg 38, gg 39, gg 40, gg 41, gg 42, gg 43, gg 44, gg 45, gg 46, gg 47, gg 48, gg 49, gg 50, gg 51, gg 52, gg 53, gg 54, gg 55, gg 56, gg 57, gg 58, gg 59, gg 60, gg 61, gg 62, gg 63, gg 64, gg 65, .pointer (some ⟨w.heap.size + 1, 0, none⟩), .pointer (some ⟨w.heap.size + 1, 0, none⟩), .slice A1 n1 c1, gg 69, .pointer (some ⟨w.heap.size + 1, 2, none⟩), .pointer (some ⟨w.heap.size + 1, 2, none⟩), .slice A2 n2 c2, gg 73, .pointer (some ⟨w.heap.size + 1, 0, none⟩), .pointer (some ⟨w.heap.size + 1, 1, none⟩), .int .i64 S1, .pointer (some ⟨w.heap.size + 1, 2, none⟩), .pointer (some ⟨w.heap.size + 1, 3, none⟩), .int .i64 S2, .int .i64 SS, gg 81, gg 82, gg 83, gg 84, gg 85, gg 86, gg 87, gg 88, gg 89, gg 90, gg 91, gg 92, gg 93, gg 94, gg 95, gg 96, gg 97, gg 98, gg 99, gg 100, gg 101, gg 102, gg 103, gg 104, gg 105, gg 106, gg 107, gg 108, gg 109, gg 110, gg 111, gg 112, gg 113, gg 114, gg 115, gg 116, gg 117, gg 118, gg 119, gg 120, gg 121, gg 122, gg 123, gg 124, gg 125, gg 126, gg 127, gg 128, gg 129, gg 130, gg 131, gg 132, gg 133, gg 134, gg 135, gg 136, gg 137, gg 138, gg 139, gg 140, gg 141, gg 142, gg 143, gg 144, gg 145, gg 146, gg 147, gg 148, gg 149, gg 150, gg 151, gg 152, gg 153, gg 154, gg 155, gg 156, gg 157, gg 158, gg 159, gg 160, gg 161, gg 162, gg 163, gg 164, gg 165, gg 166, gg 167, gg 168, gg 169, gg 170, gg 171, gg 172, gg 173, gg 174, gg 175, gg 176, gg 177, gg 178, gg 179, gg 180, gg 181, gg 182, gg 183, gg 184, gg 185, gg 186, gg 187, gg 188, gg 189, gg 190, gg 191, gg 192, gg 193, gg 194, gg 195, gg 196, gg 197, gg 198, gg 199, gg 200, gg 201, gg 202, gg 203, gg 204, gg 205, gg 206, gg 207, gg 208, gg 209, gg 210, gg 211, gg 212, gg 213, gg 214, gg 215, gg 216, gg 217, gg 218, gg 219, gg 220]) hf.defers hf.size ⟨hf.same 0 (by decide), hf.same 1 (by decide), hf.same 2 (by decide), hf.same 3 (by decide), hf.same 4 (by decide), hf.same 5 (by decide), hg 6, hxB, hg 8, hg 9, hg 10, hg 11, hg 12, hg 13, hg 14, hg 15, hg 16, hg 17, hg 18, hg 19, hg 20, hg 21, hg 22, hg 23, hg 24, hg 25, hg 26, hg 27, hg 28, hg 29, hg 30, hg 31, hg 32, hg 33, hg 34, hg 35, hg 36, hg 37, hg 38, hg 39, hg 40, hg 41, hg 42, hg 43, hg 44, hg 45, hg 46, hg 47, hg 48, hg 49, hg 50, hg 51, hg 52, hg 53, hg 54, hg 55, hg 56, hg 57, hg 58, hg 59, hg 60, hg 61, hg 62, hg 63, hg 64, hg 65, hall 1 66 rfl, hall 2 67 rfl, hall 3 68 rfl, hg 69, hall 5 70 rfl, hall 6 71 rfl, hall 7 72 rfl, hg 73, hall 9 74 rfl, hall 10 75 rfl, hall 11 76 rfl, hall 12 77 rfl, hall 13 78 rfl, hall 14 79 rfl, hall 15 80 rfl, hg 81, hg 82, hg 83, hg 84, hg 85, hg 86, hg 87, hg 88, hg 89, hg 90, hg 91, hg 92, hg 93, hg 94, hg 95, hg 96, hg 97, hg 98, hg 99, hg 100, hg 101, hg 102, hg 103, hg 104, hg 105, hg 106, hg 107, hg 108, hg 109, hg 110, hg 111, hg 112, hg 113, hg 114, hg 115, hg 116, hg 117, hg 118, hg 119, hg 120, hg 121, hg 122, hg 123, hg 124, hg 125, hg 126, hg 127, hg 128, hg 129, hg 130, hg 131, hg 132, hg 133, hg 134, hg 135, hg 136, hg 137, hg 138, hg 139, hg 140, hg 141, hg 142, hg 143, hg 144, hg 145, hg 146, hg 147, hg 148, hg 149, hg 150, hg 151, hg 152, hg 153, hg 154, hg 155, hg 156, hg 157, hg 158, hg 159, hg 160, hg 161, hg 162, hg 163, hg 164, hg 165, hg 166, hg 167, hg 168, hg 169, hg 170, hg 171, hg 172, hg 173, hg 174, hg 175, hg 176, hg 177, hg 178, hg 179, hg 180, hg 181, hg 182, hg 183, hg 184, hg 185, hg 186, hg 187, hg 188, hg 189, hg 190, hg 191, hg 192, hg 193, hg 194, hg 195, hg 196, hg 197, hg 198, hg 199, hg 200, hg 201, hg 202, hg 203, hg 204, hg 205, hg 206, hg 207, hg 208, hg 209, hg 210, hg 211, hg 212, hg 213, hg 214, hg 215, hg 216, hg 217, hg 218, hg 219, hg 220, trivial⟩
  clear hall hf hg hxB
  subst hac
  as_aux_lemma =>
  have H4 := Lib.hid (H3.out.trans (hbw4.mono H3.out.size))
  have HB4 : Hid (pB < w4.heap.size) := Lib.hid psB
  have HP4 := Lib.hid (fun wx (hy : Below w4.heap.size w4 wx) => let h := HC.out wx (H4.out.trans (hy.mono H4.out.size)); And.intro (h.1) (And.intro (h.2.1) (And.intro (h.2.2.1) (And.intro (h.2.2.2.1) (And.intro (h.2.2.2.2.1) (And.intro (h.2.2.2.2.2.1) (And.intro (h.2.2.2.2.2.2.1) (And.intro (h.2.2.2.2.2.2.2.1) (And.intro (h.2.2.2.2.2.2.2.2.1) (And.intro (h.2.2.2.2.2.2.2.2.2) (And.intro (((bcell hy).1 _ _ HB4.out).trans pa0) (((bcell hy).1 _ _ HB4.out).trans pc0))))))))))))
  have HRB := Lib.hid (fun wx (hy : Below w4.heap.size w4 wx) => hrow.below hy)
  have H4W := Lib.hid (HB0.out.trans (H4.out.mono HB0.out.size))
  have HZ4 := Lib.hid (Below.refl w4.heap.size w4)
  clear hbw4 pa0 pc0 plB psB o0 o3 o5 ow hrow HC3 GE hB5 g2 g3
  obtain ⟨c0, c1, c2, c3, c4, c5, c6, c7, c8, c9, b0, b1⟩ := HP4.out w4 HZ4.out
  cases wb
  · go_wp2_with (go_at_call 32; (with_reducible refine Calls.mono (HW3.out _) ?_); rintro e w9 ⟨rfl, rfl⟩)
    go_ret
    exact ⟨rfl, H4W.out⟩
  have HM3b := Lib.hid (HM3.out rfl)
  have HG3b := Lib.hid (HG3.out rfl)
  have HG4b := Lib.hid (HG4.out rfl)
  have HPLb := Lib.hid (HPL.out rfl)
  go_upto_region 8 with (go_at_call 32; (with_reducible refine Calls.mono (HW3.out _) ?_); rintro e w9 ⟨rfl, rfl⟩)
  clear c0 c1 c2 c3 c4 c5 c6 c7 c8 c9 b0 b1 HM3 HG3 HG4 HPL HW1 HW2 HW3 HCB2 HR1 HR2
  as_aux_lemma =>
  have i0 : wrap64 (2 * E) = E2 := HNU.out.2.1
  obtain ⟨c0, c1, c2, c3, c4, c5, c6, c7, c8, c9, b0, b1⟩ := HP4.out w4 HZ4.out
  go_upto_region 9 with (go_at_call 31; (with_reducible refine Calls.mono (HM1.out _ (H4W.out.trans (HZ4.out.mono H4W.out.size))) ?_); rintro e w5 ⟨rfl, hbw5⟩)
  clear c0 c1 c2 c3 c4 c5 c6 c7 c8 c9 b0 b1
  obtain ⟨w6, hw6⟩ : ∃ w6, w5.alloc (.cells #[.int .i64 m1, .int .i64 m2] 30) = w6 := ⟨_, rfl⟩
  have Gw6 : Hid (Below w4.heap.size w4 w6) := Lib.hid (by rw [← hw6]; exact hbw5.alloc hbw5.size _)
  have H6 := Lib.hid (HZ4.out.trans (Gw6.out.mono HZ4.out.size))
  obtain ⟨pw6, hpw6⟩ : ∃ y, w5.heap.size = y := ⟨_, rfl⟩
  have uw6a : w6.cell? ⟨pw6, 0, none⟩ = some (.int .i64 m1) := by rw [← hw6, ← hpw6]; simp [go_sem]
  have uw6b : w6.cell? ⟨pw6, 1, none⟩ = some (.int .i64 m2) := by rw [← hw6, ← hpw6]; simp [go_sem]
  have Fw6 := Lib.hid (fun wx (hy : Below w6.heap.size w6 wx) => And.intro (((bcell hy).1 _ _ (World.block_lt_of_cell? w6 _ uw6a)).trans uw6a) (((bcell hy).1 _ _ (World.block_lt_of_cell? w6 _ uw6a)).trans uw6b))
  rw [hw6, hpw6]
  clear hw6 hpw6 hbw5 uw6a uw6b
  obtain ⟨c0, c1, c2, c3, c4, c5, c6, c7, c8, c9, b0, b1⟩ := HP4.out w6 H6.out
  go_upto_region 10 with (go_at_call 31; (with_reducible refine Calls.mono (HM2.out _ (H4W.out.trans (H6.out.mono H4W.out.size))) ?_); rintro e w7 ⟨rfl, hbw7⟩)
  clear c0 c1 c2 c3 c4 c5 c6 c7 c8 c9 b0 b1
  obtain ⟨w8, hw8⟩ : ∃ w8, w7.alloc (.cells #[.int .i64 k1, .int .i64 k2] 30) = w8 := ⟨_, rfl⟩
  have Gw8 : Hid (Below w6.heap.size w6 w8) := Lib.hid (by rw [← hw8]; exact hbw7.alloc hbw7.size _)
  have H8 := Lib.hid (H6.out.trans (Gw8.out.mono H6.out.size))
  obtain ⟨pw8, hpw8⟩ : ∃ y, w7.heap.size = y := ⟨_, rfl⟩
  have uw8a : w8.cell? ⟨pw8, 0, none⟩ = some (.int .i64 k1) := by rw [← hw8, ← hpw8]; simp [go_sem]
  have uw8b : w8.cell? ⟨pw8, 1, none⟩ = some (.int .i64 k2) := by rw [← hw8, ← hpw8]; simp [go_sem]
  have Fw8 := Lib.hid (fun wx (hy : Below w8.heap.size w8 wx) => And.intro (((bcell hy).1 _ _ (World.block_lt_of_cell? w8 _ uw8a)).trans uw8a) (((bcell hy).1 _ _ (World.block_lt_of_cell? w8 _ uw8a)).trans uw8b))
  rw [hw8, hpw8]
  clear hw8 hpw8 hbw7 uw8a uw8b
  obtain ⟨c0, c1, c2, c3, c4, c5, c6, c7, c8, c9, b0, b1⟩ := HP4.out w8 H8.out
  go_upto_region 11 with (go_at_call 31; (with_reducible refine Calls.mono (HM3b.out _ _ _ (HRB.out _ H8.out)) ?_); rintro e w9 ⟨rfl, hbw9⟩)
  clear c0 c1 c2 c3 c4 c5 c6 c7 c8 c9 b0 b1
  obtain ⟨w10, hw10⟩ : ∃ w10, w9.alloc (.cells #[.int .i64 v1, .int .i64 v2] 30) = w10 := ⟨_, rfl⟩
  have Gw10 : Hid (Below w8.heap.size w8 w10) := Lib.hid (by rw [← hw10]; exact hbw9.alloc hbw9.size _)
  have H10 := Lib.hid (H8.out.trans (Gw10.out.mono H8.out.size))
  obtain ⟨pw10, hpw10⟩ : ∃ y, w9.heap.size = y := ⟨_, rfl⟩
  have uw10a : w10.cell? ⟨pw10, 0, none⟩ = some (.int .i64 v1) := by rw [← hw10, ← hpw10]; simp [go_sem]
  have uw10b : w10.cell? ⟨pw10, 1, none⟩ = some (.int .i64 v2) := by rw [← hw10, ← hpw10]; simp [go_sem]
  have Fw10 := Lib.hid (fun wx (hy : Below w10.heap.size w10 wx) => And.intro (((bcell hy).1 _ _ (World.block_lt_of_cell? w10 _ uw10a)).trans uw10a) (((bcell hy).1 _ _ (World.block_lt_of_cell? w10 _ uw10a)).trans uw10b))
  rw [hw10, hpw10]
  clear hw10 hpw10 hbw9 uw10a uw10b
  as_aux_lemma =>
  obtain ⟨c0, c1, c2, c3, c4, c5, c6, c7, c8, c9, b0, b1⟩ := HP4.out w10 H10.out
  go_upto_region 12 with (go_at_call 39; (with_reducible refine Calls.mono (HG1.out _ (H4W.out.trans (H10.out.mono H4W.out.size))) ?_); rintro e w11 ⟨rfl, hbw11⟩)
  clear c0 c1 c2 c3 c4 c5 c6 c7 c8 c9 b0 b1
  obtain ⟨w12, hw12⟩ : ∃ w12, w11.alloc (.cells #[.int .i64 p1, .int .i64 p2] 30) = w12 := ⟨_, rfl⟩
  have Gw12 : Hid (Below w10.heap.size w10 w12) := Lib.hid (by rw [← hw12]; exact hbw11.alloc hbw11.size _)
  have H12 := Lib.hid (H10.out.trans (Gw12.out.mono H10.out.size))
  obtain ⟨pw12, hpw12⟩ : ∃ y, w11.heap.size = y := ⟨_, rfl⟩
  have uw12a : w12.cell? ⟨pw12, 0, none⟩ = some (.int .i64 p1) := by rw [← hw12, ← hpw12]; simp [go_sem]
  have uw12b : w12.cell? ⟨pw12, 1, none⟩ = some (.int .i64 p2) := by rw [← hw12, ← hpw12]; simp [go_sem]
  have Fw12 := Lib.hid (fun wx (hy : Below w12.heap.size w12 wx) => And.intro (((bcell hy).1 _ _ (World.block_lt_of_cell? w12 _ uw12a)).trans uw12a) (((bcell hy).1 _ _ (World.block_lt_of_cell? w12 _ uw12a)).trans uw12b))
  rw [hw12, hpw12]
  clear hw12 hpw12 hbw11 uw12a uw12b
  obtain ⟨c0, c1, c2, c3, c4, c5, c6, c7, c8, c9, b0, b1⟩ := HP4.out w12 H12.out
  go_upto_region 13 with (go_at_call 39; (with_reducible refine Calls.mono (HG2.out _ (H4W.out.trans (H12.out.mono H4W.out.size))) ?_); rintro e w13 ⟨rfl, hbw13⟩)
  clear c0 c1 c2 c3 c4 c5 c6 c7 c8 c9 b0 b1
  obtain ⟨w14, hw14⟩ : ∃ w14, w13.alloc (.cells #[.int .i64 q1, .int .i64 q2] 30) = w14 := ⟨_, rfl⟩
  have Gw14 : Hid (Below w12.heap.size w12 w14) := Lib.hid (by rw [← hw14]; exact hbw13.alloc hbw13.size _)
  have H14 := Lib.hid (H12.out.trans (Gw14.out.mono H12.out.size))
  obtain ⟨pw14, hpw14⟩ : ∃ y, w13.heap.size = y := ⟨_, rfl⟩
  have uw14a : w14.cell? ⟨pw14, 0, none⟩ = some (.int .i64 q1) := by rw [← hw14, ← hpw14]; simp [go_sem]
  have uw14b : w14.cell? ⟨pw14, 1, none⟩ = some (.int .i64 q2) := by rw [← hw14, ← hpw14]; simp [go_sem]
  have Fw14 := Lib.hid (fun wx (hy : Below w14.heap.size w14 wx) => And.intro (((bcell hy).1 _ _ (World.block_lt_of_cell? w14 _ uw14a)).trans uw14a) (((bcell hy).1 _ _ (World.block_lt_of_cell? w14 _ uw14a)).trans uw14b))
  rw [hw14, hpw14]
  clear hw14 hpw14 hbw13 uw14a uw14b
  obtain ⟨c0, c1, c2, c3, c4, c5, c6, c7, c8, c9, b0, b1⟩ := HP4.out w14 H14.out
  go_upto_region 14 with (go_at_call 39; (with_reducible refine Calls.mono (HG3b.out _ _ _ (HRB.out _ H14.out)) ?_); rintro e w15 ⟨rfl, hbw15⟩)
  clear c0 c1 c2 c3 c4 c5 c6 c7 c8 c9 b0 b1
  obtain ⟨w16, hw16⟩ : ∃ w16, w15.alloc (.cells #[.int .i64 r1, .int .i64 r2] 30) = w16 := ⟨_, rfl⟩
  have Gw16 : Hid (Below w14.heap.size w14 w16) := Lib.hid (by rw [← hw16]; exact hbw15.alloc hbw15.size _)
  have H16 := Lib.hid (H14.out.trans (Gw16.out.mono H14.out.size))
  obtain ⟨pw16, hpw16⟩ : ∃ y, w15.heap.size = y := ⟨_, rfl⟩
  have uw16a : w16.cell? ⟨pw16, 0, none⟩ = some (.int .i64 r1) := by rw [← hw16, ← hpw16]; simp [go_sem]
  have uw16b : w16.cell? ⟨pw16, 1, none⟩ = some (.int .i64 r2) := by rw [← hw16, ← hpw16]; simp [go_sem]
  have Fw16 := Lib.hid (fun wx (hy : Below w16.heap.size w16 wx) => And.intro (((bcell hy).1 _ _ (World.block_lt_of_cell? w16 _ uw16a)).trans uw16a) (((bcell hy).1 _ _ (World.block_lt_of_cell? w16 _ uw16a)).trans uw16b))
  rw [hw16, hpw16]
  clear hw16 hpw16 hbw15 uw16a uw16b
  as_aux_lemma =>
  obtain ⟨c0, c1, c2, c3, c4, c5, c6, c7, c8, c9, b0, b1⟩ := HP4.out w16 H16.out
  go_upto_region 15 with (go_at_call 39; (with_reducible refine Calls.mono (HG4b.out _ _ _ (HRB.out _ H16.out)) ?_); rintro e w17 ⟨rfl, hbw17⟩)
  clear c0 c1 c2 c3 c4 c5 c6 c7 c8 c9 b0 b1
  obtain ⟨w18, hw18⟩ : ∃ w18, w17.alloc (.cells #[.int .i64 t1, .int .i64 t2] 30) = w18 := ⟨_, rfl⟩
  have Gw18 : Hid (Below w16.heap.size w16 w18) := Lib.hid (by rw [← hw18]; exact hbw17.alloc hbw17.size _)
  have H18 := Lib.hid (H16.out.trans (Gw18.out.mono H16.out.size))
  obtain ⟨pw18, hpw18⟩ : ∃ y, w17.heap.size = y := ⟨_, rfl⟩
  have uw18a : w18.cell? ⟨pw18, 0, none⟩ = some (.int .i64 t1) := by rw [← hw18, ← hpw18]; simp [go_sem]
  have uw18b : w18.cell? ⟨pw18, 1, none⟩ = some (.int .i64 t2) := by rw [← hw18, ← hpw18]; simp [go_sem]
  have Fw18 := Lib.hid (fun wx (hy : Below w18.heap.size w18 wx) => And.intro (((bcell hy).1 _ _ (World.block_lt_of_cell? w18 _ uw18a)).trans uw18a) (((bcell hy).1 _ _ (World.block_lt_of_cell? w18 _ uw18a)).trans uw18b))
  rw [hw18, hpw18]
  clear hw18 hpw18 hbw17 uw18a uw18b
  as_aux_lemma =>
  have Z0 : Hid (Below w6.heap.size w6 w18) := Lib.hid (((((Gw8.out.trans (Gw10.out.mono Gw8.out.size)).trans (Gw12.out.mono (Gw8.out.trans (Gw10.out.mono Gw8.out.size)).size)).trans (Gw14.out.mono ((Gw8.out.trans (Gw10.out.mono Gw8.out.size)).trans (Gw12.out.mono (Gw8.out.trans (Gw10.out.mono Gw8.out.size)).size)).size)).trans (Gw16.out.mono (((Gw8.out.trans (Gw10.out.mono Gw8.out.size)).trans (Gw12.out.mono (Gw8.out.trans (Gw10.out.mono Gw8.out.size)).size)).trans (Gw14.out.mono ((Gw8.out.trans (Gw10.out.mono Gw8.out.size)).trans (Gw12.out.mono (Gw8.out.trans (Gw10.out.mono Gw8.out.size)).size)).size)).size)).trans (Gw18.out.mono ((((Gw8.out.trans (Gw10.out.mono Gw8.out.size)).trans (Gw12.out.mono (Gw8.out.trans (Gw10.out.mono Gw8.out.size)).size)).trans (Gw14.out.mono ((Gw8.out.trans (Gw10.out.mono Gw8.out.size)).trans (Gw12.out.mono (Gw8.out.trans (Gw10.out.mono Gw8.out.size)).size)).size)).trans (Gw16.out.mono (((Gw8.out.trans (Gw10.out.mono Gw8.out.size)).trans (Gw12.out.mono (Gw8.out.trans (Gw10.out.mono Gw8.out.size)).size)).trans (Gw14.out.mono ((Gw8.out.trans (Gw10.out.mono Gw8.out.size)).trans (Gw12.out.mono (Gw8.out.trans (Gw10.out.mono Gw8.out.size)).size)).size)).size)).size))
  have Z1 : Hid (Below w8.heap.size w8 w18) := Lib.hid ((((Gw10.out.trans (Gw12.out.mono Gw10.out.size)).trans (Gw14.out.mono (Gw10.out.trans (Gw12.out.mono Gw10.out.size)).size)).trans (Gw16.out.mono ((Gw10.out.trans (Gw12.out.mono Gw10.out.size)).trans (Gw14.out.mono (Gw10.out.trans (Gw12.out.mono Gw10.out.size)).size)).size)).trans (Gw18.out.mono (((Gw10.out.trans (Gw12.out.mono Gw10.out.size)).trans (Gw14.out.mono (Gw10.out.trans (Gw12.out.mono Gw10.out.size)).size)).trans (Gw16.out.mono ((Gw10.out.trans (Gw12.out.mono Gw10.out.size)).trans (Gw14.out.mono (Gw10.out.trans (Gw12.out.mono Gw10.out.size)).size)).size)).size))
  have Z2 : Hid (Below w10.heap.size w10 w18) := Lib.hid (((Gw12.out.trans (Gw14.out.mono Gw12.out.size)).trans (Gw16.out.mono (Gw12.out.trans (Gw14.out.mono Gw12.out.size)).size)).trans (Gw18.out.mono ((Gw12.out.trans (Gw14.out.mono Gw12.out.size)).trans (Gw16.out.mono (Gw12.out.trans (Gw14.out.mono Gw12.out.size)).size)).size))
  have Z3 : Hid (Below w12.heap.size w12 w18) := Lib.hid ((Gw14.out.trans (Gw16.out.mono Gw14.out.size)).trans (Gw18.out.mono (Gw14.out.trans (Gw16.out.mono Gw14.out.size)).size))
  have Z4 : Hid (Below w14.heap.size w14 w18) := Lib.hid (Gw16.out.trans (Gw18.out.mono Gw16.out.size))
  have Z5 : Hid (Below w16.heap.size w16 w18) := Lib.hid Gw18.out
  have Z6 : Hid (Below w18.heap.size w18 w18) := Lib.hid (Below.refl w18.heap.size w18)
  have HPE := Lib.hid (fun wx (hy : Below w18.heap.size w18 wx) => let h := HP4.out wx (H18.out.trans (hy.mono H18.out.size)); And.intro (h.1) (And.intro (h.2.1) (And.intro (h.2.2.1) (And.intro (h.2.2.2.1) (And.intro (h.2.2.2.2.1) (And.intro (h.2.2.2.2.2.1) (And.intro (h.2.2.2.2.2.2.1) (And.intro (h.2.2.2.2.2.2.2.1) (And.intro (h.2.2.2.2.2.2.2.2.1) (And.intro (h.2.2.2.2.2.2.2.2.2.1) (And.intro (h.2.2.2.2.2.2.2.2.2.2.1) (And.intro (h.2.2.2.2.2.2.2.2.2.2.2) (And.intro ((Fw6.out wx (Z0.out.trans (hy.mono Z0.out.size))).1) (And.intro ((Fw6.out wx (Z0.out.trans (hy.mono Z0.out.size))).2) (And.intro ((Fw8.out wx (Z1.out.trans (hy.mono Z1.out.size))).1) (And.intro ((Fw8.out wx (Z1.out.trans (hy.mono Z1.out.size))).2) (And.intro ((Fw10.out wx (Z2.out.trans (hy.mono Z2.out.size))).1) (And.intro ((Fw10.out wx (Z2.out.trans (hy.mono Z2.out.size))).2) (And.intro ((Fw12.out wx (Z3.out.trans (hy.mono Z3.out.size))).1) (And.intro ((Fw12.out wx (Z3.out.trans (hy.mono Z3.out.size))).2) (And.intro ((Fw14.out wx (Z4.out.trans (hy.mono Z4.out.size))).1) (And.intro ((Fw14.out wx (Z4.out.trans (hy.mono Z4.out.size))).2) (And.intro ((Fw16.out wx (Z5.out.trans (hy.mono Z5.out.size))).1) (And.intro ((Fw16.out wx (Z5.out.trans (hy.mono Z5.out.size))).2) (And.intro ((Fw18.out wx (Z6.out.trans (hy.mono Z6.out.size))).1) ((Fw18.out wx (Z6.out.trans (hy.mono Z6.out.size))).2))))))))))))))))))))))))))
  have HZE := Lib.hid (Below.refl w18.heap.size w18)
  have HEW := Lib.hid (H4W.out.trans (H18.out.mono H4W.out.size))
  clear Z0 Z1 Z2 Z3 Z4 Z5 Z6 Fw6 Fw8 Fw10 Fw12 Fw14 Fw16 Fw18 Gw6 Gw8 Gw10 Gw12 Gw14 Gw16 Gw18 HP4 HRB HM1 HM2 HM3b HG1 HG2 HG3b HG4b HC
  obtain ⟨c0, c1, c2, c3, c4, c5, c6, c7, c8, c9, b0, b1, y0, y1, y2, y3, y4, y5, y6, y7, y8, y9, y10, y11, y12, y13⟩ := HPE.out w18 HZE.out
  obtain ⟨i1, i2, i3, i4, i5, i6, i7, i8, i9⟩ := HNU.out
  have hi1 := i64f i3
  have hi2 := i64f i4
  have hi3 := i64f i5
  have hi4 := i64f i6
  have hi5 := i64f i7
  have hi6 := i64f i8
  have hi7 := i64f i9
  go_upto_region 18 with fail
  clear i1 i2 i4 i5 i6 i7 i8 hi2 hi3 hi4 hi5 hi6
  as_aux_lemma =>
  go_wp2_with (first | (go_at_call 88; (with_reducible refine Calls.mono (HPLb.out.1 _) ?_); rintro e wa ⟨rfl, hba⟩; have HA := Lib.hid hba; clear hba; clear c0 c1 c2 c3 c4 c5 c6 c7 c8 c9 b0 b1 y0 y1 y2 y3 y4 y5 y6 y7 y8 y9 y10 y11 y12 y13; obtain ⟨c0, c1, c2, c3, c4, c5, c6, c7, c8, c9, b0, b1, y0, y1, y2, y3, y4, y5, y6, y7, y8, y9, y10, y11, y12, y13⟩ := HPE.out wa HA.out) | (go_at_call 88; (with_reducible refine Calls.mono (HPLb.out.2.1 _) ?_); rintro e wb ⟨rfl, hbb⟩; have HBb := Lib.hid (HA.out.trans (hbb.mono HA.out.size)); clear hbb; clear c0 c1 c2 c3 c4 c5 c6 c7 c8 c9 b0 b1 y0 y1 y2 y3 y4 y5 y6 y7 y8 y9 y10 y11 y12 y13; obtain ⟨c0, c1, c2, c3, c4, c5, c6, c7, c8, c9, b0, b1, y0, y1, y2, y3, y4, y5, y6, y7, y8, y9, y10, y11, y12, y13⟩ := HPE.out wb HBb.out) | (go_at_call 88; (with_reducible refine Calls.mono (HPLb.out.2.2 _) ?_); rintro e wc ⟨rfl, hbc⟩; have HCc := Lib.hid (HBb.out.trans (hbc.mono HBb.out.size)); clear hbc) | fail)
  go_ret
  exact ⟨rfl, HEW.out.trans (HCc.out.mono HEW.out.size)⟩
end Go.Proofs.Ytablphoicidlkaa
