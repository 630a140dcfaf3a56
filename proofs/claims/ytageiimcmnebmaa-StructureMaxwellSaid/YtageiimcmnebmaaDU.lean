/- Maxwell's law: the walk. -/
import Derived.Test.YtageiimcmnebmaaCH
import Derived.Test.YtageiimcmnebmaaDF
import Derived.Test.YtageiimcmnebmaaRM
import Derived.Test.YtageiimcmnebmaaRL
import Derived.Test.YtageiimcmnebmaaRN
namespace Go.Proofs.Ytageiimcmnebmaa
open Go.RowKit

theorem i64e {x y : Int} (h : wrap64 x = y) : IntKind.i64.wrap x = y := by rw [IntKind.wrap_i64]; unfold wrap64 at h; exact h
theorem ptrow_set2 {w : World} {b pb : Nat} {p : Pt} {x0 x1 : Value} (h : PtRow w (some ⟨b, 0, none⟩) 1 [p]) (hz : w.cell? ⟨pb, 0, none⟩ = some (.slice none 0 0)) : PtRow (set2 w pb x0 x1) (some ⟨b, 0, none⟩) 1 [p] := by
  obtain ⟨hl, hr⟩ := h
  obtain ⟨blk, off, he, hlt, hx⟩ := hr (by decide)
  cases he
  obtain ⟨h0, h1⟩ := hx 0 (by simp)
  simp only [Nat.zero_mul, Nat.add_zero, List.getElem_cons_zero, Nat.zero_add] at h0 h1
  have hne : pb ≠ b := fun e => by
    subst e
    rw [hz] at h0
    cases h0
  refine ⟨hl, fun _ => ⟨b, 0, rfl, by unfold set2; simpa using hlt, fun k hk => ?_⟩⟩
  have hk0 : k = 0 := by simp at hk; omega
  subst hk0
  unfold set2
  refine ⟨?_, ?_⟩
  · exact (World.cell?_setCell_other _ _ _ _ (by simp)).trans ((World.cell?_setCell_other _ _ _ _ (by simp)).trans h0)
  · exact (World.cell?_setCell_other _ _ _ _ (by simp)).trans ((World.cell?_setCell_other _ _ _ _ (by simp)).trans h1)
theorem ptrow_new (w : World) (p : Pt) (t : TypeId) : PtRow (w.alloc (.cells #[.int .i64 p.a, .int .i64 p.n] t)) (some ⟨w.heap.size, 0, none⟩) 1 [p] := by
  refine ⟨rfl, fun _ => ⟨w.heap.size, 0, rfl, by simp, fun k hk => ?_⟩⟩
  have hk0 : k = 0 := by simp at hk; omega
  subst hk0
  exact ⟨by simp [go_sem], by simp [go_sem]⟩
def rRowP (p : Pt) : RK := ⟨fun v w => ∃ b, v = .slice (some ⟨b, 0, none⟩) 1 1 ∧ PtRow w (some ⟨b, 0, none⟩) 1 [p], fun _ _ _ hb ⟨b, e, h⟩ => ⟨b, e, h.below hb⟩⟩
def rBurP (p : Pt) : RK := ⟨fun v w => ∃ b, v = .agg #[.slice (some ⟨b, 0, none⟩) 1 1, .int .i64 0] ∧ PtRow w (some ⟨b, 0, none⟩) 1 [p], fun _ _ _ hb ⟨b, e, h⟩ => ⟨b, e, h.below hb⟩⟩
def XB (p : Pt) (y0 y1 : Value) (w : World) : Prop := ∃ b, y0 = .slice (some ⟨b, 0, none⟩) 1 1 ∧ y1 = .int .i64 0 ∧ PtRow w (some ⟨b, 0, none⟩) 1 [p]
theorem rstep_rowp {P : Program} {Q : Exit → Act → World → Prop} {L : List RK} {i : Nat} {o : Oper} {a : Act} {w : World} {p : Pt} {t : TypeId} (hr : (execOp a.eval o).run P w = .ok (.value (.slice (some ⟨w.heap.size, 0, none⟩) 1 1)) (w.alloc (.cells #[.int .i64 p.a, .int .i64 p.n] t))) (hL : L.getD i rAny = rRowP p) :
    o.wp P a w (fun a' w' => ∃ v, a' = a.put o.dst v ∧ Below w.heap.size w w' ∧ rkF L i v w') Q := by
  unfold Oper.wp
  rw [hr]
  exact ⟨_, rfl, (Below.refl _ _).alloc (Nat.le_refl _) _, by unfold rkF; rw [hL]; exact ⟨_, rfl, ptrow_new w p t⟩⟩
theorem rstep_burp {P : Program} {Q : Exit → Act → World → Prop} {L : List RK} {i : Nat} {o : Oper} {a : Act} {w : World} {p : Pt} {b : Nat} (hrow : PtRow w (some ⟨b, 0, none⟩) 1 [p]) (hr : (execOp a.eval o).run P w = .ok (.value (.agg #[.slice (some ⟨b, 0, none⟩) 1 1, .int .i64 0])) w) (hL : L.getD i rAny = rBurP p) :
    o.wp P a w (fun a' w' => ∃ v, a' = a.put o.dst v ∧ Below w.heap.size w w' ∧ rkF L i v w') Q := by
  unfold Oper.wp
  rw [hr]
  exact ⟨_, rfl, Below.refl _ _, by unfold rkF; rw [hL]; exact ⟨_, rfl, hrow⟩⟩
set_option maxHeartbeats 64000000 in
set_option maxRecDepth 20000 in
theorem maxwell_good {s ww t en x a v E : Int} {pn pd m1 m2 k1 k2 v1 v2 s1 s2 sp dd g sh : Int}
    (CB : ∀ wx, Calls Try.prog 25 #[.agg #[.int .i64 s, .int .i64 ww, .int .i64 t, .int .i64 en]] wx fun e w' => e = .returned (.int .i64 0) ∧ Below wx.heap.size wx w')
    (W1 : ∀ wx, Calls Try.prog 32 #[.int .i64 x, .int .i64 0, .int .i64 s] wx fun e w' => e = .returned (.bool true) ∧ wx = w')
    (W2 : ∀ wx, Calls Try.prog 32 #[.int .i64 a, .int .i64 0, .int .i64 s] wx fun e w' => e = .returned (.bool true) ∧ wx = w')
    (W3 : ∀ wx, Calls Try.prog 32 #[.int .i64 v, .int .i64 (-2000), .int .i64 2000] wx fun e w' => e = .returned (.bool true) ∧ wx = w')
    (IS : ∀ wx, Calls Try.prog 41 #[.int .i64 E] wx fun e w' => e = .returned (.bool true) ∧ wx = w')
    (SA : ∀ B wx, PtRow wx (some ⟨B, 0, none⟩) 1 [⟨a, v⟩] → Calls Try.prog 39 #[.agg #[.int .i64 s, .int .i64 ww, .int .i64 t, .int .i64 en], .int .i64 E, .agg #[.slice (some ⟨B, 0, none⟩) 1 1, .int .i64 0], .int .i64 x] wx fun e w' => e = .returned (.tuple #[.agg #[.int .i64 pn, .int .i64 pd], .int .i64 0]) ∧ Below wx.heap.size wx w')
    (SB : ∀ B wx, PtRow wx (some ⟨B, 0, none⟩) 1 [⟨x, v⟩] → Calls Try.prog 39 #[.agg #[.int .i64 s, .int .i64 ww, .int .i64 t, .int .i64 en], .int .i64 E, .agg #[.slice (some ⟨B, 0, none⟩) 1 1, .int .i64 0], .int .i64 a] wx fun e w' => e = .returned (.tuple #[.agg #[.int .i64 pn, .int .i64 pd], .int .i64 0]) ∧ Below wx.heap.size wx w')
    (MX : ∀ B wx, PtRow wx (some ⟨B, 0, none⟩) 1 [⟨a, v⟩] → Calls Try.prog 31 #[.agg #[.int .i64 s, .int .i64 ww, .int .i64 t, .int .i64 en], .agg #[.slice (some ⟨B, 0, none⟩) 1 1, .int .i64 0], .int .i64 x] wx fun e w' => e = .returned (.tuple #[.agg #[.int .i64 m1, .int .i64 m2], .int .i64 0]) ∧ Below wx.heap.size wx w')
    (MA : ∀ B wx, PtRow wx (some ⟨B, 0, none⟩) 1 [⟨a, v⟩] → Calls Try.prog 31 #[.agg #[.int .i64 s, .int .i64 ww, .int .i64 t, .int .i64 en], .agg #[.slice (some ⟨B, 0, none⟩) 1 1, .int .i64 0], .int .i64 a] wx fun e w' => e = .returned (.tuple #[.agg #[.int .i64 k1, .int .i64 k2], .int .i64 0]) ∧ Below wx.heap.size wx w')
    (SH : ∀ B wx, PtRow wx (some ⟨B, 0, none⟩) 1 [⟨a, v⟩] → Calls Try.prog 30 #[.agg #[.int .i64 s, .int .i64 ww, .int .i64 t, .int .i64 en], .agg #[.slice (some ⟨B, 0, none⟩) 1 1, .int .i64 0], .int .i64 x] wx fun e w' => e = .returned (.tuple #[.agg #[.int .i64 v1, .int .i64 v2], .int .i64 0]) ∧ Below wx.heap.size wx w')
    (LO : ∀ wx, Calls Try.prog 89 #[.int .i64 sp, .int .i64 dd] wx fun e w' => e = .returned (.agg #[.int .i64 s1, .int .i64 s2]) ∧ Below wx.heap.size wx w')
    (PL : x < a → ∀ wx, Calls Try.prog 88 #[.agg #[.int .i64 m1, .int .i64 m2], .agg #[.int .i64 s1, .int .i64 s2], .agg #[.int .i64 k1, .int .i64 k2], .int .i64 dd] wx fun e w' => e = .returned (.bool true) ∧ Below wx.heap.size wx w')
    (NU : wrap64 (2 * s) = dd ∧ 1 ≤ v2 ∧ dd.tmod v2 = 0 ∧ dd.tdiv v2 = g ∧ wrap64 g = g ∧ wrap64 (v1 * g) = sh ∧ wrap64 (a - x) = a - x ∧ wrap64 (sh * (a - x)) = sp) (w : World) :
    Calls Try.prog 18 #[.agg #[.int .i64 s, .int .i64 ww, .int .i64 t, .int .i64 en], .agg #[.int .i64 x, .int .i64 a, .int .i64 v], .int .i64 E] w fun e w' => e = .returned (.bool true) ∧ Below w.heap.size w w' := by
  have HCB := Lib.hid CB
  have HW1 := Lib.hid W1
  have HW2 := Lib.hid W2
  have HW3 := Lib.hid W3
  have HIS := Lib.hid IS
  have HSA := Lib.hid SA
  have HSB := Lib.hid SB
  have HMX := Lib.hid MX
  have HMA := Lib.hid MA
  have HSH := Lib.hid SH
  have HLO := Lib.hid LO
  have HPL := Lib.hid PL
  have HNU := Lib.hid NU
  have AW := fun wx => Lib.hid (awake_any wx)
  clear CB W1 W2 W3 IS SA SB MX MA SH LO PL NU
  go_enter Try.func18, Try.ntmps18
  go_upto_region 1 with fail
  obtain ⟨w0, hw0⟩ : ∃ w0, ((w.alloc (.cells #[.int .i64 s, .int .i64 ww, .int .i64 t, .int .i64 en] 23)).alloc (.cells #[.int .i64 x, .int .i64 a, .int .i64 v] 147)) = w0 := ⟨_, rfl⟩
  have HB0 : Hid (Below w.heap.size w w0) := Lib.hid (by rw [← hw0]; exact (((Below.refl _ _).alloc (Nat.le_refl _) _).alloc (by simp; try omega) _))
  have HC := Lib.hid (fun wx (hb : Below w0.heap.size w0 wx) => (show wx.cell? ⟨w.heap.size, 0, none⟩ = some (.int .i64 s) ∧ wx.cell? ⟨w.heap.size, 1, none⟩ = some (.int .i64 ww) ∧ wx.cell? ⟨w.heap.size, 2, none⟩ = some (.int .i64 t) ∧ wx.cell? ⟨w.heap.size, 3, none⟩ = some (.int .i64 en) ∧ wx.cell? ⟨w.heap.size + 1, 0, none⟩ = some (.int .i64 x) ∧ wx.cell? ⟨w.heap.size + 1, 1, none⟩ = some (.int .i64 a) ∧ wx.cell? ⟨w.heap.size + 1, 2, none⟩ = some (.int .i64 v) from by
    subst hw0
    obtain ⟨k, kf⟩ := bcell hb
    exact ⟨(k _ _ (by simp; try omega)).trans (by simp [go_sem]), (k _ _ (by simp; try omega)).trans (by simp [go_sem]), (k _ _ (by simp; try omega)).trans (by simp [go_sem]), (k _ _ (by simp; try omega)).trans (by simp [go_sem]), (k _ _ (by simp; try omega)).trans (by simp [go_sem]), (k _ _ (by simp; try omega)).trans (by simp [go_sem]), (k _ _ (by simp; try omega)).trans (by simp [go_sem])⟩))
  rw [hw0]
  clear hw0
  go_upto_region 3 with (go_at_call 19; (refine Calls.mono (AW _).out ?_); rintro e w1 ⟨rfl, hb1⟩; have H1 := Lib.hid hb1; clear hb1)
  obtain ⟨c0, c1, c2, c3, c4, c5, c6⟩ := HC.out w1 H1.out
  go_upto_region 5 with (first | (go_at_call 25; (refine Calls.mono (HCB.out _) ?_); rintro e w2 ⟨rfl, hb2⟩; have H2 := Lib.hid (H1.out.trans (hb2.mono H1.out.size)); clear hb2; clear c0 c1 c2 c3 c4 c5 c6; obtain ⟨c0, c1, c2, c3, c4, c5, c6⟩ := HC.out w2 H2.out) | (go_at_call 32; (with_reducible refine Calls.mono (HW1.out _) ?_); rintro e w9 ⟨rfl, rfl⟩) | (go_at_call 32; (with_reducible refine Calls.mono (HW2.out _) ?_); rintro e w9 ⟨rfl, rfl⟩) | (go_at_call 32; (with_reducible refine Calls.mono (HW3.out _) ?_); rintro e w9 ⟨rfl, rfl⟩) | (go_at_call 41; (with_reducible refine Calls.mono (HIS.out _) ?_); rintro e w9 ⟨rfl, rfl⟩) | fail)
  clear c0 c1 c2 c3 c4 c5 c6 HCB HW1 HW2 HW3 HIS
  have HC2 := Lib.hid (fun wy (hy : Below w2.heap.size w2 wy) => HC.out wy (H2.out.trans (hy.mono H2.out.size)))
  have GE : ∀ {n : Nat}, w2.heap.size ≤ n → w0.heap.size ≤ n := fun h => Nat.le_trans H2.out.size h
  refine wp_region_ptrsG (t := 26) (z0 := .slice none 0 0) (z1 := .int .i64 0) [52, 53, 54, 55, 56, 57, 58, 59, 60, 61, 62, 63, 64, 65, 7, 8, 178, 177] [⟨14, 16, XB ⟨a, v⟩⟩, ⟨15, 17, XB ⟨x, v⟩⟩] [rEq (.pointer (some ⟨w.heap.size + 1, 1, none⟩)), rEq (.int .i64 a), rEq (.pointer (some ⟨w.heap.size + 1, 2, none⟩)), rEq (.int .i64 v), rEq (.agg #[.int .i64 a, .int .i64 v]), (rRowP ⟨a, v⟩), (rBurP ⟨a, v⟩), rEq (.pointer (some ⟨w.heap.size + 1, 0, none⟩)), rEq (.int .i64 x), rEq (.pointer (some ⟨w.heap.size + 1, 2, none⟩)), rEq (.int .i64 v), rEq (.agg #[.int .i64 x, .int .i64 v]), (rRowP ⟨x, v⟩), (rBurP ⟨x, v⟩), (rAny), (rAny), (rAny), (rAny)] [14, 15, 16, 17] (by kernel_rfl) (by kernel_rfl) (by decide) rfl ?_ ?_ ?_ ?_ ?_ ?_ ?_ ?_ ?_
  · refine ⟨fun i h1 h2 => ?_, fun q hq => ?_, fun q hq q' hq' h => ?_, fun q hq o ho => ?_, fun q hq => ?_⟩
    · have h3 : i = 16 ∨ i = 17 := by
        revert h2
        revert h1
        revert i
        decide +kernel
      rcases h3 with rfl | rfl
      · exact ⟨⟨14, 16, XB ⟨a, v⟩⟩, by simp, rfl⟩
      · exact ⟨⟨15, 17, XB ⟨x, v⟩⟩, by simp, rfl⟩
    · simp only [List.mem_cons, List.not_mem_nil, or_false] at hq
      rcases hq with rfl | rfl
      · exact ⟨by kernel_rfl, by kernel_rfl, (show 14 < _ by decide +kernel)⟩
      · exact ⟨by kernel_rfl, by kernel_rfl, (show 15 < _ by decide +kernel)⟩
    · simp only [List.mem_cons, List.not_mem_nil, or_false] at hq
      simp only [List.mem_cons, List.not_mem_nil, or_false] at hq'
      rcases hq with rfl | rfl <;> rcases hq' with rfl | rfl <;> first | rfl | (exfalso; revert h; simp)
    · simp only [List.mem_cons, List.not_mem_nil, or_false] at hq
      rcases hq with rfl | rfl
      · dsimp only at ho
        have ho2 : _ = o := Option.some.inj ho
        subst ho2
        show 14 ∈ depsOf _
        decide
      · dsimp only at ho
        have ho2 : _ = o := Option.some.inj ho
        subst ho2
        show 15 ∈ depsOf _
        decide
    · simp only [List.mem_cons, List.not_mem_nil, or_false] at hq
      rcases hq with rfl | rfl <;> exact ⟨rfl, rfl⟩
  · intro i he
    have he' : i = 14 ∨ i = 15 ∨ i = 16 ∨ i = 17 := by simpa using he
    rcases he' with rfl | rfl | rfl | rfl
    · exact ⟨⟨14, 16, XB ⟨a, v⟩⟩, by simp, .inl rfl⟩
    · exact ⟨⟨15, 17, XB ⟨x, v⟩⟩, by simp, .inl rfl⟩
    · exact ⟨⟨14, 16, XB ⟨a, v⟩⟩, by simp, .inr rfl⟩
    · exact ⟨⟨15, 17, XB ⟨x, v⟩⟩, by simp, .inr rfl⟩
  · intro j v w1' b x0 x1 hle hz h
    match j, h with
    | 0, h => exact h
    | 1, h => exact h
    | 2, h => exact h
    | 3, h => exact h
    | 4, h => exact h
    | 5, h => exact (let ⟨b, e, r⟩ := h; ⟨b, e, ptrow_set2 r hz⟩)
    | 6, h => exact (let ⟨b, e, r⟩ := h; ⟨b, e, ptrow_set2 r hz⟩)
    | 7, h => exact h
    | 8, h => exact h
    | 9, h => exact h
    | 10, h => exact h
    | 11, h => exact h
    | 12, h => exact (let ⟨b, e, r⟩ := h; ⟨b, e, ptrow_set2 r hz⟩)
    | 13, h => exact (let ⟨b, e, r⟩ := h; ⟨b, e, ptrow_set2 r hz⟩)
    | 14, h => exact trivial
    | 15, h => exact trivial
    | 16, h => exact trivial
    | 17, h => exact trivial
    | _ + 18, _ => exact trivial
  · intro q hq
    simp only [List.mem_cons, List.not_mem_nil, or_false] at hq
    rcases hq with rfl | rfl
    · exact fun y0 y1 w1 w2 hb ⟨b, e0, e1, h⟩ => ⟨b, e0, e1, h.below hb⟩
    · exact fun y0 y1 w1 w2 hb ⟨b, e0, e1, h⟩ => ⟨b, e0, e1, h.below hb⟩
  · intro q hq
    simp only [List.mem_cons, List.not_mem_nil, or_false] at hq
    rcases hq with rfl | rfl
    · exact fun y0 y1 w1 pb x0 x1 hz ⟨b, e0, e1, h⟩ => ⟨b, e0, e1, ptrow_set2 h hz⟩
    · exact fun y0 y1 w1 pb x0 x1 hz ⟨b, e0, e1, h⟩ => ⟨b, e0, e1, ptrow_set2 h hz⟩
  · refine ⟨?_, ?_, ?_, ?_, ?_, ?_, ?_, ?_, ?_, ?_, ?_, ?_, ?_, ?_, ?_, ?_, ?_, ?_, trivial⟩
    · intro _ ac wx hf hb hd -- 0
      have f4 : ac.tmps[4]?.getD undef = .pointer (some ⟨w.heap.size + 1, 0, none⟩) := by rw [← Array.getD_eq_getD_getElem?]; exact hf.same 4 (by decide)
      exact rstep_eq (by simp [execOp, Act.eval, f4, go_sem]) rfl
    · intro _ ac wx hf hb hd -- 1
      have d0 : ac.tmps[52]?.getD undef = .pointer (some ⟨w.heap.size + 1, 1, none⟩) := by rw [← Array.getD_eq_getD_getElem?]; exact hd 0 (by decide)
      obtain ⟨c0, c1, c2, c3, c4, c5, c6⟩ := HC2.out wx hb
      exact rstep_eq (by simp [execOp, Act.eval, d0, c5, go_sem]) rfl
    · intro _ ac wx hf hb hd -- 2
      have f4 : ac.tmps[4]?.getD undef = .pointer (some ⟨w.heap.size + 1, 0, none⟩) := by rw [← Array.getD_eq_getD_getElem?]; exact hf.same 4 (by decide)
      exact rstep_eq (by simp [execOp, Act.eval, f4, go_sem]) rfl
    · intro _ ac wx hf hb hd -- 3
      have d2 : ac.tmps[54]?.getD undef = .pointer (some ⟨w.heap.size + 1, 2, none⟩) := by rw [← Array.getD_eq_getD_getElem?]; exact hd 2 (by decide)
      obtain ⟨c0, c1, c2, c3, c4, c5, c6⟩ := HC2.out wx hb
      exact rstep_eq (by simp [execOp, Act.eval, d2, c6, go_sem]) rfl
    · intro _ ac wx hf hb hd -- 4
      have d1 : ac.tmps[53]?.getD undef = .int .i64 a := by rw [← Array.getD_eq_getD_getElem?]; exact hd 1 (by decide)
      have d3 : ac.tmps[55]?.getD undef = .int .i64 v := by rw [← Array.getD_eq_getD_getElem?]; exact hd 3 (by decide)
      exact rstep_eq (by simp [execOp, Act.eval, d1, d3, go_sem]) rfl
    · intro _ ac wx hf hb hd -- 5
      have d4 : ac.tmps[56]?.getD undef = .agg #[.int .i64 a, .int .i64 v] := by rw [← Array.getD_eq_getD_getElem?]; exact hd 4 (by decide)
      exact rstep_rowp (p := ⟨a, v⟩) (by simp [execOp, Act.eval, d4, go_sem]; rfl) rfl
    · intro _ ac wx hf hb hd -- 6
      obtain ⟨b5, d5, r5⟩ : ∃ b, ac.tmps[57]?.getD undef = .slice (some ⟨b, 0, none⟩) 1 1 ∧ PtRow wx (some ⟨b, 0, none⟩) 1 [⟨a, v⟩] := by rw [← Array.getD_eq_getD_getElem?]; exact hd 5 (by decide)
      exact rstep_burp r5 (by simp [execOp, Act.eval, d5, go_sem]) rfl
    · intro _ ac wx hf hb hd -- 7
      have f4 : ac.tmps[4]?.getD undef = .pointer (some ⟨w.heap.size + 1, 0, none⟩) := by rw [← Array.getD_eq_getD_getElem?]; exact hf.same 4 (by decide)
      exact rstep_eq (by simp [execOp, Act.eval, f4, go_sem]) rfl
    · intro _ ac wx hf hb hd -- 8
      have d7 : ac.tmps[59]?.getD undef = .pointer (some ⟨w.heap.size + 1, 0, none⟩) := by rw [← Array.getD_eq_getD_getElem?]; exact hd 7 (by decide)
      obtain ⟨c0, c1, c2, c3, c4, c5, c6⟩ := HC2.out wx hb
      exact rstep_eq (by simp [execOp, Act.eval, d7, c4, go_sem]) rfl
    · intro _ ac wx hf hb hd -- 9
      have f4 : ac.tmps[4]?.getD undef = .pointer (some ⟨w.heap.size + 1, 0, none⟩) := by rw [← Array.getD_eq_getD_getElem?]; exact hf.same 4 (by decide)
      exact rstep_eq (by simp [execOp, Act.eval, f4, go_sem]) rfl
    · intro _ ac wx hf hb hd -- 10
      have d9 : ac.tmps[61]?.getD undef = .pointer (some ⟨w.heap.size + 1, 2, none⟩) := by rw [← Array.getD_eq_getD_getElem?]; exact hd 9 (by decide)
      obtain ⟨c0, c1, c2, c3, c4, c5, c6⟩ := HC2.out wx hb
      exact rstep_eq (by simp [execOp, Act.eval, d9, c6, go_sem]) rfl
    · intro _ ac wx hf hb hd -- 11
      have d8 : ac.tmps[60]?.getD undef = .int .i64 x := by rw [← Array.getD_eq_getD_getElem?]; exact hd 8 (by decide)
      have d10 : ac.tmps[62]?.getD undef = .int .i64 v := by rw [← Array.getD_eq_getD_getElem?]; exact hd 10 (by decide)
      exact rstep_eq (by simp [execOp, Act.eval, d8, d10, go_sem]) rfl
    · intro _ ac wx hf hb hd -- 12
      have d11 : ac.tmps[63]?.getD undef = .agg #[.int .i64 x, .int .i64 v] := by rw [← Array.getD_eq_getD_getElem?]; exact hd 11 (by decide)
      exact rstep_rowp (p := ⟨x, v⟩) (by simp [execOp, Act.eval, d11, go_sem]; rfl) rfl
    · intro _ ac wx hf hb hd -- 13
      obtain ⟨b12, d12, r12⟩ : ∃ b, ac.tmps[64]?.getD undef = .slice (some ⟨b, 0, none⟩) 1 1 ∧ PtRow wx (some ⟨b, 0, none⟩) 1 [⟨x, v⟩] := by rw [← Array.getD_eq_getD_getElem?]; exact hd 12 (by decide)
      exact rstep_burp r12 (by simp [execOp, Act.eval, d12, go_sem]) rfl
    · intro h; cases h
    · intro h; cases h
    · intro h; cases h
    · intro h; cases h
  · intro q hq o ac wx ho
    simp only [List.mem_cons, List.not_mem_nil, or_false] at hq
    rcases hq with rfl | rfl <;> (cases ho; simp [execOp, go_sem])
  · intro q hq o ac wx bb ho hf hp z0 z1 y0 y1 hd
    simp only [List.mem_cons, List.not_mem_nil, or_false] at hq
    rcases hq with rfl | rfl
    · dsimp only at ho
      have ho2 : _ = o := Option.some.inj ho
      subst ho2
      clear ho
      have dp : ac.tmps[7]?.getD undef = .pointer (some ⟨bb, 0, none⟩) := by rw [← Array.getD_eq_getD_getElem?]; exact hp
      obtain ⟨b5, dv, rr⟩ : ∃ b, ac.tmps[58]?.getD undef = .agg #[.slice (some ⟨b, 0, none⟩) 1 1, .int .i64 0] ∧ PtRow wx (some ⟨b, 0, none⟩) 1 [⟨a, v⟩] := by rw [← Array.getD_eq_getD_getElem?]; exact hd 6 (by decide)
      simp [Oper.wp, Oper.upon, execOp, Act.eval, go_sem, dp, dv, z0, z1, y0, y1]
      exact ⟨_, _, rfl, b5, rfl, rfl, ptrow_set2 rr y0⟩
    · dsimp only at ho
      have ho2 : _ = o := Option.some.inj ho
      subst ho2
      clear ho
      have dp : ac.tmps[8]?.getD undef = .pointer (some ⟨bb, 0, none⟩) := by rw [← Array.getD_eq_getD_getElem?]; exact hp
      obtain ⟨b5, dv, rr⟩ : ∃ b, ac.tmps[65]?.getD undef = .agg #[.slice (some ⟨b, 0, none⟩) 1 1, .int .i64 0] ∧ PtRow wx (some ⟨b, 0, none⟩) 1 [⟨x, v⟩] := by rw [← Array.getD_eq_getD_getElem?]; exact hd 13 (by decide)
      simp [Oper.wp, Oper.upon, execOp, Act.eval, go_sem, dp, dv, z0, z1, y0, y1]
      exact ⟨_, _, rfl, b5, rfl, rfl, ptrow_set2 rr y0⟩
  rintro ac w4 hf hbw4 hall ⟨blkf, hq1, hq2⟩
  obtain ⟨pH, hxH, plH, psH, c0H, c1H, paH, pcH, pxH⟩ : ∃ blk, ac.tmps.getD 7 undef = .pointer (some ⟨blk, 0, none⟩) ∧ w0.heap.size ≤ blk ∧ blk < w4.heap.size ∧ ∃ y0 y1, w4.cell? ⟨blk, 0, none⟩ = some y0 ∧ w4.cell? ⟨blk, 1, none⟩ = some y1 ∧ XB ⟨a, v⟩ y0 y1 w4 := by
    obtain ⟨g0, g1, g2, -, -, y0, y1, g5, g6, -, g8⟩ := hq1 ⟨14, 16, XB ⟨a, v⟩⟩ (by simp) rfl
    exact ⟨blkf 14, g0, GE g1, g2, y0, y1, g5, g6, g8 rfl⟩
  obtain ⟨pT, hxT, plT, psT, c0T, c1T, paT, pcT, pxT⟩ : ∃ blk, ac.tmps.getD 8 undef = .pointer (some ⟨blk, 0, none⟩) ∧ w0.heap.size ≤ blk ∧ blk < w4.heap.size ∧ ∃ y0 y1, w4.cell? ⟨blk, 0, none⟩ = some y0 ∧ w4.cell? ⟨blk, 1, none⟩ = some y1 ∧ XB ⟨x, v⟩ y0 y1 w4 := by
    obtain ⟨g0, g1, g2, -, -, y0, y1, g5, g6, -, g8⟩ := hq1 ⟨15, 17, XB ⟨x, v⟩⟩ (by simp) rfl
    exact ⟨blkf 15, g0, GE g1, g2, y0, y1, g5, g6, g8 rfl⟩
  obtain ⟨gg, hg⟩ : ∃ gg : Nat → Value, ∀ t, ac.tmps.getD t undef = gg t := ⟨fun t => ac.tmps.getD t undef, fun _ => rfl⟩
  have hac := frame_is (a := ac) (xs := [gg 0, gg 1, .int .i64 E, .pointer (some ⟨w.heap.size, 0, none⟩), .pointer (some ⟨w.heap.size + 1, 0, none⟩), gg 5, gg 6, .pointer (some ⟨pH, 0, none⟩), .pointer (some ⟨pT, 0, none⟩), gg 9, gg 10, gg 11, gg 12, gg 13, gg 14, gg 15, gg 16, gg 17, gg 18, gg 19, gg 20, gg 21, gg 22, gg 23, gg 24, gg 25, gg 26, gg 27, gg 28, gg 29, gg 30, gg 31, gg 32, gg 33, gg 34, gg 35, gg 36, gg 37, gg 38, gg 39, gg 40, gg 41, gg 42, gg 43, gg 44, gg 45, gg 46, gg 47, gg 48, gg 49, gg 50, gg 51, .pointer (some ⟨w.heap.size + 1, 1, none⟩), .int .i64 a, .pointer (some ⟨w.heap.size + 1, 2, none⟩), .int .i64 v, .agg #[.int .i64 a, .int .i64 v], gg 57, gg 58, .pointer (some ⟨w.heap.size + 1, 0, none⟩), .int .i64 x, .pointer (some ⟨w.heap.size + 1, 2, none⟩), .int .i64 v, .agg #[.int .i64 x, .int .i64 v], gg 64, gg 65, gg 66, gg 67, gg 68, gg 69, gg 70, gg 71, gg 72, gg 73, gg 74, gg 75, gg 76, gg 77, gg 78, gg 79, gg 80, gg 81, gg 82, gg 83, gg 84, gg 85, gg 86, gg 87, gg 88, gg 89, gg 90, gg 91, gg 92, gg 93, gg 94, gg 95, gg 96, gg 97, gg 98, gg 99, gg 100, gg 101, gg 102, gg 103, gg 104, gg 105, gg 106, gg 107, gg 108, gg 109, gg 110, gg 111, gg 112, gg 113, gg 114, gg 115, gg 116, gg 117, gg 118, gg 119, gg 120, gg 121, gg 122, gg 123, gg 124, gg 125, gg 126, gg 127, gg 128, gg 129, gg 130, gg 131, gg 132, gg 133, gg 134, gg 135, gg 136, gg 137, gg 138, gg 139, gg 140, gg 141, gg 142, gg 143, gg 144, gg 145, gg 146, gg 147, gg 148, gg 149, gg 150, gg 151, gg 152, gg 153, gg 154, gg 155, gg 156, gg 157, gg 158, gg 159, gg 160, gg 161, gg 162, gg 163, gg 164, gg 165, gg 166, gg 167, gg 168, gg 169, gg 170, gg 171, gg 172, gg 173, gg 174, gg 175, gg 176, gg 177, gg 178]) hf.defers hf.size ⟨hg 0, hg 1, hf.same 2 (by decide), hf.same 3 (by decide), hf.same 4 (by decide), hg 5, hg 6, hxH, hxT, hg 9, hg 10, hg 11, hg 12, hg 13, hg 14, hg 15, hg 16, hg 17, hg 18, hg 19, hg 20, hg 21, hg 22, hg 23, hg 24, hg 25, hg 26, hg 27, hg 28, hg 29, hg 30, hg 31, hg 32, hg 33, hg 34, hg 35, hg 36, hg 37, hg 38, hg 39, hg 40, hg 41, hg 42, hg 43, hg 44, hg 45, hg 46, hg 47, hg 48, hg 49, hg 50, hg 51, hall 0 52 rfl, hall 1 53 rfl, hall 2 54 rfl, hall 3 55 rfl, hall 4 56 rfl, hg 57, hg 58, hall 7 59 rfl, hall 8 60 rfl, hall 9 61 rfl, hall 10 62 rfl, hall 11 63 rfl, hg 64, hg 65, hg 66, hg 67, hg 68, hg 69, hg 70, hg 71, hg 72, hg 73, hg 74, hg 75, hg 76, hg 77, hg 78, hg 79, hg 80, hg 81, hg 82, hg 83, hg 84, hg 85, hg 86, hg 87, hg 88, hg 89, hg 90, hg 91, hg 92, hg 93, hg 94, hg 95, hg 96, hg 97, hg 98, hg 99, hg 100, hg 101, hg 102, hg 103, hg 104, hg 105, hg 106, hg 107, hg 108, hg 109, hg 110, hg 111, hg 112, hg 113, hg 114, hg 115, hg 116, hg 117, hg 118, hg 119, hg 120, hg 121, hg 122, hg 123, hg 124, hg 125, hg 126, hg 127, hg 128, hg 129, hg 130, hg 131, hg 132, hg 133, hg 134, hg 135, hg 136, hg 137, hg 138, hg 139, hg 140, hg 141, hg 142, hg 143, hg 144, hg 145, hg 146, hg 147, hg 148, hg 149, hg 150, hg 151, hg 152, hg 153, hg 154, hg 155, hg 156, hg 157, hg 158, hg 159, hg 160, hg 161, hg 162, hg 163, hg 164, hg 165, hg 166, hg 167, hg 168, hg 169, hg 170, hg 171, hg 172, hg 173, hg 174, hg 175, hg 176, hg 177, hg 178, trivial⟩
  clear hall hf hg hq1 hq2 blkf hxH hxT
  subst hac
  as_aux_lemma =>
  obtain ⟨bH, rfl, rfl, rH⟩ := pxH
  obtain ⟨bT, rfl, rfl, rT⟩ := pxT
  have H4 := Lib.hid (H2.out.trans (hbw4.mono H2.out.size))
  have HP4 := Lib.hid (fun wx (hy : Below w4.heap.size w4 wx) => let h := HC.out wx (H4.out.trans (hy.mono H4.out.size)); And.intro (h.1) (And.intro (h.2.1) (And.intro (h.2.2.1) (And.intro (h.2.2.2.1) (And.intro (h.2.2.2.2.1) (And.intro (h.2.2.2.2.2.1) (And.intro (h.2.2.2.2.2.2) (And.intro (((bcell hy).1 _ _ psH).trans paH) (And.intro (((bcell hy).1 _ _ psH).trans pcH) (And.intro (((bcell hy).1 _ _ psT).trans paT) (((bcell hy).1 _ _ psT).trans pcT)))))))))))
  have RH4 := Lib.hid (fun wx (hy : Below w4.heap.size w4 wx) => rH.below hy)
  have RT4 := Lib.hid (fun wx (hy : Below w4.heap.size w4 wx) => rT.below hy)
  have H4W := Lib.hid (HB0.out.trans (H4.out.mono HB0.out.size))
  have HZ4 := Lib.hid (Below.refl w4.heap.size w4)
  clear hbw4 paH pcH paT pcT rH rT plH plT psH psT HC2 GE
  obtain ⟨i0, i1, i2, i3, i4, i5, i6, i7⟩ := HNU.out
  have n1 : ¬ v2 < 1 := by omega
  have n2 : decide (v2 < 1) = false := decide_eq_false n1
  have n3 : (v2 == 0) = false := by simp; omega
  have n4 : ¬ v2 = 0 := by omega
  obtain ⟨c0, c1, c2, c3, c4, c5, c6, fh0, fh1, ft0, ft1⟩ := HP4.out w4 HZ4.out
  go_upto_region 7 with (go_at_call 39; (refine Calls.mono (HSA.out _ _ (RH4.out _ HZ4.out)) ?_); rintro e w5 ⟨rfl, hbw5⟩)
  clear c0 c1 c2 c3 c4 c5 c6 fh0 fh1 ft0 ft1
  obtain ⟨w6, hw6⟩ : ∃ w6, w5.alloc (.cells #[.int .i64 pn, .int .i64 pd] 30) = w6 := ⟨_, rfl⟩
  have Gw6 : Hid (Below w4.heap.size w4 w6) := Lib.hid (by rw [← hw6]; exact hbw5.alloc hbw5.size _)
  have H6 := Lib.hid (HZ4.out.trans (Gw6.out.mono HZ4.out.size))
  have uw6a : w6.cell? ⟨w5.heap.size, 0, none⟩ = some (.int .i64 pn) := by rw [← hw6]; simp [go_sem]
  have uw6b : w6.cell? ⟨w5.heap.size, 1, none⟩ = some (.int .i64 pd) := by rw [← hw6]; simp [go_sem]
  rw [hw6]
  clear hw6 hbw5 Gw6
  obtain ⟨c0, c1, c2, c3, c4, c5, c6, fh0, fh1, ft0, ft1⟩ := HP4.out w6 H6.out
  go_upto_region 8 with (go_at_call 39; (refine Calls.mono (HSB.out _ _ (RT4.out _ H6.out)) ?_); rintro e w7 ⟨rfl, hbw7⟩)
  clear c0 c1 c2 c3 c4 c5 c6 fh0 fh1 ft0 ft1
  obtain ⟨w8, hw8⟩ : ∃ w8, w7.alloc (.cells #[.int .i64 pn, .int .i64 pd] 30) = w8 := ⟨_, rfl⟩
  have Gw8 : Hid (Below w6.heap.size w6 w8) := Lib.hid (by rw [← hw8]; exact hbw7.alloc hbw7.size _)
  have H8 := Lib.hid (H6.out.trans (Gw8.out.mono H6.out.size))
  have uw8a : w8.cell? ⟨w7.heap.size, 0, none⟩ = some (.int .i64 pn) := by rw [← hw8]; simp [go_sem]
  have uw8b : w8.cell? ⟨w7.heap.size, 1, none⟩ = some (.int .i64 pd) := by rw [← hw8]; simp [go_sem]
  have lw8uw6a := World.block_lt_of_cell? w6 _ uw6a
  have uw6a' := ((bcell Gw8.out).1 _ _ lw8uw6a).trans uw6a
  have uw6b' := ((bcell Gw8.out).1 _ _ lw8uw6a).trans uw6b
  clear uw6a uw6b lw8uw6a
  rw [hw8]
  clear hw8 hbw7 Gw8
  obtain ⟨c0, c1, c2, c3, c4, c5, c6, fh0, fh1, ft0, ft1⟩ := HP4.out w8 H8.out
  by_cases hxa : a ≤ x
  · have hxd : decide (a ≤ x) = true := decide_eq_true hxa
    go_wp2
    go_ret
    exact ⟨rfl, H4W.out.trans (H8.out.mono H4W.out.size)⟩
  have hxd : decide (a ≤ x) = false := decide_eq_false hxa
  have HPL2 := Lib.hid (HPL.out (by omega))
  clear HPL
  as_aux_lemma =>
  go_upto_region 12 with fail
  clear c0 c1 c2 c3 c4 c5 c6 fh0 fh1 ft0 ft1 uw6a' uw6b' uw8a uw8b
  obtain ⟨c0, c1, c2, c3, c4, c5, c6, fh0, fh1, ft0, ft1⟩ := HP4.out w8 H8.out
  go_upto_region 13 with (go_at_call 31; (refine Calls.mono (HMX.out _ _ (RH4.out _ H8.out)) ?_); rintro e w9 ⟨rfl, hbw9⟩)
  clear c0 c1 c2 c3 c4 c5 c6 fh0 fh1 ft0 ft1
  obtain ⟨w10, hw10⟩ : ∃ w10, w9.alloc (.cells #[.int .i64 m1, .int .i64 m2] 30) = w10 := ⟨_, rfl⟩
  have Gw10 : Hid (Below w8.heap.size w8 w10) := Lib.hid (by rw [← hw10]; exact hbw9.alloc hbw9.size _)
  have H10 := Lib.hid (H8.out.trans (Gw10.out.mono H8.out.size))
  have uw10a : w10.cell? ⟨w9.heap.size, 0, none⟩ = some (.int .i64 m1) := by rw [← hw10]; simp [go_sem]
  have uw10b : w10.cell? ⟨w9.heap.size, 1, none⟩ = some (.int .i64 m2) := by rw [← hw10]; simp [go_sem]
  rw [hw10]
  clear hw10 hbw9 Gw10
  obtain ⟨c0, c1, c2, c3, c4, c5, c6, fh0, fh1, ft0, ft1⟩ := HP4.out w10 H10.out
  go_upto_region 14 with (go_at_call 31; (refine Calls.mono (HMA.out _ _ (RH4.out _ H10.out)) ?_); rintro e w11 ⟨rfl, hbw11⟩)
  clear c0 c1 c2 c3 c4 c5 c6 fh0 fh1 ft0 ft1
  obtain ⟨w12, hw12⟩ : ∃ w12, w11.alloc (.cells #[.int .i64 k1, .int .i64 k2] 30) = w12 := ⟨_, rfl⟩
  have Gw12 : Hid (Below w10.heap.size w10 w12) := Lib.hid (by rw [← hw12]; exact hbw11.alloc hbw11.size _)
  have H12 := Lib.hid (H10.out.trans (Gw12.out.mono H10.out.size))
  have uw12a : w12.cell? ⟨w11.heap.size, 0, none⟩ = some (.int .i64 k1) := by rw [← hw12]; simp [go_sem]
  have uw12b : w12.cell? ⟨w11.heap.size, 1, none⟩ = some (.int .i64 k2) := by rw [← hw12]; simp [go_sem]
  have lw12uw10a := World.block_lt_of_cell? w10 _ uw10a
  have uw10a' := ((bcell Gw12.out).1 _ _ lw12uw10a).trans uw10a
  have uw10b' := ((bcell Gw12.out).1 _ _ lw12uw10a).trans uw10b
  clear uw10a uw10b lw12uw10a
  rw [hw12]
  clear hw12 hbw11 Gw12
  obtain ⟨c0, c1, c2, c3, c4, c5, c6, fh0, fh1, ft0, ft1⟩ := HP4.out w12 H12.out
  go_upto_region 15 with (go_at_call 30; (refine Calls.mono (HSH.out _ _ (RH4.out _ H12.out)) ?_); rintro e w13 ⟨rfl, hbw13⟩)
  clear c0 c1 c2 c3 c4 c5 c6 fh0 fh1 ft0 ft1
  obtain ⟨w14, hw14⟩ : ∃ w14, w13.alloc (.cells #[.int .i64 v1, .int .i64 v2] 30) = w14 := ⟨_, rfl⟩
  have Gw14 : Hid (Below w12.heap.size w12 w14) := Lib.hid (by rw [← hw14]; exact hbw13.alloc hbw13.size _)
  have H14 := Lib.hid (H12.out.trans (Gw14.out.mono H12.out.size))
  have uw14a : w14.cell? ⟨w13.heap.size, 0, none⟩ = some (.int .i64 v1) := by rw [← hw14]; simp [go_sem]
  have uw14b : w14.cell? ⟨w13.heap.size, 1, none⟩ = some (.int .i64 v2) := by rw [← hw14]; simp [go_sem]
  have lw14uw10a' := World.block_lt_of_cell? w12 _ uw10a'
  have uw10a'' := ((bcell Gw14.out).1 _ _ lw14uw10a').trans uw10a'
  have uw10b'' := ((bcell Gw14.out).1 _ _ lw14uw10a').trans uw10b'
  clear uw10a' uw10b' lw14uw10a'
  have lw14uw12a := World.block_lt_of_cell? w12 _ uw12a
  have uw12a' := ((bcell Gw14.out).1 _ _ lw14uw12a).trans uw12a
  have uw12b' := ((bcell Gw14.out).1 _ _ lw14uw12a).trans uw12b
  clear uw12a uw12b lw14uw12a
  rw [hw14]
  clear hw14 hbw13 Gw14
  as_aux_lemma =>
  obtain ⟨c0, c1, c2, c3, c4, c5, c6, fh0, fh1, ft0, ft1⟩ := HP4.out w14 H14.out
  go_upto_region 17 with fail
  clear c0 c1 c2 c3 c4 c5 c6 fh0 fh1 ft0 ft1
  have HPV := Lib.hid (fun wx (hy : Below w14.heap.size w14 wx) => let h := HP4.out wx (H14.out.trans (hy.mono H14.out.size)); And.intro (h.1) (And.intro (h.2.1) (And.intro (h.2.2.1) (And.intro (h.2.2.2.1) (And.intro (h.2.2.2.2.1) (And.intro (h.2.2.2.2.2.1) (And.intro (h.2.2.2.2.2.2.1) (And.intro (h.2.2.2.2.2.2.2.1) (And.intro (h.2.2.2.2.2.2.2.2.1) (And.intro (h.2.2.2.2.2.2.2.2.2.1) (And.intro (h.2.2.2.2.2.2.2.2.2.2) (And.intro (((bcell hy).1 _ _ (World.block_lt_of_cell? w14 _ uw14a)).trans uw14a) (((bcell hy).1 _ _ (World.block_lt_of_cell? w14 _ uw14a)).trans uw14b)))))))))))))
  have j0 : IntKind.i64.wrap (2 * s) = dd := i64e i0
  have j4 : IntKind.i64.wrap g = g := i64e i4
  have j5 : IntKind.i64.wrap (v1 * g) = sh := i64e i5
  have j6 : IntKind.i64.wrap (a - x) = a - x := i64e i6
  have j7 : IntKind.i64.wrap (sh * (a - x)) = sp := i64e i7
  refine wp_region_tail [148, 149, 150, 151, 152, 153, 154, 155, 156, 157, 158, 159, 160, 161, 162, 163, 164, 165, 166, 19] [rEq (.pointer (some ⟨w13.heap.size, 0, none⟩)), rEq (.int .i64 v1), rEq (.pointer (some ⟨w.heap.size, 0, none⟩)), rEq (.int .i64 s), rEq (.int .i64 dd), rEq (.pointer (some ⟨w13.heap.size, 1, none⟩)), rEq (.int .i64 v2), rEq (.int .i64 g), rEq (.int .i64 sh), rEq (.pointer (some ⟨w.heap.size + 1, 1, none⟩)), rEq (.int .i64 a), rEq (.pointer (some ⟨w.heap.size + 1, 0, none⟩)), rEq (.int .i64 x), rEq (.int .i64 (a - x)), rEq (.int .i64 sp), rEq (.pointer (some ⟨w.heap.size, 0, none⟩)), rEq (.int .i64 s), rEq (.int .i64 dd), rEq (.agg #[.int .i64 sp, .int .i64 dd]), (rPtr0 w14.heap.size)] (by kernel_rfl) (by kernel_rfl) (by decide) (by decide +kernel) ⟨?_, ?_, ?_, ?_, ?_, ?_, ?_, ?_, ?_, ?_, ?_, ?_, ?_, ?_, ?_, ?_, ?_, ?_, ?_, ?_, trivial⟩ ?_
  · intro ac wx hf hb hd -- 0
    have f17 : ac.tmps[17]?.getD undef = .pointer (some ⟨w13.heap.size, 0, none⟩) := by rw [← Array.getD_eq_getD_getElem?]; exact hf.same 17 (by decide)
    exact rstep_eq (by simp [execOp, Act.eval, f17, go_sem]) rfl
  · intro ac wx hf hb hd -- 1
    have d0 : ac.tmps[148]?.getD undef = .pointer (some ⟨w13.heap.size, 0, none⟩) := by rw [← Array.getD_eq_getD_getElem?]; exact hd 0 (by decide)
    obtain ⟨c0, c1, c2, c3, c4, c5, c6, fh0, fh1, ft0, ft1, va, vb⟩ := HPV.out wx hb
    exact rstep_eq (by simp [execOp, Act.eval, d0, va, go_sem]) rfl
  · intro ac wx hf hb hd -- 2
    have f3 : ac.tmps[3]?.getD undef = .pointer (some ⟨w.heap.size, 0, none⟩) := by rw [← Array.getD_eq_getD_getElem?]; exact hf.same 3 (by decide)
    exact rstep_eq (by simp [execOp, Act.eval, f3, go_sem]) rfl
  · intro ac wx hf hb hd -- 3
    have d2 : ac.tmps[150]?.getD undef = .pointer (some ⟨w.heap.size, 0, none⟩) := by rw [← Array.getD_eq_getD_getElem?]; exact hd 2 (by decide)
    obtain ⟨c0, c1, c2, c3, c4, c5, c6, fh0, fh1, ft0, ft1, va, vb⟩ := HPV.out wx hb
    exact rstep_eq (by simp [execOp, Act.eval, d2, c0, go_sem]) rfl
  · intro ac wx hf hb hd -- 4
    have d3 : ac.tmps[151]?.getD undef = .int .i64 s := by rw [← Array.getD_eq_getD_getElem?]; exact hd 3 (by decide)
    exact rstep_eq (by simp [execOp, Act.eval, d3, j0, go_sem]) rfl
  · intro ac wx hf hb hd -- 5
    have f17 : ac.tmps[17]?.getD undef = .pointer (some ⟨w13.heap.size, 0, none⟩) := by rw [← Array.getD_eq_getD_getElem?]; exact hf.same 17 (by decide)
    exact rstep_eq (by simp [execOp, Act.eval, f17, go_sem]) rfl
  · intro ac wx hf hb hd -- 6
    have d5 : ac.tmps[153]?.getD undef = .pointer (some ⟨w13.heap.size, 1, none⟩) := by rw [← Array.getD_eq_getD_getElem?]; exact hd 5 (by decide)
    obtain ⟨c0, c1, c2, c3, c4, c5, c6, fh0, fh1, ft0, ft1, va, vb⟩ := HPV.out wx hb
    exact rstep_eq (by simp [execOp, Act.eval, d5, vb, go_sem]) rfl
  · intro ac wx hf hb hd -- 7
    have d4 : ac.tmps[152]?.getD undef = .int .i64 dd := by rw [← Array.getD_eq_getD_getElem?]; exact hd 4 (by decide)
    have d6 : ac.tmps[154]?.getD undef = .int .i64 v2 := by rw [← Array.getD_eq_getD_getElem?]; exact hd 6 (by decide)
    exact rstep_eq (by simp [execOp, Act.eval, d4, d6, n4, i3, j4, go_sem]) rfl
  · intro ac wx hf hb hd -- 8
    have d1 : ac.tmps[149]?.getD undef = .int .i64 v1 := by rw [← Array.getD_eq_getD_getElem?]; exact hd 1 (by decide)
    have d7 : ac.tmps[155]?.getD undef = .int .i64 g := by rw [← Array.getD_eq_getD_getElem?]; exact hd 7 (by decide)
    exact rstep_eq (by simp [execOp, Act.eval, d1, d7, j5, go_sem]) rfl
  · intro ac wx hf hb hd -- 9
    have f4 : ac.tmps[4]?.getD undef = .pointer (some ⟨w.heap.size + 1, 0, none⟩) := by rw [← Array.getD_eq_getD_getElem?]; exact hf.same 4 (by decide)
    exact rstep_eq (by simp [execOp, Act.eval, f4, go_sem]) rfl
  · intro ac wx hf hb hd -- 10
    have d9 : ac.tmps[157]?.getD undef = .pointer (some ⟨w.heap.size + 1, 1, none⟩) := by rw [← Array.getD_eq_getD_getElem?]; exact hd 9 (by decide)
    obtain ⟨c0, c1, c2, c3, c4, c5, c6, fh0, fh1, ft0, ft1, va, vb⟩ := HPV.out wx hb
    exact rstep_eq (by simp [execOp, Act.eval, d9, c5, go_sem]) rfl
  · intro ac wx hf hb hd -- 11
    have f4 : ac.tmps[4]?.getD undef = .pointer (some ⟨w.heap.size + 1, 0, none⟩) := by rw [← Array.getD_eq_getD_getElem?]; exact hf.same 4 (by decide)
    exact rstep_eq (by simp [execOp, Act.eval, f4, go_sem]) rfl
  · intro ac wx hf hb hd -- 12
    have d11 : ac.tmps[159]?.getD undef = .pointer (some ⟨w.heap.size + 1, 0, none⟩) := by rw [← Array.getD_eq_getD_getElem?]; exact hd 11 (by decide)
    obtain ⟨c0, c1, c2, c3, c4, c5, c6, fh0, fh1, ft0, ft1, va, vb⟩ := HPV.out wx hb
    exact rstep_eq (by simp [execOp, Act.eval, d11, c4, go_sem]) rfl
  · intro ac wx hf hb hd -- 13
    have d10 : ac.tmps[158]?.getD undef = .int .i64 a := by rw [← Array.getD_eq_getD_getElem?]; exact hd 10 (by decide)
    have d12 : ac.tmps[160]?.getD undef = .int .i64 x := by rw [← Array.getD_eq_getD_getElem?]; exact hd 12 (by decide)
    exact rstep_eq (by simp [execOp, Act.eval, d10, d12, j6, go_sem]) rfl
  · intro ac wx hf hb hd -- 14
    have d8 : ac.tmps[156]?.getD undef = .int .i64 sh := by rw [← Array.getD_eq_getD_getElem?]; exact hd 8 (by decide)
    have d13 : ac.tmps[161]?.getD undef = .int .i64 (a - x) := by rw [← Array.getD_eq_getD_getElem?]; exact hd 13 (by decide)
    exact rstep_eq (by simp [execOp, Act.eval, d8, d13, j7, go_sem]) rfl
  · intro ac wx hf hb hd -- 15
    have f3 : ac.tmps[3]?.getD undef = .pointer (some ⟨w.heap.size, 0, none⟩) := by rw [← Array.getD_eq_getD_getElem?]; exact hf.same 3 (by decide)
    exact rstep_eq (by simp [execOp, Act.eval, f3, go_sem]) rfl
  · intro ac wx hf hb hd -- 16
    have d15 : ac.tmps[163]?.getD undef = .pointer (some ⟨w.heap.size, 0, none⟩) := by rw [← Array.getD_eq_getD_getElem?]; exact hd 15 (by decide)
    obtain ⟨c0, c1, c2, c3, c4, c5, c6, fh0, fh1, ft0, ft1, va, vb⟩ := HPV.out wx hb
    exact rstep_eq (by simp [execOp, Act.eval, d15, c0, go_sem]) rfl
  · intro ac wx hf hb hd -- 17
    have d16 : ac.tmps[164]?.getD undef = .int .i64 s := by rw [← Array.getD_eq_getD_getElem?]; exact hd 16 (by decide)
    exact rstep_eq (by simp [execOp, Act.eval, d16, j0, go_sem]) rfl
  · intro ac wx hf hb hd -- 18
    have d14 : ac.tmps[162]?.getD undef = .int .i64 sp := by rw [← Array.getD_eq_getD_getElem?]; exact hd 14 (by decide)
    have d17 : ac.tmps[165]?.getD undef = .int .i64 dd := by rw [← Array.getD_eq_getD_getElem?]; exact hd 17 (by decide)
    exact rstep_eq (by simp [execOp, Act.eval, d14, d17, go_sem]) rfl
  · intro ac wx hf hb hd -- 19
    exact rstep_alloc hb.size (by simp [execOp, go_sem]) rfl
  rintro ac w15 hf hbw15 hall
  obtain ⟨pS, hxS, plS, psS, pa0, pc0, z0S, z1S⟩ : ∃ blk, ac.tmps.getD 19 undef = .pointer (some ⟨blk, 0, none⟩) ∧ w14.heap.size ≤ blk ∧ blk < w15.heap.size ∧ w15.cell? ⟨blk, 0, none⟩ = some (.int .i64 0) ∧ w15.cell? ⟨blk, 1, none⟩ = some (.int .i64 0) ∧ w15.frozen? ⟨blk, 0, none⟩ = false ∧ w15.frozen? ⟨blk, 1, none⟩ = false := hall 19 19 rfl
  obtain ⟨gg, hg⟩ : ∃ gg : Nat → Value, ∀ t, ac.tmps.getD t undef = gg t := ⟨fun t => ac.tmps.getD t undef, fun _ => rfl⟩
  have hac := frame_is (a := ac) (xs := [gg 0, gg 1, gg 2, .pointer (some ⟨w.heap.size, 0, none⟩), .pointer (some ⟨w.heap.size + 1, 0, none⟩), gg 5, gg 6, gg 7, gg 8, gg 9, gg 10, gg 11, gg 12, .pointer (some ⟨w9.heap.size, 0, none⟩), gg 14, .pointer (some ⟨w11.heap.size, 0, none⟩), gg 16, .pointer (some ⟨w13.heap.size, 0, none⟩), gg 18, .pointer (some ⟨pS, 0, none⟩), gg 20, gg 21, gg 22, gg 23, gg 24, gg 25, gg 26, gg 27, gg 28, gg 29, gg 30, gg 31, gg 32, gg 33, gg 34, gg 35, gg 36, gg 37, gg 38, gg 39, gg 40, gg 41, gg 42, gg 43, gg 44, gg 45, gg 46, gg 47, gg 48, gg 49, gg 50, gg 51, gg 52, gg 53, gg 54, gg 55, gg 56, gg 57, gg 58, gg 59, gg 60, gg 61, gg 62, gg 63, gg 64, gg 65, gg 66, gg 67, gg 68, gg 69, gg 70, gg 71, gg 72, gg 73, gg 74, gg 75, gg 76, gg 77, gg 78, gg 79, gg 80, gg 81, gg 82, gg 83, gg 84, gg 85, gg 86, gg 87, gg 88, gg 89, gg 90, gg 91, gg 92, gg 93, gg 94, gg 95, gg 96, gg 97, gg 98, gg 99, gg 100, gg 101, gg 102, gg 103, gg 104, gg 105, gg 106, gg 107, gg 108, gg 109, gg 110, gg 111, gg 112, gg 113, gg 114, gg 115, gg 116, gg 117, gg 118, gg 119, gg 120, gg 121, gg 122, gg 123, gg 124, gg 125, gg 126, gg 127, gg 128, gg 129, gg 130, gg 131, gg 132, gg 133, gg 134, gg 135, gg 136, gg 137, gg 138, gg 139, gg 140, gg 141, gg 142, gg 143, gg 144, gg 145, gg 146, gg 147, .pointer (some ⟨w13.heap.size, 0, none⟩), .int .i64 v1, .pointer (some ⟨w.heap.size, 0, none⟩), .int .i64 s, .int .i64 dd, .pointer (some ⟨w13.heap.size, 1, none⟩), .int .i64 v2, .int .i64 g, .int .i64 sh, .pointer (some ⟨w.heap.size + 1, 1, none⟩), .int .i64 a, .pointer (some ⟨w.heap.size + 1, 0, none⟩), .int .i64 x, .int .i64 (a - x), .int .i64 sp, .pointer (some ⟨w.heap.size, 0, none⟩), .int .i64 s, .int .i64 dd, .agg #[.int .i64 sp, .int .i64 dd], gg 167, gg 168, gg 169, gg 170, gg 171, gg 172, gg 173, gg 174, gg 175, gg 176, gg 177, gg 178]) hf.defers hf.size ⟨hg 0, hg 1, hg 2, hf.same 3 (by decide), hf.same 4 (by decide), hg 5, hg 6, hg 7, hg 8, hg 9, hg 10, hg 11, hg 12, hf.same 13 (by decide), hg 14, hf.same 15 (by decide), hg 16, hf.same 17 (by decide), hg 18, hxS, hg 20, hg 21, hg 22, hg 23, hg 24, hg 25, hg 26, hg 27, hg 28, hg 29, hg 30, hg 31, hg 32, hg 33, hg 34, hg 35, hg 36, hg 37, hg 38, hg 39, hg 40, hg 41, hg 42, hg 43, hg 44, hg 45, hg 46, hg 47, hg 48, hg 49, hg 50, hg 51, hg 52, hg 53, hg 54, hg 55, hg 56, hg 57, hg 58, hg 59, hg 60, hg 61, hg 62, hg 63, hg 64, hg 65, hg 66, hg 67, hg 68, hg 69, hg 70, hg 71, hg 72, hg 73, hg 74, hg 75, hg 76, hg 77, hg 78, hg 79, hg 80, hg 81, hg 82, hg 83, hg 84, hg 85, hg 86, hg 87, hg 88, hg 89, hg 90, hg 91, hg 92, hg 93, hg 94, hg 95, hg 96, hg 97, hg 98, hg 99, hg 100, hg 101, hg 102, hg 103, hg 104, hg 105, hg 106, hg 107, hg 108, hg 109, hg 110, hg 111, hg 112, hg 113, hg 114, hg 115, hg 116, hg 117, hg 118, hg 119, hg 120, hg 121, hg 122, hg 123, hg 124, hg 125, hg 126, hg 127, hg 128, hg 129, hg 130, hg 131, hg 132, hg 133, hg 134, hg 135, hg 136, hg 137, hg 138, hg 139, hg 140, hg 141, hg 142, hg 143, hg 144, hg 145, hg 146, hg 147, hall 0 148 rfl, hall 1 149 rfl, hall 2 150 rfl, hall 3 151 rfl, hall 4 152 rfl, hall 5 153 rfl, hall 6 154 rfl, hall 7 155 rfl, hall 8 156 rfl, hall 9 157 rfl, hall 10 158 rfl, hall 11 159 rfl, hall 12 160 rfl, hall 13 161 rfl, hall 14 162 rfl, hall 15 163 rfl, hall 16 164 rfl, hall 17 165 rfl, hall 18 166 rfl, hg 167, hg 168, hg 169, hg 170, hg 171, hg 172, hg 173, hg 174, hg 175, hg 176, hg 177, hg 178, trivial⟩
  clear hall hf hg hxS
  subst hac
  simp [wpSeq_cons, wpSeq_nil, Oper.wp, Oper.upon, execOp, Act.eval, go_sem, pa0, pc0, z0S, z1S]
  as_aux_lemma =>
  obtain ⟨w16, hw16⟩ : ∃ w16, (w15.setCell ⟨pS, 0, none⟩ (.int .i64 sp)).setCell ⟨pS, 1, none⟩ (.int .i64 dd) = w16 := ⟨_, rfl⟩
  have G16 : Hid (Below w14.heap.size w14 w16) := Lib.hid (by rw [← hw16]; exact (hbw15.setCell (p := ⟨pS, 0, none⟩) plS _).setCell (p := ⟨pS, 1, none⟩) plS _)
  have y0 : w16.cell? ⟨pS, 0, none⟩ = some (.int .i64 sp) := by rw [← hw16]; exact (World.cell?_setCell_other _ _ _ _ (by simp)).trans (World.cell?_setCell_same _ _ _ pa0)
  have y1 : w16.cell? ⟨pS, 1, none⟩ = some (.int .i64 dd) := by rw [← hw16]; exact World.cell?_setCell_same _ _ _ ((World.cell?_setCell_other _ _ _ _ (by simp)).trans pc0)
  have y2 : w16.frozen? ⟨pS, 0, none⟩ = false := by rw [← hw16, frozen_set, frozen_set]; exact z0S
  have y3 : w16.frozen? ⟨pS, 1, none⟩ = false := by rw [← hw16, frozen_set, frozen_set]; exact z1S
  rw [hw16]
  clear hw16 pa0 pc0 z0S z1S psS hbw15
  have H16 := Lib.hid (H14.out.trans (G16.out.mono H14.out.size))
  have lm : w9.heap.size < w14.heap.size := World.block_lt_of_cell? w14 _ uw10a''
  have lk : w11.heap.size < w14.heap.size := World.block_lt_of_cell? w14 _ uw12a'
  have l0w : w.heap.size < w14.heap.size := World.block_lt_of_cell? w14 _ (HP4.out w14 H14.out).1
  have c16 : ∀ wx, Below w16.heap.size w16 wx → wx.cell? ⟨w9.heap.size, 0, none⟩ = some (.int .i64 m1) ∧ wx.cell? ⟨w9.heap.size, 1, none⟩ = some (.int .i64 m2) ∧ wx.cell? ⟨w11.heap.size, 0, none⟩ = some (.int .i64 k1) ∧ wx.cell? ⟨w11.heap.size, 1, none⟩ = some (.int .i64 k2) := fun wx hy => by
    have hb := bcell (G16.out.trans (hy.mono G16.out.size))
    exact ⟨(hb.1 _ _ lm).trans uw10a'', (hb.1 _ _ lm).trans uw10b'', (hb.1 _ _ lk).trans uw12a', (hb.1 _ _ lk).trans uw12b'⟩
  have HC16 := Lib.hid c16
  have lS : pS < w16.heap.size := World.block_lt_of_cell? w16 _ y0
  have d9 : ¬ pS = w9.heap.size := by omega
  have d11 : ¬ pS = w11.heap.size := by omega
  have d0' : ¬ pS = w.heap.size := by omega
  clear c16 lm lk l0w uw10a'' uw10b'' uw12a' uw12b' uw14a uw14b
  obtain ⟨c0, c1, c2, c3, c4, c5, c6, fh0, fh1, ft0, ft1⟩ := HP4.out w16 H16.out
  go_upto_region 19 with (go_at_call 89; (refine Calls.mono (HLO.out _) ?_); rintro e w17 ⟨rfl, hb17⟩; have G17 := Lib.hid hb17; have y4 := ((bcell hb17).1 _ _ lS).trans y0; have y5 := ((bcell hb17).1 _ _ lS).trans y1; have y6 := ((bcell hb17).2 _ _ lS).trans y2; have y7 := ((bcell hb17).2 _ _ lS).trans y3; clear hb17)
  clear c0 c1 c2 c3 c4 c5 c6 fh0 fh1 ft0 ft1
  obtain ⟨w18, hw18⟩ : ∃ w18, (w17.setCell ⟨pS, 0, none⟩ (.int .i64 s1)).setCell ⟨pS, 1, none⟩ (.int .i64 s2) = w18 := ⟨_, rfl⟩
  have G18 : Hid (Below w14.heap.size w14 w18) := Lib.hid (by rw [← hw18]; exact (((G16.out.trans (G17.out.mono G16.out.size))).setCell (p := ⟨pS, 0, none⟩) plS _).setCell (p := ⟨pS, 1, none⟩) plS _)
  have t0 : w18.cell? ⟨pS, 0, none⟩ = some (.int .i64 s1) := by rw [← hw18]; exact (World.cell?_setCell_other _ _ _ _ (by simp)).trans (World.cell?_setCell_same _ _ _ y4)
  have t1 : w18.cell? ⟨pS, 1, none⟩ = some (.int .i64 s2) := by rw [← hw18]; exact World.cell?_setCell_same _ _ _ ((World.cell?_setCell_other _ _ _ _ (by simp)).trans y5)
  obtain ⟨t2, t3, t4, t5⟩ : w18.cell? ⟨w9.heap.size, 0, none⟩ = some (.int .i64 m1) ∧ w18.cell? ⟨w9.heap.size, 1, none⟩ = some (.int .i64 m2) ∧ w18.cell? ⟨w11.heap.size, 0, none⟩ = some (.int .i64 k1) ∧ w18.cell? ⟨w11.heap.size, 1, none⟩ = some (.int .i64 k2) := by
    obtain ⟨o0, o1, o2, o3⟩ := HC16.out w17 G17.out
    rw [← hw18]
    have e9 : ¬ w9.heap.size = pS := fun h => d9 h.symm
    have e11 : ¬ w11.heap.size = pS := fun h => d11 h.symm
    exact ⟨(World.cell?_setCell_other _ _ _ _ (by simp)).trans ((World.cell?_setCell_other _ _ _ _ (by simp)).trans o0), (World.cell?_setCell_other _ _ _ _ (by simp)).trans ((World.cell?_setCell_other _ _ _ _ (by simp)).trans o1), (World.cell?_setCell_other _ _ _ _ (by simp)).trans ((World.cell?_setCell_other _ _ _ _ (by simp)).trans o2), (World.cell?_setCell_other _ _ _ _ (by simp)).trans ((World.cell?_setCell_other _ _ _ _ (by simp)).trans o3)⟩
  have H18 := Lib.hid (H14.out.trans (G18.out.mono H14.out.size))
  rw [hw18]
  clear hw18 y0 y1 y2 y3 y4 y5 y6 y7
  obtain ⟨c0, c1, c2, c3, c4, c5, c6, fh0, fh1, ft0, ft1⟩ := HP4.out w18 H18.out
  go_wp2_with (go_at_call 88; (refine Calls.mono (HPL2.out _) ?_); rintro e w19 ⟨rfl, hb19⟩; have G19 := Lib.hid hb19; clear hb19)
  go_ret
  exact ⟨rfl, H4W.out.trans ((H18.out.trans (G19.out.mono H18.out.size)).mono H4W.out.size)⟩
end Go.Proofs.Ytageiimcmnebmaa
