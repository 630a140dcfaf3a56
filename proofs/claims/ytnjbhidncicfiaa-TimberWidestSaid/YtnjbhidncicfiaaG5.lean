/- Walks over the timber seat: the law of the widest sound rectangle, whole. -/
import Derived.Test.YtnjbhidncicfiaaG4
namespace Go.Proofs.Ytnjbhidncicfiaa
open Go.RowKit

set_option maxHeartbeats 4000000 in
set_option maxRecDepth 20000 in
theorem lwid_other {nm sp : ByteArray} {ln wd th cu mo : Int} {D : Option Addr} {dn dc : Nat} {ds : List Rc} {q o1 u1 o2 u2 : Int} {x1 y1 x2 y2 : Int} (hpl : plainB nm sp dn = true) (hc : bdCode ⟨nm, sp, ln, wd, th, cu, mo, ds⟩ = 0) (hq : inB 1 ln q = true) (hq0 : 1 ≤ q) (hq1 : q ≤ ln) (hw : (widR ⟨nm, sp, ln, wd, th, cu, mo, ds⟩ q) = ⟨x1, y1, x2, y2⟩) (hp : y1 < y2) (hf : formE o1 u1 o2 u2 = 0) (hin : insideB o1 u1 o2 u2 0 0 ln wd = true) (hne : o2 - o1 ≠ q) (hn1 : nm.size ≤ maxLen) (hn2 : sp.size ≤ maxLen) (hdn : dn ≤ maxLen) (w : World) (hr : RcRow w D dn ds) :
    Calls Try.prog 12 #[.agg #[.string nm, .string sp, .int .i64 ln, .int .i64 wd, .int .i64 th, .int .i64 cu, .int .i64 mo, .slice D dn dc], .int .i64 q, .agg #[.int .i64 o1, .int .i64 u1, .int .i64 o2, .int .i64 u2]] w fun e w' => e = .returned (.bool true) ∧ Below w.heap.size w w' := by
  have hBL : Below w.heap.size w ((w.alloc (.cells #[.string nm, .string sp, .int .i64 ln, .int .i64 wd, .int .i64 th, .int .i64 cu, .int .i64 mo, .slice D dn dc] 34)).alloc (.cells #[.int .i64 o1, .int .i64 u1, .int .i64 o2, .int .i64 u2] 75)) := ((Below.refl _ _).alloc (Nat.le_refl _) _).alloc (by simp) _
  have hr1 := RcRow.below hr hBL
  have PL := fun wx => Lib.hid (plain_any (nm := nm) (sp := sp) (ln := ln) (wd := wd) (th := th) (cu := cu) (mo := mo) (D := D) (dn := dn) (dc := dc) (w := wx) hpl hn1 hn2 hdn)
  have WI := fun wx (hbx : Below (w.heap.size + 2) ((w.alloc (.cells #[.string nm, .string sp, .int .i64 ln, .int .i64 wd, .int .i64 th, .int .i64 cu, .int .i64 mo, .slice D dn dc] 34)).alloc (.cells #[.int .i64 o1, .int .i64 u1, .int .i64 o2, .int .i64 u2] 75)) wx) => Lib.hid (wideOk_any (dc := dc) (q := q) hc hq hq0 hq1 hw hp hn1 hn2 hdn wx (RcRow.below hr1 (by rw [l_size]; exact hbx)))
  have BE := fun wx (hbx : Below (w.heap.size + 2) ((w.alloc (.cells #[.string nm, .string sp, .int .i64 ln, .int .i64 wd, .int .i64 th, .int .i64 cu, .int .i64 mo, .slice D dn dc] 34)).alloc (.cells #[.int .i64 o1, .int .i64 u1, .int .i64 o2, .int .i64 u2] 75)) wx) => Lib.hid (rboardErr_any (dc := dc) hc hn1 hn2 hdn wx (RcRow.below hr1 (by rw [l_size]; exact hbx)))
  have WB := fun wx => Lib.hid (rwithin_any hq wx)
  have WR := fun wx (hbx : Below (w.heap.size + 2) ((w.alloc (.cells #[.string nm, .string sp, .int .i64 ln, .int .i64 wd, .int .i64 th, .int .i64 cu, .int .i64 mo, .slice D dn dc] 34)).alloc (.cells #[.int .i64 o1, .int .i64 u1, .int .i64 o2, .int .i64 u2] 75)) wx) => Lib.hid (widRef_any (dc := dc) (fb := true) (bdOk_of hc) hq0 hq1 hw (decide_eq_true (by omega)) wx (RcRow.below hr1 (by rw [l_size]; exact hbx)))
  have RE := fun wx => Lib.hid (rectErr_any (w := wx) hf)
  have WH := fun wx => Lib.hid (whole_any (nm := nm) (sp := sp) (ln := ln) (wd := wd) (th := th) (cu := cu) (mo := mo) (D := D) (dn := dn) (dc := dc) wx)
  have IN := fun wx => Lib.hid (inside_any (w := wx) hin)
  have hl1 := (bdOk_of hc).l1
  simp only at hl1
  obtain ⟨hi0, hi1, hi2, hi3⟩ := inside_iff.1 hin
  obtain ⟨hf0, hf1⟩ := formE_iff.1 hf
  have hwo : IntKind.i64.wrap (o2 - o1) = o2 - o1 := by rw [IntKind.wrap_i64]; omega
  have hnb : (o2 - o1 == q) = false := beq_eq_false_iff_ne.2 hne
  clear hr hr1 hpl hc hq hw hf hin hne
  go_enter Try.func12, Try.ntmps12
  go_wp2_with (first | (go_at_call 18; refine (awake_any _).mono ?_; rintro e w1 ⟨rfl, hq1⟩; have hB1 : Below (w.heap.size + 2) ((w.alloc (.cells #[.string nm, .string sp, .int .i64 ln, .int .i64 wd, .int .i64 th, .int .i64 cu, .int .i64 mo, .slice D dn dc] 34)).alloc (.cells #[.int .i64 o1, .int .i64 u1, .int .i64 o2, .int .i64 u2] 75)) w1 := (hq1.mono (by simp)); have hs1 : w.heap.size + 1 < w1.heap.size := (by have := hB1.size; (try simp at this); omega); have ht1 : w.heap.size < w1.heap.size := (by omega); obtain ⟨⟨p10, p11, p12, p13, p14, p15, p16, p17⟩, ⟨i10, i11, i12, i13⟩⟩ := l_facts hB1) | (go_at_call 24; (refine Calls.mono (PL _).out ?_); rintro e w2 ⟨rfl, hq2⟩; have hB2 : Below (w.heap.size + 2) ((w.alloc (.cells #[.string nm, .string sp, .int .i64 ln, .int .i64 wd, .int .i64 th, .int .i64 cu, .int .i64 mo, .slice D dn dc] 34)).alloc (.cells #[.int .i64 o1, .int .i64 u1, .int .i64 o2, .int .i64 u2] 75)) w2 := (hB1.trans (hq2.mono (by omega))); have hs2 : w.heap.size + 1 < w2.heap.size := (by have := hB2.size; (try simp at this); omega); have ht2 : w.heap.size < w2.heap.size := (by omega); obtain ⟨⟨p20, p21, p22, p23, p24, p25, p26, p27⟩, ⟨i20, i21, i22, i23⟩⟩ := l_facts hB2) | (go_at_call 53; (refine Calls.mono (WI _ hB2).out ?_); rintro e w3 ⟨rfl, hq3⟩; have hB3 : Below (w.heap.size + 2) ((w.alloc (.cells #[.string nm, .string sp, .int .i64 ln, .int .i64 wd, .int .i64 th, .int .i64 cu, .int .i64 mo, .slice D dn dc] 34)).alloc (.cells #[.int .i64 o1, .int .i64 u1, .int .i64 o2, .int .i64 u2] 75)) w3 := (hB2.trans (hq3.mono (by omega))); have hs3 : w.heap.size + 1 < w3.heap.size := (by have := hB3.size; (try simp at this); omega); have ht3 : w.heap.size < w3.heap.size := (by omega); obtain ⟨⟨p30, p31, p32, p33, p34, p35, p36, p37⟩, ⟨i30, i31, i32, i33⟩⟩ := l_facts hB3) | (go_at_call 45; (refine Calls.mono (BE _ (hB3.alloc (by omega) _)).out ?_); rintro e w4 ⟨rfl, hq4⟩; have hB4 : Below (w.heap.size + 2) ((w.alloc (.cells #[.string nm, .string sp, .int .i64 ln, .int .i64 wd, .int .i64 th, .int .i64 cu, .int .i64 mo, .slice D dn dc] 34)).alloc (.cells #[.int .i64 o1, .int .i64 u1, .int .i64 o2, .int .i64 u2] 75)) w4 := ((hB3.alloc (by omega) _).trans (hq4.mono (by simp; omega))); have hs4 : w.heap.size + 1 < w4.heap.size := (by have := hB4.size; (try simp at this); omega); have ht4 : w.heap.size < w4.heap.size := (by omega); obtain ⟨⟨p40, p41, p42, p43, p44, p45, p46, p47⟩, ⟨i40, i41, i42, i43⟩⟩ := l_facts hB4; have hr7 := rc4_new hq4; have h7s : w3.heap.size < w4.heap.size := (by have := hq4.size; (try simp at this); omega); obtain ⟨⟨m0, m1, m2, m3⟩, -⟩ := rc4_new hq4; (try simp only at m0 m1 m2 m3)) | (go_at_call 39; (refine Calls.mono (WB _).out ?_); rintro e _ ⟨rfl, rfl⟩) | (go_at_call 54; (refine Calls.mono (WR _ hB4).out ?_); rintro e w5 ⟨rfl, hq5⟩; have hB5 : Below (w.heap.size + 2) ((w.alloc (.cells #[.string nm, .string sp, .int .i64 ln, .int .i64 wd, .int .i64 th, .int .i64 cu, .int .i64 mo, .slice D dn dc] 34)).alloc (.cells #[.int .i64 o1, .int .i64 u1, .int .i64 o2, .int .i64 u2] 75)) w5 := (hB4.trans (hq5.mono (by omega))); have hs5 : w.heap.size + 1 < w5.heap.size := (by have := hB5.size; (try simp at this); omega); have ht5 : w.heap.size < w5.heap.size := (by omega); obtain ⟨⟨p50, p51, p52, p53, p54, p55, p56, p57⟩, ⟨i50, i51, i52, i53⟩⟩ := l_facts hB5; have hr5 := hr7.below hq5 h7s; have h7t : w3.heap.size < w5.heap.size := (by have := hq5.size; omega); obtain ⟨⟨n0, n1, n2, n3⟩, -⟩ := hr7.below hq5 h7s; (try simp only at n0 n1 n2 n3)))
  obtain ⟨w6, hw6⟩ : ∃ w6, w5.alloc (.cells #[.int .i64 x1, .int .i64 y1, .int .i64 x2, .int .i64 y2] 75) = w6 := ⟨_, rfl⟩
  rw [hw6]
  have hB6 : Below (w.heap.size + 2) ((w.alloc (.cells #[.string nm, .string sp, .int .i64 ln, .int .i64 wd, .int .i64 th, .int .i64 cu, .int .i64 mo, .slice D dn dc] 34)).alloc (.cells #[.int .i64 o1, .int .i64 u1, .int .i64 o2, .int .i64 u2] 75)) w6 := hw6 ▸ hB5.alloc (by omega) _
  have hr6 : Rc4 w6 w3.heap.size ⟨x1, y1, x2, y2⟩ := hr5.below (hw6 ▸ (Below.refl _ _).alloc (Nat.le_refl _) _) h7t
  have h6s : w3.heap.size < w6.heap.size := by rw [← hw6]; simp; omega
  have hs6 : w.heap.size + 1 < w6.heap.size := (by have := hB6.size; (try simp at this); omega); have ht6 : w.heap.size < w6.heap.size := (by omega)
  obtain ⟨⟨p60, p61, p62, p63, p64, p65, p66, p67⟩, ⟨i60, i61, i62, i63⟩⟩ := l_facts hB6
  have QB := Lib.hid ht6
  have QK := Lib.hid hs6
  have HB6 := Lib.hid hB6
  have HR6 := Lib.hid hr6
  have HS6 := Lib.hid h6s
  clear hw6 hr6 hB6
  refine wp_region_held_drew (S := fun wx => Below w6.heap.size w6 wx ∧ wx.cell? ⟨w.heap.size, 0, none⟩ = some (.string nm) ∧ wx.cell? ⟨w.heap.size, 1, none⟩ = some (.string sp) ∧ wx.cell? ⟨w.heap.size, 2, none⟩ = some (.int .i64 ln) ∧ wx.cell? ⟨w.heap.size, 3, none⟩ = some (.int .i64 wd) ∧ wx.cell? ⟨w.heap.size, 4, none⟩ = some (.int .i64 th) ∧ wx.cell? ⟨w.heap.size, 5, none⟩ = some (.int .i64 cu) ∧ wx.cell? ⟨w.heap.size, 6, none⟩ = some (.int .i64 mo) ∧ wx.cell? ⟨w.heap.size, 7, none⟩ = some (.slice D dn dc) ∧ wx.cell? ⟨w.heap.size + 1, 0, none⟩ = some (.int .i64 o1) ∧ wx.cell? ⟨w.heap.size + 1, 0 + 1, none⟩ = some (.int .i64 u1) ∧ wx.cell? ⟨w.heap.size + 1, 0 + 2, none⟩ = some (.int .i64 o2) ∧ wx.cell? ⟨w.heap.size + 1, 0 + 3, none⟩ = some (.int .i64 u2)) (by kernel_rfl) ?_ (fun hHeld => ?_)
  · refine ⟨(Below.refl _ _).drew, ?_, ?_, ?_, ?_, ?_, ?_, ?_, ?_, ?_, ?_, ?_, ?_⟩ <;> assumption
  refine wpAnyH_take (i := 0) (oi := { dst := some 68, op := Go.Op.load 75 (Go.Operand.tmp 5), type := 75, pos := "law.go:282", after := #[], guard := none }) (v := ?_) rfl (by kernel_rfl) (by kernel_rfl) (by kernel_rfl) (fun _ _ _ h => h) (Or.inl ⟨by rfl, ?hy1⟩) (by assumption) ?rest1
  case hy1 =>
    intro w hSw
    try dsimp only at hSw
    go_simp
    try with_reducible rfl
  try simp only [Act.put, List.setIfInBounds_toArray, List.set_cons_zero, List.set_cons_succ]
  refine wpAnyH_ready (rs := [1]) (by kernel_rfl) (by simp) ?_
  refine AllReadyH.cons (o := { dst := some 69, op := Go.Op.call { callee := Go.Callee.value (Go.Operand.func 47), args := #[Go.Operand.tmp 68], argTypes := #[75] }, type := 3, pos := "law.go:282", after := #[{ on := 0, ground := Go.Ground.data }], guard := none }) rfl (fun K hK => ?_) AllReadyH.nil
  go_simp
  go_at_call 47
  refine Calls.mono (RE _).out ?_
  rintro e wc1 ⟨rfl, hbx⟩
  try dsimp only
  refine hK.out _ _ ?_ (fun hHeld2 => ?_)
  · exact kept12 hbx hHeld QB.out QK.out
  clear hK K hHeld hbx
  try simp only [Act.put, List.setIfInBounds_toArray, List.set_cons_zero, List.set_cons_succ]
  refine wpAnyH_take (i := 2) (oi := { dst := some 70, op := Go.Op.binOp Go.BinOp.neq 3 (Go.Operand.tmp 69) (Go.Operand.const (Go.Value.int Go.IntKind.i64 0)) 3, type := 4, pos := "law.go:282", after := #[{ on := 1, ground := Go.Ground.data }], guard := none }) (v := ?_) rfl (by kernel_rfl) (by kernel_rfl) (by kernel_rfl) (fun _ _ _ h => h) (Or.inl ⟨by rfl, ?hy2⟩) (by assumption) ?rest2
  case hy2 =>
    intro w hSw
    try dsimp only at hSw
    go_simp
    try with_reducible rfl
  try simp only [Act.put, List.setIfInBounds_toArray, List.set_cons_zero, List.set_cons_succ]
  refine wpAnyH_take (i := 3) (oi := { dst := some 71, op := Go.Op.move (Go.Operand.tmp 70), type := 4, pos := "law.go:282", after := #[{ on := 2, ground := Go.Ground.data }, { on := 1, ground := Go.Ground.chain }], guard := none }) (v := ?_) rfl (by kernel_rfl) (by kernel_rfl) (by kernel_rfl) (fun _ _ _ h => h) (Or.inl ⟨by rfl, ?hy3⟩) (by assumption) ?rest3
  case hy3 =>
    intro w hSw
    try dsimp only at hSw
    go_simp
    try with_reducible rfl
  try simp only [Act.put, List.setIfInBounds_toArray, List.set_cons_zero, List.set_cons_succ]
  refine wpAnyH_take (i := 4) (oi := { dst := some 72, op := Go.Op.load 75 (Go.Operand.tmp 5), type := 75, pos := "law.go:282", after := #[{ on := 3, ground := Go.Ground.guard }], guard := some (3, false) }) (v := ?_) rfl (by kernel_rfl) (by kernel_rfl) (by kernel_rfl) (fun _ _ _ h => h) (Or.inl ⟨by rfl, ?hy4⟩) (by assumption) ?rest4
  case hy4 =>
    intro w hSw
    try dsimp only at hSw
    go_simp
    try with_reducible rfl
  try simp only [Act.put, List.setIfInBounds_toArray, List.set_cons_zero, List.set_cons_succ]
  refine wpAnyH_take (i := 5) (oi := { dst := some 73, op := Go.Op.load 34 (Go.Operand.tmp 3), type := 34, pos := "law.go:282", after := #[{ on := 3, ground := Go.Ground.guard }], guard := some (3, false) }) (v := ?_) rfl (by kernel_rfl) (by kernel_rfl) (by kernel_rfl) (fun _ _ _ h => h) (Or.inl ⟨by rfl, ?hy5⟩) (by assumption) ?rest5
  case hy5 =>
    intro w hSw
    try dsimp only at hSw
    go_simp
    try with_reducible rfl
  try simp only [Act.put, List.setIfInBounds_toArray, List.set_cons_zero, List.set_cons_succ]
  refine wpAnyH_ready (rs := [6]) (by kernel_rfl) (by simp) ?_
  refine AllReadyH.cons (o := { dst := some 74, op := Go.Op.call { callee := Go.Callee.value (Go.Operand.func 49), args := #[Go.Operand.tmp 73], argTypes := #[34] }, type := 75, pos := "law.go:282", after := #[{ on := 5, ground := Go.Ground.data }, { on := 3, ground := Go.Ground.chain }, { on := 3, ground := Go.Ground.guard }], guard := some (3, false) }) rfl (fun K hK => ?_) AllReadyH.nil
  go_simp
  go_at_call 49
  refine Calls.mono (WH _).out ?_
  rintro e wc6 ⟨rfl, hbx⟩
  try dsimp only
  refine hK.out _ _ ?_ (fun hHeld3 => ?_)
  · exact kept12 hbx hHeld2 QB.out QK.out
  clear hK K hHeld2 hbx
  try simp only [Act.put, List.setIfInBounds_toArray, List.set_cons_zero, List.set_cons_succ]
  refine wpAnyH_ready (rs := [7]) (by kernel_rfl) (by simp) ?_
  refine AllReadyH.cons (o := { dst := some 75, op := Go.Op.call { callee := Go.Callee.value (Go.Operand.func 48), args := #[Go.Operand.tmp 72, Go.Operand.tmp 74], argTypes := #[75, 75] }, type := 4, pos := "law.go:282", after := #[{ on := 4, ground := Go.Ground.data }, { on := 6, ground := Go.Ground.data }, { on := 6, ground := Go.Ground.chain }, { on := 3, ground := Go.Ground.guard }], guard := some (3, false) }) rfl (fun K hK => ?_) AllReadyH.nil
  go_simp
  go_at_call 48
  refine Calls.mono (IN _).out ?_
  rintro e wc7 ⟨rfl, hbx⟩
  try dsimp only
  refine hK.out _ _ ?_ (fun hHeld4 => ?_)
  · exact kept12 hbx hHeld3 QB.out QK.out
  clear hK K hHeld3 hbx
  try simp only [Act.put, List.setIfInBounds_toArray, List.set_cons_zero, List.set_cons_succ]
  refine wpAnyH_take (i := 8) (oi := { dst := some 76, op := Go.Op.unOp Go.UnOp.not 4 (Go.Operand.tmp 75), type := 4, pos := "law.go:282", after := #[{ on := 7, ground := Go.Ground.data }, { on := 3, ground := Go.Ground.guard }], guard := some (3, false) }) (v := ?_) rfl (by kernel_rfl) (by kernel_rfl) (by kernel_rfl) (fun _ _ _ h => h) (Or.inl ⟨by rfl, ?hy6⟩) (by assumption) ?rest6
  case hy6 =>
    intro w hSw
    try dsimp only at hSw
    go_simp
    try with_reducible rfl
  try simp only [Act.put, List.setIfInBounds_toArray, List.set_cons_zero, List.set_cons_succ]
  refine wpAnyH_take (i := 9) (oi := { dst := some 77, op := Go.Op.pick (Go.Operand.tmp 71) (Go.Operand.const (Go.Value.bool true)) (Go.Operand.tmp 76), type := 4, pos := "law.go:282", after := #[{ on := 3, ground := Go.Ground.data }, { on := 8, ground := Go.Ground.data }], guard := none }) (v := ?_) rfl (by kernel_rfl) (by kernel_rfl) (by kernel_rfl) (fun _ _ _ h => h) (Or.inl ⟨by rfl, ?hy7⟩) (by assumption) ?rest7
  case hy7 =>
    intro w hSw
    try dsimp only at hSw
    go_simp
    try with_reducible rfl
  try simp only [Act.put, List.setIfInBounds_toArray, List.set_cons_zero, List.set_cons_succ]
  refine wpAnyH_take (i := 10) (oi := { dst := some 78, op := Go.Op.move (Go.Operand.tmp 77), type := 4, pos := "law.go:282", after := #[{ on := 9, ground := Go.Ground.data }, { on := 7, ground := Go.Ground.chain }], guard := none }) (v := ?_) rfl (by kernel_rfl) (by kernel_rfl) (by kernel_rfl) (fun _ _ _ h => h) (Or.inl ⟨by rfl, ?hy8⟩) (by assumption) ?rest8
  case hy8 =>
    intro w hSw
    try dsimp only at hSw
    go_simp
    try with_reducible rfl
  try simp only [Act.put, List.setIfInBounds_toArray, List.set_cons_zero, List.set_cons_succ]
  refine wpAnyH_take (i := 11) (oi := { dst := some 79, op := Go.Op.fieldAddr 75 (Go.Operand.tmp 5) 2, type := 0, pos := "law.go:282", after := #[{ on := 10, ground := Go.Ground.guard }], guard := some (10, false) }) (v := ?_) rfl (by kernel_rfl) (by kernel_rfl) (by kernel_rfl) (fun _ _ _ h => h) (Or.inl ⟨by rfl, ?hy9⟩) (by assumption) ?rest9
  case hy9 =>
    intro w hSw
    try dsimp only at hSw
    go_simp
    try with_reducible rfl
  try simp only [Act.put, List.setIfInBounds_toArray, List.set_cons_zero, List.set_cons_succ]
  refine wpAnyH_take (i := 12) (oi := { dst := some 80, op := Go.Op.load 3 (Go.Operand.tmp 79), type := 3, pos := "law.go:282", after := #[{ on := 11, ground := Go.Ground.data }, { on := 10, ground := Go.Ground.guard }], guard := some (10, false) }) (v := ?_) rfl (by kernel_rfl) (by kernel_rfl) (by kernel_rfl) (fun _ _ _ h => h) (Or.inl ⟨by rfl, ?hy10⟩) (by assumption) ?rest10
  case hy10 =>
    intro w hSw
    try dsimp only at hSw
    go_simp
    try with_reducible rfl
  try simp only [Act.put, List.setIfInBounds_toArray, List.set_cons_zero, List.set_cons_succ]
  refine wpAnyH_take (i := 13) (oi := { dst := some 81, op := Go.Op.fieldAddr 75 (Go.Operand.tmp 5) 0, type := 0, pos := "law.go:282", after := #[{ on := 10, ground := Go.Ground.guard }], guard := some (10, false) }) (v := ?_) rfl (by kernel_rfl) (by kernel_rfl) (by kernel_rfl) (fun _ _ _ h => h) (Or.inl ⟨by rfl, ?hy11⟩) (by assumption) ?rest11
  case hy11 =>
    intro w hSw
    try dsimp only at hSw
    go_simp
    try with_reducible rfl
  try simp only [Act.put, List.setIfInBounds_toArray, List.set_cons_zero, List.set_cons_succ]
  refine wpAnyH_take (i := 14) (oi := { dst := some 82, op := Go.Op.load 3 (Go.Operand.tmp 81), type := 3, pos := "law.go:282", after := #[{ on := 13, ground := Go.Ground.data }, { on := 10, ground := Go.Ground.guard }], guard := some (10, false) }) (v := ?_) rfl (by kernel_rfl) (by kernel_rfl) (by kernel_rfl) (fun _ _ _ h => h) (Or.inl ⟨by rfl, ?hy12⟩) (by assumption) ?rest12
  case hy12 =>
    intro w hSw
    try dsimp only at hSw
    go_simp
    try with_reducible rfl
  try simp only [Act.put, List.setIfInBounds_toArray, List.set_cons_zero, List.set_cons_succ]
  refine wpAnyH_take (i := 15) (oi := { dst := some 83, op := Go.Op.binOp Go.BinOp.sub 3 (Go.Operand.tmp 80) (Go.Operand.tmp 82) 3, type := 3, pos := "law.go:282", after := #[{ on := 12, ground := Go.Ground.data }, { on := 14, ground := Go.Ground.data }, { on := 10, ground := Go.Ground.guard }], guard := some (10, false) }) (v := ?_) rfl (by kernel_rfl) (by kernel_rfl) (by kernel_rfl) (fun _ _ _ h => h) (Or.inl ⟨by rfl, ?hy13⟩) (by assumption) ?rest13
  case hy13 =>
    intro w hSw
    try dsimp only at hSw
    go_simp
    try with_reducible rfl
  try simp only [Act.put, List.setIfInBounds_toArray, List.set_cons_zero, List.set_cons_succ]
  refine wpAnyH_take (i := 16) (oi := { dst := some 84, op := Go.Op.move (Go.Operand.tmp 1), type := 3, pos := "law.go:282", after := #[{ on := 10, ground := Go.Ground.guard }], guard := some (10, false) }) (v := ?_) rfl (by kernel_rfl) (by kernel_rfl) (by kernel_rfl) (fun _ _ _ h => h) (Or.inl ⟨by rfl, ?hy14⟩) (by assumption) ?rest14
  case hy14 =>
    intro w hSw
    try dsimp only at hSw
    go_simp
    try with_reducible rfl
  try simp only [Act.put, List.setIfInBounds_toArray, List.set_cons_zero, List.set_cons_succ]
  refine wpAnyH_take (i := 17) (oi := { dst := some 85, op := Go.Op.binOp Go.BinOp.neq 3 (Go.Operand.tmp 83) (Go.Operand.tmp 84) 3, type := 4, pos := "law.go:282", after := #[{ on := 15, ground := Go.Ground.data }, { on := 16, ground := Go.Ground.data }, { on := 10, ground := Go.Ground.guard }], guard := some (10, false) }) (v := ?_) rfl (by kernel_rfl) (by kernel_rfl) (by kernel_rfl) (fun _ _ _ h => h) (Or.inl ⟨by rfl, ?hy15⟩) (by assumption) ?rest15
  case hy15 =>
    intro w hSw
    try dsimp only at hSw
    go_simp
    try with_reducible rfl
  try simp only [Act.put, List.setIfInBounds_toArray, List.set_cons_zero, List.set_cons_succ]
  refine wpAnyH_take (i := 18) (oi := { dst := some 86, op := Go.Op.pick (Go.Operand.tmp 78) (Go.Operand.const (Go.Value.bool true)) (Go.Operand.tmp 85), type := 4, pos := "law.go:282", after := #[{ on := 10, ground := Go.Ground.data }, { on := 17, ground := Go.Ground.data }], guard := none }) (v := ?_) rfl (by kernel_rfl) (by kernel_rfl) (by kernel_rfl) (fun _ _ _ h => h) (Or.inl ⟨by rfl, ?hy16⟩) (by assumption) ?rest16
  case hy16 =>
    intro w hSw
    try dsimp only at hSw
    go_simp
    try with_reducible rfl
  try simp only [Act.put, List.setIfInBounds_toArray, List.set_cons_zero, List.set_cons_succ]
  refine wpAnyH_done (by kernel_rfl) ?_ _
  have HH := Lib.hid hHeld4.1
  clear hHeld4
  go_wp2
  go_ret
  exact ⟨rfl, hBL.trans ((HB6.out.trans (HH.out.mono (by omega))).mono (by omega))⟩
set_option maxHeartbeats 8000000 in
set_option maxRecDepth 20000 in
theorem lwid_same {nm sp : ByteArray} {ln wd th cu mo : Int} {D : Option Addr} {dn dc : Nat} {ds : List Rc} {q o1 u1 o2 u2 : Int} {x1 y1 x2 y2 : Int} {v : Bool} (hpl : plainB nm sp dn = true) (hc : bdCode ⟨nm, sp, ln, wd, th, cu, mo, ds⟩ = 0) (hq : inB 1 ln q = true) (hq0 : 1 ≤ q) (hq1 : q ≤ ln) (hw : (widR ⟨nm, sp, ln, wd, th, cu, mo, ds⟩ q) = ⟨x1, y1, x2, y2⟩) (hp : y1 < y2) (hy0 : 0 ≤ y1) (hy1 : y2 ≤ wd) (hf : formE o1 u1 o2 u2 = 0) (hin : insideB o1 u1 o2 u2 0 0 ln wd = true) (hne : o2 - o1 = q) (hv : soundB ⟨nm, sp, ln, wd, th, cu, mo, ds⟩ ⟨o1, u1, o2, u2⟩ = v) (hvl : v = true → u2 - u1 ≤ y2 - y1) (hn1 : nm.size ≤ maxLen) (hn2 : sp.size ≤ maxLen) (hdn : dn ≤ maxLen) (w : World) (hr : RcRow w D dn ds) :
    Calls Try.prog 12 #[.agg #[.string nm, .string sp, .int .i64 ln, .int .i64 wd, .int .i64 th, .int .i64 cu, .int .i64 mo, .slice D dn dc], .int .i64 q, .agg #[.int .i64 o1, .int .i64 u1, .int .i64 o2, .int .i64 u2]] w fun e w' => e = .returned (.bool true) ∧ Below w.heap.size w w' := by
  have hBL : Below w.heap.size w ((w.alloc (.cells #[.string nm, .string sp, .int .i64 ln, .int .i64 wd, .int .i64 th, .int .i64 cu, .int .i64 mo, .slice D dn dc] 34)).alloc (.cells #[.int .i64 o1, .int .i64 u1, .int .i64 o2, .int .i64 u2] 75)) := ((Below.refl _ _).alloc (Nat.le_refl _) _).alloc (by simp) _
  have hr1 := RcRow.below hr hBL
  have PL := fun wx => Lib.hid (plain_any (nm := nm) (sp := sp) (ln := ln) (wd := wd) (th := th) (cu := cu) (mo := mo) (D := D) (dn := dn) (dc := dc) (w := wx) hpl hn1 hn2 hdn)
  have WI := fun wx (hbx : Below (w.heap.size + 2) ((w.alloc (.cells #[.string nm, .string sp, .int .i64 ln, .int .i64 wd, .int .i64 th, .int .i64 cu, .int .i64 mo, .slice D dn dc] 34)).alloc (.cells #[.int .i64 o1, .int .i64 u1, .int .i64 o2, .int .i64 u2] 75)) wx) => Lib.hid (wideOk_any (dc := dc) (q := q) hc hq hq0 hq1 hw hp hn1 hn2 hdn wx (RcRow.below hr1 (by rw [l_size]; exact hbx)))
  have BE := fun wx (hbx : Below (w.heap.size + 2) ((w.alloc (.cells #[.string nm, .string sp, .int .i64 ln, .int .i64 wd, .int .i64 th, .int .i64 cu, .int .i64 mo, .slice D dn dc] 34)).alloc (.cells #[.int .i64 o1, .int .i64 u1, .int .i64 o2, .int .i64 u2] 75)) wx) => Lib.hid (rboardErr_any (dc := dc) hc hn1 hn2 hdn wx (RcRow.below hr1 (by rw [l_size]; exact hbx)))
  have WB := fun wx => Lib.hid (rwithin_any hq wx)
  have WR := fun wx (hbx : Below (w.heap.size + 2) ((w.alloc (.cells #[.string nm, .string sp, .int .i64 ln, .int .i64 wd, .int .i64 th, .int .i64 cu, .int .i64 mo, .slice D dn dc] 34)).alloc (.cells #[.int .i64 o1, .int .i64 u1, .int .i64 o2, .int .i64 u2] 75)) wx) => Lib.hid (widRef_any (dc := dc) (fb := true) (bdOk_of hc) hq0 hq1 hw (decide_eq_true (by omega)) wx (RcRow.below hr1 (by rw [l_size]; exact hbx)))
  have RE := fun wx => Lib.hid (rectErr_any (w := wx) hf)
  have WH := fun wx => Lib.hid (whole_any (nm := nm) (sp := sp) (ln := ln) (wd := wd) (th := th) (cu := cu) (mo := mo) (D := D) (dn := dn) (dc := dc) wx)
  have IN := fun wx => Lib.hid (inside_any (w := wx) hin)
  have hl1 := (bdOk_of hc).l1
  simp only at hl1
  obtain ⟨hi0, hi1, hi2, hi3⟩ := inside_iff.1 hin
  obtain ⟨hf0, hf1⟩ := formE_iff.1 hf
  have hwo : IntKind.i64.wrap (o2 - o1) = o2 - o1 := by rw [IntKind.wrap_i64]; omega
  have hnb : (o2 - o1 == q) = true := beq_iff_eq.2 hne
  have SO := fun wx (hbx : Below (w.heap.size + 2) ((w.alloc (.cells #[.string nm, .string sp, .int .i64 ln, .int .i64 wd, .int .i64 th, .int .i64 cu, .int .i64 mo, .slice D dn dc] 34)).alloc (.cells #[.int .i64 o1, .int .i64 u1, .int .i64 o2, .int .i64 u2] 75)) wx) => Lib.hid (sound_any (dc := dc) (x1 := o1) (y1 := u1) (x2 := o2) (y2 := u2) (c := 0) (e0 := 0) hc (by rw [rcK_ok hf, hin]; rfl) hv hn1 hn2 hdn wx (RcRow.below hr1 (by rw [l_size]; exact hbx)))
  have hST : soundT 0 0 v = .tuple #[.bool v, .int .i64 0] := rfl
  rw [hST] at SO
  have hwd1 := (bdOk_of hc).w1
  simp only at hwd1
  have hwu : IntKind.i64.wrap (u2 - u1) = u2 - u1 := by rw [IntKind.wrap_i64]; omega
  have hwy : IntKind.i64.wrap (y2 - y1) = y2 - y1 := by rw [IntKind.wrap_i64]; omega
  clear hr hr1 hpl hc hq hw hf hin hv hST hne
  go_enter Try.func12, Try.ntmps12
  go_wp2_with (first | (go_at_call 18; refine (awake_any _).mono ?_; rintro e w1 ⟨rfl, hq1⟩; have hB1 : Below (w.heap.size + 2) ((w.alloc (.cells #[.string nm, .string sp, .int .i64 ln, .int .i64 wd, .int .i64 th, .int .i64 cu, .int .i64 mo, .slice D dn dc] 34)).alloc (.cells #[.int .i64 o1, .int .i64 u1, .int .i64 o2, .int .i64 u2] 75)) w1 := (hq1.mono (by simp)); have hs1 : w.heap.size + 1 < w1.heap.size := (by have := hB1.size; (try simp at this); omega); have ht1 : w.heap.size < w1.heap.size := (by omega); obtain ⟨⟨p10, p11, p12, p13, p14, p15, p16, p17⟩, ⟨i10, i11, i12, i13⟩⟩ := l_facts hB1) | (go_at_call 24; (refine Calls.mono (PL _).out ?_); rintro e w2 ⟨rfl, hq2⟩; have hB2 : Below (w.heap.size + 2) ((w.alloc (.cells #[.string nm, .string sp, .int .i64 ln, .int .i64 wd, .int .i64 th, .int .i64 cu, .int .i64 mo, .slice D dn dc] 34)).alloc (.cells #[.int .i64 o1, .int .i64 u1, .int .i64 o2, .int .i64 u2] 75)) w2 := (hB1.trans (hq2.mono (by omega))); have hs2 : w.heap.size + 1 < w2.heap.size := (by have := hB2.size; (try simp at this); omega); have ht2 : w.heap.size < w2.heap.size := (by omega); obtain ⟨⟨p20, p21, p22, p23, p24, p25, p26, p27⟩, ⟨i20, i21, i22, i23⟩⟩ := l_facts hB2) | (go_at_call 53; (refine Calls.mono (WI _ hB2).out ?_); rintro e w3 ⟨rfl, hq3⟩; have hB3 : Below (w.heap.size + 2) ((w.alloc (.cells #[.string nm, .string sp, .int .i64 ln, .int .i64 wd, .int .i64 th, .int .i64 cu, .int .i64 mo, .slice D dn dc] 34)).alloc (.cells #[.int .i64 o1, .int .i64 u1, .int .i64 o2, .int .i64 u2] 75)) w3 := (hB2.trans (hq3.mono (by omega))); have hs3 : w.heap.size + 1 < w3.heap.size := (by have := hB3.size; (try simp at this); omega); have ht3 : w.heap.size < w3.heap.size := (by omega); obtain ⟨⟨p30, p31, p32, p33, p34, p35, p36, p37⟩, ⟨i30, i31, i32, i33⟩⟩ := l_facts hB3) | (go_at_call 45; (refine Calls.mono (BE _ (hB3.alloc (by omega) _)).out ?_); rintro e w4 ⟨rfl, hq4⟩; have hB4 : Below (w.heap.size + 2) ((w.alloc (.cells #[.string nm, .string sp, .int .i64 ln, .int .i64 wd, .int .i64 th, .int .i64 cu, .int .i64 mo, .slice D dn dc] 34)).alloc (.cells #[.int .i64 o1, .int .i64 u1, .int .i64 o2, .int .i64 u2] 75)) w4 := ((hB3.alloc (by omega) _).trans (hq4.mono (by simp; omega))); have hs4 : w.heap.size + 1 < w4.heap.size := (by have := hB4.size; (try simp at this); omega); have ht4 : w.heap.size < w4.heap.size := (by omega); obtain ⟨⟨p40, p41, p42, p43, p44, p45, p46, p47⟩, ⟨i40, i41, i42, i43⟩⟩ := l_facts hB4; have hr7 := rc4_new hq4; have h7s : w3.heap.size < w4.heap.size := (by have := hq4.size; (try simp at this); omega); obtain ⟨⟨m0, m1, m2, m3⟩, -⟩ := rc4_new hq4; (try simp only at m0 m1 m2 m3)) | (go_at_call 39; (refine Calls.mono (WB _).out ?_); rintro e _ ⟨rfl, rfl⟩) | (go_at_call 54; (refine Calls.mono (WR _ hB4).out ?_); rintro e w5 ⟨rfl, hq5⟩; have hB5 : Below (w.heap.size + 2) ((w.alloc (.cells #[.string nm, .string sp, .int .i64 ln, .int .i64 wd, .int .i64 th, .int .i64 cu, .int .i64 mo, .slice D dn dc] 34)).alloc (.cells #[.int .i64 o1, .int .i64 u1, .int .i64 o2, .int .i64 u2] 75)) w5 := (hB4.trans (hq5.mono (by omega))); have hs5 : w.heap.size + 1 < w5.heap.size := (by have := hB5.size; (try simp at this); omega); have ht5 : w.heap.size < w5.heap.size := (by omega); obtain ⟨⟨p50, p51, p52, p53, p54, p55, p56, p57⟩, ⟨i50, i51, i52, i53⟩⟩ := l_facts hB5; have hr5 := hr7.below hq5 h7s; have h7t : w3.heap.size < w5.heap.size := (by have := hq5.size; omega); obtain ⟨⟨n0, n1, n2, n3⟩, -⟩ := hr7.below hq5 h7s; (try simp only at n0 n1 n2 n3)))
  obtain ⟨w6, hw6⟩ : ∃ w6, w5.alloc (.cells #[.int .i64 x1, .int .i64 y1, .int .i64 x2, .int .i64 y2] 75) = w6 := ⟨_, rfl⟩
  rw [hw6]
  have hB6 : Below (w.heap.size + 2) ((w.alloc (.cells #[.string nm, .string sp, .int .i64 ln, .int .i64 wd, .int .i64 th, .int .i64 cu, .int .i64 mo, .slice D dn dc] 34)).alloc (.cells #[.int .i64 o1, .int .i64 u1, .int .i64 o2, .int .i64 u2] 75)) w6 := hw6 ▸ hB5.alloc (by omega) _
  have hr6 : Rc4 w6 w3.heap.size ⟨x1, y1, x2, y2⟩ := hr5.below (hw6 ▸ (Below.refl _ _).alloc (Nat.le_refl _) _) h7t
  have h6s : w3.heap.size < w6.heap.size := by rw [← hw6]; simp; omega
  have hs6 : w.heap.size + 1 < w6.heap.size := (by have := hB6.size; (try simp at this); omega); have ht6 : w.heap.size < w6.heap.size := (by omega)
  obtain ⟨⟨p60, p61, p62, p63, p64, p65, p66, p67⟩, ⟨i60, i61, i62, i63⟩⟩ := l_facts hB6
  have QB := Lib.hid ht6
  have QK := Lib.hid hs6
  have HB6 := Lib.hid hB6
  have HR6 := Lib.hid hr6
  have HS6 := Lib.hid h6s
  clear hw6 hr6 hB6
  refine wp_region_held_drew (S := fun wx => Below w6.heap.size w6 wx ∧ wx.cell? ⟨w.heap.size, 0, none⟩ = some (.string nm) ∧ wx.cell? ⟨w.heap.size, 1, none⟩ = some (.string sp) ∧ wx.cell? ⟨w.heap.size, 2, none⟩ = some (.int .i64 ln) ∧ wx.cell? ⟨w.heap.size, 3, none⟩ = some (.int .i64 wd) ∧ wx.cell? ⟨w.heap.size, 4, none⟩ = some (.int .i64 th) ∧ wx.cell? ⟨w.heap.size, 5, none⟩ = some (.int .i64 cu) ∧ wx.cell? ⟨w.heap.size, 6, none⟩ = some (.int .i64 mo) ∧ wx.cell? ⟨w.heap.size, 7, none⟩ = some (.slice D dn dc) ∧ wx.cell? ⟨w.heap.size + 1, 0, none⟩ = some (.int .i64 o1) ∧ wx.cell? ⟨w.heap.size + 1, 0 + 1, none⟩ = some (.int .i64 u1) ∧ wx.cell? ⟨w.heap.size + 1, 0 + 2, none⟩ = some (.int .i64 o2) ∧ wx.cell? ⟨w.heap.size + 1, 0 + 3, none⟩ = some (.int .i64 u2)) (by kernel_rfl) ?_ (fun hHeld => ?_)
  · refine ⟨(Below.refl _ _).drew, ?_, ?_, ?_, ?_, ?_, ?_, ?_, ?_, ?_, ?_, ?_, ?_⟩ <;> assumption
  refine wpAnyH_take (i := 0) (oi := { dst := some 68, op := Go.Op.load 75 (Go.Operand.tmp 5), type := 75, pos := "law.go:282", after := #[], guard := none }) (v := ?_) rfl (by kernel_rfl) (by kernel_rfl) (by kernel_rfl) (fun _ _ _ h => h) (Or.inl ⟨by rfl, ?hy17⟩) (by assumption) ?rest17
  case hy17 =>
    intro w hSw
    try dsimp only at hSw
    go_simp
    try with_reducible rfl
  try simp only [Act.put, List.setIfInBounds_toArray, List.set_cons_zero, List.set_cons_succ]
  refine wpAnyH_ready (rs := [1]) (by kernel_rfl) (by simp) ?_
  refine AllReadyH.cons (o := { dst := some 69, op := Go.Op.call { callee := Go.Callee.value (Go.Operand.func 47), args := #[Go.Operand.tmp 68], argTypes := #[75] }, type := 3, pos := "law.go:282", after := #[{ on := 0, ground := Go.Ground.data }], guard := none }) rfl (fun K hK => ?_) AllReadyH.nil
  go_simp
  go_at_call 47
  refine Calls.mono (RE _).out ?_
  rintro e wc1 ⟨rfl, hbx⟩
  try dsimp only
  refine hK.out _ _ ?_ (fun hHeld2 => ?_)
  · exact kept12 hbx hHeld QB.out QK.out
  clear hK K hHeld hbx
  try simp only [Act.put, List.setIfInBounds_toArray, List.set_cons_zero, List.set_cons_succ]
  refine wpAnyH_take (i := 2) (oi := { dst := some 70, op := Go.Op.binOp Go.BinOp.neq 3 (Go.Operand.tmp 69) (Go.Operand.const (Go.Value.int Go.IntKind.i64 0)) 3, type := 4, pos := "law.go:282", after := #[{ on := 1, ground := Go.Ground.data }], guard := none }) (v := ?_) rfl (by kernel_rfl) (by kernel_rfl) (by kernel_rfl) (fun _ _ _ h => h) (Or.inl ⟨by rfl, ?hy18⟩) (by assumption) ?rest18
  case hy18 =>
    intro w hSw
    try dsimp only at hSw
    go_simp
    try with_reducible rfl
  try simp only [Act.put, List.setIfInBounds_toArray, List.set_cons_zero, List.set_cons_succ]
  refine wpAnyH_take (i := 3) (oi := { dst := some 71, op := Go.Op.move (Go.Operand.tmp 70), type := 4, pos := "law.go:282", after := #[{ on := 2, ground := Go.Ground.data }, { on := 1, ground := Go.Ground.chain }], guard := none }) (v := ?_) rfl (by kernel_rfl) (by kernel_rfl) (by kernel_rfl) (fun _ _ _ h => h) (Or.inl ⟨by rfl, ?hy19⟩) (by assumption) ?rest19
  case hy19 =>
    intro w hSw
    try dsimp only at hSw
    go_simp
    try with_reducible rfl
  try simp only [Act.put, List.setIfInBounds_toArray, List.set_cons_zero, List.set_cons_succ]
  refine wpAnyH_take (i := 4) (oi := { dst := some 72, op := Go.Op.load 75 (Go.Operand.tmp 5), type := 75, pos := "law.go:282", after := #[{ on := 3, ground := Go.Ground.guard }], guard := some (3, false) }) (v := ?_) rfl (by kernel_rfl) (by kernel_rfl) (by kernel_rfl) (fun _ _ _ h => h) (Or.inl ⟨by rfl, ?hy20⟩) (by assumption) ?rest20
  case hy20 =>
    intro w hSw
    try dsimp only at hSw
    go_simp
    try with_reducible rfl
  try simp only [Act.put, List.setIfInBounds_toArray, List.set_cons_zero, List.set_cons_succ]
  refine wpAnyH_take (i := 5) (oi := { dst := some 73, op := Go.Op.load 34 (Go.Operand.tmp 3), type := 34, pos := "law.go:282", after := #[{ on := 3, ground := Go.Ground.guard }], guard := some (3, false) }) (v := ?_) rfl (by kernel_rfl) (by kernel_rfl) (by kernel_rfl) (fun _ _ _ h => h) (Or.inl ⟨by rfl, ?hy21⟩) (by assumption) ?rest21
  case hy21 =>
    intro w hSw
    try dsimp only at hSw
    go_simp
    try with_reducible rfl
  try simp only [Act.put, List.setIfInBounds_toArray, List.set_cons_zero, List.set_cons_succ]
  refine wpAnyH_ready (rs := [6]) (by kernel_rfl) (by simp) ?_
  refine AllReadyH.cons (o := { dst := some 74, op := Go.Op.call { callee := Go.Callee.value (Go.Operand.func 49), args := #[Go.Operand.tmp 73], argTypes := #[34] }, type := 75, pos := "law.go:282", after := #[{ on := 5, ground := Go.Ground.data }, { on := 3, ground := Go.Ground.chain }, { on := 3, ground := Go.Ground.guard }], guard := some (3, false) }) rfl (fun K hK => ?_) AllReadyH.nil
  go_simp
  go_at_call 49
  refine Calls.mono (WH _).out ?_
  rintro e wc6 ⟨rfl, hbx⟩
  try dsimp only
  refine hK.out _ _ ?_ (fun hHeld3 => ?_)
  · exact kept12 hbx hHeld2 QB.out QK.out
  clear hK K hHeld2 hbx
  try simp only [Act.put, List.setIfInBounds_toArray, List.set_cons_zero, List.set_cons_succ]
  refine wpAnyH_ready (rs := [7]) (by kernel_rfl) (by simp) ?_
  refine AllReadyH.cons (o := { dst := some 75, op := Go.Op.call { callee := Go.Callee.value (Go.Operand.func 48), args := #[Go.Operand.tmp 72, Go.Operand.tmp 74], argTypes := #[75, 75] }, type := 4, pos := "law.go:282", after := #[{ on := 4, ground := Go.Ground.data }, { on := 6, ground := Go.Ground.data }, { on := 6, ground := Go.Ground.chain }, { on := 3, ground := Go.Ground.guard }], guard := some (3, false) }) rfl (fun K hK => ?_) AllReadyH.nil
  go_simp
  go_at_call 48
  refine Calls.mono (IN _).out ?_
  rintro e wc7 ⟨rfl, hbx⟩
  try dsimp only
  refine hK.out _ _ ?_ (fun hHeld4 => ?_)
  · exact kept12 hbx hHeld3 QB.out QK.out
  clear hK K hHeld3 hbx
  try simp only [Act.put, List.setIfInBounds_toArray, List.set_cons_zero, List.set_cons_succ]
  refine wpAnyH_take (i := 8) (oi := { dst := some 76, op := Go.Op.unOp Go.UnOp.not 4 (Go.Operand.tmp 75), type := 4, pos := "law.go:282", after := #[{ on := 7, ground := Go.Ground.data }, { on := 3, ground := Go.Ground.guard }], guard := some (3, false) }) (v := ?_) rfl (by kernel_rfl) (by kernel_rfl) (by kernel_rfl) (fun _ _ _ h => h) (Or.inl ⟨by rfl, ?hy22⟩) (by assumption) ?rest22
  case hy22 =>
    intro w hSw
    try dsimp only at hSw
    go_simp
    try with_reducible rfl
  try simp only [Act.put, List.setIfInBounds_toArray, List.set_cons_zero, List.set_cons_succ]
  refine wpAnyH_take (i := 9) (oi := { dst := some 77, op := Go.Op.pick (Go.Operand.tmp 71) (Go.Operand.const (Go.Value.bool true)) (Go.Operand.tmp 76), type := 4, pos := "law.go:282", after := #[{ on := 3, ground := Go.Ground.data }, { on := 8, ground := Go.Ground.data }], guard := none }) (v := ?_) rfl (by kernel_rfl) (by kernel_rfl) (by kernel_rfl) (fun _ _ _ h => h) (Or.inl ⟨by rfl, ?hy23⟩) (by assumption) ?rest23
  case hy23 =>
    intro w hSw
    try dsimp only at hSw
    go_simp
    try with_reducible rfl
  try simp only [Act.put, List.setIfInBounds_toArray, List.set_cons_zero, List.set_cons_succ]
  refine wpAnyH_take (i := 10) (oi := { dst := some 78, op := Go.Op.move (Go.Operand.tmp 77), type := 4, pos := "law.go:282", after := #[{ on := 9, ground := Go.Ground.data }, { on := 7, ground := Go.Ground.chain }], guard := none }) (v := ?_) rfl (by kernel_rfl) (by kernel_rfl) (by kernel_rfl) (fun _ _ _ h => h) (Or.inl ⟨by rfl, ?hy24⟩) (by assumption) ?rest24
  case hy24 =>
    intro w hSw
    try dsimp only at hSw
    go_simp
    try with_reducible rfl
  try simp only [Act.put, List.setIfInBounds_toArray, List.set_cons_zero, List.set_cons_succ]
  refine wpAnyH_take (i := 11) (oi := { dst := some 79, op := Go.Op.fieldAddr 75 (Go.Operand.tmp 5) 2, type := 0, pos := "law.go:282", after := #[{ on := 10, ground := Go.Ground.guard }], guard := some (10, false) }) (v := ?_) rfl (by kernel_rfl) (by kernel_rfl) (by kernel_rfl) (fun _ _ _ h => h) (Or.inl ⟨by rfl, ?hy25⟩) (by assumption) ?rest25
  case hy25 =>
    intro w hSw
    try dsimp only at hSw
    go_simp
    try with_reducible rfl
  try simp only [Act.put, List.setIfInBounds_toArray, List.set_cons_zero, List.set_cons_succ]
  refine wpAnyH_take (i := 12) (oi := { dst := some 80, op := Go.Op.load 3 (Go.Operand.tmp 79), type := 3, pos := "law.go:282", after := #[{ on := 11, ground := Go.Ground.data }, { on := 10, ground := Go.Ground.guard }], guard := some (10, false) }) (v := ?_) rfl (by kernel_rfl) (by kernel_rfl) (by kernel_rfl) (fun _ _ _ h => h) (Or.inl ⟨by rfl, ?hy26⟩) (by assumption) ?rest26
  case hy26 =>
    intro w hSw
    try dsimp only at hSw
    go_simp
    try with_reducible rfl
  try simp only [Act.put, List.setIfInBounds_toArray, List.set_cons_zero, List.set_cons_succ]
  refine wpAnyH_take (i := 13) (oi := { dst := some 81, op := Go.Op.fieldAddr 75 (Go.Operand.tmp 5) 0, type := 0, pos := "law.go:282", after := #[{ on := 10, ground := Go.Ground.guard }], guard := some (10, false) }) (v := ?_) rfl (by kernel_rfl) (by kernel_rfl) (by kernel_rfl) (fun _ _ _ h => h) (Or.inl ⟨by rfl, ?hy27⟩) (by assumption) ?rest27
  case hy27 =>
    intro w hSw
    try dsimp only at hSw
    go_simp
    try with_reducible rfl
  try simp only [Act.put, List.setIfInBounds_toArray, List.set_cons_zero, List.set_cons_succ]
  refine wpAnyH_take (i := 14) (oi := { dst := some 82, op := Go.Op.load 3 (Go.Operand.tmp 81), type := 3, pos := "law.go:282", after := #[{ on := 13, ground := Go.Ground.data }, { on := 10, ground := Go.Ground.guard }], guard := some (10, false) }) (v := ?_) rfl (by kernel_rfl) (by kernel_rfl) (by kernel_rfl) (fun _ _ _ h => h) (Or.inl ⟨by rfl, ?hy28⟩) (by assumption) ?rest28
  case hy28 =>
    intro w hSw
    try dsimp only at hSw
    go_simp
    try with_reducible rfl
  try simp only [Act.put, List.setIfInBounds_toArray, List.set_cons_zero, List.set_cons_succ]
  refine wpAnyH_take (i := 15) (oi := { dst := some 83, op := Go.Op.binOp Go.BinOp.sub 3 (Go.Operand.tmp 80) (Go.Operand.tmp 82) 3, type := 3, pos := "law.go:282", after := #[{ on := 12, ground := Go.Ground.data }, { on := 14, ground := Go.Ground.data }, { on := 10, ground := Go.Ground.guard }], guard := some (10, false) }) (v := ?_) rfl (by kernel_rfl) (by kernel_rfl) (by kernel_rfl) (fun _ _ _ h => h) (Or.inl ⟨by rfl, ?hy29⟩) (by assumption) ?rest29
  case hy29 =>
    intro w hSw
    try dsimp only at hSw
    go_simp
    try with_reducible rfl
  try simp only [Act.put, List.setIfInBounds_toArray, List.set_cons_zero, List.set_cons_succ]
  refine wpAnyH_take (i := 16) (oi := { dst := some 84, op := Go.Op.move (Go.Operand.tmp 1), type := 3, pos := "law.go:282", after := #[{ on := 10, ground := Go.Ground.guard }], guard := some (10, false) }) (v := ?_) rfl (by kernel_rfl) (by kernel_rfl) (by kernel_rfl) (fun _ _ _ h => h) (Or.inl ⟨by rfl, ?hy30⟩) (by assumption) ?rest30
  case hy30 =>
    intro w hSw
    try dsimp only at hSw
    go_simp
    try with_reducible rfl
  try simp only [Act.put, List.setIfInBounds_toArray, List.set_cons_zero, List.set_cons_succ]
  refine wpAnyH_take (i := 17) (oi := { dst := some 85, op := Go.Op.binOp Go.BinOp.neq 3 (Go.Operand.tmp 83) (Go.Operand.tmp 84) 3, type := 4, pos := "law.go:282", after := #[{ on := 15, ground := Go.Ground.data }, { on := 16, ground := Go.Ground.data }, { on := 10, ground := Go.Ground.guard }], guard := some (10, false) }) (v := ?_) rfl (by kernel_rfl) (by kernel_rfl) (by kernel_rfl) (fun _ _ _ h => h) (Or.inl ⟨by rfl, ?hy31⟩) (by assumption) ?rest31
  case hy31 =>
    intro w hSw
    try dsimp only at hSw
    go_simp
    try with_reducible rfl
  try simp only [Act.put, List.setIfInBounds_toArray, List.set_cons_zero, List.set_cons_succ]
  refine wpAnyH_take (i := 18) (oi := { dst := some 86, op := Go.Op.pick (Go.Operand.tmp 78) (Go.Operand.const (Go.Value.bool true)) (Go.Operand.tmp 85), type := 4, pos := "law.go:282", after := #[{ on := 10, ground := Go.Ground.data }, { on := 17, ground := Go.Ground.data }], guard := none }) (v := ?_) rfl (by kernel_rfl) (by kernel_rfl) (by kernel_rfl) (fun _ _ _ h => h) (Or.inl ⟨by rfl, ?hy32⟩) (by assumption) ?rest32
  case hy32 =>
    intro w hSw
    try dsimp only at hSw
    go_simp
    try with_reducible rfl
  try simp only [Act.put, List.setIfInBounds_toArray, List.set_cons_zero, List.set_cons_succ]
  refine wpAnyH_done (by kernel_rfl) ?_ _
  have HH := Lib.hid hHeld4.1
  obtain ⟨-, g0, g1, g2, g3, g4, g5, g6, g7, k0, k1, k2, k3⟩ := hHeld4
  have hr9 := HR6.out.below HH.out HS6.out
  have h9s : w3.heap.size < wc7.heap.size := by have := HH.out.size; have := HS6.out; omega
  have hB9 : Below (w.heap.size + 2) ((w.alloc (.cells #[.string nm, .string sp, .int .i64 ln, .int .i64 wd, .int .i64 th, .int .i64 cu, .int .i64 mo, .slice D dn dc] 34)).alloc (.cells #[.int .i64 o1, .int .i64 u1, .int .i64 o2, .int .i64 u2] 75)) wc7 := HB6.out.trans (HH.out.mono (by omega))
  have A44 := fun (_ : Unit) => Lib.hid (SO wc7 hB9)
  cases v
  · go_wp2_with (go_at_call 44; (refine Calls.mono (A44 ()).out.out ?_); rintro e w8 ⟨rfl, hq8⟩; have hr8 := hr9.below hq8 h9s; obtain ⟨⟨e0, e1, e2, e3⟩, -⟩ := hr8; (try simp only at e0 e1 e2 e3); have hs8 : w3.heap.size < w8.heap.size := (by have := hq8.size; omega); have hB8 : Below (w.heap.size + 2) ((w.alloc (.cells #[.string nm, .string sp, .int .i64 ln, .int .i64 wd, .int .i64 th, .int .i64 cu, .int .i64 mo, .slice D dn dc] 34)).alloc (.cells #[.int .i64 o1, .int .i64 u1, .int .i64 o2, .int .i64 u2] 75)) w8 := (hB9.trans (hq8.mono (by have := hB9.size; simp at this; omega))); have hs8 : w.heap.size + 1 < w8.heap.size := (by have := hB8.size; (try simp at this); omega); have ht8 : w.heap.size < w8.heap.size := (by omega); obtain ⟨⟨p80, p81, p82, p83, p84, p85, p86, p87⟩, ⟨i80, i81, i82, i83⟩⟩ := l_facts hB8)
    go_ret
    exact ⟨rfl, hBL.trans (hB8.mono (by omega))⟩
  · have hle := hvl rfl
    have hled : decide (u2 - u1 ≤ y2 - y1) = true := decide_eq_true hle
    go_wp2_with (go_at_call 44; (refine Calls.mono (A44 ()).out.out ?_); rintro e w8 ⟨rfl, hq8⟩; have hr8 := hr9.below hq8 h9s; obtain ⟨⟨e0, e1, e2, e3⟩, -⟩ := hr8; (try simp only at e0 e1 e2 e3); have hs8 : w3.heap.size < w8.heap.size := (by have := hq8.size; omega); have hB8 : Below (w.heap.size + 2) ((w.alloc (.cells #[.string nm, .string sp, .int .i64 ln, .int .i64 wd, .int .i64 th, .int .i64 cu, .int .i64 mo, .slice D dn dc] 34)).alloc (.cells #[.int .i64 o1, .int .i64 u1, .int .i64 o2, .int .i64 u2] 75)) w8 := (hB9.trans (hq8.mono (by have := hB9.size; simp at this; omega))); have hs8 : w.heap.size + 1 < w8.heap.size := (by have := hB8.size; (try simp at this); omega); have ht8 : w.heap.size < w8.heap.size := (by omega); obtain ⟨⟨p80, p81, p82, p83, p84, p85, p86, p87⟩, ⟨i80, i81, i82, i83⟩⟩ := l_facts hB8)
    go_ret
    exact ⟨rfl, hBL.trans (hB8.mono (by omega))⟩
theorem lwid_law (bd : Bd) (D : Option Addr) (dn dc : Nat) (q o1 u1 o2 u2 : Int) (hb : bd.nm.size ≤ maxLen ∧ bd.sp.size ≤ maxLen ∧ dn ≤ maxLen ∧ dn ≤ dc) (w : World) (hr : RcRow w D dn bd.df) :
    Calls Try.prog 12 #[.agg #[.string bd.nm, .string bd.sp, .int .i64 bd.ln, .int .i64 bd.wd, .int .i64 bd.th, .int .i64 bd.cu, .int .i64 bd.mo, .slice D dn dc], .int .i64 q, .agg #[.int .i64 o1, .int .i64 u1, .int .i64 o2, .int .i64 u2]] w fun e w' => e = .returned (.bool true) ∧ Below w.heap.size w w' := by
  obtain ⟨nm, sp, ln, wd, th, cu, mo, ds⟩ := bd
  simp only at hb hr ⊢
  cases hp : plainB nm sp dn
  · exact lwid_skip (_ds := ds) hp hb.1 hb.2.1 hb.2.2.1 w
  · by_cases hc : bdCode ⟨nm, sp, ln, wd, th, cu, mo, ds⟩ = 0
    · cases hq : inB 1 ln q
      · exact lwid_range hp hc hq hb.1 hb.2.1 hb.2.2.1 w hr
      · have hq01 : 1 ≤ q ∧ q ≤ ln := by unfold inB outB at hq; simp at hq; omega
        obtain ⟨hq0, hq1⟩ := hq01
        have hbo := bdOk_of hc
        obtain ⟨hs1, hs2⟩ := widR_spec hbo (n := q) hq1
        obtain ⟨hy0, hy1, hy2⟩ := widR_in hbo (n := q)
        obtain ⟨r, hw⟩ : ∃ r, (widR ⟨nm, sp, ln, wd, th, cu, mo, ds⟩ q) = r := ⟨_, rfl⟩
        rw [hw] at hs1 hs2 hy0 hy1 hy2
        rcases hs1 with hz | hpos
        · exact lwid_none hp hc hq hq0 hq1 (hw.trans hz) hb.1 hb.2.1 hb.2.2.1 w hr
        · obtain ⟨x1, y1, x2, y2⟩ := r
          have hpp : y1 < y2 := by have : 0 < y2 - y1 := hpos; omega
          by_cases hf : formE o1 u1 o2 u2 = 0
          · cases hi : insideB o1 u1 o2 u2 0 0 ln wd
            · exact lwid_out hp hc hq hq0 hq1 hw hpp hf hi hb.1 hb.2.1 hb.2.2.1 w hr
            · by_cases hne : o2 - o1 = q
              · refine lwid_same hp hc hq hq0 hq1 hw hpp hy0 hy2 hf hi hne rfl (fun hv => ?_) hb.1 hb.2.1 hb.2.2.1 w hr
                obtain ⟨hi0, hi1, hi2, hi3⟩ := inside_iff.1 hi
                obtain ⟨hf0, hf1⟩ := formE_iff.1 hf
                exact (hs2 ⟨o1, u1, o2, u2⟩ ⟨hi0, by show o2 = o1 + q; omega, hi1, hi2, hf1, hi3, hv⟩)
              · exact lwid_other hp hc hq hq0 hq1 hw hpp hf hi hne hb.1 hb.2.1 hb.2.2.1 w hr
          · exact lwid_form hp hc hq hq0 hq1 hw hpp rfl hf hb.1 hb.2.1 hb.2.2.1 w hr
    · exact lwid_err hp rfl hc hb.1 hb.2.1 hb.2.2.1 w hr
end Go.Proofs.Ytnjbhidncicfiaa
