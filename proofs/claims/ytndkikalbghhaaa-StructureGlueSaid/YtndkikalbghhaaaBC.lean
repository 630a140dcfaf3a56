/- Hinges, in the code and in the reference. -/
import Derived.Test.YtndkikalbghhaaaBB
namespace Go.Proofs.Ytndkikalbghhaaa
open Go.RowKit

def hinE (g wd ap : Int) : Int := firstE [rngE 1 200000 [g], rngE 1 3000 [wd, ap]]
theorem hinE_ok {g wd ap : Int} : hinE g wd ap = 0 ↔ (1 ≤ g ∧ g ≤ 200000) ∧ (1 ≤ wd ∧ wd ≤ 3000) ∧ (1 ≤ ap ∧ ap ≤ 3000) := by
  unfold hinE
  rw [firstE_ok]
  simp only [List.mem_cons, List.not_mem_nil, or_false, forall_eq_or_imp, forall_eq, rngE_ok]
theorem hinE_wi (g wd ap : Int) : hinE g wd ap = bif wiB g 1 200000 && (wiB wd 1 3000 && wiB ap 1 3000) then 0 else 2 := by
  unfold hinE
  rw [rng_wi, two_wi]
  cases wiB g 1 200000 <;> cases wiB wd 1 3000 <;> cases wiB ap 1 3000 <;> rfl
theorem hin_bd {g wd ap : Int} (h : hinE g wd ap = 0) : 0 < 200000 * ap ∧ 200000 * ap ≤ 600000000 ∧ (g * 981 * wd).natAbs ≤ 600000000000 := by
  obtain ⟨⟨a, b⟩, ⟨c, d⟩, e, f⟩ := hinE_ok.1 h
  have E1 : Ev g g 200000 := .of (by omega)
  have E2 : Ev wd wd 3000 := .of (by omega)
  exact ⟨by omega, by omega, ev_bd (Ev.mul (Ev.mul E1 (.lit 981)) E2) (by decide +kernel)⟩
set_option maxHeartbeats 4000000 in
set_option maxRecDepth 20000 in
theorem hinge_any (g wd ap : Int) (w : World) : Calls Try.prog 84 #[.int .i64 g, .int .i64 wd, .int .i64 ap] w
    fun e w' => e = .returned (fr1 (hinE g wd ap) (g * 981 * wd) (200000 * ap)) ∧ Below w.heap.size w w' := by
  have HE : Hid (hinE g wd ap = firstE [rngE 1 200000 [g], rngE 1 3000 [wd, ap]]) := Lib.hid rfl
  have C1 := fun wx b (h : IntRow wx (some ⟨b, 0, none⟩) 1 [g]) => Lib.hid (checkRange_any (c := 1) (lo := 1) (hi := 200000) wx h (by decide))
  have C2 := fun wx b (h : IntRow wx (some ⟨b, 0, none⟩) 2 [wd, ap]) => Lib.hid (checkRange_any (c := 2) (lo := 1) (hi := 3000) wx h (by decide))
  have HBD := Lib.hid (hin_bd (g := g) (wd := wd) (ap := ap))
  have HOK := Lib.hid (fun h => (hinE_ok (g := g) (wd := wd) (ap := ap)).1 h)
  generalize hinE g wd ap = ee at *
  generalize rngE 1 200000 [g] = e1 at *
  generalize rngE 1 3000 [wd, ap] = e2 at *
  have C4 := fun wx b (h : IntRow wx (some ⟨b, 0, none⟩) 2 [e1, e2]) => Lib.hid (firstError_any (c := 2) wx h (by decide))
  rw [← HE.out] at C4
  clear HE
  go_enter Try.func84, Try.ntmps84
  go_upto_region 1 with fail
  obtain ⟨w0, hw0⟩ : ∃ w0, (w.alloc (.cells #[.int .i64 0, .int .i64 0] 30)) = w0 := ⟨_, rfl⟩
  have HB0 : Hid (Below w.heap.size w w0) := Lib.hid (by rw [← hw0]; exact ((Below.refl _ _).alloc (Nat.le_refl _) _))
  have HC := Lib.hid (fun wx (hb : Below w0.heap.size w0 wx) => (show wx.cell? ⟨w.heap.size, 0, none⟩ = some (.int .i64 0) ∧ wx.cell? ⟨w.heap.size, 1, none⟩ = some (.int .i64 0) ∧ wx.frozen? ⟨w.heap.size, 0, none⟩ = false ∧ wx.frozen? ⟨w.heap.size, 1, none⟩ = false from by
    subst hw0
    obtain ⟨k, kf⟩ := bcell hb
    exact ⟨(k _ _ (by simp; try omega)).trans (by simp [go_sem]), (k _ _ (by simp; try omega)).trans (by simp [go_sem]), (kf _ _ (by simp; try omega)).trans (by simp [go_sem]), (kf _ _ (by simp; try omega)).trans (by simp [go_sem])⟩))
  rw [hw0]
  clear hw0
  have A1 := Lib.hid (show IntRow (w0.alloc (.cells #[.int .i64 g] 3)) (some ⟨w0.heap.size, 0, none⟩) 1 [g] from intRow_new w0 [g] 3 _ rfl (n := 1) rfl)
  have A2 := Lib.hid (show IntRow ((w0.alloc (.cells #[.int .i64 g] 3)).alloc (.cells #[.int .i64 wd, .int .i64 ap] 3)) (some ⟨w0.heap.size + 1, 0, none⟩) 2 [wd, ap] from (by have := intRow_new (w0.alloc (.cells #[.int .i64 g] 3)) [wd, ap] 3 _ rfl (n := 2) rfl; simpa using this))
  have A3 := Lib.hid (show IntRow (((w0.alloc (.cells #[.int .i64 g] 3)).alloc (.cells #[.int .i64 wd, .int .i64 ap] 3)).alloc (.cells #[.int .i64 e1, .int .i64 e2] 31)) (some ⟨w0.heap.size + 2, 0, none⟩) 2 [e1, e2] from (by have := intRow_new ((w0.alloc (.cells #[.int .i64 g] 3)).alloc (.cells #[.int .i64 wd, .int .i64 ap] 3)) [e1, e2] 31 _ rfl (n := 2) rfl; simpa using this))
  go_upto_region 2 with (first | (go_at_call 96; (with_reducible refine Calls.mono (C1 _ _ A1.out).out ?_); rintro e w1 ⟨rfl, rfl⟩) | (go_at_call 96; (with_reducible refine Calls.mono (C2 _ _ A2.out).out ?_); rintro e w1 ⟨rfl, rfl⟩) | (go_at_call 95; (with_reducible refine Calls.mono (C4 _ _ A3.out).out ?_); rintro e w1 ⟨rfl, rfl⟩) | fail)
  obtain ⟨w5, hw5⟩ : ∃ w5, (((w0.alloc (.cells #[.int .i64 g] 3)).alloc (.cells #[.int .i64 wd, .int .i64 ap] 3)).alloc (.cells #[.int .i64 e1, .int .i64 e2] 31)) = w5 := ⟨_, rfl⟩
  have hb5 : Below w0.heap.size w0 w5 := by rw [← hw5]; exact ((((Below.refl _ _).alloc (Nat.le_refl _) _).alloc (by simp; try omega) _).alloc (by simp; try omega) _)
  rw [hw5]
  clear hw5 A1 A2 A3 C1 C2 C4
  obtain ⟨c0, c1, z0_0, z0_1⟩ := HC.out w5 hb5
  have HBX := Lib.hid (HB0.out.trans (hb5.mono HB0.out.size))
  have HB5 := Lib.hid hb5
  clear hb5
  by_cases he : ee = 0
  · subst he
    have bd := HBD.out rfl
    obtain ⟨⟨a, b⟩, ⟨c, d⟩, e, f⟩ := HOK.out rfl
    have AD := Lib.hid (fun wx A n c zs (hr : IntRow wx A n zs) (hn : n ≤ 1000) (hs : sumL id zs = g * 981 * wd) => added_any (c := c) (d := 200000 * ap) wx hr (by unfold maxLen; omega) (by omega) (by omega) hs (by omega))
    have E1 : Ev g g 200000 := .of (by omega)
    have E2 : Ev wd wd 3000 := .of (by omega)
    have E3 : Ev ap ap 3000 := .of (by omega)
    have q1 : IntKind.i64.wrap (200000 * ap) = 200000 * ap := i64w (by (apply Ev.e; repeat' (first | with_reducible assumption | with_reducible apply Ev.wrap | with_reducible apply Ev.mul | with_reducible apply Ev.add | with_reducible apply Ev.sub | with_reducible apply Ev.neg | exact Ev.lit _ | (decide +kernel))))
    have q2 : IntKind.i64.wrap (g * 981) = g * 981 := i64w (by (apply Ev.e; repeat' (first | with_reducible assumption | with_reducible apply Ev.wrap | with_reducible apply Ev.mul | with_reducible apply Ev.add | with_reducible apply Ev.sub | with_reducible apply Ev.neg | exact Ev.lit _ | (decide +kernel))))
    have q3 : IntKind.i64.wrap (g * 981 * wd) = g * 981 * wd := i64w (by (apply Ev.e; repeat' (first | with_reducible assumption | with_reducible apply Ev.wrap | with_reducible apply Ev.mul | with_reducible apply Ev.add | with_reducible apply Ev.sub | with_reducible apply Ev.neg | exact Ev.lit _ | (decide +kernel))))
    clear E1 E2 E3 bd HBD HOK a b c d e f
    generalize hnu : g * 981 * wd = nu at *
    generalize hdd : 200000 * ap = dd at *
    have HFR : Hid (Ending.returned (.tuple #[.agg #[.int .i64 (lowN nu dd), .int .i64 (lowD nu dd)], .int .i64 0]) = Ending.returned (fr1 0 (g * 981 * wd) (200000 * ap))) := Lib.hid (by rw [hnu, hdd]; show _ = Ending.returned (fr1 0 nu dd); rw [fr1_ok]; rfl)
    unfold frV at AD
    generalize lowN nu dd = nn at *
    generalize lowD nu dd = de at *
    go_wp2_with (go_at_call 92; (refine Calls.mono (AD.out _ _ _ _ [nu] (intRow_new _ _ _ _ rfl rfl) (by decide) (by simp [sumL])) ?_); rintro e w4 ⟨rfl, hb4⟩; have HW4 := Lib.hid ((HB5.out.alloc HB5.out.size (.cells #[.int .i64 nu] 3)).trans (hb4.mono (by have := HB5.out.size; simp; omega))); have HB4 := Lib.hid ((HBX.out.alloc HBX.out.size (.cells #[.int .i64 nu] 3)).trans (hb4.mono (by have := HBX.out.size; simp; omega))); obtain ⟨e0, e1, y0_0, y0_1⟩ := HC.out w4 HW4.out)
    refine bodyPost_ret (v := .tuple #[.agg #[.int .i64 nn, .int .i64 de], .int .i64 0]) (by simp [results, Try.results84, go_sem, e0, e1]) rfl ⟨HFR.out, ?_⟩
    exact (HB4.out.setCell (p := ⟨w.heap.size, 0, none⟩) (by simp) _).setCell (p := ⟨w.heap.size, 1, none⟩) (by simp) _
  · have e1' : (ee == 0) = false := by simpa using he
    have e2' : (ee != 0) = true := by simpa using he
    go_wp2
    refine bodyPost_ret (v := .tuple #[.agg #[.int .i64 0, .int .i64 0], .int .i64 ee]) (by simp [results, Try.results84, go_sem, c0, c1]) rfl ⟨by rw [fr1_bad he], ?_⟩
    exact (HBX.out.setCell (p := ⟨w.heap.size, 0, none⟩) (by simp) _).setCell (p := ⟨w.heap.size, 1, none⟩) (by simp) _
set_option maxHeartbeats 4000000 in
set_option maxRecDepth 20000 in
theorem rhinge_any (g wd ap : Int) (w : World) : Calls Try.prog 85 #[.int .i64 g, .int .i64 wd, .int .i64 ap] w
    fun e w' => e = .returned (fr1 (hinE g wd ap) (g * 981 * wd) (200000 * ap)) ∧ Below w.heap.size w w' := by
  have HBD := Lib.hid (hin_bd (g := g) (wd := wd) (ap := ap))
  have HOK := Lib.hid (fun h => (hinE_ok (g := g) (wd := wd) (ap := ap)).1 h)
  rw [hinE_wi] at HBD HOK ⊢
  have W1 := fun wx => Lib.hid (within_any g 1 200000 wx)
  have W2 := fun wx => Lib.hid (within_any wd 1 3000 wx)
  have W3 := fun wx => Lib.hid (within_any ap 1 3000 wx)
  generalize wiB g 1 200000 = v1 at *
  generalize wiB wd 1 3000 = v2 at *
  generalize wiB ap 1 3000 = v3 at *
  go_enter Try.func85, Try.ntmps85
  go_upto_region 1 with fail
  obtain ⟨w0, hw0⟩ : ∃ w0, (w.alloc (.cells #[.int .i64 0, .int .i64 0] 30)) = w0 := ⟨_, rfl⟩
  have HB0 : Hid (Below w.heap.size w w0) := Lib.hid (by rw [← hw0]; exact ((Below.refl _ _).alloc (Nat.le_refl _) _))
  have HC := Lib.hid (fun wx (hb : Below w0.heap.size w0 wx) => (show wx.cell? ⟨w.heap.size, 0, none⟩ = some (.int .i64 0) ∧ wx.cell? ⟨w.heap.size, 1, none⟩ = some (.int .i64 0) ∧ wx.frozen? ⟨w.heap.size, 0, none⟩ = false ∧ wx.frozen? ⟨w.heap.size, 1, none⟩ = false from by
    subst hw0
    obtain ⟨k, kf⟩ := bcell hb
    exact ⟨(k _ _ (by simp; try omega)).trans (by simp [go_sem]), (k _ _ (by simp; try omega)).trans (by simp [go_sem]), (kf _ _ (by simp; try omega)).trans (by simp [go_sem]), (kf _ _ (by simp; try omega)).trans (by simp [go_sem])⟩))
  rw [hw0]
  clear hw0
  obtain ⟨c0, c1, z0_0, z0_1⟩ := HC.out w0 (Below.refl _ _)
  cases v1 <;> cases v2 <;> cases v3
  case true.true.true =>
    have bd := HBD.out rfl
    obtain ⟨⟨a, b⟩, ⟨c, d⟩, e, f⟩ := HOK.out rfl
    have LO := fun wx => Lib.hid (lowest_any (n := g * 981 * wd) (d := 200000 * ap) (by omega) (by omega) (by omega) wx)
    have E1 : Ev g g 200000 := .of (by omega)
    have E2 : Ev wd wd 3000 := .of (by omega)
    have E3 : Ev ap ap 3000 := .of (by omega)
    have q1 : IntKind.i64.wrap (200000 * ap) = 200000 * ap := i64w (by (apply Ev.e; repeat' (first | with_reducible assumption | with_reducible apply Ev.wrap | with_reducible apply Ev.mul | with_reducible apply Ev.add | with_reducible apply Ev.sub | with_reducible apply Ev.neg | exact Ev.lit _ | (decide +kernel))))
    have q2 : IntKind.i64.wrap (g * 981) = g * 981 := i64w (by (apply Ev.e; repeat' (first | with_reducible assumption | with_reducible apply Ev.wrap | with_reducible apply Ev.mul | with_reducible apply Ev.add | with_reducible apply Ev.sub | with_reducible apply Ev.neg | exact Ev.lit _ | (decide +kernel))))
    have q3 : IntKind.i64.wrap (g * 981 * wd) = g * 981 * wd := i64w (by (apply Ev.e; repeat' (first | with_reducible assumption | with_reducible apply Ev.wrap | with_reducible apply Ev.mul | with_reducible apply Ev.add | with_reducible apply Ev.sub | with_reducible apply Ev.neg | exact Ev.lit _ | (decide +kernel))))
    clear E1 E2 E3 bd HBD HOK a b c d e f
    generalize hnu : g * 981 * wd = nu at *
    generalize hdd : 200000 * ap = dd at *
    have HFR : Hid (Ending.returned (.tuple #[.agg #[.int .i64 (lowN nu dd), .int .i64 (lowD nu dd)], .int .i64 0]) = Ending.returned (fr1 (bif true && (true && true) then 0 else 2) (g * 981 * wd) (200000 * ap))) := Lib.hid (by rw [hnu, hdd]; show _ = Ending.returned (fr1 0 nu dd); rw [fr1_ok]; rfl)
    unfold frV at LO
    generalize lowN nu dd = nn at *
    generalize lowD nu dd = de at *
    go_wp2_with (first | (go_at_call 32; (with_reducible refine Calls.mono (W1 _).out ?_); rintro e w9 ⟨rfl, rfl⟩) | (go_at_call 32; (with_reducible refine Calls.mono (W2 _).out ?_); rintro e w9 ⟨rfl, rfl⟩) | (go_at_call 32; (with_reducible refine Calls.mono (W3 _).out ?_); rintro e w9 ⟨rfl, rfl⟩) | (go_at_call 89; (refine Calls.mono (LO _).out ?_); rintro e w4 ⟨rfl, hb4⟩; obtain ⟨e0, e1, y0_0, y0_1⟩ := HC.out w4 hb4; have HB4 := Lib.hid (HB0.out.trans (hb4.mono HB0.out.size))) | fail)
    refine bodyPost_ret (v := .tuple #[.agg #[.int .i64 nn, .int .i64 de], .int .i64 0]) (by simp [results, Try.results85, go_sem, e0, e1]) rfl ⟨HFR.out, ?_⟩
    exact (HB4.out.setCell (p := ⟨w.heap.size, 0, none⟩) (by simp) _).setCell (p := ⟨w.heap.size, 1, none⟩) (by simp) _
  all_goals
    go_wp2_with (first | (go_at_call 32; (with_reducible refine Calls.mono (W1 _).out ?_); rintro e w9 ⟨rfl, rfl⟩) | (go_at_call 32; (with_reducible refine Calls.mono (W2 _).out ?_); rintro e w9 ⟨rfl, rfl⟩) | (go_at_call 32; (with_reducible refine Calls.mono (W3 _).out ?_); rintro e w9 ⟨rfl, rfl⟩) | fail)
    refine bodyPost_ret (v := .tuple #[.agg #[.int .i64 0, .int .i64 0], .int .i64 2]) (by simp [results, Try.results85, go_sem, c0, c1]) rfl ⟨rfl, ?_⟩
    exact (HB0.out.setCell (p := ⟨w.heap.size, 0, none⟩) (by simp) _).setCell (p := ⟨w.heap.size, 1, none⟩) (by simp) _
end Go.Proofs.Ytndkikalbghhaaa
