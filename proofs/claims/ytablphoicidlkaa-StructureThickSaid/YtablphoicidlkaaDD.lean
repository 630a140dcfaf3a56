/- Walks over beams: the greatest moment, the greatest sag. -/
import Derived.Test.YtablphoicidlkaaSP
namespace Go.Proofs.Ytablphoicidlkaa
open Go.RowKit

/-- What a function hands back that checks first: a place and a fraction, or the error beside nothing. -/
def fr2 (e p n d : Int) : Value := bif e == 0 then .tuple #[.int .i64 p, frV n d, .int .i64 0] else .tuple #[.int .i64 0, .agg #[.int .i64 0, .int .i64 0], .int .i64 e]
theorem fr2_ok {p n d : Int} : fr2 0 p n d = .tuple #[.int .i64 p, frV n d, .int .i64 0] := rfl
theorem fr2_bad {e p n d : Int} (h : e ≠ 0) : fr2 e p n d = .tuple #[.int .i64 0, .agg #[.int .i64 0, .int .i64 0], .int .i64 e] := by
  unfold fr2
  rw [show (e == 0) = false from by simpa using h]; rfl
def gsE (b : Bm) (l : List Pt) (S E : Int) : Int := firstE [burE b l S, rngE 1 30000 [E]]
theorem gsE_ok {b : Bm} {l : List Pt} {S E : Int} : gsE b l S E = 0 ↔ (BmOk b ∧ WtOk b.s l S) ∧ (1 ≤ E ∧ E ≤ 30000) := by
  unfold gsE
  rw [firstE_ok]
  simp only [List.mem_cons, List.not_mem_nil, or_false, forall_eq_or_imp, forall_eq, burE_ok, rngE_ok]
theorem gS_bd {b : Bm} {l : List Pt} {S : Int} (hb : BmOk b) (hl : WtOk b.s l S) : (gS b l S).1 ≤ b.s.toNat + 1 ∧ (gS b l S).2.natAbs ≤ 9000000000000000000 := by
  have := grP_bd (g := fun k : Nat => sag b l S k) (B := 9000000000000000000) (N := b.s.toNat + 1) (fun k hk => sag_bd hb hl (by omega) (by have := hb.s0; omega)) (n := b.s.toNat + 1) (Nat.le_refl _)
  exact this
set_option maxHeartbeats 4000000 in
set_option maxRecDepth 20000 in
theorem greatestMomentF_any {b : Bm} {A : Option Addr} {n c : Nat} {S : Int} {l : List Pt} (w : World) (h : PtRow w A n l) (hn : n ≤ maxLen) :
    Calls Try.prog 35 #[bmV b, buV A n c S] w fun e w' => e = .returned (fr2 (burE b l S) (gM b l S).1 (gM b l S).2 (2 * b.s)) ∧ Below w.heap.size w w' := by
  have CB := Lib.hid (fun wx (hx : Below w.heap.size w wx) => checkBurden_any (b := b) (c := c) (S := S) wx (h.below hx) hn)
  have GS := Lib.hid (fun (he : burE b l S = 0) wx (hx : Below w.heap.size w wx) => let h' := burE_ok.1 he; greatestMoment_any (c := c) h'.1 h'.2 wx (h.below hx))
  have SP := Lib.hid (fun (he : burE b l S = 0) wx => let h' := burE_ok.1 he; parts_any b h'.1 wx)
  have BD := Lib.hid (fun (he : burE b l S = 0) => let h' := burE_ok.1 he; And.intro (Nat.le_trans (gM_bd h'.1 h'.2).2 (by decide : (10000000000000000 : Nat) ≤ 9000000000000000000)) (show 0 < 2 * b.s ∧ 2 * b.s ≤ 4000000000000000000 from by have := h'.1.s0; have := h'.1.s1; omega))
  clear h hn
  obtain ⟨pp, hpp⟩ : ∃ x, (gM b l S).1 = x := ⟨_, rfl⟩
  obtain ⟨nu, hnu⟩ : ∃ x, (gM b l S).2 = x := ⟨_, rfl⟩
  rw [hpp, hnu] at GS ⊢
  rw [hnu] at BD
  clear hpp hnu
  generalize 2 * b.s = dd at *
  obtain ⟨s, ww, t, en⟩ := b
  unfold bmV buV at *
  simp only at CB GS SP ⊢
  generalize burE ⟨s, ww, t, en⟩ l S = ee at *
  go_enter Try.func35, Try.ntmps35
  go_upto_region 1 with fail
  obtain ⟨w0, hw0⟩ : ∃ w0, (((w.alloc (.cells #[.int .i64 s, .int .i64 ww, .int .i64 t, .int .i64 en] 23)).alloc (.cells #[.slice A n c, .int .i64 S] 26)).alloc (.cells #[.int .i64 0, .int .i64 0] 30)) = w0 := ⟨_, rfl⟩
  have HB0 : Hid (Below w.heap.size w w0) := Lib.hid (by rw [← hw0]; exact ((((Below.refl _ _).alloc (Nat.le_refl _) _).alloc (by simp; try omega) _).alloc (by simp; try omega) _))
  have HC := Lib.hid (fun wx (hb : Below w0.heap.size w0 wx) => (show wx.cell? ⟨w.heap.size, 0, none⟩ = some (.int .i64 s) ∧ wx.cell? ⟨w.heap.size, 1, none⟩ = some (.int .i64 ww) ∧ wx.cell? ⟨w.heap.size, 2, none⟩ = some (.int .i64 t) ∧ wx.cell? ⟨w.heap.size, 3, none⟩ = some (.int .i64 en) ∧ wx.cell? ⟨w.heap.size + 1, 0, none⟩ = some (.slice A n c) ∧ wx.cell? ⟨w.heap.size + 1, 1, none⟩ = some (.int .i64 S) ∧ wx.cell? ⟨w.heap.size + 2, 0, none⟩ = some (.int .i64 0) ∧ wx.cell? ⟨w.heap.size + 2, 1, none⟩ = some (.int .i64 0) ∧ wx.frozen? ⟨w.heap.size + 2, 0, none⟩ = false ∧ wx.frozen? ⟨w.heap.size + 2, 1, none⟩ = false from by
    subst hw0
    obtain ⟨k, kf⟩ := bcell hb
    exact ⟨(k _ _ (by simp; try omega)).trans (by simp [go_sem]), (k _ _ (by simp; try omega)).trans (by simp [go_sem]), (k _ _ (by simp; try omega)).trans (by simp [go_sem]), (k _ _ (by simp; try omega)).trans (by simp [go_sem]), (k _ _ (by simp; try omega)).trans (by simp [go_sem]), (k _ _ (by simp; try omega)).trans (by simp [go_sem]), (k _ _ (by simp; try omega)).trans (by simp [go_sem]), (k _ _ (by simp; try omega)).trans (by simp [go_sem]), (kf _ _ (by simp; try omega)).trans (by simp [go_sem]), (kf _ _ (by simp; try omega)).trans (by simp [go_sem])⟩))
  rw [hw0]
  clear hw0
  have HZ0 := Lib.hid (Below.refl w0.heap.size w0)
  obtain ⟨c0, c1, c2, c3, c4, c5, c6, c7, z2_0, z2_1⟩ := HC.out w0 HZ0.out
  go_upto_region 2 with (first | (go_at_call 26; (with_reducible refine Calls.mono (CB.out _ HB0.out) ?_); rintro e w5 ⟨rfl, hb5⟩) | fail)
  have HB5 := Lib.hid hb5
  clear hb5
  have HBX := Lib.hid (HB0.out.trans (HB5.out.mono HB0.out.size))
  clear c0 c1 c2 c3 c4 c5 c6 c7 z2_0 z2_1
  by_cases he : ee = 0
  · subst he
    have GS2 := Lib.hid (GS.out rfl _ HBX.out)
    have SP2 := fun wx => Lib.hid (SP.out rfl wx)
    obtain ⟨b1, b2, b3⟩ := BD.out rfl
    have AD := Lib.hid (fun wx A n c zs (hr : IntRow wx A n zs) (hn : n ≤ 1000) (hs : sumL id zs = nu) => added_any (c := c) (d := dd) wx hr (by unfold maxLen; omega) b2 (by omega) hs (by omega))
    have HN : Hid (frV nu dd = .agg #[.int .i64 (lowN nu dd), .int .i64 (lowD nu dd)]) := Lib.hid rfl
    unfold frV at AD
    generalize lowN nu dd = nn at *
    generalize lowD nu dd = de at *
    clear GS SP BD b1 b2 b3
    obtain ⟨c0, c1, c2, c3, c4, c5, c6, c7, z2_0, z2_1⟩ := HC.out w5 HB5.out
    go_upto_region 5 with (first | (go_at_call 102; (with_reducible refine Calls.mono GS2.out ?_); rintro e w2 ⟨rfl, hb2⟩; have H2 := Lib.hid (HB5.out.trans (hb2.mono HB5.out.size)); clear hb2) | fail)
    clear c0 c1 c2 c3 c4 c5 c6 c7 z2_0 z2_1
    obtain ⟨c0, c1, c2, c3, c4, c5, c6, c7, z2_0, z2_1⟩ := HC.out w2 H2.out
    go_wp2_with (first | (go_at_call 93; (with_reducible refine Calls.mono (SP2 _).out ?_); rintro e w3 ⟨rfl, hb3⟩; have H3 := Lib.hid (H2.out.trans (hb3.mono H2.out.size)); clear hb3) | (go_at_call 92; (with_reducible refine Calls.mono (AD.out _ _ _ _ [nu] (intRow_new _ _ _ _ rfl rfl) (by decide) (by simp [sumL])) ?_); rintro e w4 ⟨rfl, hb4⟩; have H4 := Lib.hid ((H3.out.alloc H3.out.size (.cells #[.int .i64 nu] 3)).trans (hb4.mono (by have := H3.out.size; simp; omega))); clear hb4; obtain ⟨d0, d1, d2, d3, d4, d5, d6, d7, y2_0, y2_1⟩ := HC.out w4 H4.out) | fail)
    refine bodyPost_ret (v := .tuple #[.int .i64 (pp : Int), .agg #[.int .i64 nn, .int .i64 de], .int .i64 0]) (by simp [results, Try.results35, go_sem, d6, d7]) rfl ⟨by rw [fr2_ok, HN.out], ?_⟩
    exact ((HB0.out.trans (H4.out.mono HB0.out.size)).setCell (p := ⟨w.heap.size + 2, 0, none⟩) (by simp) _).setCell (p := ⟨w.heap.size + 2, 1, none⟩) (by simp) _
  · have e1' : (ee == 0) = false := by simpa using he
    have e2' : (ee != 0) = true := by simpa using he
    obtain ⟨c0, c1, c2, c3, c4, c5, c6, c7, z2_0, z2_1⟩ := HC.out w5 HB5.out
    go_wp2
    refine bodyPost_ret (v := .tuple #[.int .i64 0, .agg #[.int .i64 0, .int .i64 0], .int .i64 ee]) (by simp [results, Try.results35, go_sem, c6, c7]) rfl ⟨by rw [fr2_bad he], ?_⟩
    exact (HBX.out.setCell (p := ⟨w.heap.size + 2, 0, none⟩) (by simp) _).setCell (p := ⟨w.heap.size + 2, 1, none⟩) (by simp) _
set_option maxHeartbeats 4000000 in
set_option maxRecDepth 20000 in
theorem greatestSagF_any {b : Bm} {A : Option Addr} {n c : Nat} {S E : Int} {l : List Pt} (w : World) (h : PtRow w A n l) (hn : n ≤ maxLen) :
    Calls Try.prog 40 #[bmV b, .int .i64 E, buV A n c S] w fun e w' => e = .returned (fr2 (gsE b l S E) (gS b l S).1 (gS b l S).2 (sgD b E)) ∧ Below w.heap.size w w' := by
  have CB := Lib.hid (fun wx (hx : Below w.heap.size w wx) => checkBurden_any (b := b) (c := c) (S := S) wx (h.below hx) hn)
  have C1 := fun wx b (h : IntRow wx (some ⟨b, 0, none⟩) 1 [E]) => Lib.hid (checkRange_any (c := 1) (lo := 1) (hi := 30000) wx h (by decide))
  have GS := Lib.hid (fun (he : gsE b l S E = 0) wx (hx : Below w.heap.size w wx) => let h' := gsE_ok.1 he; greatestSag_any (c := c) h'.1.1 h'.1.2 wx (h.below hx))
  have SP := Lib.hid (fun (he : gsE b l S E = 0) wx => let h' := gsE_ok.1 he; sagParts_any (b := b) h'.1.1 h'.2.1 h'.2.2 wx)
  have BD := Lib.hid (fun (he : gsE b l S E = 0) => let h' := gsE_ok.1 he; And.intro (gS_bd h'.1.1 h'.1.2).2 (sgD_bd h'.1.1 h'.2.1 h'.2.2))
  have HE : Hid (gsE b l S E = firstE [burE b l S, rngE 1 30000 [E]]) := Lib.hid rfl
  clear h hn
  obtain ⟨pp, hpp⟩ : ∃ x, (gS b l S).1 = x := ⟨_, rfl⟩
  obtain ⟨nu, hnu⟩ : ∃ x, (gS b l S).2 = x := ⟨_, rfl⟩
  rw [hpp, hnu] at GS ⊢
  rw [hnu] at BD
  clear hpp hnu
  generalize sgD b E = dd at *
  obtain ⟨s, ww, t, en⟩ := b
  unfold bmV buV at *
  simp only at CB GS SP ⊢
  generalize gsE ⟨s, ww, t, en⟩ l S E = ee at *
  generalize burE ⟨s, ww, t, en⟩ l S = e1 at *
  generalize rngE 1 30000 [E] = e2 at *
  have C3 := fun wx b (h : IntRow wx (some ⟨b, 0, none⟩) 2 [e1, e2]) => Lib.hid (firstError_any (c := 2) wx h (by decide))
  rw [← HE.out] at C3
  clear HE
  go_enter Try.func40, Try.ntmps40
  go_upto_region 1 with fail
  obtain ⟨w0, hw0⟩ : ∃ w0, (((w.alloc (.cells #[.int .i64 s, .int .i64 ww, .int .i64 t, .int .i64 en] 23)).alloc (.cells #[.slice A n c, .int .i64 S] 26)).alloc (.cells #[.int .i64 0, .int .i64 0] 30)) = w0 := ⟨_, rfl⟩
  have HB0 : Hid (Below w.heap.size w w0) := Lib.hid (by rw [← hw0]; exact ((((Below.refl _ _).alloc (Nat.le_refl _) _).alloc (by simp; try omega) _).alloc (by simp; try omega) _))
  have HC := Lib.hid (fun wx (hb : Below w0.heap.size w0 wx) => (show wx.cell? ⟨w.heap.size, 0, none⟩ = some (.int .i64 s) ∧ wx.cell? ⟨w.heap.size, 1, none⟩ = some (.int .i64 ww) ∧ wx.cell? ⟨w.heap.size, 2, none⟩ = some (.int .i64 t) ∧ wx.cell? ⟨w.heap.size, 3, none⟩ = some (.int .i64 en) ∧ wx.cell? ⟨w.heap.size + 1, 0, none⟩ = some (.slice A n c) ∧ wx.cell? ⟨w.heap.size + 1, 1, none⟩ = some (.int .i64 S) ∧ wx.cell? ⟨w.heap.size + 2, 0, none⟩ = some (.int .i64 0) ∧ wx.cell? ⟨w.heap.size + 2, 1, none⟩ = some (.int .i64 0) ∧ wx.frozen? ⟨w.heap.size + 2, 0, none⟩ = false ∧ wx.frozen? ⟨w.heap.size + 2, 1, none⟩ = false from by
    subst hw0
    obtain ⟨k, kf⟩ := bcell hb
    exact ⟨(k _ _ (by simp; try omega)).trans (by simp [go_sem]), (k _ _ (by simp; try omega)).trans (by simp [go_sem]), (k _ _ (by simp; try omega)).trans (by simp [go_sem]), (k _ _ (by simp; try omega)).trans (by simp [go_sem]), (k _ _ (by simp; try omega)).trans (by simp [go_sem]), (k _ _ (by simp; try omega)).trans (by simp [go_sem]), (k _ _ (by simp; try omega)).trans (by simp [go_sem]), (k _ _ (by simp; try omega)).trans (by simp [go_sem]), (kf _ _ (by simp; try omega)).trans (by simp [go_sem]), (kf _ _ (by simp; try omega)).trans (by simp [go_sem])⟩))
  rw [hw0]
  clear hw0
  have HZ0 := Lib.hid (Below.refl w0.heap.size w0)
  obtain ⟨c0, c1, c2, c3, c4, c5, c6, c7, z2_0, z2_1⟩ := HC.out w0 HZ0.out
  go_upto_region 2 with (first | (go_at_call 26; (with_reducible refine Calls.mono (CB.out _ HB0.out) ?_); rintro e w1 ⟨rfl, hb1⟩; have R1 := Lib.hid (show IntRow (w1.alloc (.cells #[.int .i64 E] 3)) (some ⟨w1.heap.size, 0, none⟩) 1 [E] from intRow_new w1 [E] 3 _ rfl (n := 1) rfl); have R2 := Lib.hid (show IntRow ((w1.alloc (.cells #[.int .i64 E] 3)).alloc (.cells #[.int .i64 e1, .int .i64 e2] 31)) (some ⟨w1.heap.size + 1, 0, none⟩) 2 [e1, e2] from (by have := intRow_new (w1.alloc (.cells #[.int .i64 E] 3)) [e1, e2] 31 _ rfl (n := 2) rfl; simpa using this))) | (go_at_call 96; (with_reducible refine Calls.mono (C1 _ _ R1.out).out ?_); rintro e w2 ⟨rfl, rfl⟩) | (go_at_call 95; (with_reducible refine Calls.mono (C3 _ _ R2.out).out ?_); rintro e w3 ⟨rfl, rfl⟩) | fail)
  obtain ⟨w5, hw5⟩ : ∃ w5, ((w1.alloc (.cells #[.int .i64 E] 3)).alloc (.cells #[.int .i64 e1, .int .i64 e2] 31)) = w5 := ⟨_, rfl⟩
  have HB5 : Hid (Below w0.heap.size w0 w5) := Lib.hid (by rw [← hw5]; exact (hb1.alloc hb1.size _).alloc (by have := hb1.size; simp; omega) _)
  rw [hw5]
  clear hw5 hb1 R1 R2
  have HBX := Lib.hid (HB0.out.trans (HB5.out.mono HB0.out.size))
  clear c0 c1 c2 c3 c4 c5 c6 c7 z2_0 z2_1
  by_cases he : ee = 0
  · subst he
    have GS2 := Lib.hid (GS.out rfl _ HBX.out)
    have SP2 := fun wx => Lib.hid (SP.out rfl wx)
    obtain ⟨b1, b2, b3⟩ := BD.out rfl
    have AD := Lib.hid (fun wx A n c zs (hr : IntRow wx A n zs) (hn : n ≤ 1000) (hs : sumL id zs = nu) => added_any (c := c) (d := dd) wx hr (by unfold maxLen; omega) b2 (by omega) hs (by omega))
    have HN : Hid (frV nu dd = .agg #[.int .i64 (lowN nu dd), .int .i64 (lowD nu dd)]) := Lib.hid rfl
    unfold frV at AD
    generalize lowN nu dd = nn at *
    generalize lowD nu dd = de at *
    clear GS SP BD b1 b2 b3
    obtain ⟨c0, c1, c2, c3, c4, c5, c6, c7, z2_0, z2_1⟩ := HC.out w5 HB5.out
    go_upto_region 5 with (first | (go_at_call 106; (with_reducible refine Calls.mono GS2.out ?_); rintro e w2 ⟨rfl, hb2⟩; have H2 := Lib.hid (HB5.out.trans (hb2.mono HB5.out.size)); clear hb2) | fail)
    clear c0 c1 c2 c3 c4 c5 c6 c7 z2_0 z2_1
    obtain ⟨c0, c1, c2, c3, c4, c5, c6, c7, z2_0, z2_1⟩ := HC.out w2 H2.out
    go_wp2_with (first | (go_at_call 107; (with_reducible refine Calls.mono (SP2 _).out ?_); rintro e w3 ⟨rfl, hb3⟩; have H3 := Lib.hid (H2.out.trans (hb3.mono H2.out.size)); clear hb3) | (go_at_call 92; (with_reducible refine Calls.mono (AD.out _ _ _ _ [nu] (intRow_new _ _ _ _ rfl rfl) (by decide) (by simp [sumL])) ?_); rintro e w4 ⟨rfl, hb4⟩; have H4 := Lib.hid ((H3.out.alloc H3.out.size (.cells #[.int .i64 nu] 3)).trans (hb4.mono (by have := H3.out.size; simp; omega))); clear hb4; obtain ⟨d0, d1, d2, d3, d4, d5, d6, d7, y2_0, y2_1⟩ := HC.out w4 H4.out) | fail)
    refine bodyPost_ret (v := .tuple #[.int .i64 (pp : Int), .agg #[.int .i64 nn, .int .i64 de], .int .i64 0]) (by simp [results, Try.results40, go_sem, d6, d7]) rfl ⟨by rw [fr2_ok, HN.out], ?_⟩
    exact ((HB0.out.trans (H4.out.mono HB0.out.size)).setCell (p := ⟨w.heap.size + 2, 0, none⟩) (by simp) _).setCell (p := ⟨w.heap.size + 2, 1, none⟩) (by simp) _
  · have e1' : (ee == 0) = false := by simpa using he
    have e2' : (ee != 0) = true := by simpa using he
    obtain ⟨c0, c1, c2, c3, c4, c5, c6, c7, z2_0, z2_1⟩ := HC.out w5 HB5.out
    go_wp2
    refine bodyPost_ret (v := .tuple #[.int .i64 0, .agg #[.int .i64 0, .int .i64 0], .int .i64 ee]) (by simp [results, Try.results40, go_sem, c6, c7]) rfl ⟨by rw [fr2_bad he], ?_⟩
    exact (HBX.out.setCell (p := ⟨w.heap.size + 2, 0, none⟩) (by simp) _).setCell (p := ⟨w.heap.size + 2, 1, none⟩) (by simp) _
end Go.Proofs.Ytablphoicidlkaa
