/- Walks over beams: shears. -/
import Derived.Test.YtablphoicidlkaaBF
namespace Go.Proofs.Ytablphoicidlkaa
open Go.RowKit

/-- A row of numbers that one owns. -/
def rOwn (B : Nat) (zs : List Int) (n : Nat) : RK := ⟨fun v w => w.ownsRow B 3 1 v n (zs.map (Value.int .i64)), fun _ _ _ hb h => h.kept (below_grown5 hb) (own_ne _)⟩
theorem rstep_own {P : Program} {Q : Exit → Act → World → Prop} {L : List RK} {i : Nat} {o : Oper} {a : Act} {w : World} {zs : List Int} {n B : Nat} {cs : Array Value} (hcs : cs = (zs.map (Value.int .i64)).toArray) (hn : zs.length = n) (hB : B ≤ w.heap.size) (hm : n ≤ maxLen) (hr : (execOp a.eval o).run P w = .ok (.value (.slice (some ⟨w.heap.size, 0, none⟩) n n)) (w.alloc (.cells cs 3))) (hL : L.getD i rAny = rOwn B zs n) :
    o.wp P a w (fun a' w' => ∃ v, a' = a.put o.dst v ∧ Below w.heap.size w w' ∧ rkF L i v w') Q := by
  unfold Oper.wp
  rw [hr]
  refine ⟨_, rfl, (Below.refl _ _).alloc (Nat.le_refl _) _, ?_⟩
  unfold rkF
  rw [hL]
  subst hcs
  have := World.ownsRow_lit (e := 3) (size := 1) w (zs.map (Value.int .i64)).toArray n hB hm (by simp [hn])
  simpa [rOwn] using this
theorem rstep_ownmove {P : Program} {Q : Exit → Act → World → Prop} {L : List RK} {i : Nat} {o : Oper} {a : Act} {w : World} {zs : List Int} {n B : Nat} {v : Value} (ho : w.ownsRow B 3 1 v n (zs.map (Value.int .i64))) (hr : (execOp a.eval o).run P w = .ok (.value v) w) (hL : L.getD i rAny = rOwn B zs n) :
    o.wp P a w (fun a' w' => ∃ v, a' = a.put o.dst v ∧ Below w.heap.size w w' ∧ rkF L i v w') Q := by
  unfold Oper.wp
  rw [hr]
  exact ⟨v, rfl, Below.refl _ _, by unfold rkF; rw [hL]; exact ho⟩
theorem shr_bd {b : Bm} {l : List Pt} {S x : Int} (hb : BmOk b) (hl : WtOk b.s l S) (x0 : 0 ≤ x) (x1 : x ≤ b.s) : (shr b l S x).natAbs ≤ 9000000000000000000 := by
  obtain ⟨h1, h2, h3⟩ := fr_take_bd hb hl l.length
  rw [List.take_length] at h1 h2 h3
  have hs := hb.s0; have hs1 := hb.s1
  have E1 : Ev b.s b.s 2000 := .of (by omega)
  have E2 : Ev x x 2000 := .of (by omega)
  have E3 : Ev S S 20000 := .of (by have := hl.S0; have := hl.S1; omega)
  have b2 := ev_bd (M := 2000000000000000) (Ev.mul (Ev.mul (Ev.lit (-2)) E3) E2) (by decide +kernel)
  have b4 := sumL_bd8 (f := cutV b x) (B := 100000000000) hl.len (fun p hp => by
    have hp' := hl.pt p hp
    have E5 : Ev p.n p.n 2000 := .of (by have := hp'.n0; have := hp'.n1; omega)
    unfold cutV
    cases decide (p.a ≤ x)
    · show (0 : Int).natAbs ≤ _; decide
    · exact ev_bd (Ev.mul (Ev.mul (Ev.lit (-2)) E1) E5) (by decide +kernel))
  unfold shr
  omega
set_option maxHeartbeats 8000000 in
set_option maxRecDepth 20000 in
theorem shear_any {b : Bm} {A : Option Addr} {n c : Nat} {S x : Int} {l : List Pt} (w : World) (h : PtRow w A n l) (hn : n ≤ maxLen) :
    Calls Try.prog 30 #[bmV b, buV A n c S, .int .i64 x] w fun e w' => e = .returned (fr1 (momE b l S x) (shr b l S x) (2 * b.s)) ∧ Below w.heap.size w w' := by
  have HR := Lib.hid h
  have hle : l.length ≤ n := by have := h.1; omega
  have hge : n ≤ l.length := by have := h.1; omega
  have CB := Lib.hid (fun wx (hx : Below w.heap.size w wx) => checkBurden_any (b := b) (c := c) (S := S) wx (h.below hx) hn)
  have CP := fun wx => Lib.hid (checkPlace_any b x wx)
  have HOK := Lib.hid (fun (he : momE b l S x = 0) => momE_ok.1 he)
  have RE := Lib.hid (fun (he : momE b l S x = 0) wx (hx : Below w.heap.size w wx) => let h' := momE_ok.1 he; reactions_any (c := c) h'.1.1 h'.1.2 wx (h.below hx))
  have PA := Lib.hid (fun (he : momE b l S x = 0) wx => let h' := momE_ok.1 he; parts_any b h'.1.1 wx)
  have BD := Lib.hid (fun (he : momE b l S x = 0) => let h' := momE_ok.1 he; And.intro (shr_bd h'.1.1 h'.1.2 h'.2.1 h'.2.2) (let k := fr_take_bd h'.1.1 h'.1.2 l.length; k.1))
  have HE : Hid (momE b l S x = firstE [burE b l S, rngE 0 b.s [x]]) := Lib.hid rfl
  have HT : Hid (∀ zs : List Int, sumL id zs = frR b l S + -2 * S * x + sumL (cutV b x) (l.take n) → sumL id zs = shr b l S x) := Lib.hid (fun zs hz => by rw [hz, List.take_of_length_le hle]; rfl)
  have HCT : Hid (∀ p : Pt, cutV b x p = bif decide (p.a ≤ x) then -2 * b.s * p.n else 0) := Lib.hid (fun _ => rfl)
  rw [List.take_length] at BD
  clear h hn
  obtain ⟨s, ww, t, en⟩ := b
  unfold bmV buV frV3 at *
  simp only at CB CP RE PA HE HCT HOK ⊢
  generalize momE ⟨s, ww, t, en⟩ l S x = ee at *
  generalize shr ⟨s, ww, t, en⟩ l S x = nu at *
  generalize burE ⟨s, ww, t, en⟩ l S = e1 at *
  generalize rngE 0 s [x] = e2 at *
  generalize frR ⟨s, ww, t, en⟩ l S = rr at *
  generalize frQ ⟨s, ww, t, en⟩ l S = qq at *
  generalize frM ⟨s, ww, t, en⟩ l S = mm at *
  generalize cutV ⟨s, ww, t, en⟩ x = cut at *
  have C3 := fun wx b (h : IntRow wx (some ⟨b, 0, none⟩) 2 [e1, e2]) => Lib.hid (firstError_any (c := 2) wx h (by decide))
  rw [← HE.out] at C3
  clear HE
  go_enter Try.func30, Try.ntmps30
  go_wp2
  obtain ⟨w0, hw0⟩ : ∃ w0, (((w.alloc (.cells #[.int .i64 s, .int .i64 ww, .int .i64 t, .int .i64 en] 23)).alloc (.cells #[.slice A n c, .int .i64 S] 26)).alloc (.cells #[.int .i64 0, .int .i64 0] 30)) = w0 := ⟨_, rfl⟩
  have HB0 : Hid (Below w.heap.size w w0) := Lib.hid (by rw [← hw0]; exact ((((Below.refl _ _).alloc (Nat.le_refl _) _).alloc (by simp; try omega) _).alloc (by simp; try omega) _))
  have HC := Lib.hid (fun wx (hb : Below w0.heap.size w0 wx) => (show wx.cell? ⟨w.heap.size, 0, none⟩ = some (.int .i64 s) ∧ wx.cell? ⟨w.heap.size, 1, none⟩ = some (.int .i64 ww) ∧ wx.cell? ⟨w.heap.size, 2, none⟩ = some (.int .i64 t) ∧ wx.cell? ⟨w.heap.size, 3, none⟩ = some (.int .i64 en) ∧ wx.cell? ⟨w.heap.size + 1, 0, none⟩ = some (.slice A n c) ∧ wx.cell? ⟨w.heap.size + 1, 1, none⟩ = some (.int .i64 S) ∧ wx.cell? ⟨w.heap.size + 2, 0, none⟩ = some (.int .i64 0) ∧ wx.cell? ⟨w.heap.size + 2, 1, none⟩ = some (.int .i64 0) ∧ wx.frozen? ⟨w.heap.size + 2, 0, none⟩ = false ∧ wx.frozen? ⟨w.heap.size + 2, 1, none⟩ = false from by
    subst hw0
    obtain ⟨k, kf⟩ := bcell hb
    exact ⟨(k _ _ (by simp; try omega)).trans (by simp [go_sem]), (k _ _ (by simp; try omega)).trans (by simp [go_sem]), (k _ _ (by simp; try omega)).trans (by simp [go_sem]), (k _ _ (by simp; try omega)).trans (by simp [go_sem]), (k _ _ (by simp; try omega)).trans (by simp [go_sem]), (k _ _ (by simp; try omega)).trans (by simp [go_sem]), (k _ _ (by simp; try omega)).trans (by simp [go_sem]), (k _ _ (by simp; try omega)).trans (by simp [go_sem]), (kf _ _ (by simp; try omega)).trans (by simp [go_sem]), (kf _ _ (by simp; try omega)).trans (by simp [go_sem])⟩))
  rw [hw0]
  clear hw0
  refine wp_region_rk [12, 13, 14, 15, 16, 17, 18, 19, 8] [rEq (.agg #[.int .i64 s, .int .i64 ww, .int .i64 t, .int .i64 en]), rEq (.agg #[.slice A n c, .int .i64 S]), rEq (.int .i64 e1), rEq (.agg #[.int .i64 s, .int .i64 ww, .int .i64 t, .int .i64 en]), rEq (.int .i64 x), rEq (.int .i64 e2), rRow [e1, e2] 2, rEq (.int .i64 ee), rEq (.int .i64 ee)] (by kernel_rfl) (by kernel_rfl) (by decide) rfl ⟨?_, ?_, ?_, ?_, ?_, ?_, ?_, ?_, ?_, trivial⟩ ?_
  · intro ac wx hf hb hd -- 0
    have f3 : ac.tmps[3]?.getD undef = .pointer (some ⟨w.heap.size, 0, none⟩) := by rw [← Array.getD_eq_getD_getElem?]; exact hf.same 3 (by decide)
    obtain ⟨c0, c1, c2, c3, c4, c5, c6, c7, z2_0, z2_1⟩ := HC.out wx hb
    exact rstep_eq (by simp [execOp, Act.eval, f3, c0, c1, c2, c3, go_sem]) rfl
  · intro ac wx hf hb hd -- 1
    have f4 : ac.tmps[4]?.getD undef = .pointer (some ⟨w.heap.size + 1, 0, none⟩) := by rw [← Array.getD_eq_getD_getElem?]; exact hf.same 4 (by decide)
    obtain ⟨c0, c1, c2, c3, c4, c5, c6, c7, z2_0, z2_1⟩ := HC.out wx hb
    exact rstep_eq (by simp [execOp, Act.eval, f4, c4, c5, go_sem]) rfl
  · intro ac wx hf hb hd -- 2
    have d0 : ac.tmps[12]?.getD undef = .agg #[.int .i64 s, .int .i64 ww, .int .i64 t, .int .i64 en] := by rw [← Array.getD_eq_getD_getElem?]; exact hd 0 (by decide)
    have d1 : ac.tmps[13]?.getD undef = .agg #[.slice A n c, .int .i64 S] := by rw [← Array.getD_eq_getD_getElem?]; exact hd 1 (by decide)
    refine rstep_call (f := 26) (args := #[.agg #[.int .i64 s, .int .i64 ww, .int .i64 t, .int .i64 en], .agg #[.slice A n c, .int .i64 S]]) (by simp [Act.eval, d0, d1, go_sem]) ?_ rfl
    exact CB.out wx (HB0.out.trans (hb.mono HB0.out.size))
  · intro ac wx hf hb hd -- 3
    have f3 : ac.tmps[3]?.getD undef = .pointer (some ⟨w.heap.size, 0, none⟩) := by rw [← Array.getD_eq_getD_getElem?]; exact hf.same 3 (by decide)
    obtain ⟨c0, c1, c2, c3, c4, c5, c6, c7, z2_0, z2_1⟩ := HC.out wx hb
    exact rstep_eq (by simp [execOp, Act.eval, f3, c0, c1, c2, c3, go_sem]) rfl
  · intro ac wx hf hb hd -- 4
    have f2 : ac.tmps[2]?.getD undef = .int .i64 x := by rw [← Array.getD_eq_getD_getElem?]; exact hf.same 2 (by decide)
    exact rstep_eq (by simp [execOp, Act.eval, f2, go_sem]) rfl
  · intro ac wx hf hb hd -- 5
    have d3 : ac.tmps[15]?.getD undef = .agg #[.int .i64 s, .int .i64 ww, .int .i64 t, .int .i64 en] := by rw [← Array.getD_eq_getD_getElem?]; exact hd 3 (by decide)
    have d4 : ac.tmps[16]?.getD undef = .int .i64 x := by rw [← Array.getD_eq_getD_getElem?]; exact hd 4 (by decide)
    refine rstep_call (f := 99) (args := #[.agg #[.int .i64 s, .int .i64 ww, .int .i64 t, .int .i64 en], .int .i64 x]) (by simp [Act.eval, d3, d4, go_sem]) ?_ rfl
    exact (CP wx).out
  · intro ac wx hf hb hd -- 6
    have d2 : ac.tmps[14]?.getD undef = .int .i64 e1 := by rw [← Array.getD_eq_getD_getElem?]; exact hd 2 (by decide)
    have d5 : ac.tmps[17]?.getD undef = .int .i64 e2 := by rw [← Array.getD_eq_getD_getElem?]; exact hd 5 (by decide)
    exact rstep_row (t := 31) (zs := [e1, e2]) rfl rfl (by simp [execOp, Act.eval, d2, d5, go_sem]) rfl
  · intro ac wx hf hb hd -- 7
    obtain ⟨b6, d6, r6⟩ : ∃ b, ac.tmps[18]?.getD undef = .slice (some ⟨b, 0, none⟩) 2 2 ∧ IntRow wx (some ⟨b, 0, none⟩) 2 [e1, e2] := by rw [← Array.getD_eq_getD_getElem?]; exact hd 6 (by decide)
    refine rstep_call (f := 95) (args := #[.slice (some ⟨b6, 0, none⟩) 2 2]) (by simp [Act.eval, d6, go_sem]) ?_ rfl
    exact (C3 wx b6 r6).out.mono fun e w' ⟨he, hw⟩ => ⟨he, hw ▸ Below.refl _ _⟩
  · intro ac wx hf hb hd -- 8
    have d7 : ac.tmps[19]?.getD undef = .int .i64 ee := by rw [← Array.getD_eq_getD_getElem?]; exact hd 7 (by decide)
    exact rstep_eq (by simp [execOp, Act.eval, d7, go_sem]) rfl
  rintro ⟨⟨ll⟩, df⟩ w5 hf hb5 hall
  have hdf : df = [] := hf.defers
  subst hdf
  have hsz : ll.length = 59 := hf.size
  obtain ⟨x0, ll0, rfl, hsz0⟩ := cons_of hsz
  obtain ⟨x1, ll1, rfl, hsz1⟩ := cons_of hsz0
  obtain ⟨x2, ll2, rfl, hsz2⟩ := cons_of hsz1
  obtain ⟨x3, ll3, rfl, hsz3⟩ := cons_of hsz2
  obtain ⟨x4, ll4, rfl, hsz4⟩ := cons_of hsz3
  obtain ⟨x5, ll5, rfl, hsz5⟩ := cons_of hsz4
  obtain ⟨x6, ll6, rfl, hsz6⟩ := cons_of hsz5
  obtain ⟨x7, ll7, rfl, hsz7⟩ := cons_of hsz6
  obtain ⟨x8, ll8, rfl, hsz8⟩ := cons_of hsz7
  obtain ⟨x9, ll9, rfl, hsz9⟩ := cons_of hsz8
  obtain ⟨x10, ll10, rfl, hsz10⟩ := cons_of hsz9
  obtain ⟨x11, ll11, rfl, hsz11⟩ := cons_of hsz10
  obtain ⟨x12, ll12, rfl, hsz12⟩ := cons_of hsz11
  obtain ⟨x13, ll13, rfl, hsz13⟩ := cons_of hsz12
  obtain ⟨x14, ll14, rfl, hsz14⟩ := cons_of hsz13
  obtain ⟨x15, ll15, rfl, hsz15⟩ := cons_of hsz14
  obtain ⟨x16, ll16, rfl, hsz16⟩ := cons_of hsz15
  obtain ⟨x17, ll17, rfl, hsz17⟩ := cons_of hsz16
  obtain ⟨x18, ll18, rfl, hsz18⟩ := cons_of hsz17
  obtain ⟨x19, ll19, rfl, hsz19⟩ := cons_of hsz18
  obtain ⟨x20, ll20, rfl, hsz20⟩ := cons_of hsz19
  obtain ⟨x21, ll21, rfl, hsz21⟩ := cons_of hsz20
  obtain ⟨x22, ll22, rfl, hsz22⟩ := cons_of hsz21
  obtain ⟨x23, ll23, rfl, hsz23⟩ := cons_of hsz22
  obtain ⟨x24, ll24, rfl, hsz24⟩ := cons_of hsz23
  obtain ⟨x25, ll25, rfl, hsz25⟩ := cons_of hsz24
  obtain ⟨x26, ll26, rfl, hsz26⟩ := cons_of hsz25
  obtain ⟨x27, ll27, rfl, hsz27⟩ := cons_of hsz26
  obtain ⟨x28, ll28, rfl, hsz28⟩ := cons_of hsz27
  obtain ⟨x29, ll29, rfl, hsz29⟩ := cons_of hsz28
  obtain ⟨x30, ll30, rfl, hsz30⟩ := cons_of hsz29
  obtain ⟨x31, ll31, rfl, hsz31⟩ := cons_of hsz30
  obtain ⟨x32, ll32, rfl, hsz32⟩ := cons_of hsz31
  obtain ⟨x33, ll33, rfl, hsz33⟩ := cons_of hsz32
  obtain ⟨x34, ll34, rfl, hsz34⟩ := cons_of hsz33
  obtain ⟨x35, ll35, rfl, hsz35⟩ := cons_of hsz34
  obtain ⟨x36, ll36, rfl, hsz36⟩ := cons_of hsz35
  obtain ⟨x37, ll37, rfl, hsz37⟩ := cons_of hsz36
  obtain ⟨x38, ll38, rfl, hsz38⟩ := cons_of hsz37
  obtain ⟨x39, ll39, rfl, hsz39⟩ := cons_of hsz38
  obtain ⟨x40, ll40, rfl, hsz40⟩ := cons_of hsz39
  obtain ⟨x41, ll41, rfl, hsz41⟩ := cons_of hsz40
  obtain ⟨x42, ll42, rfl, hsz42⟩ := cons_of hsz41
  obtain ⟨x43, ll43, rfl, hsz43⟩ := cons_of hsz42
  obtain ⟨x44, ll44, rfl, hsz44⟩ := cons_of hsz43
  obtain ⟨x45, ll45, rfl, hsz45⟩ := cons_of hsz44
  obtain ⟨x46, ll46, rfl, hsz46⟩ := cons_of hsz45
  obtain ⟨x47, ll47, rfl, hsz47⟩ := cons_of hsz46
  obtain ⟨x48, ll48, rfl, hsz48⟩ := cons_of hsz47
  obtain ⟨x49, ll49, rfl, hsz49⟩ := cons_of hsz48
  obtain ⟨x50, ll50, rfl, hsz50⟩ := cons_of hsz49
  obtain ⟨x51, ll51, rfl, hsz51⟩ := cons_of hsz50
  obtain ⟨x52, ll52, rfl, hsz52⟩ := cons_of hsz51
  obtain ⟨x53, ll53, rfl, hsz53⟩ := cons_of hsz52
  obtain ⟨x54, ll54, rfl, hsz54⟩ := cons_of hsz53
  obtain ⟨x55, ll55, rfl, hsz55⟩ := cons_of hsz54
  obtain ⟨x56, ll56, rfl, hsz56⟩ := cons_of hsz55
  obtain ⟨x57, ll57, rfl, hsz57⟩ := cons_of hsz56
  obtain ⟨x58, ll58, rfl, hsz58⟩ := cons_of hsz57
  obtain rfl := List.eq_nil_of_length_eq_zero hsz58
  obtain rfl : x2 = .int .i64 x := hf.same 2 (by decide)
  obtain rfl : x3 = .pointer (some ⟨w.heap.size, 0, none⟩) := hf.same 3 (by decide)
  obtain rfl : x4 = .pointer (some ⟨w.heap.size + 1, 0, none⟩) := hf.same 4 (by decide)
  obtain rfl : x6 = .pointer (some ⟨w.heap.size + 2, 0, none⟩) := hf.same 6 (by decide)
  obtain rfl : x8 = .int .i64 ee := hall 8 8 rfl
  obtain rfl : x12 = .agg #[.int .i64 s, .int .i64 ww, .int .i64 t, .int .i64 en] := hall 0 12 rfl
  obtain rfl : x13 = .agg #[.slice A n c, .int .i64 S] := hall 1 13 rfl
  obtain rfl : x14 = .int .i64 e1 := hall 2 14 rfl
  obtain rfl : x15 = .agg #[.int .i64 s, .int .i64 ww, .int .i64 t, .int .i64 en] := hall 3 15 rfl
  obtain rfl : x16 = .int .i64 x := hall 4 16 rfl
  obtain rfl : x17 = .int .i64 e2 := hall 5 17 rfl
  obtain rfl : x19 = .int .i64 ee := hall 7 19 rfl
  clear hall hf
  obtain ⟨c0, c1, c2, c3, c4, c5, c6, c7, z2_0, z2_1⟩ := HC.out w5 hb5
  have HBX := Lib.hid (HB0.out.trans (hb5.mono HB0.out.size))
  by_cases he : ee = 0
  · subst he
    have RE2 := Lib.hid (RE.out rfl)
    have PA2 := Lib.hid (PA.out rfl)
    have bd := BD.out rfl
    obtain ⟨⟨hbm, hwt⟩, x0, x1⟩ := HOK.out rfl
    have hs0 := hbm.s0; have hs1 := hbm.s1; have hS0 := hwt.S0; have hS1 := hwt.S1
    have HWT := Lib.hid hwt
    simp only at hs0 hs1 x0 x1
    have hn8 : n ≤ 8 := by have := hwt.len; omega
    have E1 : Ev s s 2000 := .of (by omega)
    have E2 : Ev x x 2000 := .of (by omega)
    have E3 : Ev S S 20000 := .of (by omega)
    have q0 : IntKind.i64.wrap (-2 * S) = -2 * S := i64w (by (apply Ev.e; repeat' (first | with_reducible assumption | with_reducible apply Ev.wrap | with_reducible apply Ev.mul | with_reducible apply Ev.add | with_reducible apply Ev.sub | with_reducible apply Ev.neg | exact Ev.lit _ | (decide +kernel))))
    have q1 : IntKind.i64.wrap (-2 * S * x) = -2 * S * x := i64w (by (apply Ev.e; repeat' (first | with_reducible assumption | with_reducible apply Ev.wrap | with_reducible apply Ev.mul | with_reducible apply Ev.add | with_reducible apply Ev.sub | with_reducible apply Ev.neg | exact Ev.lit _ | (decide +kernel))))
    have hd2 : 0 < 2 * s ∧ 2 * s ≤ 4000 := by omega
    have AD := Lib.hid (fun wx A n c zs (hr : IntRow wx A n zs) (hn : n ≤ 1000) (hs : sumL id zs = nu) => added_any (c := c) (d := 2 * s) wx hr (by unfold maxLen; omega) (by omega) (by omega) hs (by omega))
    have HN : Hid (frV nu (2 * s) = .agg #[.int .i64 (lowN nu (2 * s)), .int .i64 (lowD nu (2 * s))]) := Lib.hid rfl
    unfold frV at AD
    have HN2 := Lib.hid HN.out
    clear HN
    generalize lowN nu (2 * s) = nn at *
    generalize lowD nu (2 * s) = de at *
    clear RE PA BD bd HOK hbm hwt E3 CB CP C3 hS0 hS1
    have HB5 := Lib.hid hb5
    clear hb5
    have HC5 := Lib.hid (fun wy (hy : Below w5.heap.size w5 wy) => HC.out wy (HB5.out.trans (hy.mono HB5.out.size)))
    have HBX5 := HBX
    obtain ⟨B, hBe⟩ : ∃ B, w5.heap.size = B := ⟨_, rfl⟩
    have HBE := Lib.hid hBe
    clear hBe
    have IX0 := run_indexF rr qq mm _ _ (.inl ⟨rfl, rfl⟩)
    go_wp2
    refine wp_region_rk [24, 25, 26, 27, 28, 29, 30, 31, 32, 33, 9] [rEq (.agg #[.int .i64 s, .int .i64 ww, .int .i64 t, .int .i64 en]), rEq (.agg #[.slice A n c, .int .i64 S]), rEq (.agg #[.int .i64 rr, .int .i64 qq, .int .i64 mm]), rEq (.int .i64 rr), rEq (.pointer (some ⟨w.heap.size + 1, 1, none⟩)), rEq (.int .i64 S), rEq (.int .i64 (-2 * S)), rEq (.int .i64 x), rEq (.int .i64 (-2 * S * x)), (rOwn B [rr, -2 * S * x] 2), (rOwn B [rr, -2 * S * x] 2)] (by kernel_rfl) (by kernel_rfl) (by decide) rfl ⟨?_, ?_, ?_, ?_, ?_, ?_, ?_, ?_, ?_, ?_, ?_, trivial⟩ ?_
    · intro ac wx hf hb hd -- 0
      have f3 : ac.tmps[3]?.getD undef = .pointer (some ⟨w.heap.size, 0, none⟩) := by rw [← Array.getD_eq_getD_getElem?]; exact hf.same 3 (by decide)
      obtain ⟨c0, c1, c2, c3, c4, c5, c6, c7, z2_0, z2_1⟩ := HC5.out wx hb
      exact rstep_eq (by simp [execOp, Act.eval, f3, c0, c1, c2, c3, go_sem]) rfl
    · intro ac wx hf hb hd -- 1
      have f4 : ac.tmps[4]?.getD undef = .pointer (some ⟨w.heap.size + 1, 0, none⟩) := by rw [← Array.getD_eq_getD_getElem?]; exact hf.same 4 (by decide)
      obtain ⟨c0, c1, c2, c3, c4, c5, c6, c7, z2_0, z2_1⟩ := HC5.out wx hb
      exact rstep_eq (by simp [execOp, Act.eval, f4, c4, c5, go_sem]) rfl
    · intro ac wx hf hb hd -- 2
      have d0 : ac.tmps[24]?.getD undef = .agg #[.int .i64 s, .int .i64 ww, .int .i64 t, .int .i64 en] := by rw [← Array.getD_eq_getD_getElem?]; exact hd 0 (by decide)
      have d1 : ac.tmps[25]?.getD undef = .agg #[.slice A n c, .int .i64 S] := by rw [← Array.getD_eq_getD_getElem?]; exact hd 1 (by decide)
      refine rstep_call (f := 91) (args := #[.agg #[.int .i64 s, .int .i64 ww, .int .i64 t, .int .i64 en], .agg #[.slice A n c, .int .i64 S]]) (by simp [Act.eval, d0, d1, go_sem]) ?_ rfl
      exact RE2.out wx (HBX5.out.trans (hb.mono HBX5.out.size))
    · intro ac wx hf hb hd -- 3
      have d2 : ac.tmps[26]?.getD undef = .agg #[.int .i64 rr, .int .i64 qq, .int .i64 mm] := by rw [← Array.getD_eq_getD_getElem?]; exact hd 2 (by decide)
      exact rstep_eq (by simp [execOp, Act.eval, d2, IX0, go_sem]) rfl
    · intro ac wx hf hb hd -- 4
      have f4 : ac.tmps[4]?.getD undef = .pointer (some ⟨w.heap.size + 1, 0, none⟩) := by rw [← Array.getD_eq_getD_getElem?]; exact hf.same 4 (by decide)
      exact rstep_eq (by simp [execOp, Act.eval, f4, go_sem]) rfl
    · intro ac wx hf hb hd -- 5
      have d4 : ac.tmps[28]?.getD undef = .pointer (some ⟨w.heap.size + 1, 1, none⟩) := by rw [← Array.getD_eq_getD_getElem?]; exact hd 4 (by decide)
      obtain ⟨c0, c1, c2, c3, c4, c5, c6, c7, z2_0, z2_1⟩ := HC5.out wx hb
      exact rstep_eq (by simp [execOp, Act.eval, d4, c5, go_sem]) rfl
    · intro ac wx hf hb hd -- 6
      have d5 : ac.tmps[29]?.getD undef = .int .i64 S := by rw [← Array.getD_eq_getD_getElem?]; exact hd 5 (by decide)
      exact rstep_eq (by simp [execOp, Act.eval, d5, q0, go_sem]) rfl
    · intro ac wx hf hb hd -- 7
      have f2 : ac.tmps[2]?.getD undef = .int .i64 x := by rw [← Array.getD_eq_getD_getElem?]; exact hf.same 2 (by decide)
      exact rstep_eq (by simp [execOp, Act.eval, f2, go_sem]) rfl
    · intro ac wx hf hb hd -- 8
      have d6 : ac.tmps[30]?.getD undef = .int .i64 (-2 * S) := by rw [← Array.getD_eq_getD_getElem?]; exact hd 6 (by decide)
      have d7 : ac.tmps[31]?.getD undef = .int .i64 x := by rw [← Array.getD_eq_getD_getElem?]; exact hd 7 (by decide)
      exact rstep_eq (by simp [execOp, Act.eval, d6, d7, q1, go_sem]) rfl
    · intro ac wx hf hb hd -- 9
      have d3 : ac.tmps[27]?.getD undef = .int .i64 rr := by rw [← Array.getD_eq_getD_getElem?]; exact hd 3 (by decide)
      have d8 : ac.tmps[32]?.getD undef = .int .i64 (-2 * S * x) := by rw [← Array.getD_eq_getD_getElem?]; exact hd 8 (by decide)
      exact rstep_own (zs := [rr, -2 * S * x]) (n := 2) rfl rfl (by have := HBE.out; have := hb.size; omega) (by decide) (by simp [execOp, Act.eval, d3, d8, go_sem]) rfl
    · intro ac wx hf hb hd -- 10
      obtain ⟨v9, d9, r9⟩ : ∃ v, ac.tmps[33]?.getD undef = v ∧ wx.ownsRow B 3 1 v 2 ([rr, -2 * S * x].map (Value.int .i64)) := ⟨ac.tmps.getD 33 undef, by rw [← Array.getD_eq_getD_getElem?], hd 9 (by decide)⟩
      exact rstep_ownmove r9 (by simp [execOp, Act.eval, d9, go_sem]) rfl
    rintro ⟨⟨ll⟩, df⟩ wx hf hb hall
    have hdf : df = [] := hf.defers
    subst hdf
    have hsz : ll.length = 59 := hf.size
    obtain ⟨x0, ll0, rfl, hsz0⟩ := cons_of hsz
    obtain ⟨x1, ll1, rfl, hsz1⟩ := cons_of hsz0
    obtain ⟨x2, ll2, rfl, hsz2⟩ := cons_of hsz1
    obtain ⟨x3, ll3, rfl, hsz3⟩ := cons_of hsz2
    obtain ⟨x4, ll4, rfl, hsz4⟩ := cons_of hsz3
    obtain ⟨x5, ll5, rfl, hsz5⟩ := cons_of hsz4
    obtain ⟨x6, ll6, rfl, hsz6⟩ := cons_of hsz5
    obtain ⟨x7, ll7, rfl, hsz7⟩ := cons_of hsz6
    obtain ⟨x8, ll8, rfl, hsz8⟩ := cons_of hsz7
    obtain ⟨x9, ll9, rfl, hsz9⟩ := cons_of hsz8
    obtain ⟨x10, ll10, rfl, hsz10⟩ := cons_of hsz9
    obtain ⟨x11, ll11, rfl, hsz11⟩ := cons_of hsz10
    obtain ⟨x12, ll12, rfl, hsz12⟩ := cons_of hsz11
    obtain ⟨x13, ll13, rfl, hsz13⟩ := cons_of hsz12
    obtain ⟨x14, ll14, rfl, hsz14⟩ := cons_of hsz13
    obtain ⟨x15, ll15, rfl, hsz15⟩ := cons_of hsz14
    obtain ⟨x16, ll16, rfl, hsz16⟩ := cons_of hsz15
    obtain ⟨x17, ll17, rfl, hsz17⟩ := cons_of hsz16
    obtain ⟨x18, ll18, rfl, hsz18⟩ := cons_of hsz17
    obtain ⟨x19, ll19, rfl, hsz19⟩ := cons_of hsz18
    obtain ⟨x20, ll20, rfl, hsz20⟩ := cons_of hsz19
    obtain ⟨x21, ll21, rfl, hsz21⟩ := cons_of hsz20
    obtain ⟨x22, ll22, rfl, hsz22⟩ := cons_of hsz21
    obtain ⟨x23, ll23, rfl, hsz23⟩ := cons_of hsz22
    obtain ⟨x24, ll24, rfl, hsz24⟩ := cons_of hsz23
    obtain ⟨x25, ll25, rfl, hsz25⟩ := cons_of hsz24
    obtain ⟨x26, ll26, rfl, hsz26⟩ := cons_of hsz25
    obtain ⟨x27, ll27, rfl, hsz27⟩ := cons_of hsz26
    obtain ⟨x28, ll28, rfl, hsz28⟩ := cons_of hsz27
    obtain ⟨x29, ll29, rfl, hsz29⟩ := cons_of hsz28
    obtain ⟨x30, ll30, rfl, hsz30⟩ := cons_of hsz29
    obtain ⟨x31, ll31, rfl, hsz31⟩ := cons_of hsz30
    obtain ⟨x32, ll32, rfl, hsz32⟩ := cons_of hsz31
    obtain ⟨x33, ll33, rfl, hsz33⟩ := cons_of hsz32
    obtain ⟨x34, ll34, rfl, hsz34⟩ := cons_of hsz33
    obtain ⟨x35, ll35, rfl, hsz35⟩ := cons_of hsz34
    obtain ⟨x36, ll36, rfl, hsz36⟩ := cons_of hsz35
    obtain ⟨x37, ll37, rfl, hsz37⟩ := cons_of hsz36
    obtain ⟨x38, ll38, rfl, hsz38⟩ := cons_of hsz37
    obtain ⟨x39, ll39, rfl, hsz39⟩ := cons_of hsz38
    obtain ⟨x40, ll40, rfl, hsz40⟩ := cons_of hsz39
    obtain ⟨x41, ll41, rfl, hsz41⟩ := cons_of hsz40
    obtain ⟨x42, ll42, rfl, hsz42⟩ := cons_of hsz41
    obtain ⟨x43, ll43, rfl, hsz43⟩ := cons_of hsz42
    obtain ⟨x44, ll44, rfl, hsz44⟩ := cons_of hsz43
    obtain ⟨x45, ll45, rfl, hsz45⟩ := cons_of hsz44
    obtain ⟨x46, ll46, rfl, hsz46⟩ := cons_of hsz45
    obtain ⟨x47, ll47, rfl, hsz47⟩ := cons_of hsz46
    obtain ⟨x48, ll48, rfl, hsz48⟩ := cons_of hsz47
    obtain ⟨x49, ll49, rfl, hsz49⟩ := cons_of hsz48
    obtain ⟨x50, ll50, rfl, hsz50⟩ := cons_of hsz49
    obtain ⟨x51, ll51, rfl, hsz51⟩ := cons_of hsz50
    obtain ⟨x52, ll52, rfl, hsz52⟩ := cons_of hsz51
    obtain ⟨x53, ll53, rfl, hsz53⟩ := cons_of hsz52
    obtain ⟨x54, ll54, rfl, hsz54⟩ := cons_of hsz53
    obtain ⟨x55, ll55, rfl, hsz55⟩ := cons_of hsz54
    obtain ⟨x56, ll56, rfl, hsz56⟩ := cons_of hsz55
    obtain ⟨x57, ll57, rfl, hsz57⟩ := cons_of hsz56
    obtain ⟨x58, ll58, rfl, hsz58⟩ := cons_of hsz57
    obtain rfl := List.eq_nil_of_length_eq_zero hsz58
    obtain rfl : x2 = .int .i64 x := hf.same 2 (by decide)
    obtain rfl : x3 = .pointer (some ⟨w.heap.size, 0, none⟩) := hf.same 3 (by decide)
    obtain rfl : x4 = .pointer (some ⟨w.heap.size + 1, 0, none⟩) := hf.same 4 (by decide)
    obtain rfl : x6 = .pointer (some ⟨w.heap.size + 2, 0, none⟩) := hf.same 6 (by decide)
    obtain rfl : x24 = .agg #[.int .i64 s, .int .i64 ww, .int .i64 t, .int .i64 en] := hall 0 24 rfl
    obtain rfl : x25 = .agg #[.slice A n c, .int .i64 S] := hall 1 25 rfl
    obtain rfl : x26 = .agg #[.int .i64 rr, .int .i64 qq, .int .i64 mm] := hall 2 26 rfl
    obtain rfl : x27 = .int .i64 rr := hall 3 27 rfl
    obtain rfl : x28 = .pointer (some ⟨w.heap.size + 1, 1, none⟩) := hall 4 28 rfl
    obtain rfl : x29 = .int .i64 S := hall 5 29 rfl
    obtain rfl : x30 = .int .i64 (-2 * S) := hall 6 30 rfl
    obtain rfl : x31 = .int .i64 x := hall 7 31 rfl
    obtain rfl : x32 = .int .i64 (-2 * S * x) := hall 8 32 rfl
    have HOWN0 := hall 10 9 rfl
    clear hall hf
    replace HOWN0 := Lib.hid (show wx.ownsRow B 3 1 x9 2 ([rr, -2 * S * x].map (Value.int .i64)) from HOWN0)
    have H6 : Hid (Below B w5 wx) := Lib.hid (by rw [← HBE.out]; exact hb)
    have hwB : w.heap.size ≤ B := by have := HBX5.out.size; have := HBE.out; omega
    have hw0B : w0.heap.size ≤ B := by have := HB5.out.size; have := HBE.out; omega
    have HWB := Lib.hid hwB
    have HW0B := Lib.hid hw0B
    clear hwB hw0B
    obtain ⟨e0, e1, e2, e3, e4, e5, e6, e7, y2_0, y2_1⟩ := HC.out wx (HB5.out.trans (H6.out.mono HW0B.out))
    clear hb c0 c1 c2 c3 c4 c5 c6 c7 z2_0 z2_1 HB0 HBX
    go_wp2
    go_loopw [9, 37] (fun tv i wr => ∃ (k m : Nat) (zs : List Int), k ≤ n ∧ i = .int .i64 k ∧ m ≤ 2 + k ∧ wr.ownsRow B 3 1 tv m (zs.map (Value.int .i64)) ∧ sumL id zs = rr + -2 * S * x + sumL cut (l.take k) ∧ Below B w5 wr) (fun _ i _ => n - (intOf i).toNat)
    case atStart => exact ⟨0, 2, [rr, -2 * S * x], Nat.zero_le _, rfl, by omega, HOWN0.out, by simp [sumL], H6.out⟩
    case round =>
      obtain ⟨k, m, zs, hk, rfl, hm, hown, hsum, hbw⟩ := hrel
      have HB := Lib.hid hbw
      have HO := Lib.hid hown
      have HSU := Lib.hid hsum
      have HB0W := Lib.hid (HB5.out.trans (hbw.mono HW0B.out))
      obtain ⟨d0, d1, d2, d3, d4, d5, d6, d7, u_2_0, u_2_1⟩ := HC.out wr HB0W.out
      have hl3 : w.heap.size < wr.heap.size := World.block_lt_of_cell? wr _ d0
      have hl4 : w.heap.size + 1 < wr.heap.size := World.block_lt_of_cell? wr _ d4
      have hBw : B ≤ wr.heap.size := by have := hbw.size; have := HBE.out; omega
      have HBW := Lib.hid (HBX5.out.trans (hbw.mono HWB.out))
      clear hbw hown hsum e0 e1 e2 e3 e4 e5 e6 e7 y2_0 y2_1 q0 q1
      by_cases hlt : k < n
      · have hkl : k < l.length := by omega
        obtain ⟨blk, off, rfl, hblk, hx⟩ := HR.out.2 (by omega)
        obtain ⟨hp0, hp1⟩ := (hx k hkl).below HBW.out hblk
        have hpo := HWT.out.pt l[k] (List.getElem_mem hkl)
        have HS := Lib.hid (sumL_take_succ cut l hkl)
        obtain ⟨p, hpe⟩ : ∃ x, l[k] = x := ⟨_, rfl⟩
        rw [hpe] at hp0 hp1 hpo HS
        clear hx hpe
        obtain ⟨a, v⟩ := p
        obtain ⟨a0, a1, n0, n1⟩ := hpo
        simp only at hp0 hp1 a0 a1 n0 n1
        have hl5 : blk < wr.heap.size := by have := HBW.out.size; omega
        by_cases hax : a ≤ x
        · have hd : decide (a ≤ x) = true := decide_eq_true hax
          have HCUT : Hid (cut ⟨a, v⟩ = -2 * s * v) := Lib.hid (by rw [HCT.out]; simp only [hd, cond_true])
          have E5 : Ev v v 2000 := .of (by omega)
          have e1 : wrap64 (-2 * s) = -2 * s := by (apply Ev.e; repeat' (first | with_reducible assumption | with_reducible apply Ev.wrap | with_reducible apply Ev.mul | with_reducible apply Ev.add | with_reducible apply Ev.sub | with_reducible apply Ev.neg | exact Ev.lit _ | (decide +kernel)))
          have e2 : wrap64 (-2 * s * v) = -2 * s * v := by (apply Ev.e; repeat' (first | with_reducible assumption | with_reducible apply Ev.wrap | with_reducible apply Ev.mul | with_reducible apply Ev.add | with_reducible apply Ev.sub | with_reducible apply Ev.neg | exact Ev.lit _ | (decide +kernel)))
          clear E5 E1 E2
          have HOW : Hid (((wr.alloc (.cells #[.int .i64 a, .int .i64 v] 90)).alloc (.cells #[.int .i64 (-2 * s * v)] 3)).ownsRow B 3 1 u9 m (zs.map (Value.int .i64))) := Lib.hid ((HO.out.alloc _).alloc _)
          have HRW : Hid (IntRow ((wr.alloc (.cells #[.int .i64 a, .int .i64 v] 90)).alloc (.cells #[.int .i64 (-2 * s * v)] 3)) (some ⟨wr.heap.size + 1, 0, none⟩) 1 [-2 * s * v]) := Lib.hid (by
            have := intRow_new (wr.alloc (.cells #[.int .i64 a, .int .i64 v] 90)) [-2 * s * v] 3 _ rfl (n := 1) rfl
            simpa using this)
          go_wp2_with (at_builtin; refine wpList_append_ints rfl _ _ rfl rfl rfl HOW.out HRW.out (by omega) (by simp; omega) ?_; intro v4 w4 hown4 hgrow4 hloc4)
          refine ⟨⟨k + 1, m + 1, zs ++ [-2 * s * v], by omega, by go_num, by omega, by rw [List.map_append]; exact hown4, ?_, below_own ((HB.out.alloc hBw _).alloc (by simp; omega) _) (by simp; omega) HOW.out hgrow4⟩, by simp [intOf]; omega⟩
          rw [sumL_append, sumL_one, HSU.out, HS.out, HCUT.out]
          show _ + -2 * s * v = _
          omega
        · have hd : decide (a ≤ x) = false := decide_eq_false hax
          have HCUT : Hid (cut ⟨a, v⟩ = 0) := Lib.hid (by rw [HCT.out]; simp only [hd, cond_false])
          clear E1 E2
          go_wp2
          go_roundw
          case rel => exact ⟨k + 1, m, zs, by omega, by go_num, by omega, HO.out.alloc _, by rw [HSU.out, HS.out, HCUT.out]; omega, HB.out.alloc hBw _⟩
          case measure => simp [intOf]; omega
      · obtain rfl : k = n := by omega
        obtain ⟨A', c', rfl, hrow⟩ := own_ints HO.out
        have HRR := Lib.hid hrow
        have HSN := Lib.hid (HT.out zs HSU.out)
        clear hrow
        go_wp2_with (first | (go_at_call 93; (refine Calls.mono (PA2.out _) ?_); rintro e w6 ⟨rfl, hb6⟩; have HR6 := Lib.hid (HRR.out.below hb6); have HW6 := Lib.hid (HB0W.out.trans (hb6.mono HB0W.out.size)); have HX6 := Lib.hid (HBW.out.trans (hb6.mono HBW.out.size)); clear hb6) | (go_at_call 92; (refine Calls.mono (AD.out _ _ _ _ zs HR6.out (by omega) HSN.out) ?_); rintro e w7 ⟨rfl, hb7⟩; have HX7 := Lib.hid (HX6.out.trans (hb7.mono HX6.out.size)); obtain ⟨g0, g1, g2, g3, g4, g5, g6, g7, y2_0, y2_1⟩ := HC.out w7 (HW6.out.trans (hb7.mono HW6.out.size))) | fail)
        refine bodyPost_ret (v := .tuple #[.agg #[.int .i64 nn, .int .i64 de], .int .i64 0]) (by simp [results, Try.results30, go_sem, g6, g7]) rfl ⟨by rw [fr1_ok, HN2.out], ?_⟩
        exact (HX7.out.setCell (p := ⟨w.heap.size + 2, 0, none⟩) (by simp) _).setCell (p := ⟨w.heap.size + 2, 1, none⟩) (by simp) _
  · have e1' : (ee == 0) = false := by simpa using he
    have e2' : (ee != 0) = true := by simpa using he
    go_wp2
    refine bodyPost_ret (v := .tuple #[.agg #[.int .i64 0, .int .i64 0], .int .i64 ee]) (by simp [results, Try.results30, go_sem, c6, c7]) rfl ⟨by rw [fr1_bad he], ?_⟩
    exact (HBX.out.setCell (p := ⟨w.heap.size + 2, 0, none⟩) (by simp) _).setCell (p := ⟨w.heap.size + 2, 1, none⟩) (by simp) _
end Go.Proofs.Ytablphoicidlkaa
