/- Ranges of moments: the program. -/
import Derived.BigRegion
import Derived.Test.YtablphoicidlkaaMGH
import Derived.Test.YtablphoicidlkaaBF
import Derived.Test.YtablphoicidlkaaRJ
import Derived.Test.YtablphoicidlkaaRL
import Derived.Test.YtablphoicidlkaaDM
namespace Go.Proofs.Ytablphoicidlkaa
open Go.RowKit

def mrE (b : Bm) (l m : List Pt) (S T x : Int) : Int := firstE [burE b l S, burE b m T, btwE l m S T, rngE 0 b.s [x]]
theorem mrE_ok {b : Bm} {l m : List Pt} {S T x : Int} (h : mrE b l m S T x = 0) : (BmOk b ∧ WtOk b.s l S) ∧ (BmOk b ∧ WtOk b.s m T) ∧ btwE l m S T = 0 ∧ (0 ≤ x ∧ x ≤ b.s) := by
  unfold mrE at h
  rw [firstE_ok] at h
  simp only [List.mem_cons, List.not_mem_nil, or_false, forall_eq_or_imp, forall_eq, burE_ok, rngE_ok] at h
  exact h
set_option maxHeartbeats 16000000 in
set_option maxRecDepth 20000 in
theorem momentRange_any {b : Bm} {A A' : Option Addr} {n c n' c' : Nat} {S T x : Int} {l m : List Pt} (w : World) (h : PtRow w A n l) (h' : PtRow w A' n' m) (hn : n ≤ maxLen) (hn' : n' ≤ maxLen) :
    Calls Try.prog 47 #[bmV b, buV A n c S, buV A' n' c' T, .int .i64 x] w fun e w' => e = .returned (fr3 (mrE b l m S T x) (rgA b (mom b l S x) (mom b m T x)) (2 * b.s) (rgZ b (mom b l S x) (mom b m T x)) (2 * b.s)) ∧ Below w.heap.size w w' := by
  have CB := Lib.hid (fun wx (hx : Below w.heap.size w wx) => checkBurden_any (b := b) (c := c) (S := S) wx (h.below hx) hn)
  have CB2 := Lib.hid (fun wx (hx : Below w.heap.size w wx) => checkBurden_any (b := b) (c := c') (S := T) wx (h'.below hx) hn')
  have CT := Lib.hid (fun wx (hx : Below w.heap.size w wx) => checkBetween_any (c := c) (c' := c') (S := S) (T := T) hn wx (h.below hx) (h'.below hx))
  have CP := fun wx => Lib.hid (checkPlace_any b x wx)
  have SA := Lib.hid (fun (he : mrE b l m S T x = 0) wx (hx : Below w.heap.size w wx) => let g := mrE_ok he; momentAt_any (c := c) g.1.1 g.1.2 g.2.2.2.1 g.2.2.2.2 wx (h.below hx))
  have SB := Lib.hid (fun (he : mrE b l m S T x = 0) wx (hx : Below w.heap.size w wx) => let g := mrE_ok he; momentAt_any (c := c') g.2.1.1 g.2.1.2 g.2.2.2.1 g.2.2.2.2 wx (h'.below hx))
  have HE : Hid (mrE b l m S T x = firstE [burE b l S, burE b m T, btwE l m S T, rngE 0 b.s [x]]) := Lib.hid rfl
  have HA1 : Hid ((b.e == 1) = true → rgA b (mom b l S x) (mom b m T x) = mom b m T x ∧ rgZ b (mom b l S x) (mom b m T x) = mom b l S x) := Lib.hid (fun h => by unfold rgA rgZ; rw [h]; exact ⟨rfl, rfl⟩)
  have HA0 : Hid ((b.e == 1) = false → rgA b (mom b l S x) (mom b m T x) = mom b l S x ∧ rgZ b (mom b l S x) (mom b m T x) = mom b m T x) := Lib.hid (fun h => by unfold rgA rgZ; rw [h]; exact ⟨rfl, rfl⟩)
  clear h hn h' hn'
  obtain ⟨s, ww, t, en⟩ := b
  unfold bmV buV frV at *
  simp only at CB CB2 CT CP SA SB HE HA1 HA0 ⊢
  generalize rgA ⟨s, ww, t, en⟩ (mom ⟨s, ww, t, en⟩ l S x) (mom ⟨s, ww, t, en⟩ m T x) = ra at *
  generalize rgZ ⟨s, ww, t, en⟩ (mom ⟨s, ww, t, en⟩ l S x) (mom ⟨s, ww, t, en⟩ m T x) = rz at *
  generalize mom ⟨s, ww, t, en⟩ l S x = nu at *
  generalize mom ⟨s, ww, t, en⟩ m T x = mu at *
  generalize 2 * s = dd at *
  generalize mrE ⟨s, ww, t, en⟩ l m S T x = ee at *
  generalize burE ⟨s, ww, t, en⟩ l S = e1 at *
  generalize burE ⟨s, ww, t, en⟩ m T = e2 at *
  generalize btwE l m S T = e3 at *
  generalize rngE 0 s [x] = e4 at *
  have C3 := fun wx b (h : IntRow wx (some ⟨b, 0, none⟩) 4 [e1, e2, e3, e4]) => Lib.hid (firstError_any (c := 4) wx h (by decide))
  rw [← HE.out] at C3
  clear HE
  go_enter Try.func47, Try.ntmps47
  go_wp2
  obtain ⟨w0, hw0⟩ : ∃ w0, (((((w.alloc (.cells #[.int .i64 s, .int .i64 ww, .int .i64 t, .int .i64 en] 23)).alloc (.cells #[.slice A n c, .int .i64 S] 26)).alloc (.cells #[.slice A' n' c', .int .i64 T] 26)).alloc (.cells #[.int .i64 0, .int .i64 0] 30)).alloc (.cells #[.int .i64 0, .int .i64 0] 30)) = w0 := ⟨_, rfl⟩
  have HB0 : Hid (Below w.heap.size w w0) := Lib.hid (by rw [← hw0]; exact ((((((Below.refl _ _).alloc (Nat.le_refl _) _).alloc (by simp; try omega) _).alloc (by simp; try omega) _).alloc (by simp; try omega) _).alloc (by simp; try omega) _))
  have HC := Lib.hid (fun wx (hb : Below w0.heap.size w0 wx) => (show wx.cell? ⟨w.heap.size, 0, none⟩ = some (.int .i64 s) ∧ wx.cell? ⟨w.heap.size, 1, none⟩ = some (.int .i64 ww) ∧ wx.cell? ⟨w.heap.size, 2, none⟩ = some (.int .i64 t) ∧ wx.cell? ⟨w.heap.size, 3, none⟩ = some (.int .i64 en) ∧ wx.cell? ⟨w.heap.size + 1, 0, none⟩ = some (.slice A n c) ∧ wx.cell? ⟨w.heap.size + 1, 1, none⟩ = some (.int .i64 S) ∧ wx.cell? ⟨w.heap.size + 2, 0, none⟩ = some (.slice A' n' c') ∧ wx.cell? ⟨w.heap.size + 2, 1, none⟩ = some (.int .i64 T) ∧ wx.cell? ⟨w.heap.size + 3, 0, none⟩ = some (.int .i64 0) ∧ wx.cell? ⟨w.heap.size + 3, 1, none⟩ = some (.int .i64 0) ∧ wx.cell? ⟨w.heap.size + 4, 0, none⟩ = some (.int .i64 0) ∧ wx.cell? ⟨w.heap.size + 4, 1, none⟩ = some (.int .i64 0) ∧ wx.frozen? ⟨w.heap.size + 1, 0, none⟩ = false ∧ wx.frozen? ⟨w.heap.size + 1, 1, none⟩ = false ∧ wx.frozen? ⟨w.heap.size + 2, 0, none⟩ = false ∧ wx.frozen? ⟨w.heap.size + 2, 1, none⟩ = false ∧ wx.frozen? ⟨w.heap.size + 3, 0, none⟩ = false ∧ wx.frozen? ⟨w.heap.size + 3, 1, none⟩ = false ∧ wx.frozen? ⟨w.heap.size + 4, 0, none⟩ = false ∧ wx.frozen? ⟨w.heap.size + 4, 1, none⟩ = false from by
    subst hw0
    obtain ⟨k, kf⟩ := bcell hb
    exact ⟨(k _ _ (by simp; try omega)).trans (by simp [go_sem]), (k _ _ (by simp; try omega)).trans (by simp [go_sem]), (k _ _ (by simp; try omega)).trans (by simp [go_sem]), (k _ _ (by simp; try omega)).trans (by simp [go_sem]), (k _ _ (by simp; try omega)).trans (by simp [go_sem]), (k _ _ (by simp; try omega)).trans (by simp [go_sem]), (k _ _ (by simp; try omega)).trans (by simp [go_sem]), (k _ _ (by simp; try omega)).trans (by simp [go_sem]), (k _ _ (by simp; try omega)).trans (by simp [go_sem]), (k _ _ (by simp; try omega)).trans (by simp [go_sem]), (k _ _ (by simp; try omega)).trans (by simp [go_sem]), (k _ _ (by simp; try omega)).trans (by simp [go_sem]), (kf _ _ (by simp; try omega)).trans (by simp [go_sem]), (kf _ _ (by simp; try omega)).trans (by simp [go_sem]), (kf _ _ (by simp; try omega)).trans (by simp [go_sem]), (kf _ _ (by simp; try omega)).trans (by simp [go_sem]), (kf _ _ (by simp; try omega)).trans (by simp [go_sem]), (kf _ _ (by simp; try omega)).trans (by simp [go_sem]), (kf _ _ (by simp; try omega)).trans (by simp [go_sem]), (kf _ _ (by simp; try omega)).trans (by simp [go_sem])⟩))
  rw [hw0]
  clear hw0
  refine wp_region_rk [12, 13, 14, 15, 16, 17, 18, 19, 20, 21, 22, 23, 24, 25, 11] [rEq (.agg #[.int .i64 s, .int .i64 ww, .int .i64 t, .int .i64 en]), rEq (.agg #[.slice A n c, .int .i64 S]), rEq (.int .i64 e1), rEq (.agg #[.int .i64 s, .int .i64 ww, .int .i64 t, .int .i64 en]), rEq (.agg #[.slice A' n' c', .int .i64 T]), rEq (.int .i64 e2), rEq (.agg #[.slice A n c, .int .i64 S]), rEq (.agg #[.slice A' n' c', .int .i64 T]), rEq (.int .i64 e3), rEq (.agg #[.int .i64 s, .int .i64 ww, .int .i64 t, .int .i64 en]), rEq (.int .i64 x), rEq (.int .i64 e4), rRow [e1, e2, e3, e4] 4, rEq (.int .i64 ee), rEq (.int .i64 ee)] (by kernel_rfl) (by kernel_rfl) (by decide) rfl ⟨?_, ?_, ?_, ?_, ?_, ?_, ?_, ?_, ?_, ?_, ?_, ?_, ?_, ?_, ?_, trivial⟩ ?_
  · intro ac wx hf hb hd -- 0
    have f4 : ac.tmps[4]?.getD undef = .pointer (some ⟨w.heap.size, 0, none⟩) := by rw [← Array.getD_eq_getD_getElem?]; exact hf.same 4 (by decide)
    obtain ⟨c0, c1, c2, c3, c4, c5, c6, c7, c8, c9, c10, c11, z1_0, z1_1, z2_0, z2_1, z3_0, z3_1, z4_0, z4_1⟩ := HC.out wx hb
    exact rstep_eq (by simp [execOp, Act.eval, f4, c0, c1, c2, c3, go_sem]) rfl
  · intro ac wx hf hb hd -- 1
    have f5 : ac.tmps[5]?.getD undef = .pointer (some ⟨w.heap.size + 1, 0, none⟩) := by rw [← Array.getD_eq_getD_getElem?]; exact hf.same 5 (by decide)
    obtain ⟨c0, c1, c2, c3, c4, c5, c6, c7, c8, c9, c10, c11, z1_0, z1_1, z2_0, z2_1, z3_0, z3_1, z4_0, z4_1⟩ := HC.out wx hb
    exact rstep_eq (by simp [execOp, Act.eval, f5, c4, c5, go_sem]) rfl
  · intro ac wx hf hb hd -- 2
    have d0 : ac.tmps[12]?.getD undef = .agg #[.int .i64 s, .int .i64 ww, .int .i64 t, .int .i64 en] := by rw [← Array.getD_eq_getD_getElem?]; exact hd 0 (by decide)
    have d1 : ac.tmps[13]?.getD undef = .agg #[.slice A n c, .int .i64 S] := by rw [← Array.getD_eq_getD_getElem?]; exact hd 1 (by decide)
    refine rstep_call (f := 26) (args := #[.agg #[.int .i64 s, .int .i64 ww, .int .i64 t, .int .i64 en], .agg #[.slice A n c, .int .i64 S]]) (by simp [Act.eval, d0, d1, go_sem]) ?_ rfl
    exact CB.out wx (HB0.out.trans (hb.mono HB0.out.size))
  · intro ac wx hf hb hd -- 3
    have f4 : ac.tmps[4]?.getD undef = .pointer (some ⟨w.heap.size, 0, none⟩) := by rw [← Array.getD_eq_getD_getElem?]; exact hf.same 4 (by decide)
    obtain ⟨c0, c1, c2, c3, c4, c5, c6, c7, c8, c9, c10, c11, z1_0, z1_1, z2_0, z2_1, z3_0, z3_1, z4_0, z4_1⟩ := HC.out wx hb
    exact rstep_eq (by simp [execOp, Act.eval, f4, c0, c1, c2, c3, go_sem]) rfl
  · intro ac wx hf hb hd -- 4
    have f6 : ac.tmps[6]?.getD undef = .pointer (some ⟨w.heap.size + 2, 0, none⟩) := by rw [← Array.getD_eq_getD_getElem?]; exact hf.same 6 (by decide)
    obtain ⟨c0, c1, c2, c3, c4, c5, c6, c7, c8, c9, c10, c11, z1_0, z1_1, z2_0, z2_1, z3_0, z3_1, z4_0, z4_1⟩ := HC.out wx hb
    exact rstep_eq (by simp [execOp, Act.eval, f6, c6, c7, go_sem]) rfl
  · intro ac wx hf hb hd -- 5
    have d3 : ac.tmps[15]?.getD undef = .agg #[.int .i64 s, .int .i64 ww, .int .i64 t, .int .i64 en] := by rw [← Array.getD_eq_getD_getElem?]; exact hd 3 (by decide)
    have d4 : ac.tmps[16]?.getD undef = .agg #[.slice A' n' c', .int .i64 T] := by rw [← Array.getD_eq_getD_getElem?]; exact hd 4 (by decide)
    refine rstep_call (f := 26) (args := #[.agg #[.int .i64 s, .int .i64 ww, .int .i64 t, .int .i64 en], .agg #[.slice A' n' c', .int .i64 T]]) (by simp [Act.eval, d3, d4, go_sem]) ?_ rfl
    exact CB2.out wx (HB0.out.trans (hb.mono HB0.out.size))
  · intro ac wx hf hb hd -- 6
    have f5 : ac.tmps[5]?.getD undef = .pointer (some ⟨w.heap.size + 1, 0, none⟩) := by rw [← Array.getD_eq_getD_getElem?]; exact hf.same 5 (by decide)
    obtain ⟨c0, c1, c2, c3, c4, c5, c6, c7, c8, c9, c10, c11, z1_0, z1_1, z2_0, z2_1, z3_0, z3_1, z4_0, z4_1⟩ := HC.out wx hb
    exact rstep_eq (by simp [execOp, Act.eval, f5, c4, c5, go_sem]) rfl
  · intro ac wx hf hb hd -- 7
    have f6 : ac.tmps[6]?.getD undef = .pointer (some ⟨w.heap.size + 2, 0, none⟩) := by rw [← Array.getD_eq_getD_getElem?]; exact hf.same 6 (by decide)
    obtain ⟨c0, c1, c2, c3, c4, c5, c6, c7, c8, c9, c10, c11, z1_0, z1_1, z2_0, z2_1, z3_0, z3_1, z4_0, z4_1⟩ := HC.out wx hb
    exact rstep_eq (by simp [execOp, Act.eval, f6, c6, c7, go_sem]) rfl
  · intro ac wx hf hb hd -- 8
    have d6 : ac.tmps[18]?.getD undef = .agg #[.slice A n c, .int .i64 S] := by rw [← Array.getD_eq_getD_getElem?]; exact hd 6 (by decide)
    have d7 : ac.tmps[19]?.getD undef = .agg #[.slice A' n' c', .int .i64 T] := by rw [← Array.getD_eq_getD_getElem?]; exact hd 7 (by decide)
    refine rstep_call (f := 113) (args := #[.agg #[.slice A n c, .int .i64 S], .agg #[.slice A' n' c', .int .i64 T]]) (by simp [Act.eval, d6, d7, go_sem]) ?_ rfl
    exact CT.out wx (HB0.out.trans (hb.mono HB0.out.size))
  · intro ac wx hf hb hd -- 9
    have f4 : ac.tmps[4]?.getD undef = .pointer (some ⟨w.heap.size, 0, none⟩) := by rw [← Array.getD_eq_getD_getElem?]; exact hf.same 4 (by decide)
    obtain ⟨c0, c1, c2, c3, c4, c5, c6, c7, c8, c9, c10, c11, z1_0, z1_1, z2_0, z2_1, z3_0, z3_1, z4_0, z4_1⟩ := HC.out wx hb
    exact rstep_eq (by simp [execOp, Act.eval, f4, c0, c1, c2, c3, go_sem]) rfl
  · intro ac wx hf hb hd -- 10
    have f3 : ac.tmps[3]?.getD undef = .int .i64 x := by rw [← Array.getD_eq_getD_getElem?]; exact hf.same 3 (by decide)
    exact rstep_eq (by simp [execOp, Act.eval, f3, go_sem]) rfl
  · intro ac wx hf hb hd -- 11
    have d9 : ac.tmps[21]?.getD undef = .agg #[.int .i64 s, .int .i64 ww, .int .i64 t, .int .i64 en] := by rw [← Array.getD_eq_getD_getElem?]; exact hd 9 (by decide)
    have d10 : ac.tmps[22]?.getD undef = .int .i64 x := by rw [← Array.getD_eq_getD_getElem?]; exact hd 10 (by decide)
    refine rstep_call (f := 99) (args := #[.agg #[.int .i64 s, .int .i64 ww, .int .i64 t, .int .i64 en], .int .i64 x]) (by simp [Act.eval, d9, d10, go_sem]) ?_ rfl
    exact (CP wx).out
  · intro ac wx hf hb hd -- 12
    have d2 : ac.tmps[14]?.getD undef = .int .i64 e1 := by rw [← Array.getD_eq_getD_getElem?]; exact hd 2 (by decide)
    have d5 : ac.tmps[17]?.getD undef = .int .i64 e2 := by rw [← Array.getD_eq_getD_getElem?]; exact hd 5 (by decide)
    have d8 : ac.tmps[20]?.getD undef = .int .i64 e3 := by rw [← Array.getD_eq_getD_getElem?]; exact hd 8 (by decide)
    have d11 : ac.tmps[23]?.getD undef = .int .i64 e4 := by rw [← Array.getD_eq_getD_getElem?]; exact hd 11 (by decide)
    exact rstep_row (t := 31) (zs := [e1, e2, e3, e4]) rfl rfl (by simp [execOp, Act.eval, d2, d5, d8, d11, go_sem]) rfl
  · intro ac wx hf hb hd -- 13
    obtain ⟨b12, d12, r12⟩ : ∃ b, ac.tmps[24]?.getD undef = .slice (some ⟨b, 0, none⟩) 4 4 ∧ IntRow wx (some ⟨b, 0, none⟩) 4 [e1, e2, e3, e4] := by rw [← Array.getD_eq_getD_getElem?]; exact hd 12 (by decide)
    refine rstep_call (f := 95) (args := #[.slice (some ⟨b12, 0, none⟩) 4 4]) (by simp [Act.eval, d12, go_sem]) ?_ rfl
    exact (C3 wx b12 r12).out.mono fun e w' ⟨he, hw⟩ => ⟨he, hw ▸ Below.refl _ _⟩
  · intro ac wx hf hb hd -- 14
    have d13 : ac.tmps[25]?.getD undef = .int .i64 ee := by rw [← Array.getD_eq_getD_getElem?]; exact hd 13 (by decide)
    exact rstep_eq (by simp [execOp, Act.eval, d13, go_sem]) rfl
  rintro ⟨⟨ll⟩, df⟩ wy hf hby hall
  have hdf : df = [] := hf.defers
  subst hdf
  have hsz : ll.length = 44 := hf.size
  obtain ⟨x0, ll0, rfl, hsz0⟩ := cons_of hsz
  obtain ⟨x1, ll1, rfl, hsz1⟩ := cons_of hsz0
  obtain ⟨x2, ll2, rfl, hsz2⟩ := cons_of hsz1
  obtain ⟨x3, ll3, rfl, hsz3⟩ := cons_of hsz2
  obtain ⟨x4, ll4, rfl, hsz4⟩ := cons_of hsz3
  obtain ⟨x5, ll5, rfl, hsz5⟩ := cons_of hsz4
  obtain ⟨x6, ll6, rfl, hsz6⟩ := cons_of hsz5
  obtain ⟨x7, ll7, rfl, hsz7⟩ := cons_of hsz6
  obtain ⟨x8, ll8, rfl, hsz8⟩ := cons_of hsz7
  obtain ⟨x9, ll9, rfl, hsz9⟩ := cons_of hsz8
  obtain ⟨x10, ll10, rfl, hsz10⟩ := cons_of hsz9
  obtain ⟨x11, ll11, rfl, hsz11⟩ := cons_of hsz10
  obtain ⟨x12, ll12, rfl, hsz12⟩ := cons_of hsz11
  obtain ⟨x13, ll13, rfl, hsz13⟩ := cons_of hsz12
  obtain ⟨x14, ll14, rfl, hsz14⟩ := cons_of hsz13
  obtain ⟨x15, ll15, rfl, hsz15⟩ := cons_of hsz14
  obtain ⟨x16, ll16, rfl, hsz16⟩ := cons_of hsz15
  obtain ⟨x17, ll17, rfl, hsz17⟩ := cons_of hsz16
  obtain ⟨x18, ll18, rfl, hsz18⟩ := cons_of hsz17
  obtain ⟨x19, ll19, rfl, hsz19⟩ := cons_of hsz18
  obtain ⟨x20, ll20, rfl, hsz20⟩ := cons_of hsz19
  obtain ⟨x21, ll21, rfl, hsz21⟩ := cons_of hsz20
  obtain ⟨x22, ll22, rfl, hsz22⟩ := cons_of hsz21
  obtain ⟨x23, ll23, rfl, hsz23⟩ := cons_of hsz22
  obtain ⟨x24, ll24, rfl, hsz24⟩ := cons_of hsz23
  obtain ⟨x25, ll25, rfl, hsz25⟩ := cons_of hsz24
  obtain ⟨x26, ll26, rfl, hsz26⟩ := cons_of hsz25
  obtain ⟨x27, ll27, rfl, hsz27⟩ := cons_of hsz26
  obtain ⟨x28, ll28, rfl, hsz28⟩ := cons_of hsz27
  obtain ⟨x29, ll29, rfl, hsz29⟩ := cons_of hsz28
  obtain ⟨x30, ll30, rfl, hsz30⟩ := cons_of hsz29
  obtain ⟨x31, ll31, rfl, hsz31⟩ := cons_of hsz30
  obtain ⟨x32, ll32, rfl, hsz32⟩ := cons_of hsz31
  obtain ⟨x33, ll33, rfl, hsz33⟩ := cons_of hsz32
  obtain ⟨x34, ll34, rfl, hsz34⟩ := cons_of hsz33
  obtain ⟨x35, ll35, rfl, hsz35⟩ := cons_of hsz34
  obtain ⟨x36, ll36, rfl, hsz36⟩ := cons_of hsz35
  obtain ⟨x37, ll37, rfl, hsz37⟩ := cons_of hsz36
  obtain ⟨x38, ll38, rfl, hsz38⟩ := cons_of hsz37
  obtain ⟨x39, ll39, rfl, hsz39⟩ := cons_of hsz38
  obtain ⟨x40, ll40, rfl, hsz40⟩ := cons_of hsz39
  obtain ⟨x41, ll41, rfl, hsz41⟩ := cons_of hsz40
  obtain ⟨x42, ll42, rfl, hsz42⟩ := cons_of hsz41
  obtain ⟨x43, ll43, rfl, hsz43⟩ := cons_of hsz42
  obtain rfl := List.eq_nil_of_length_eq_zero hsz43
  obtain rfl : x3 = .int .i64 x := hf.same 3 (by decide)
  obtain rfl : x4 = .pointer (some ⟨w.heap.size, 0, none⟩) := hf.same 4 (by decide)
  obtain rfl : x5 = .pointer (some ⟨w.heap.size + 1, 0, none⟩) := hf.same 5 (by decide)
  obtain rfl : x6 = .pointer (some ⟨w.heap.size + 2, 0, none⟩) := hf.same 6 (by decide)
  obtain rfl : x8 = .pointer (some ⟨w.heap.size + 3, 0, none⟩) := hf.same 8 (by decide)
  obtain rfl : x9 = .pointer (some ⟨w.heap.size + 4, 0, none⟩) := hf.same 9 (by decide)
  obtain rfl : x11 = .int .i64 ee := hall 14 11 rfl
  obtain rfl : x12 = .agg #[.int .i64 s, .int .i64 ww, .int .i64 t, .int .i64 en] := hall 0 12 rfl
  obtain rfl : x13 = .agg #[.slice A n c, .int .i64 S] := hall 1 13 rfl
  obtain rfl : x14 = .int .i64 e1 := hall 2 14 rfl
  obtain rfl : x15 = .agg #[.int .i64 s, .int .i64 ww, .int .i64 t, .int .i64 en] := hall 3 15 rfl
  obtain rfl : x16 = .agg #[.slice A' n' c', .int .i64 T] := hall 4 16 rfl
  obtain rfl : x17 = .int .i64 e2 := hall 5 17 rfl
  obtain rfl : x18 = .agg #[.slice A n c, .int .i64 S] := hall 6 18 rfl
  obtain rfl : x19 = .agg #[.slice A' n' c', .int .i64 T] := hall 7 19 rfl
  obtain rfl : x20 = .int .i64 e3 := hall 8 20 rfl
  obtain rfl : x21 = .agg #[.int .i64 s, .int .i64 ww, .int .i64 t, .int .i64 en] := hall 9 21 rfl
  obtain rfl : x22 = .int .i64 x := hall 10 22 rfl
  obtain rfl : x23 = .int .i64 e4 := hall 11 23 rfl
  obtain rfl : x25 = .int .i64 ee := hall 13 25 rfl
  clear hall hf
  have HY := Lib.hid hby
  have HYW := Lib.hid (HB0.out.trans (hby.mono HB0.out.size))
  clear hby
  by_cases he : ee = 0
  · subst he
    have SA1 := SA.out rfl
    have SB1 := SB.out rfl
    obtain ⟨sn, hsn⟩ : ∃ v, lowN nu dd = v := ⟨_, rfl⟩
    obtain ⟨sd, hsd⟩ : ∃ v, lowD nu dd = v := ⟨_, rfl⟩
    obtain ⟨tn, htn⟩ : ∃ v, lowN mu dd = v := ⟨_, rfl⟩
    obtain ⟨td, htd⟩ : ∃ v, lowD mu dd = v := ⟨_, rfl⟩
    rw [hsn, hsd] at SA1
    rw [htn, htd] at SB1
    have HS1 : Hid (frV nu dd = .agg #[.int .i64 sn, .int .i64 sd]) := Lib.hid (by unfold frV; rw [hsn, hsd])
    have HS2 : Hid (frV mu dd = .agg #[.int .i64 tn, .int .i64 td]) := Lib.hid (by unfold frV; rw [htn, htd])
    have SA2 := Lib.hid SA1
    have SB2 := Lib.hid SB1
    clear SA SB SA1 SB1 hsn hsd htn htd CB CB2 CT CP C3
    have HCY := Lib.hid (fun wx (hx : Below wy.heap.size wy wx) => HC.out wx (HY.out.trans (hx.mono HY.out.size)))
    obtain ⟨c0, c1, c2, c3, c4, c5, c6, c7, c8, c9, c10, c11, z1_0, z1_1, z2_0, z2_1, z3_0, z3_1, z4_0, z4_1⟩ := HCY.out wy (Below.refl _ _)
    have ly : w.heap.size + 4 < wy.heap.size := World.block_lt_of_cell? wy _ c11
    by_cases hen : en = 1
    · subst hen
      obtain ⟨hra, hrz⟩ := HA1.out rfl
      have HRZ := Lib.hid (And.intro hra hrz)
      clear HA0 HA1 hra hrz
      go_upto_region 6 with fail
      obtain ⟨w5, hw5⟩ : ∃ w5, ((((wy.setCell ⟨w.heap.size + 1, 0, none⟩ (.slice A' n' c')).setCell ⟨w.heap.size + 1, 1, none⟩ (.int .i64 T)).setCell ⟨w.heap.size + 2, 0, none⟩ (.slice A n c)).setCell ⟨w.heap.size + 2, 1, none⟩ (.int .i64 S)) = w5 := ⟨_, rfl⟩
      have H5W : Hid (Below w.heap.size w w5) := Lib.hid (by rw [← hw5]; exact ((((HYW.out.setCell (p := ⟨w.heap.size + 1, 0, none⟩) (by simp) _).setCell (p := ⟨w.heap.size + 1, 1, none⟩) (by simp) _).setCell (p := ⟨w.heap.size + 2, 0, none⟩) (by simp) _).setCell (p := ⟨w.heap.size + 2, 1, none⟩) (by simp) _))
      have HC5 := Lib.hid (fun wx (hb : Below w5.heap.size w5 wx) => (show wx.cell? ⟨w.heap.size, 0, none⟩ = some (.int .i64 s) ∧ wx.cell? ⟨w.heap.size, 1, none⟩ = some (.int .i64 ww) ∧ wx.cell? ⟨w.heap.size, 2, none⟩ = some (.int .i64 t) ∧ wx.cell? ⟨w.heap.size, 3, none⟩ = some (.int .i64 1) ∧ wx.cell? ⟨w.heap.size + 1, 0, none⟩ = some (.slice A' n' c') ∧ wx.cell? ⟨w.heap.size + 1, 1, none⟩ = some (.int .i64 T) ∧ wx.cell? ⟨w.heap.size + 2, 0, none⟩ = some (.slice A n c) ∧ wx.cell? ⟨w.heap.size + 2, 1, none⟩ = some (.int .i64 S) ∧ wx.cell? ⟨w.heap.size + 3, 0, none⟩ = some (.int .i64 0) ∧ wx.cell? ⟨w.heap.size + 3, 1, none⟩ = some (.int .i64 0) ∧ wx.cell? ⟨w.heap.size + 4, 0, none⟩ = some (.int .i64 0) ∧ wx.cell? ⟨w.heap.size + 4, 1, none⟩ = some (.int .i64 0) ∧ wx.frozen? ⟨w.heap.size + 1, 0, none⟩ = false ∧ wx.frozen? ⟨w.heap.size + 1, 1, none⟩ = false ∧ wx.frozen? ⟨w.heap.size + 2, 0, none⟩ = false ∧ wx.frozen? ⟨w.heap.size + 2, 1, none⟩ = false ∧ wx.frozen? ⟨w.heap.size + 3, 0, none⟩ = false ∧ wx.frozen? ⟨w.heap.size + 3, 1, none⟩ = false ∧ wx.frozen? ⟨w.heap.size + 4, 0, none⟩ = false ∧ wx.frozen? ⟨w.heap.size + 4, 1, none⟩ = false from by
        subst hw5
        obtain ⟨k, kf⟩ := bcell hb
        exact ⟨(k _ _ (by simp; omega)).trans (by simp [go_sem, c0]), (k _ _ (by simp; omega)).trans (by simp [go_sem, c1]), (k _ _ (by simp; omega)).trans (by simp [go_sem, c2]), (k _ _ (by simp; omega)).trans (by simp [go_sem, c3]), (k _ _ (by simp; omega)).trans (by simp [go_sem, c4]), (k _ _ (by simp; omega)).trans (by simp [go_sem, c5]), (k _ _ (by simp; omega)).trans (by simp [go_sem, c6]), (k _ _ (by simp; omega)).trans (by simp [go_sem, c7]), (k _ _ (by simp; omega)).trans (by simp [go_sem, c8]), (k _ _ (by simp; omega)).trans (by simp [go_sem, c9]), (k _ _ (by simp; omega)).trans (by simp [go_sem, c10]), (k _ _ (by simp; omega)).trans (by simp [go_sem, c11]), (kf _ _ (by simp; omega)).trans (by simp [go_sem, z1_0]), (kf _ _ (by simp; omega)).trans (by simp [go_sem, z1_1]), (kf _ _ (by simp; omega)).trans (by simp [go_sem, z2_0]), (kf _ _ (by simp; omega)).trans (by simp [go_sem, z2_1]), (kf _ _ (by simp; omega)).trans (by simp [go_sem, z3_0]), (kf _ _ (by simp; omega)).trans (by simp [go_sem, z3_1]), (kf _ _ (by simp; omega)).trans (by simp [go_sem, z4_0]), (kf _ _ (by simp; omega)).trans (by simp [go_sem, z4_1])⟩))
      rw [hw5]
      clear hw5 c0 c1 c2 c3 c4 c5 c6 c7 c8 c9 c10 c11 z1_0 z1_1 z2_0 z2_1 z3_0 z3_1 z4_0 z4_1
      refine wp_region_tail [36, 37, 38, 39, 40, 41, 42, 43] [rEq (.agg #[.int .i64 s, .int .i64 ww, .int .i64 t, .int .i64 1]), rEq (.agg #[.slice A' n' c', .int .i64 T]), rEq (.int .i64 x), rEq (.agg #[.int .i64 tn, .int .i64 td]), rEq (.agg #[.int .i64 s, .int .i64 ww, .int .i64 t, .int .i64 1]), rEq (.agg #[.slice A n c, .int .i64 S]), rEq (.int .i64 x), rEq (.agg #[.int .i64 sn, .int .i64 sd])] (by kernel_rfl) (by kernel_rfl) (by decide) (by decide +kernel) ⟨?_, ?_, ?_, ?_, ?_, ?_, ?_, ?_, trivial⟩ ?_
      · intro ac wx hf hb hd -- 0
        have f4 : ac.tmps[4]?.getD undef = .pointer (some ⟨w.heap.size, 0, none⟩) := by rw [← Array.getD_eq_getD_getElem?]; exact hf.same 4 (by decide)
        obtain ⟨c0, c1, c2, c3, c4, c5, c6, c7, c8, c9, c10, c11, z1_0, z1_1, z2_0, z2_1, z3_0, z3_1, z4_0, z4_1⟩ := HC5.out wx hb
        exact rstep_eq (by simp [execOp, Act.eval, f4, c0, c1, c2, c3, go_sem]) rfl
      · intro ac wx hf hb hd -- 1
        have f5 : ac.tmps[5]?.getD undef = .pointer (some ⟨w.heap.size + 1, 0, none⟩) := by rw [← Array.getD_eq_getD_getElem?]; exact hf.same 5 (by decide)
        obtain ⟨c0, c1, c2, c3, c4, c5, c6, c7, c8, c9, c10, c11, z1_0, z1_1, z2_0, z2_1, z3_0, z3_1, z4_0, z4_1⟩ := HC5.out wx hb
        exact rstep_eq (by simp [execOp, Act.eval, f5, c4, c5, go_sem]) rfl
      · intro ac wx hf hb hd -- 2
        have f3 : ac.tmps[3]?.getD undef = .int .i64 x := by rw [← Array.getD_eq_getD_getElem?]; exact hf.same 3 (by decide)
        exact rstep_eq (by simp [execOp, Act.eval, f3, go_sem]) rfl
      · intro ac wx hf hb hd -- 3
        have d0 : ac.tmps[36]?.getD undef = .agg #[.int .i64 s, .int .i64 ww, .int .i64 t, .int .i64 1] := by rw [← Array.getD_eq_getD_getElem?]; exact hd 0 (by decide)
        have d1 : ac.tmps[37]?.getD undef = .agg #[.slice A' n' c', .int .i64 T] := by rw [← Array.getD_eq_getD_getElem?]; exact hd 1 (by decide)
        have d2 : ac.tmps[38]?.getD undef = .int .i64 x := by rw [← Array.getD_eq_getD_getElem?]; exact hd 2 (by decide)
        refine rstep_call (f := 100) (args := #[.agg #[.int .i64 s, .int .i64 ww, .int .i64 t, .int .i64 1], .agg #[.slice A' n' c', .int .i64 T], .int .i64 x]) (by simp [Act.eval, d0, d1, d2, go_sem]) ?_ rfl
        exact SB2.out wx (H5W.out.trans (hb.mono H5W.out.size))
      · intro ac wx hf hb hd -- 4
        have f4 : ac.tmps[4]?.getD undef = .pointer (some ⟨w.heap.size, 0, none⟩) := by rw [← Array.getD_eq_getD_getElem?]; exact hf.same 4 (by decide)
        obtain ⟨c0, c1, c2, c3, c4, c5, c6, c7, c8, c9, c10, c11, z1_0, z1_1, z2_0, z2_1, z3_0, z3_1, z4_0, z4_1⟩ := HC5.out wx hb
        exact rstep_eq (by simp [execOp, Act.eval, f4, c0, c1, c2, c3, go_sem]) rfl
      · intro ac wx hf hb hd -- 5
        have f6 : ac.tmps[6]?.getD undef = .pointer (some ⟨w.heap.size + 2, 0, none⟩) := by rw [← Array.getD_eq_getD_getElem?]; exact hf.same 6 (by decide)
        obtain ⟨c0, c1, c2, c3, c4, c5, c6, c7, c8, c9, c10, c11, z1_0, z1_1, z2_0, z2_1, z3_0, z3_1, z4_0, z4_1⟩ := HC5.out wx hb
        exact rstep_eq (by simp [execOp, Act.eval, f6, c6, c7, go_sem]) rfl
      · intro ac wx hf hb hd -- 6
        have f3 : ac.tmps[3]?.getD undef = .int .i64 x := by rw [← Array.getD_eq_getD_getElem?]; exact hf.same 3 (by decide)
        exact rstep_eq (by simp [execOp, Act.eval, f3, go_sem]) rfl
      · intro ac wx hf hb hd -- 7
        have d4 : ac.tmps[40]?.getD undef = .agg #[.int .i64 s, .int .i64 ww, .int .i64 t, .int .i64 1] := by rw [← Array.getD_eq_getD_getElem?]; exact hd 4 (by decide)
        have d5 : ac.tmps[41]?.getD undef = .agg #[.slice A n c, .int .i64 S] := by rw [← Array.getD_eq_getD_getElem?]; exact hd 5 (by decide)
        have d6 : ac.tmps[42]?.getD undef = .int .i64 x := by rw [← Array.getD_eq_getD_getElem?]; exact hd 6 (by decide)
        refine rstep_call (f := 100) (args := #[.agg #[.int .i64 s, .int .i64 ww, .int .i64 t, .int .i64 1], .agg #[.slice A n c, .int .i64 S], .int .i64 x]) (by simp [Act.eval, d4, d5, d6, go_sem]) ?_ rfl
        exact SA2.out wx (H5W.out.trans (hb.mono H5W.out.size))
      rintro ⟨⟨ll⟩, df⟩ w4 hf hbw4 hall
      have hdf : df = [] := hf.defers
      subst hdf
      have hsz : ll.length = 44 := hf.size
      obtain ⟨x0, ll0, rfl, hsz0⟩ := cons_of hsz
      obtain ⟨x1, ll1, rfl, hsz1⟩ := cons_of hsz0
      obtain ⟨x2, ll2, rfl, hsz2⟩ := cons_of hsz1
      obtain ⟨x3, ll3, rfl, hsz3⟩ := cons_of hsz2
      obtain ⟨x4, ll4, rfl, hsz4⟩ := cons_of hsz3
      obtain ⟨x5, ll5, rfl, hsz5⟩ := cons_of hsz4
      obtain ⟨x6, ll6, rfl, hsz6⟩ := cons_of hsz5
      obtain ⟨x7, ll7, rfl, hsz7⟩ := cons_of hsz6
      obtain ⟨x8, ll8, rfl, hsz8⟩ := cons_of hsz7
      obtain ⟨x9, ll9, rfl, hsz9⟩ := cons_of hsz8
      obtain ⟨x10, ll10, rfl, hsz10⟩ := cons_of hsz9
      obtain ⟨x11, ll11, rfl, hsz11⟩ := cons_of hsz10
      obtain ⟨x12, ll12, rfl, hsz12⟩ := cons_of hsz11
      obtain ⟨x13, ll13, rfl, hsz13⟩ := cons_of hsz12
      obtain ⟨x14, ll14, rfl, hsz14⟩ := cons_of hsz13
      obtain ⟨x15, ll15, rfl, hsz15⟩ := cons_of hsz14
      obtain ⟨x16, ll16, rfl, hsz16⟩ := cons_of hsz15
      obtain ⟨x17, ll17, rfl, hsz17⟩ := cons_of hsz16
      obtain ⟨x18, ll18, rfl, hsz18⟩ := cons_of hsz17
      obtain ⟨x19, ll19, rfl, hsz19⟩ := cons_of hsz18
      obtain ⟨x20, ll20, rfl, hsz20⟩ := cons_of hsz19
      obtain ⟨x21, ll21, rfl, hsz21⟩ := cons_of hsz20
      obtain ⟨x22, ll22, rfl, hsz22⟩ := cons_of hsz21
      obtain ⟨x23, ll23, rfl, hsz23⟩ := cons_of hsz22
      obtain ⟨x24, ll24, rfl, hsz24⟩ := cons_of hsz23
      obtain ⟨x25, ll25, rfl, hsz25⟩ := cons_of hsz24
      obtain ⟨x26, ll26, rfl, hsz26⟩ := cons_of hsz25
      obtain ⟨x27, ll27, rfl, hsz27⟩ := cons_of hsz26
      obtain ⟨x28, ll28, rfl, hsz28⟩ := cons_of hsz27
      obtain ⟨x29, ll29, rfl, hsz29⟩ := cons_of hsz28
      obtain ⟨x30, ll30, rfl, hsz30⟩ := cons_of hsz29
      obtain ⟨x31, ll31, rfl, hsz31⟩ := cons_of hsz30
      obtain ⟨x32, ll32, rfl, hsz32⟩ := cons_of hsz31
      obtain ⟨x33, ll33, rfl, hsz33⟩ := cons_of hsz32
      obtain ⟨x34, ll34, rfl, hsz34⟩ := cons_of hsz33
      obtain ⟨x35, ll35, rfl, hsz35⟩ := cons_of hsz34
      obtain ⟨x36, ll36, rfl, hsz36⟩ := cons_of hsz35
      obtain ⟨x37, ll37, rfl, hsz37⟩ := cons_of hsz36
      obtain ⟨x38, ll38, rfl, hsz38⟩ := cons_of hsz37
      obtain ⟨x39, ll39, rfl, hsz39⟩ := cons_of hsz38
      obtain ⟨x40, ll40, rfl, hsz40⟩ := cons_of hsz39
      obtain ⟨x41, ll41, rfl, hsz41⟩ := cons_of hsz40
      obtain ⟨x42, ll42, rfl, hsz42⟩ := cons_of hsz41
      obtain ⟨x43, ll43, rfl, hsz43⟩ := cons_of hsz42
      obtain rfl := List.eq_nil_of_length_eq_zero hsz43
      obtain rfl : x3 = .int .i64 x := hf.same 3 (by decide)
      obtain rfl : x4 = .pointer (some ⟨w.heap.size, 0, none⟩) := hf.same 4 (by decide)
      obtain rfl : x5 = .pointer (some ⟨w.heap.size + 1, 0, none⟩) := hf.same 5 (by decide)
      obtain rfl : x6 = .pointer (some ⟨w.heap.size + 2, 0, none⟩) := hf.same 6 (by decide)
      obtain rfl : x8 = .pointer (some ⟨w.heap.size + 3, 0, none⟩) := hf.same 8 (by decide)
      obtain rfl : x9 = .pointer (some ⟨w.heap.size + 4, 0, none⟩) := hf.same 9 (by decide)
      obtain rfl : x36 = .agg #[.int .i64 s, .int .i64 ww, .int .i64 t, .int .i64 1] := hall 0 36 rfl
      obtain rfl : x37 = .agg #[.slice A' n' c', .int .i64 T] := hall 1 37 rfl
      obtain rfl : x38 = .int .i64 x := hall 2 38 rfl
      obtain rfl : x39 = .agg #[.int .i64 tn, .int .i64 td] := hall 3 39 rfl
      obtain rfl : x40 = .agg #[.int .i64 s, .int .i64 ww, .int .i64 t, .int .i64 1] := hall 4 40 rfl
      obtain rfl : x41 = .agg #[.slice A n c, .int .i64 S] := hall 5 41 rfl
      obtain rfl : x42 = .int .i64 x := hall 6 42 rfl
      obtain rfl : x43 = .agg #[.int .i64 sn, .int .i64 sd] := hall 7 43 rfl
      clear hall hf
      obtain ⟨c0, c1, c2, c3, c4, c5, c6, c7, c8, c9, c10, c11, z1_0, z1_1, z2_0, z2_1, z3_0, z3_1, z4_0, z4_1⟩ := HC5.out w4 hbw4
      simp [wpSeq_cons, wpSeq_nil, Oper.wp, Oper.upon, execOp, Act.eval, go_sem, c8, c9, c10, c11, z3_0, z3_1, z4_0, z4_1]
      go_wp2
      refine bodyPost_ret (v := .tuple #[.agg #[.int .i64 tn, .int .i64 td], .agg #[.int .i64 sn, .int .i64 sd], .int .i64 0]) (by simp [results, Try.results47, go_sem, c8, c9, c10, c11]) rfl ⟨by rw [fr3_ok, HRZ.out.1, HRZ.out.2, HS1.out, HS2.out], ?_⟩
      exact (((((H5W.out.trans (hbw4.mono H5W.out.size)).setCell (p := ⟨w.heap.size + 3, 0, none⟩) (by simp) _).setCell (p := ⟨w.heap.size + 3, 1, none⟩) (by simp) _).setCell (p := ⟨w.heap.size + 4, 0, none⟩) (by simp) _).setCell (p := ⟨w.heap.size + 4, 1, none⟩) (by simp) _)
    · have hen2 : (en == 1) = false := by simpa using hen
      obtain ⟨hra, hrz⟩ := HA0.out hen2
      have HRZ := Lib.hid (And.intro hra hrz)
      clear HA0 HA1 hra hrz
      go_upto_region 6 with fail
      clear c0 c1 c2 c3 c4 c5 c6 c7 c8 c9 c10 c11 z1_0 z1_1 z2_0 z2_1 z3_0 z3_1 z4_0 z4_1
      refine wp_region_tail [36, 37, 38, 39, 40, 41, 42, 43] [rEq (.agg #[.int .i64 s, .int .i64 ww, .int .i64 t, .int .i64 en]), rEq (.agg #[.slice A n c, .int .i64 S]), rEq (.int .i64 x), rEq (.agg #[.int .i64 sn, .int .i64 sd]), rEq (.agg #[.int .i64 s, .int .i64 ww, .int .i64 t, .int .i64 en]), rEq (.agg #[.slice A' n' c', .int .i64 T]), rEq (.int .i64 x), rEq (.agg #[.int .i64 tn, .int .i64 td])] (by kernel_rfl) (by kernel_rfl) (by decide) (by decide +kernel) ⟨?_, ?_, ?_, ?_, ?_, ?_, ?_, ?_, trivial⟩ ?_
      · intro ac wx hf hb hd -- 0
        have f4 : ac.tmps[4]?.getD undef = .pointer (some ⟨w.heap.size, 0, none⟩) := by rw [← Array.getD_eq_getD_getElem?]; exact hf.same 4 (by decide)
        obtain ⟨c0, c1, c2, c3, c4, c5, c6, c7, c8, c9, c10, c11, z1_0, z1_1, z2_0, z2_1, z3_0, z3_1, z4_0, z4_1⟩ := HCY.out wx hb
        exact rstep_eq (by simp [execOp, Act.eval, f4, c0, c1, c2, c3, go_sem]) rfl
      · intro ac wx hf hb hd -- 1
        have f5 : ac.tmps[5]?.getD undef = .pointer (some ⟨w.heap.size + 1, 0, none⟩) := by rw [← Array.getD_eq_getD_getElem?]; exact hf.same 5 (by decide)
        obtain ⟨c0, c1, c2, c3, c4, c5, c6, c7, c8, c9, c10, c11, z1_0, z1_1, z2_0, z2_1, z3_0, z3_1, z4_0, z4_1⟩ := HCY.out wx hb
        exact rstep_eq (by simp [execOp, Act.eval, f5, c4, c5, go_sem]) rfl
      · intro ac wx hf hb hd -- 2
        have f3 : ac.tmps[3]?.getD undef = .int .i64 x := by rw [← Array.getD_eq_getD_getElem?]; exact hf.same 3 (by decide)
        exact rstep_eq (by simp [execOp, Act.eval, f3, go_sem]) rfl
      · intro ac wx hf hb hd -- 3
        have d0 : ac.tmps[36]?.getD undef = .agg #[.int .i64 s, .int .i64 ww, .int .i64 t, .int .i64 en] := by rw [← Array.getD_eq_getD_getElem?]; exact hd 0 (by decide)
        have d1 : ac.tmps[37]?.getD undef = .agg #[.slice A n c, .int .i64 S] := by rw [← Array.getD_eq_getD_getElem?]; exact hd 1 (by decide)
        have d2 : ac.tmps[38]?.getD undef = .int .i64 x := by rw [← Array.getD_eq_getD_getElem?]; exact hd 2 (by decide)
        refine rstep_call (f := 100) (args := #[.agg #[.int .i64 s, .int .i64 ww, .int .i64 t, .int .i64 en], .agg #[.slice A n c, .int .i64 S], .int .i64 x]) (by simp [Act.eval, d0, d1, d2, go_sem]) ?_ rfl
        exact SA2.out wx (HYW.out.trans (hb.mono HYW.out.size))
      · intro ac wx hf hb hd -- 4
        have f4 : ac.tmps[4]?.getD undef = .pointer (some ⟨w.heap.size, 0, none⟩) := by rw [← Array.getD_eq_getD_getElem?]; exact hf.same 4 (by decide)
        obtain ⟨c0, c1, c2, c3, c4, c5, c6, c7, c8, c9, c10, c11, z1_0, z1_1, z2_0, z2_1, z3_0, z3_1, z4_0, z4_1⟩ := HCY.out wx hb
        exact rstep_eq (by simp [execOp, Act.eval, f4, c0, c1, c2, c3, go_sem]) rfl
      · intro ac wx hf hb hd -- 5
        have f6 : ac.tmps[6]?.getD undef = .pointer (some ⟨w.heap.size + 2, 0, none⟩) := by rw [← Array.getD_eq_getD_getElem?]; exact hf.same 6 (by decide)
        obtain ⟨c0, c1, c2, c3, c4, c5, c6, c7, c8, c9, c10, c11, z1_0, z1_1, z2_0, z2_1, z3_0, z3_1, z4_0, z4_1⟩ := HCY.out wx hb
        exact rstep_eq (by simp [execOp, Act.eval, f6, c6, c7, go_sem]) rfl
      · intro ac wx hf hb hd -- 6
        have f3 : ac.tmps[3]?.getD undef = .int .i64 x := by rw [← Array.getD_eq_getD_getElem?]; exact hf.same 3 (by decide)
        exact rstep_eq (by simp [execOp, Act.eval, f3, go_sem]) rfl
      · intro ac wx hf hb hd -- 7
        have d4 : ac.tmps[40]?.getD undef = .agg #[.int .i64 s, .int .i64 ww, .int .i64 t, .int .i64 en] := by rw [← Array.getD_eq_getD_getElem?]; exact hd 4 (by decide)
        have d5 : ac.tmps[41]?.getD undef = .agg #[.slice A' n' c', .int .i64 T] := by rw [← Array.getD_eq_getD_getElem?]; exact hd 5 (by decide)
        have d6 : ac.tmps[42]?.getD undef = .int .i64 x := by rw [← Array.getD_eq_getD_getElem?]; exact hd 6 (by decide)
        refine rstep_call (f := 100) (args := #[.agg #[.int .i64 s, .int .i64 ww, .int .i64 t, .int .i64 en], .agg #[.slice A' n' c', .int .i64 T], .int .i64 x]) (by simp [Act.eval, d4, d5, d6, go_sem]) ?_ rfl
        exact SB2.out wx (HYW.out.trans (hb.mono HYW.out.size))
      rintro ⟨⟨ll⟩, df⟩ w4 hf hbw4 hall
      have hdf : df = [] := hf.defers
      subst hdf
      have hsz : ll.length = 44 := hf.size
      obtain ⟨x0, ll0, rfl, hsz0⟩ := cons_of hsz
      obtain ⟨x1, ll1, rfl, hsz1⟩ := cons_of hsz0
      obtain ⟨x2, ll2, rfl, hsz2⟩ := cons_of hsz1
      obtain ⟨x3, ll3, rfl, hsz3⟩ := cons_of hsz2
      obtain ⟨x4, ll4, rfl, hsz4⟩ := cons_of hsz3
      obtain ⟨x5, ll5, rfl, hsz5⟩ := cons_of hsz4
      obtain ⟨x6, ll6, rfl, hsz6⟩ := cons_of hsz5
      obtain ⟨x7, ll7, rfl, hsz7⟩ := cons_of hsz6
      obtain ⟨x8, ll8, rfl, hsz8⟩ := cons_of hsz7
      obtain ⟨x9, ll9, rfl, hsz9⟩ := cons_of hsz8
      obtain ⟨x10, ll10, rfl, hsz10⟩ := cons_of hsz9
      obtain ⟨x11, ll11, rfl, hsz11⟩ := cons_of hsz10
      obtain ⟨x12, ll12, rfl, hsz12⟩ := cons_of hsz11
      obtain ⟨x13, ll13, rfl, hsz13⟩ := cons_of hsz12
      obtain ⟨x14, ll14, rfl, hsz14⟩ := cons_of hsz13
      obtain ⟨x15, ll15, rfl, hsz15⟩ := cons_of hsz14
      obtain ⟨x16, ll16, rfl, hsz16⟩ := cons_of hsz15
      obtain ⟨x17, ll17, rfl, hsz17⟩ := cons_of hsz16
      obtain ⟨x18, ll18, rfl, hsz18⟩ := cons_of hsz17
      obtain ⟨x19, ll19, rfl, hsz19⟩ := cons_of hsz18
      obtain ⟨x20, ll20, rfl, hsz20⟩ := cons_of hsz19
      obtain ⟨x21, ll21, rfl, hsz21⟩ := cons_of hsz20
      obtain ⟨x22, ll22, rfl, hsz22⟩ := cons_of hsz21
      obtain ⟨x23, ll23, rfl, hsz23⟩ := cons_of hsz22
      obtain ⟨x24, ll24, rfl, hsz24⟩ := cons_of hsz23
      obtain ⟨x25, ll25, rfl, hsz25⟩ := cons_of hsz24
      obtain ⟨x26, ll26, rfl, hsz26⟩ := cons_of hsz25
      obtain ⟨x27, ll27, rfl, hsz27⟩ := cons_of hsz26
      obtain ⟨x28, ll28, rfl, hsz28⟩ := cons_of hsz27
      obtain ⟨x29, ll29, rfl, hsz29⟩ := cons_of hsz28
      obtain ⟨x30, ll30, rfl, hsz30⟩ := cons_of hsz29
      obtain ⟨x31, ll31, rfl, hsz31⟩ := cons_of hsz30
      obtain ⟨x32, ll32, rfl, hsz32⟩ := cons_of hsz31
      obtain ⟨x33, ll33, rfl, hsz33⟩ := cons_of hsz32
      obtain ⟨x34, ll34, rfl, hsz34⟩ := cons_of hsz33
      obtain ⟨x35, ll35, rfl, hsz35⟩ := cons_of hsz34
      obtain ⟨x36, ll36, rfl, hsz36⟩ := cons_of hsz35
      obtain ⟨x37, ll37, rfl, hsz37⟩ := cons_of hsz36
      obtain ⟨x38, ll38, rfl, hsz38⟩ := cons_of hsz37
      obtain ⟨x39, ll39, rfl, hsz39⟩ := cons_of hsz38
      obtain ⟨x40, ll40, rfl, hsz40⟩ := cons_of hsz39
      obtain ⟨x41, ll41, rfl, hsz41⟩ := cons_of hsz40
      obtain ⟨x42, ll42, rfl, hsz42⟩ := cons_of hsz41
      obtain ⟨x43, ll43, rfl, hsz43⟩ := cons_of hsz42
      obtain rfl := List.eq_nil_of_length_eq_zero hsz43
      obtain rfl : x3 = .int .i64 x := hf.same 3 (by decide)
      obtain rfl : x4 = .pointer (some ⟨w.heap.size, 0, none⟩) := hf.same 4 (by decide)
      obtain rfl : x5 = .pointer (some ⟨w.heap.size + 1, 0, none⟩) := hf.same 5 (by decide)
      obtain rfl : x6 = .pointer (some ⟨w.heap.size + 2, 0, none⟩) := hf.same 6 (by decide)
      obtain rfl : x8 = .pointer (some ⟨w.heap.size + 3, 0, none⟩) := hf.same 8 (by decide)
      obtain rfl : x9 = .pointer (some ⟨w.heap.size + 4, 0, none⟩) := hf.same 9 (by decide)
      obtain rfl : x36 = .agg #[.int .i64 s, .int .i64 ww, .int .i64 t, .int .i64 en] := hall 0 36 rfl
      obtain rfl : x37 = .agg #[.slice A n c, .int .i64 S] := hall 1 37 rfl
      obtain rfl : x38 = .int .i64 x := hall 2 38 rfl
      obtain rfl : x39 = .agg #[.int .i64 sn, .int .i64 sd] := hall 3 39 rfl
      obtain rfl : x40 = .agg #[.int .i64 s, .int .i64 ww, .int .i64 t, .int .i64 en] := hall 4 40 rfl
      obtain rfl : x41 = .agg #[.slice A' n' c', .int .i64 T] := hall 5 41 rfl
      obtain rfl : x42 = .int .i64 x := hall 6 42 rfl
      obtain rfl : x43 = .agg #[.int .i64 tn, .int .i64 td] := hall 7 43 rfl
      clear hall hf
      obtain ⟨c0, c1, c2, c3, c4, c5, c6, c7, c8, c9, c10, c11, z1_0, z1_1, z2_0, z2_1, z3_0, z3_1, z4_0, z4_1⟩ := HCY.out w4 hbw4
      simp [wpSeq_cons, wpSeq_nil, Oper.wp, Oper.upon, execOp, Act.eval, go_sem, c8, c9, c10, c11, z3_0, z3_1, z4_0, z4_1]
      go_wp2
      refine bodyPost_ret (v := .tuple #[.agg #[.int .i64 sn, .int .i64 sd], .agg #[.int .i64 tn, .int .i64 td], .int .i64 0]) (by simp [results, Try.results47, go_sem, c8, c9, c10, c11]) rfl ⟨by rw [fr3_ok, HRZ.out.1, HRZ.out.2, HS1.out, HS2.out], ?_⟩
      exact (((((HYW.out.trans (hbw4.mono HYW.out.size)).setCell (p := ⟨w.heap.size + 3, 0, none⟩) (by simp) _).setCell (p := ⟨w.heap.size + 3, 1, none⟩) (by simp) _).setCell (p := ⟨w.heap.size + 4, 0, none⟩) (by simp) _).setCell (p := ⟨w.heap.size + 4, 1, none⟩) (by simp) _)
  · have e1' : (ee == 0) = false := by simpa using he
    have e2' : (ee != 0) = true := by simpa using he
    obtain ⟨c0, c1, c2, c3, c4, c5, c6, c7, c8, c9, c10, c11, z1_0, z1_1, z2_0, z2_1, z3_0, z3_1, z4_0, z4_1⟩ := HC.out wy HY.out
    go_wp2
    refine bodyPost_ret (v := .tuple #[.agg #[.int .i64 0, .int .i64 0], .agg #[.int .i64 0, .int .i64 0], .int .i64 ee]) (by simp [results, Try.results47, go_sem, c8, c9, c10, c11]) rfl ⟨by rw [fr3_bad he], ?_⟩
    exact ((((HYW.out.setCell (p := ⟨w.heap.size + 3, 0, none⟩) (by simp) _).setCell (p := ⟨w.heap.size + 3, 1, none⟩) (by simp) _).setCell (p := ⟨w.heap.size + 4, 0, none⟩) (by simp) _).setCell (p := ⟨w.heap.size + 4, 1, none⟩) (by simp) _)
end Go.Proofs.Ytablphoicidlkaa
