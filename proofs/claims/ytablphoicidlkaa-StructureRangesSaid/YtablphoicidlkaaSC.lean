/- Walks over beams: whether beams, burdens, places and wood are right. -/
import Derived.Deep.DeepCutAuto
import Derived.Deep.CutBlock
import Derived.Deep.CutRange
import Derived.Test.YtablphoicidlkaaSB
import Derived.Test.YtablphoicidlkaaRF
namespace Go.Proofs.Ytablphoicidlkaa
open Go.RowKit

theorem row_one {w : World} {b off : Nat} {x : Int} (hc : w.cell? ⟨b, off, none⟩ = some (.int .i64 x)) : IntRow w (some ⟨b, off, none⟩) 1 [x] :=
  ⟨rfl, fun _ => ⟨b, off, rfl, World.block_lt_of_cell? w _ hc, fun k hk => by
    obtain rfl : k = 0 := by simp at hk; omega
    exact hc⟩⟩
theorem checkOne_any {lo hi x : Int} {b off : Nat} (w : World) (hc : w.cell? ⟨b, off, none⟩ = some (.int .i64 x)) :
    Calls Try.prog 96 #[.int .i64 lo, .int .i64 hi, .slice (some ⟨b, off, none⟩) 1 1] w fun e w' => e = .returned (.int .i64 (rngE lo hi [x])) ∧ w = w' :=
  checkRange_any w (row_one hc) (by decide)
theorem checkTwo_any {lo hi x y : Int} {b : Nat} (w : World) (h0 : w.cell? ⟨b, 0, none⟩ = some (.int .i64 x)) (h1 : w.cell? ⟨b, 1, none⟩ = some (.int .i64 y)) :
    Calls Try.prog 96 #[.int .i64 lo, .int .i64 hi, .slice (some ⟨b, 0, none⟩) 2 2] w fun e w' => e = .returned (.int .i64 (rngE lo hi [x, y])) ∧ w = w' :=
  checkRange_any w ⟨rfl, fun _ => ⟨b, 0, rfl, World.block_lt_of_cell? w _ h0, fun k hk => by
    match k, hk with
    | 0, _ => exact h0
    | 1, _ => exact h1⟩⟩ (by decide)
theorem firstTwo_any {x y : Int} {b : Nat} (w : World) (h0 : w.cell? ⟨b, 0, none⟩ = some (.int .i64 x)) (h1 : w.cell? ⟨b, 1, none⟩ = some (.int .i64 y)) :
    Calls Try.prog 95 #[.slice (some ⟨b, 0, none⟩) 2 2] w fun e w' => e = .returned (.int .i64 (firstE [x, y])) ∧ w = w' :=
  firstError_any w ⟨rfl, fun _ => ⟨b, 0, rfl, World.block_lt_of_cell? w _ h0, fun k hk => by
    match k, hk with
    | 0, _ => exact h0
    | 1, _ => exact h1⟩⟩ (by decide)
theorem firstThree_any {x y z : Int} {b : Nat} (w : World) (h0 : w.cell? ⟨b, 0, none⟩ = some (.int .i64 x)) (h1 : w.cell? ⟨b, 1, none⟩ = some (.int .i64 y)) (h2 : w.cell? ⟨b, 2, none⟩ = some (.int .i64 z)) :
    Calls Try.prog 95 #[.slice (some ⟨b, 0, none⟩) 3 3] w fun e w' => e = .returned (.int .i64 (firstE [x, y, z])) ∧ w = w' :=
  firstError_any w ⟨rfl, fun _ => ⟨b, 0, rfl, World.block_lt_of_cell? w _ h0, fun k hk => by
    match k, hk with
    | 0, _ => exact h0
    | 1, _ => exact h1
    | 2, _ => exact h2⟩⟩ (by decide)
theorem firstFour_any {x y z u : Int} {b : Nat} (w : World) (h0 : w.cell? ⟨b, 0, none⟩ = some (.int .i64 x)) (h1 : w.cell? ⟨b, 1, none⟩ = some (.int .i64 y)) (h2 : w.cell? ⟨b, 2, none⟩ = some (.int .i64 z)) (h3 : w.cell? ⟨b, 3, none⟩ = some (.int .i64 u)) :
    Calls Try.prog 95 #[.slice (some ⟨b, 0, none⟩) 4 4] w fun e w' => e = .returned (.int .i64 (firstE [x, y, z, u])) ∧ w = w' :=
  firstError_any w ⟨rfl, fun _ => ⟨b, 0, rfl, World.block_lt_of_cell? w _ h0, fun k hk => by
    match k, hk with
    | 0, _ => exact h0
    | 1, _ => exact h1
    | 2, _ => exact h2
    | 3, _ => exact h3⟩⟩ (by decide)
theorem checkNew_any {lo hi x : Int} (w : World) (t : TypeId) {blk : Nat} (hblk : blk = w.heap.size) :
    Calls Try.prog 96 #[.int .i64 lo, .int .i64 hi, .slice (some ⟨blk, 0, none⟩) 1 1] (w.alloc (.cells #[.int .i64 x] t)) fun e w' => e = .returned (.int .i64 (rngE lo hi [x])) ∧ Below w.heap.size w w' := by
  subst hblk
  exact (checkRange_any (zs := [x]) (n := 1) _ (intRow_new _ _ _ _ rfl rfl) (by decide)).mono fun e w' ⟨he, hw⟩ => ⟨he, hw ▸ (Below.refl _ _).alloc (Nat.le_refl _) _⟩
def bmV (b : Bm) : Value := .agg #[.int .i64 b.s, .int .i64 b.w, .int .i64 b.t, .int .i64 b.e]
set_option maxHeartbeats 8000000 in
set_option maxRecDepth 20000 in
theorem checkBeam_any (b : Bm) (w : World) : Calls Try.prog 24 #[bmV b] w fun e w' => e = .returned (.int .i64 (beamE b)) ∧ Below w.heap.size w w' := by
  obtain ⟨s, ww, t, en⟩ := b
  unfold bmV beamE
  simp only
  generalize hG : rngE 1 2000 [s] = e1
  generalize hG2 : rngE 1 1000 [ww] = e2
  generalize hG3 : rngE 1 300 [t] = e3
  generalize hG4 : rngE 0 1 [en] = e4
  have C1 := fun wx b (h : IntRow wx (some ⟨b, 0, none⟩) 1 [s]) => Lib.hid (checkRange_any (c := 1) (lo := 1) (hi := 2000) wx h (by decide))
  have C2 := fun wx b (h : IntRow wx (some ⟨b, 0, none⟩) 1 [ww]) => Lib.hid (checkRange_any (c := 1) (lo := 1) (hi := 1000) wx h (by decide))
  have C3 := fun wx b (h : IntRow wx (some ⟨b, 0, none⟩) 1 [t]) => Lib.hid (checkRange_any (c := 1) (lo := 1) (hi := 300) wx h (by decide))
  have C4 := fun wx b (h : IntRow wx (some ⟨b, 0, none⟩) 1 [en]) => Lib.hid (checkRange_any (c := 1) (lo := 0) (hi := 1) wx h (by decide))
  rw [hG] at C1; rw [hG2] at C2; rw [hG3] at C3; rw [hG4] at C4
  clear hG hG2 hG3 hG4
  go_enter Try.func24, Try.ntmps24
  go_wp2
  obtain ⟨w0, hw0⟩ : ∃ w0, w.alloc (.cells #[.int .i64 s, .int .i64 ww, .int .i64 t, .int .i64 en] 23) = w0 := ⟨_, rfl⟩
  have HB0 : Hid (Below w.heap.size w w0) := Lib.hid (by rw [← hw0]; exact (Below.refl _ _).alloc (Nat.le_refl _) _)
  have HC := Lib.hid (fun wx (hb : Below w0.heap.size w0 wx) => (show wx.cell? ⟨w.heap.size, 0, none⟩ = some (.int .i64 s) ∧ wx.cell? ⟨w.heap.size, 1, none⟩ = some (.int .i64 ww) ∧ wx.cell? ⟨w.heap.size, 2, none⟩ = some (.int .i64 t) ∧ wx.cell? ⟨w.heap.size, 3, none⟩ = some (.int .i64 en) from by
    subst hw0
    have k := (bcell hb).1
    exact ⟨(k _ _ (by simp)).trans (by rw [World.cell?_alloc_new]; rfl), (k _ _ (by simp)).trans (by rw [World.cell?_alloc_new]; rfl), (k _ _ (by simp)).trans (by rw [World.cell?_alloc_new]; rfl), (k _ _ (by simp)).trans (by rw [World.cell?_alloc_new]; rfl)⟩))
  rw [hw0]
  clear hw0
  refine wp_region_rk [3, 4, 5, 6, 7, 8, 9, 10, 11, 12, 13, 14, 15, 16, 17, 18, 19, 20, 2] [rEq (.pointer (some ⟨w.heap.size, 0, none⟩)), rEq (.int .i64 s), rRow [s] 1, rEq (.int .i64 e1), rEq (.pointer (some ⟨w.heap.size, 1, none⟩)), rEq (.int .i64 ww), rRow [ww] 1, rEq (.int .i64 e2), rEq (.pointer (some ⟨w.heap.size, 2, none⟩)), rEq (.int .i64 t), rRow [t] 1, rEq (.int .i64 e3), rEq (.pointer (some ⟨w.heap.size, 3, none⟩)), rEq (.int .i64 en), rRow [en] 1, rEq (.int .i64 e4), rRow [e1, e2, e3, e4] 4, rEq (.int .i64 (firstE [e1, e2, e3, e4])), rEq (.int .i64 (firstE [e1, e2, e3, e4]))] (by kernel_rfl) (by kernel_rfl) (by decide) rfl ⟨?_, ?_, ?_, ?_, ?_, ?_, ?_, ?_, ?_, ?_, ?_, ?_, ?_, ?_, ?_, ?_, ?_, ?_, ?_, trivial⟩ ?_
  · intro ac wx hf hb hd -- 0
    have f1 : ac.tmps[1]?.getD undef = .pointer (some ⟨w.heap.size, 0, none⟩) := by rw [← Array.getD_eq_getD_getElem?]; exact hf.same 1 (by decide)
    exact rstep_eq (by simp [execOp, Act.eval, f1, go_sem]) rfl
  · intro ac wx hf hb hd -- 1
    have d0 : ac.tmps[3]?.getD undef = .pointer (some ⟨w.heap.size, 0, none⟩) := by rw [← Array.getD_eq_getD_getElem?]; exact hd 0 (by decide)
    obtain ⟨c0, c1, c2, c3⟩ := HC.out wx hb
    exact rstep_eq (by simp [execOp, Act.eval, d0, c0, go_sem]) rfl
  · intro ac wx hf hb hd -- 2
    have d1 : ac.tmps[4]?.getD undef = .int .i64 s := by rw [← Array.getD_eq_getD_getElem?]; exact hd 1 (by decide)
    exact rstep_row (t := 3) (zs := [s]) rfl rfl (by simp [execOp, Act.eval, d1, go_sem]) rfl
  · intro ac wx hf hb hd -- 3
    obtain ⟨b2, d2, r2⟩ : ∃ b, ac.tmps[5]?.getD undef = .slice (some ⟨b, 0, none⟩) 1 1 ∧ IntRow wx (some ⟨b, 0, none⟩) 1 [s] := by rw [← Array.getD_eq_getD_getElem?]; exact hd 2 (by decide)
    refine rstep_call (f := 96) (args := #[.int .i64 1, .int .i64 2000, .slice (some ⟨b2, 0, none⟩) 1 1]) (by simp [Act.eval, d2, go_sem]) ?_ rfl
    exact (C1 wx b2 r2).out.mono fun e w' ⟨he, hw⟩ => ⟨he, hw ▸ Below.refl _ _⟩
  · intro ac wx hf hb hd -- 4
    have f1 : ac.tmps[1]?.getD undef = .pointer (some ⟨w.heap.size, 0, none⟩) := by rw [← Array.getD_eq_getD_getElem?]; exact hf.same 1 (by decide)
    exact rstep_eq (by simp [execOp, Act.eval, f1, go_sem]) rfl
  · intro ac wx hf hb hd -- 5
    have d4 : ac.tmps[7]?.getD undef = .pointer (some ⟨w.heap.size, 1, none⟩) := by rw [← Array.getD_eq_getD_getElem?]; exact hd 4 (by decide)
    obtain ⟨c0, c1, c2, c3⟩ := HC.out wx hb
    exact rstep_eq (by simp [execOp, Act.eval, d4, c1, go_sem]) rfl
  · intro ac wx hf hb hd -- 6
    have d5 : ac.tmps[8]?.getD undef = .int .i64 ww := by rw [← Array.getD_eq_getD_getElem?]; exact hd 5 (by decide)
    exact rstep_row (t := 3) (zs := [ww]) rfl rfl (by simp [execOp, Act.eval, d5, go_sem]) rfl
  · intro ac wx hf hb hd -- 7
    obtain ⟨b6, d6, r6⟩ : ∃ b, ac.tmps[9]?.getD undef = .slice (some ⟨b, 0, none⟩) 1 1 ∧ IntRow wx (some ⟨b, 0, none⟩) 1 [ww] := by rw [← Array.getD_eq_getD_getElem?]; exact hd 6 (by decide)
    refine rstep_call (f := 96) (args := #[.int .i64 1, .int .i64 1000, .slice (some ⟨b6, 0, none⟩) 1 1]) (by simp [Act.eval, d6, go_sem]) ?_ rfl
    exact (C2 wx b6 r6).out.mono fun e w' ⟨he, hw⟩ => ⟨he, hw ▸ Below.refl _ _⟩
  · intro ac wx hf hb hd -- 8
    have f1 : ac.tmps[1]?.getD undef = .pointer (some ⟨w.heap.size, 0, none⟩) := by rw [← Array.getD_eq_getD_getElem?]; exact hf.same 1 (by decide)
    exact rstep_eq (by simp [execOp, Act.eval, f1, go_sem]) rfl
  · intro ac wx hf hb hd -- 9
    have d8 : ac.tmps[11]?.getD undef = .pointer (some ⟨w.heap.size, 2, none⟩) := by rw [← Array.getD_eq_getD_getElem?]; exact hd 8 (by decide)
    obtain ⟨c0, c1, c2, c3⟩ := HC.out wx hb
    exact rstep_eq (by simp [execOp, Act.eval, d8, c2, go_sem]) rfl
  · intro ac wx hf hb hd -- 10
    have d9 : ac.tmps[12]?.getD undef = .int .i64 t := by rw [← Array.getD_eq_getD_getElem?]; exact hd 9 (by decide)
    exact rstep_row (t := 3) (zs := [t]) rfl rfl (by simp [execOp, Act.eval, d9, go_sem]) rfl
  · intro ac wx hf hb hd -- 11
    obtain ⟨b10, d10, r10⟩ : ∃ b, ac.tmps[13]?.getD undef = .slice (some ⟨b, 0, none⟩) 1 1 ∧ IntRow wx (some ⟨b, 0, none⟩) 1 [t] := by rw [← Array.getD_eq_getD_getElem?]; exact hd 10 (by decide)
    refine rstep_call (f := 96) (args := #[.int .i64 1, .int .i64 300, .slice (some ⟨b10, 0, none⟩) 1 1]) (by simp [Act.eval, d10, go_sem]) ?_ rfl
    exact (C3 wx b10 r10).out.mono fun e w' ⟨he, hw⟩ => ⟨he, hw ▸ Below.refl _ _⟩
  · intro ac wx hf hb hd -- 12
    have f1 : ac.tmps[1]?.getD undef = .pointer (some ⟨w.heap.size, 0, none⟩) := by rw [← Array.getD_eq_getD_getElem?]; exact hf.same 1 (by decide)
    exact rstep_eq (by simp [execOp, Act.eval, f1, go_sem]) rfl
  · intro ac wx hf hb hd -- 13
    have d12 : ac.tmps[15]?.getD undef = .pointer (some ⟨w.heap.size, 3, none⟩) := by rw [← Array.getD_eq_getD_getElem?]; exact hd 12 (by decide)
    obtain ⟨c0, c1, c2, c3⟩ := HC.out wx hb
    exact rstep_eq (by simp [execOp, Act.eval, d12, c3, go_sem]) rfl
  · intro ac wx hf hb hd -- 14
    have d13 : ac.tmps[16]?.getD undef = .int .i64 en := by rw [← Array.getD_eq_getD_getElem?]; exact hd 13 (by decide)
    exact rstep_row (t := 3) (zs := [en]) rfl rfl (by simp [execOp, Act.eval, d13, go_sem]) rfl
  · intro ac wx hf hb hd -- 15
    obtain ⟨b14, d14, r14⟩ : ∃ b, ac.tmps[17]?.getD undef = .slice (some ⟨b, 0, none⟩) 1 1 ∧ IntRow wx (some ⟨b, 0, none⟩) 1 [en] := by rw [← Array.getD_eq_getD_getElem?]; exact hd 14 (by decide)
    refine rstep_call (f := 96) (args := #[.int .i64 0, .int .i64 1, .slice (some ⟨b14, 0, none⟩) 1 1]) (by simp [Act.eval, d14, go_sem]) ?_ rfl
    exact (C4 wx b14 r14).out.mono fun e w' ⟨he, hw⟩ => ⟨he, hw ▸ Below.refl _ _⟩
  · intro ac wx hf hb hd -- 16
    have d3 : ac.tmps[6]?.getD undef = .int .i64 e1 := by rw [← Array.getD_eq_getD_getElem?]; exact hd 3 (by decide)
    have d7 : ac.tmps[10]?.getD undef = .int .i64 e2 := by rw [← Array.getD_eq_getD_getElem?]; exact hd 7 (by decide)
    have d11 : ac.tmps[14]?.getD undef = .int .i64 e3 := by rw [← Array.getD_eq_getD_getElem?]; exact hd 11 (by decide)
    have d15 : ac.tmps[18]?.getD undef = .int .i64 e4 := by rw [← Array.getD_eq_getD_getElem?]; exact hd 15 (by decide)
    exact rstep_row (t := 31) (zs := [e1, e2, e3, e4]) rfl rfl (by simp [execOp, Act.eval, d3, d7, d11, d15, go_sem]) rfl
  · intro ac wx hf hb hd -- 17
    obtain ⟨b16, d16, r16⟩ : ∃ b, ac.tmps[19]?.getD undef = .slice (some ⟨b, 0, none⟩) 4 4 ∧ IntRow wx (some ⟨b, 0, none⟩) 4 [e1, e2, e3, e4] := by rw [← Array.getD_eq_getD_getElem?]; exact hd 16 (by decide)
    refine rstep_call (f := 95) (args := #[.slice (some ⟨b16, 0, none⟩) 4 4]) (by simp [Act.eval, d16, go_sem]) ?_ rfl
    exact (firstError_any wx r16 (by decide)).mono fun e w' ⟨he, hw⟩ => ⟨he, hw ▸ Below.refl _ _⟩
  · intro ac wx hf hb hd -- 18
    have d17 : ac.tmps[20]?.getD undef = .int .i64 (firstE [e1, e2, e3, e4]) := by rw [← Array.getD_eq_getD_getElem?]; exact hd 17 (by decide)
    exact rstep_eq (by simp [execOp, Act.eval, d17, go_sem]) rfl
  rintro ⟨⟨ll⟩, df⟩ wx hf hb hall
  have hdf : df = [] := hf.defers
  subst hdf
  have hsz : ll.length = 21 := hf.size
  obtain ⟨x0, ll0, rfl, hsz0⟩ := cons_of hsz
  obtain ⟨x1, ll1, rfl, hsz1⟩ := cons_of hsz0
  obtain ⟨x2, ll2, rfl, hsz2⟩ := cons_of hsz1
  obtain ⟨x3, ll3, rfl, hsz3⟩ := cons_of hsz2
  obtain ⟨x4, ll4, rfl, hsz4⟩ := cons_of hsz3
  obtain ⟨x5, ll5, rfl, hsz5⟩ := cons_of hsz4
  obtain ⟨x6, ll6, rfl, hsz6⟩ := cons_of hsz5
  obtain ⟨x7, ll7, rfl, hsz7⟩ := cons_of hsz6
  obtain ⟨x8, ll8, rfl, hsz8⟩ := cons_of hsz7
  obtain ⟨x9, ll9, rfl, hsz9⟩ := cons_of hsz8
  obtain ⟨x10, ll10, rfl, hsz10⟩ := cons_of hsz9
  obtain ⟨x11, ll11, rfl, hsz11⟩ := cons_of hsz10
  obtain ⟨x12, ll12, rfl, hsz12⟩ := cons_of hsz11
  obtain ⟨x13, ll13, rfl, hsz13⟩ := cons_of hsz12
  obtain ⟨x14, ll14, rfl, hsz14⟩ := cons_of hsz13
  obtain ⟨x15, ll15, rfl, hsz15⟩ := cons_of hsz14
  obtain ⟨x16, ll16, rfl, hsz16⟩ := cons_of hsz15
  obtain ⟨x17, ll17, rfl, hsz17⟩ := cons_of hsz16
  obtain ⟨x18, ll18, rfl, hsz18⟩ := cons_of hsz17
  obtain ⟨x19, ll19, rfl, hsz19⟩ := cons_of hsz18
  obtain ⟨x20, ll20, rfl, hsz20⟩ := cons_of hsz19
  obtain rfl := List.eq_nil_of_length_eq_zero hsz20
  obtain rfl : x0 = .agg #[.int .i64 s, .int .i64 ww, .int .i64 t, .int .i64 en] := hf.same 0 (by decide)
  obtain rfl : x1 = .pointer (some ⟨w.heap.size, 0, none⟩) := hf.same 1 (by decide)
  obtain rfl : x2 = .int .i64 (firstE [e1, e2, e3, e4]) := hall 18 2 rfl
  obtain rfl : x3 = .pointer (some ⟨w.heap.size, 0, none⟩) := hall 0 3 rfl
  obtain rfl : x4 = .int .i64 s := hall 1 4 rfl
  obtain rfl : x6 = .int .i64 e1 := hall 3 6 rfl
  obtain rfl : x7 = .pointer (some ⟨w.heap.size, 1, none⟩) := hall 4 7 rfl
  obtain rfl : x8 = .int .i64 ww := hall 5 8 rfl
  obtain rfl : x10 = .int .i64 e2 := hall 7 10 rfl
  obtain rfl : x11 = .pointer (some ⟨w.heap.size, 2, none⟩) := hall 8 11 rfl
  obtain rfl : x12 = .int .i64 t := hall 9 12 rfl
  obtain rfl : x14 = .int .i64 e3 := hall 11 14 rfl
  obtain rfl : x15 = .pointer (some ⟨w.heap.size, 3, none⟩) := hall 12 15 rfl
  obtain rfl : x16 = .int .i64 en := hall 13 16 rfl
  obtain rfl : x18 = .int .i64 e4 := hall 15 18 rfl
  obtain rfl : x20 = .int .i64 (firstE [e1, e2, e3, e4]) := hall 17 20 rfl
  clear hall hf
  go_wp2
  go_ret
  exact ⟨rfl, HB0.out.trans (hb.mono HB0.out.size)⟩
structure Wd where
  lo : Int
  hi : Int
  st : Int
def wdV (x : Wd) : Value := .agg #[.int .i64 x.lo, .int .i64 x.hi, .int .i64 x.st]
def woodE (x : Wd) : Int := bif firstE [rngE 1 30000 [x.lo, x.hi], rngE 1 1000 [x.st]] == 0 then (bif decide (x.hi < x.lo) then 9 else 0) else 2
structure WdOk (x : Wd) : Prop where
  l0 : 1 ≤ x.lo
  l1 : x.lo ≤ x.hi
  h1 : x.hi ≤ 30000
  s0 : 1 ≤ x.st
  s1 : x.st ≤ 1000
theorem woodE_ok {x : Wd} : woodE x = 0 ↔ WdOk x := by
  unfold woodE
  constructor
  · intro h
    by_cases h0 : firstE [rngE 1 30000 [x.lo, x.hi], rngE 1 1000 [x.st]] = 0
    · rw [h0] at h
      simp only [beq_self_eq_true, cond_true] at h
      rw [firstE_ok] at h0
      simp only [List.mem_cons, List.not_mem_nil, or_false, forall_eq_or_imp, forall_eq, rngE_ok] at h0
      obtain ⟨⟨⟨a, b⟩, c, d⟩, e, f⟩ := h0
      cases hd : decide (x.hi < x.lo)
      · have := of_decide_eq_false hd
        exact ⟨a, by omega, d, e, f⟩
      · rw [hd] at h; cases h
    · have e : (firstE [rngE 1 30000 [x.lo, x.hi], rngE 1 1000 [x.st]] == 0) = false := by simpa using h0
      rw [e] at h; cases h
  · rintro ⟨a, b, c, d, e⟩
    have h0 : firstE [rngE 1 30000 [x.lo, x.hi], rngE 1 1000 [x.st]] = 0 := by
      rw [firstE_ok]
      simp only [List.mem_cons, List.not_mem_nil, or_false, forall_eq_or_imp, forall_eq, rngE_ok]
      exact ⟨⟨⟨a, by omega⟩, by omega, c⟩, d, e⟩
    rw [h0]
    have : decide (x.hi < x.lo) = false := decide_eq_false (by omega)
    rw [this]; rfl
set_option maxHeartbeats 8000000 in
set_option maxRecDepth 20000 in
theorem checkWood_any (x : Wd) (w : World) : Calls Try.prog 52 #[wdV x] w fun e w' => e = .returned (.int .i64 (woodE x)) ∧ Below w.heap.size w w' := by
  obtain ⟨lo, hi, st⟩ := x
  unfold wdV woodE
  simp only
  have H2 : firstE [rngE 1 30000 [lo, hi], rngE 1 1000 [st]] = 0 ∨ firstE [rngE 1 30000 [lo, hi], rngE 1 1000 [st]] = 2 := firstE_two fun x hx => by
    simp only [List.mem_cons, List.not_mem_nil, or_false] at hx
    rcases hx with rfl | rfl <;> exact rngE_two
  have C1 := fun wx b (h : IntRow wx (some ⟨b, 0, none⟩) 2 [lo, hi]) => Lib.hid (checkRange_any (c := 2) (lo := 1) (hi := 30000) wx h (by decide))
  have C2 := fun wx b (h : IntRow wx (some ⟨b, 0, none⟩) 1 [st]) => Lib.hid (checkRange_any (c := 1) (lo := 1) (hi := 1000) wx h (by decide))
  generalize rngE 1 30000 [lo, hi] = e1 at C1 H2 ⊢
  generalize rngE 1 1000 [st] = e2 at C2 H2 ⊢
  have C3 := fun wx b (h : IntRow wx (some ⟨b, 0, none⟩) 2 [e1, e2]) => Lib.hid (firstError_any (c := 2) wx h (by decide))
  generalize firstE [e1, e2] = e3 at C3 H2 ⊢
  have H3 := Lib.hid H2
  clear H2
  go_enter Try.func52, Try.ntmps52
  go_wp2
  obtain ⟨w0, hw0⟩ : ∃ w0, w.alloc (.cells #[.int .i64 lo, .int .i64 hi, .int .i64 st] 79) = w0 := ⟨_, rfl⟩
  have HB0 : Hid (Below w.heap.size w w0) := Lib.hid (by rw [← hw0]; exact (Below.refl _ _).alloc (Nat.le_refl _) _)
  have HC := Lib.hid (fun wx (hb : Below w0.heap.size w0 wx) => (show wx.cell? ⟨w.heap.size, 0, none⟩ = some (.int .i64 lo) ∧ wx.cell? ⟨w.heap.size, 1, none⟩ = some (.int .i64 hi) ∧ wx.cell? ⟨w.heap.size, 2, none⟩ = some (.int .i64 st) from by
    subst hw0
    have k := (bcell hb).1
    exact ⟨(k _ _ (by simp)).trans (by rw [World.cell?_alloc_new]; rfl), (k _ _ (by simp)).trans (by rw [World.cell?_alloc_new]; rfl), (k _ _ (by simp)).trans (by rw [World.cell?_alloc_new]; rfl)⟩))
  rw [hw0]
  clear hw0
  refine wp_region_rk [4, 5, 6, 7, 8, 9, 10, 11, 12, 13, 14, 15, 3] [rEq (.pointer (some ⟨w.heap.size, 0, none⟩)), rEq (.int .i64 lo), rEq (.pointer (some ⟨w.heap.size, 1, none⟩)), rEq (.int .i64 hi), rRow [lo, hi] 2, rEq (.int .i64 e1), rEq (.pointer (some ⟨w.heap.size, 2, none⟩)), rEq (.int .i64 st), rRow [st] 1, rEq (.int .i64 e2), rRow [e1, e2] 2, rEq (.int .i64 e3), rEq (.int .i64 e3)] (by kernel_rfl) (by kernel_rfl) (by decide) rfl ⟨?_, ?_, ?_, ?_, ?_, ?_, ?_, ?_, ?_, ?_, ?_, ?_, ?_, trivial⟩ ?_
  · intro ac wx hf hb hd -- 0
    have f1 : ac.tmps[1]?.getD undef = .pointer (some ⟨w.heap.size, 0, none⟩) := by rw [← Array.getD_eq_getD_getElem?]; exact hf.same 1 (by decide)
    exact rstep_eq (by simp [execOp, Act.eval, f1, go_sem]) rfl
  · intro ac wx hf hb hd -- 1
    have d0 : ac.tmps[4]?.getD undef = .pointer (some ⟨w.heap.size, 0, none⟩) := by rw [← Array.getD_eq_getD_getElem?]; exact hd 0 (by decide)
    obtain ⟨c0, c1, c2⟩ := HC.out wx hb
    exact rstep_eq (by simp [execOp, Act.eval, d0, c0, go_sem]) rfl
  · intro ac wx hf hb hd -- 2
    have f1 : ac.tmps[1]?.getD undef = .pointer (some ⟨w.heap.size, 0, none⟩) := by rw [← Array.getD_eq_getD_getElem?]; exact hf.same 1 (by decide)
    exact rstep_eq (by simp [execOp, Act.eval, f1, go_sem]) rfl
  · intro ac wx hf hb hd -- 3
    have d2 : ac.tmps[6]?.getD undef = .pointer (some ⟨w.heap.size, 1, none⟩) := by rw [← Array.getD_eq_getD_getElem?]; exact hd 2 (by decide)
    obtain ⟨c0, c1, c2⟩ := HC.out wx hb
    exact rstep_eq (by simp [execOp, Act.eval, d2, c1, go_sem]) rfl
  · intro ac wx hf hb hd -- 4
    have d1 : ac.tmps[5]?.getD undef = .int .i64 lo := by rw [← Array.getD_eq_getD_getElem?]; exact hd 1 (by decide)
    have d3 : ac.tmps[7]?.getD undef = .int .i64 hi := by rw [← Array.getD_eq_getD_getElem?]; exact hd 3 (by decide)
    exact rstep_row (t := 3) (zs := [lo, hi]) rfl rfl (by simp [execOp, Act.eval, d1, d3, go_sem]) rfl
  · intro ac wx hf hb hd -- 5
    obtain ⟨b4, d4, r4⟩ : ∃ b, ac.tmps[8]?.getD undef = .slice (some ⟨b, 0, none⟩) 2 2 ∧ IntRow wx (some ⟨b, 0, none⟩) 2 [lo, hi] := by rw [← Array.getD_eq_getD_getElem?]; exact hd 4 (by decide)
    refine rstep_call (f := 96) (args := #[.int .i64 1, .int .i64 30000, .slice (some ⟨b4, 0, none⟩) 2 2]) (by simp [Act.eval, d4, go_sem]) ?_ rfl
    exact (C1 wx b4 r4).out.mono fun e w' ⟨he, hw⟩ => ⟨he, hw ▸ Below.refl _ _⟩
  · intro ac wx hf hb hd -- 6
    have f1 : ac.tmps[1]?.getD undef = .pointer (some ⟨w.heap.size, 0, none⟩) := by rw [← Array.getD_eq_getD_getElem?]; exact hf.same 1 (by decide)
    exact rstep_eq (by simp [execOp, Act.eval, f1, go_sem]) rfl
  · intro ac wx hf hb hd -- 7
    have d6 : ac.tmps[10]?.getD undef = .pointer (some ⟨w.heap.size, 2, none⟩) := by rw [← Array.getD_eq_getD_getElem?]; exact hd 6 (by decide)
    obtain ⟨c0, c1, c2⟩ := HC.out wx hb
    exact rstep_eq (by simp [execOp, Act.eval, d6, c2, go_sem]) rfl
  · intro ac wx hf hb hd -- 8
    have d7 : ac.tmps[11]?.getD undef = .int .i64 st := by rw [← Array.getD_eq_getD_getElem?]; exact hd 7 (by decide)
    exact rstep_row (t := 3) (zs := [st]) rfl rfl (by simp [execOp, Act.eval, d7, go_sem]) rfl
  · intro ac wx hf hb hd -- 9
    obtain ⟨b8, d8, r8⟩ : ∃ b, ac.tmps[12]?.getD undef = .slice (some ⟨b, 0, none⟩) 1 1 ∧ IntRow wx (some ⟨b, 0, none⟩) 1 [st] := by rw [← Array.getD_eq_getD_getElem?]; exact hd 8 (by decide)
    refine rstep_call (f := 96) (args := #[.int .i64 1, .int .i64 1000, .slice (some ⟨b8, 0, none⟩) 1 1]) (by simp [Act.eval, d8, go_sem]) ?_ rfl
    exact (C2 wx b8 r8).out.mono fun e w' ⟨he, hw⟩ => ⟨he, hw ▸ Below.refl _ _⟩
  · intro ac wx hf hb hd -- 10
    have d5 : ac.tmps[9]?.getD undef = .int .i64 e1 := by rw [← Array.getD_eq_getD_getElem?]; exact hd 5 (by decide)
    have d9 : ac.tmps[13]?.getD undef = .int .i64 e2 := by rw [← Array.getD_eq_getD_getElem?]; exact hd 9 (by decide)
    exact rstep_row (t := 31) (zs := [e1, e2]) rfl rfl (by simp [execOp, Act.eval, d5, d9, go_sem]) rfl
  · intro ac wx hf hb hd -- 11
    obtain ⟨b10, d10, r10⟩ : ∃ b, ac.tmps[14]?.getD undef = .slice (some ⟨b, 0, none⟩) 2 2 ∧ IntRow wx (some ⟨b, 0, none⟩) 2 [e1, e2] := by rw [← Array.getD_eq_getD_getElem?]; exact hd 10 (by decide)
    refine rstep_call (f := 95) (args := #[.slice (some ⟨b10, 0, none⟩) 2 2]) (by simp [Act.eval, d10, go_sem]) ?_ rfl
    exact (C3 wx b10 r10).out.mono fun e w' ⟨he, hw⟩ => ⟨he, hw ▸ Below.refl _ _⟩
  · intro ac wx hf hb hd -- 12
    have d11 : ac.tmps[15]?.getD undef = .int .i64 e3 := by rw [← Array.getD_eq_getD_getElem?]; exact hd 11 (by decide)
    exact rstep_eq (by simp [execOp, Act.eval, d11, go_sem]) rfl
  rintro ⟨⟨ll⟩, df⟩ wx hf hb hall
  have hdf : df = [] := hf.defers
  subst hdf
  have hsz : ll.length = 24 := hf.size
  obtain ⟨x0, ll0, rfl, hsz0⟩ := cons_of hsz
  obtain ⟨x1, ll1, rfl, hsz1⟩ := cons_of hsz0
  obtain ⟨x2, ll2, rfl, hsz2⟩ := cons_of hsz1
  obtain ⟨x3, ll3, rfl, hsz3⟩ := cons_of hsz2
  obtain ⟨x4, ll4, rfl, hsz4⟩ := cons_of hsz3
  obtain ⟨x5, ll5, rfl, hsz5⟩ := cons_of hsz4
  obtain ⟨x6, ll6, rfl, hsz6⟩ := cons_of hsz5
  obtain ⟨x7, ll7, rfl, hsz7⟩ := cons_of hsz6
  obtain ⟨x8, ll8, rfl, hsz8⟩ := cons_of hsz7
  obtain ⟨x9, ll9, rfl, hsz9⟩ := cons_of hsz8
  obtain ⟨x10, ll10, rfl, hsz10⟩ := cons_of hsz9
  obtain ⟨x11, ll11, rfl, hsz11⟩ := cons_of hsz10
  obtain ⟨x12, ll12, rfl, hsz12⟩ := cons_of hsz11
  obtain ⟨x13, ll13, rfl, hsz13⟩ := cons_of hsz12
  obtain ⟨x14, ll14, rfl, hsz14⟩ := cons_of hsz13
  obtain ⟨x15, ll15, rfl, hsz15⟩ := cons_of hsz14
  obtain ⟨x16, ll16, rfl, hsz16⟩ := cons_of hsz15
  obtain ⟨x17, ll17, rfl, hsz17⟩ := cons_of hsz16
  obtain ⟨x18, ll18, rfl, hsz18⟩ := cons_of hsz17
  obtain ⟨x19, ll19, rfl, hsz19⟩ := cons_of hsz18
  obtain ⟨x20, ll20, rfl, hsz20⟩ := cons_of hsz19
  obtain ⟨x21, ll21, rfl, hsz21⟩ := cons_of hsz20
  obtain ⟨x22, ll22, rfl, hsz22⟩ := cons_of hsz21
  obtain ⟨x23, ll23, rfl, hsz23⟩ := cons_of hsz22
  obtain rfl := List.eq_nil_of_length_eq_zero hsz23
  obtain rfl : x0 = .agg #[.int .i64 lo, .int .i64 hi, .int .i64 st] := hf.same 0 (by decide)
  obtain rfl : x1 = .pointer (some ⟨w.heap.size, 0, none⟩) := hf.same 1 (by decide)
  obtain rfl : x2 = _ := hf.same 2 (by decide)
  obtain rfl : x3 = .int .i64 e3 := hall 12 3 rfl
  obtain rfl : x4 = .pointer (some ⟨w.heap.size, 0, none⟩) := hall 0 4 rfl
  obtain rfl : x5 = .int .i64 lo := hall 1 5 rfl
  obtain rfl : x6 = .pointer (some ⟨w.heap.size, 1, none⟩) := hall 2 6 rfl
  obtain rfl : x7 = .int .i64 hi := hall 3 7 rfl
  obtain rfl : x9 = .int .i64 e1 := hall 5 9 rfl
  obtain rfl : x10 = .pointer (some ⟨w.heap.size, 2, none⟩) := hall 6 10 rfl
  obtain rfl : x11 = .int .i64 st := hall 7 11 rfl
  obtain rfl : x13 = .int .i64 e2 := hall 9 13 rfl
  obtain rfl : x15 = .int .i64 e3 := hall 11 15 rfl
  obtain rfl : x16 = _ := hf.same 16 (by decide)
  obtain rfl : x17 = _ := hf.same 17 (by decide)
  obtain rfl : x18 = _ := hf.same 18 (by decide)
  obtain rfl : x19 = _ := hf.same 19 (by decide)
  obtain rfl : x20 = _ := hf.same 20 (by decide)
  obtain rfl : x21 = _ := hf.same 21 (by decide)
  obtain rfl : x22 = _ := hf.same 22 (by decide)
  obtain rfl : x23 = _ := hf.same 23 (by decide)
  clear hall hf
  obtain ⟨c0, c1, c2⟩ := HC.out wx hb
  rcases H3.out with rfl | rfl
  · by_cases hlt : hi < lo
    · have hd : Hid (decide (hi < lo) = true) := Lib.hid (decide_eq_true hlt)
      go_wp2
      go_ret
      exact ⟨by first | rfl | (rw [hd.out]; rfl), HB0.out.trans (hb.mono HB0.out.size)⟩
    · have hd : Hid (decide (hi < lo) = false) := Lib.hid (decide_eq_false hlt)
      go_wp2
      go_ret
      exact ⟨by first | rfl | (rw [hd.out]; rfl), HB0.out.trans (hb.mono HB0.out.size)⟩
  · go_wp2
    go_ret
    exact ⟨rfl, HB0.out.trans (hb.mono HB0.out.size)⟩
end Go.Proofs.Ytablphoicidlkaa
