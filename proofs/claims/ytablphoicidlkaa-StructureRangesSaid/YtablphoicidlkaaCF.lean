/- A burden is copied. -/
import Derived.Test.YtablphoicidlkaaCE
namespace Go.Proofs.Ytablphoicidlkaa
open Go.RowKit

/-- A row of points. -/
def rPts (B : Nat) (l : List Pt) (n : Nat) : RK := ⟨fun v w => ∃ A c, v = .slice A n c ∧ PtRow w A n l ∧ (0 < n → ∀ a, A = some a → B ≤ a.block), fun _ _ _ hb ⟨A, c, e, h, hB⟩ => ⟨A, c, e, h.below hb, hB⟩⟩
/-- A burden. -/
def rBur (B : Nat) (l : List Pt) (n : Nat) (S : Int) : RK := ⟨fun v w => ∃ A c, v = buV A n c S ∧ PtRow w A n l ∧ (0 < n → ∀ a, A = some a → B ≤ a.block), fun _ _ _ hb ⟨A, c, e, h, hB⟩ => ⟨A, c, e, h.below hb, hB⟩⟩
def rNew : RK := ⟨fun v _ => ∃ g, v = .slice (some ⟨g, 0, none⟩) 0 0, fun _ _ _ _ h => h⟩
theorem rstep_new {P : Program} {Q : Exit → Act → World → Prop} {L : List RK} {i : Nat} {o : Oper} {a : Act} {w : World} {ob : Obj} (hr : (execOp a.eval o).run P w = .ok (.value (.slice (some ⟨w.heap.size, 0, none⟩) 0 0)) (w.alloc ob)) (hL : L.getD i rAny = rNew) :
    o.wp P a w (fun a' w' => ∃ v, a' = a.put o.dst v ∧ Below w.heap.size w w' ∧ rkF L i v w') Q := by
  unfold Oper.wp
  rw [hr]
  exact ⟨_, rfl, (Below.refl _ _).alloc (Nat.le_refl _) _, by unfold rkF; rw [hL]; exact ⟨_, rfl⟩⟩
theorem rstep_copy {Q : Exit → Act → World → Prop} {L : List RK} {i : Nat} {o : Oper} {a : Act} {w : World} {s x : Operand} {g n c B : Nat} {A : Option Addr} {l : List Pt} (hB : B ≤ w.heap.size)
    (ho : o.op = .call { callee := .builtin .append, args := #[s, x], argTypes := #[24, 24] }) (hs : a.eval s = .slice (some ⟨g, 0, none⟩) 0 0) (hx : a.eval x = .slice A n c) (hrow : PtRow w A n l) (hn : n ≤ 1000000) (hL : L.getD i rAny = rPts B l n) :
    o.wp Try.prog a w (fun a' w' => ∃ v, a' = a.put o.dst v ∧ Below w.heap.size w w' ∧ rkF L i v w') Q := by
  obtain ⟨A', c', w', hr, hp, hq, hb⟩ := run_copy_pts (c := c) (g := g) o.type hrow hn
  unfold Oper.wp execOp
  simp only [ho, resolve, invoke, builtin, Sem.run_bind, Sem.run_pure, Result.andThen_ok, List.map_toArray, List.map_cons, List.map_nil, hs, hx, hr]
  exact ⟨_, rfl, hb, by unfold rkF; rw [hL]; exact ⟨A', c', rfl, hp, fun h a e => Nat.le_trans hB (hq h a e)⟩⟩
theorem rstep_bur {P : Program} {Q : Exit → Act → World → Prop} {L : List RK} {i : Nat} {o : Oper} {a : Act} {w : World} {n c B : Nat} {A : Option Addr} {l : List Pt} {S : Int} (hr : (execOp a.eval o).run P w = .ok (.value (buV A n c S)) w) (hrow : PtRow w A n l) (hB : 0 < n → ∀ a, A = some a → B ≤ a.block) (hL : L.getD i rAny = rBur B l n S) :
    o.wp P a w (fun a' w' => ∃ v, a' = a.put o.dst v ∧ Below w.heap.size w w' ∧ rkF L i v w') Q := by
  unfold Oper.wp
  rw [hr]
  exact ⟨_, rfl, Below.refl _ _, by unfold rkF; rw [hL]; exact ⟨A, c, rfl, hrow, hB⟩⟩
set_option maxHeartbeats 4000000 in
set_option maxRecDepth 20000 in
theorem copied_any {A : Option Addr} {n c : Nat} {S : Int} {l : List Pt} (hn : n ≤ 1000000) (w : World) (h : PtRow w A n l) :
    Calls Try.prog 22 #[buV A n c S] w fun e w' => ∃ A' c', e = .returned (buV A' n c' S) ∧ PtRow w' A' n l ∧ Below w.heap.size w w' := by
  have HR := Lib.hid h
  clear h
  unfold buV
  go_enter Try.func22, Try.ntmps22
  go_wp2
  obtain ⟨w0, hw0⟩ : ∃ w0, ((w.alloc (.cells #[.slice A n c, .int .i64 S] 26)).alloc (.cells #[.slice none 0 0, .int .i64 0] 26)) = w0 := ⟨_, rfl⟩
  have HB0 : Hid (Below w.heap.size w w0) := Lib.hid (by rw [← hw0]; exact (((Below.refl _ _).alloc (Nat.le_refl _) _).alloc (by simp; try omega) _))
  have HC := Lib.hid (fun wx (hb : Below w0.heap.size w0 wx) => (show wx.cell? ⟨w.heap.size, 0, none⟩ = some (.slice A n c) ∧ wx.cell? ⟨w.heap.size, 1, none⟩ = some (.int .i64 S) ∧ wx.cell? ⟨w.heap.size + 1, 0, none⟩ = some (.slice none 0 0) ∧ wx.cell? ⟨w.heap.size + 1, 1, none⟩ = some (.int .i64 0) ∧ wx.frozen? ⟨w.heap.size + 1, 0, none⟩ = false ∧ wx.frozen? ⟨w.heap.size + 1, 1, none⟩ = false from by
    subst hw0
    obtain ⟨k, kf⟩ := bcell hb
    exact ⟨(k _ _ (by simp; try omega)).trans (by simp [go_sem]), (k _ _ (by simp; try omega)).trans (by simp [go_sem]), (k _ _ (by simp; try omega)).trans (by simp [go_sem]), (k _ _ (by simp; try omega)).trans (by simp [go_sem]), (kf _ _ (by simp; try omega)).trans (by simp [go_sem]), (kf _ _ (by simp; try omega)).trans (by simp [go_sem])⟩))
  rw [hw0]
  clear hw0
  refine wp_region_rkt [3, 4, 5, 6, 7, 8, 9] [(rNew), rEq (.pointer (some ⟨w.heap.size, 0, none⟩)), rEq (.slice A n c), (rPts w0.heap.size l n), rEq (.pointer (some ⟨w.heap.size, 1, none⟩)), rEq (.int .i64 S), (rBur w0.heap.size l n S)] (by kernel_rfl) (by kernel_rfl) (by decide) rfl ⟨?_, ?_, ?_, ?_, ?_, ?_, ?_, trivial⟩ ?_
  · intro ac wx hf hb hd -- 0
    exact rstep_new (ob := .cells #[] 90) (by simp [execOp, Act.eval, go_sem]) rfl
  · intro ac wx hf hb hd -- 1
    have f1 : ac.tmps[1]?.getD undef = .pointer (some ⟨w.heap.size, 0, none⟩) := by rw [← Array.getD_eq_getD_getElem?]; exact hf.same 1 (by decide)
    exact rstep_eq (by simp [execOp, Act.eval, f1, go_sem]) rfl
  · intro ac wx hf hb hd -- 2
    have d1 : ac.tmps[4]?.getD undef = .pointer (some ⟨w.heap.size, 0, none⟩) := by rw [← Array.getD_eq_getD_getElem?]; exact hd 1 (by decide)
    obtain ⟨c0, c1, c2, c3, z1_0, z1_1⟩ := HC.out wx hb
    exact rstep_eq (by simp [execOp, Act.eval, d1, c0, go_sem]) rfl
  · intro ac wx hf hb hd -- 3
    obtain ⟨g0, d0⟩ : ∃ g, ac.tmps[3]?.getD undef = .slice (some ⟨g, 0, none⟩) 0 0 := by rw [← Array.getD_eq_getD_getElem?]; exact hd 0 (by decide)
    have d2 : ac.tmps[5]?.getD undef = .slice A n c := by rw [← Array.getD_eq_getD_getElem?]; exact hd 2 (by decide)
    exact rstep_copy (B := w0.heap.size) (g := g0) (A := A) (c := c) (n := n) (l := l) hb.size rfl (by simp [Act.eval, d0]) (by simp [Act.eval, d2]) (HR.out.below (HB0.out.trans (hb.mono HB0.out.size))) hn rfl
  · intro ac wx hf hb hd -- 4
    have f1 : ac.tmps[1]?.getD undef = .pointer (some ⟨w.heap.size, 0, none⟩) := by rw [← Array.getD_eq_getD_getElem?]; exact hf.same 1 (by decide)
    exact rstep_eq (by simp [execOp, Act.eval, f1, go_sem]) rfl
  · intro ac wx hf hb hd -- 5
    have d4 : ac.tmps[7]?.getD undef = .pointer (some ⟨w.heap.size, 1, none⟩) := by rw [← Array.getD_eq_getD_getElem?]; exact hd 4 (by decide)
    obtain ⟨c0, c1, c2, c3, z1_0, z1_1⟩ := HC.out wx hb
    exact rstep_eq (by simp [execOp, Act.eval, d4, c1, go_sem]) rfl
  · intro ac wx hf hb hd -- 6
    obtain ⟨A3, cc3, d3, r3, b3⟩ : ∃ A c, ac.tmps[6]?.getD undef = .slice A n c ∧ PtRow wx A n l ∧ (0 < n → ∀ a, A = some a → w0.heap.size ≤ a.block) := by rw [← Array.getD_eq_getD_getElem?]; exact hd 3 (by decide)
    have d5 : ac.tmps[8]?.getD undef = .int .i64 S := by rw [← Array.getD_eq_getD_getElem?]; exact hd 5 (by decide)
    exact rstep_bur (B := w0.heap.size) (A := A3) (c := cc3) (n := n) (l := l) (S := S) (by simp [execOp, Act.eval, d3, d5, buV, go_sem]) r3 b3 rfl
  rintro ⟨⟨ll⟩, df⟩ wx hf hb hall
  have hdf : df = [] := hf.defers
  subst hdf
  have hsz : ll.length = 10 := hf.size
  obtain ⟨x0, ll0, rfl, hsz0⟩ := cons_of hsz
  obtain ⟨x1, ll1, rfl, hsz1⟩ := cons_of hsz0
  obtain ⟨x2, ll2, rfl, hsz2⟩ := cons_of hsz1
  obtain ⟨x3, ll3, rfl, hsz3⟩ := cons_of hsz2
  obtain ⟨x4, ll4, rfl, hsz4⟩ := cons_of hsz3
  obtain ⟨x5, ll5, rfl, hsz5⟩ := cons_of hsz4
  obtain ⟨x6, ll6, rfl, hsz6⟩ := cons_of hsz5
  obtain ⟨x7, ll7, rfl, hsz7⟩ := cons_of hsz6
  obtain ⟨x8, ll8, rfl, hsz8⟩ := cons_of hsz7
  obtain ⟨x9, ll9, rfl, hsz9⟩ := cons_of hsz8
  obtain rfl := List.eq_nil_of_length_eq_zero hsz9
  obtain rfl : x1 = .pointer (some ⟨w.heap.size, 0, none⟩) := hf.same 1 (by decide)
  obtain rfl : x2 = .pointer (some ⟨w.heap.size + 1, 0, none⟩) := hf.same 2 (by decide)
  obtain rfl : x4 = .pointer (some ⟨w.heap.size, 0, none⟩) := hall 1 4 rfl
  obtain rfl : x5 = .slice A n c := hall 2 5 rfl
  obtain rfl : x7 = .pointer (some ⟨w.heap.size, 1, none⟩) := hall 4 7 rfl
  obtain rfl : x8 = .int .i64 S := hall 5 8 rfl
  obtain ⟨A', c', rfl, hrow, hfar⟩ : ∃ A c, x9 = buV A n c S ∧ PtRow wx A n l ∧ (0 < n → ∀ a, A = some a → w0.heap.size ≤ a.block) := hall 6 9 rfl
  clear hall hf
  intro o ho
  have ho2 : _ = o := Option.some.inj ho
  subst ho2
  clear ho
  obtain ⟨c0, c1, c2, c3, z1_0, z1_1⟩ := HC.out wx hb
  have HX := Lib.hid (HB0.out.trans (hb.mono HB0.out.size))
  have HRW := Lib.hid hrow
  have hl : w.heap.size + 1 < wx.heap.size := World.block_lt_of_cell? wx _ c2
  simp [Oper.wp, Oper.upon, execOp, Act.eval, go_sem, buV, c2, c3, z1_0, z1_1]
  go_wp2
  refine bodyPost_ret (v := buV A' n c' S) (by simp [results, Try.results22, go_sem, buV, c2, c3]) rfl ⟨A', c', rfl, ?_, ?_⟩
  · have hw0 : w.heap.size + 1 < w0.heap.size := World.block_lt_of_cell? w0 _ (HC.out w0 (Below.refl _ _)).2.2.1
    refine ⟨HRW.out.1, fun hn0 => ?_⟩
    obtain ⟨blk, off, e, hlt, hx⟩ := HRW.out.2 hn0
    have hne := hfar hn0 _ e
    refine ⟨blk, off, e, by simpa using hlt, fun k hk => ?_⟩
    obtain ⟨p1, p2⟩ := hx k hk
    have hd : ∀ o o' : Nat, (⟨w.heap.size + 1, o, none⟩ : Addr) ≠ ⟨blk, o', none⟩ := fun o o' h => by
      have := congrArg Addr.block h
      simp at this hne
      omega
    exact ⟨(World.cell?_setCell_other _ _ _ _ (by first | exact hd _ _ | exact (hd _ _).symm)).trans ((World.cell?_setCell_other _ _ _ _ (by first | exact hd _ _ | exact (hd _ _).symm)).trans p1), (World.cell?_setCell_other _ _ _ _ (by first | exact hd _ _ | exact (hd _ _).symm)).trans ((World.cell?_setCell_other _ _ _ _ (by first | exact hd _ _ | exact (hd _ _).symm)).trans p2)⟩
  · exact (HX.out.setCell (p := ⟨w.heap.size + 1, 0, none⟩) (by simp) _).setCell (p := ⟨w.heap.size + 1, 1, none⟩) (by simp) _
end Go.Proofs.Ytablphoicidlkaa
