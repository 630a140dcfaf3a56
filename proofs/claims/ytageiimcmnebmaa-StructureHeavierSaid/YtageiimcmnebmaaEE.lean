/- Heavier weights: the function. -/
import Derived.Test.YtageiimcmnebmaaED
import Derived.Test.YtageiimcmnebmaaSD
import Derived.Test.YtageiimcmnebmaaRL
namespace Go.Proofs.Ytageiimcmnebmaa
open Go.RowKit

theorem ptrow_other {w : World} {A : Option Addr} {n b o : Nat} {l : List Pt} {v : Value} (h : PtRow w A n l) (hne : 0 < n → ∀ a, A = some a → a.block ≠ b) : PtRow (w.setCell ⟨b, o, none⟩ v) A n l := by
  obtain ⟨hl, hr⟩ := h
  refine ⟨hl, fun hn => ?_⟩
  obtain ⟨blk, off, he, hlt, hc⟩ := hr hn
  have h1 := hne hn _ he
  have hd : ∀ o' : Nat, (⟨b, o, none⟩ : Addr) ≠ ⟨blk, o', none⟩ := fun o' h => h1 (by injection h with e _ _; exact e.symm)
  refine ⟨blk, off, he, by simpa using hlt, fun k hk => ?_⟩
  obtain ⟨p1, p2⟩ := hc k hk
  exact ⟨(World.cell?_setCell_other _ _ _ _ (hd _)).trans p1, (World.cell?_setCell_other _ _ _ _ (hd _)).trans p2⟩
set_option maxHeartbeats 8000000 in
set_option maxRecDepth 20000 in
theorem heavier_any {A : Option Addr} {n c : Nat} {S p : Int} {l : List Pt} (hn : n ≤ 1000000) (w : World) (h : PtRow w A n l) :
    Calls Try.prog 44 #[buV A n c S, .int .i64 p] w fun e w' => HvOut l S p w e w' := by
  have HR := Lib.hid h
  have hle : l.length ≤ n := by have := h.1; omega
  have hge : n ≤ l.length := by have := h.1; omega
  have CW := Lib.hid (fun wx (hx : Below w.heap.size w wx) => checkWeights_any (c := c) (S := S) (span := 2000) wx (h.below hx) (by unfold maxLen; omega))
  have C1 := fun wx b (h : IntRow wx (some ⟨b, 0, none⟩) 1 [p]) => Lib.hid (checkRange_any (c := 1) (lo := 1000) (hi := 5000) wx h (by decide))
  have C3 := fun wx b (h : IntRow wx (some ⟨b, 0, none⟩) 2 [wtsE 2000 l S, rngE 1000 5000 [p]]) => Lib.hid (firstError_any (c := 2) wx h (by decide))
  have CE := Lib.hid (fun wx A c (h : PtRow wx A n (l.map (hvP p))) => checkWeights_any (c := c) (S := hvI S p) (span := 2000) wx h (by unfold maxLen; omega))
  have HV0 : Hid (hvE l S p ≠ 0 → hvR l S p = (hvE l S p, 0, [])) := Lib.hid (fun h => by unfold hvR; rw [if_neg h])
  have HV1 : Hid (hvE l S p = 0 → wtsE 2000 (l.map (hvP p)) (hvI S p) = 0 → hvR l S p = (0, hvI S p, l.map (hvP p))) := Lib.hid (fun h h2 => by unfold hvR; rw [if_pos h, if_pos h2])
  have HV2 : Hid (hvE l S p = 0 → wtsE 2000 (l.map (hvP p)) (hvI S p) ≠ 0 → hvR l S p = (8, 0, [])) := Lib.hid (fun h h2 => by unfold hvR; rw [if_pos h, if_neg h2])
  have HOK := Lib.hid (fun h : hvE l S p = 0 => hvE_ok.1 h)
  have MU := Lib.hid (fun x (h0 : Int.natAbs x ≤ 20000) (h1 : 0 ≤ p) (h2 : p ≤ 5000) wx => multiplied_any (n := x) h0 h1 h2 wx)
  rw [show firstE [wtsE 2000 l S, rngE 1000 5000 [p]] = hvE l S p from rfl] at C3
  clear h
  unfold HvOut
  generalize wtsE 2000 l S = e1 at *
  generalize rngE 1000 5000 [p] = e2 at *
  generalize hvE l S p = ee at *
  generalize hvR l S p = RR at *
  obtain ⟨hS, hSV⟩ : ∃ x, hvI S p = x := ⟨_, rfl⟩
  rw [hSV] at CE HV1 HV2
  have HSV := Lib.hid hSV
  clear hSV
  unfold buV at *
  go_enter Try.func44, Try.ntmps44
  go_upto_region 1 with fail
  obtain ⟨w0, hw0⟩ : ∃ w0, ((w.alloc (.cells #[.slice A n c, .int .i64 S] 26)).alloc (.cells #[.slice none 0 0, .int .i64 0] 26)) = w0 := ⟨_, rfl⟩
  have HB0 : Hid (Below w.heap.size w w0) := Lib.hid (by rw [← hw0]; exact (((Below.refl _ _).alloc (Nat.le_refl _) _).alloc (by simp; try omega) _))
  have HC := Lib.hid (fun wx (hb : Below w0.heap.size w0 wx) => (show wx.cell? ⟨w.heap.size, 0, none⟩ = some (.slice A n c) ∧ wx.cell? ⟨w.heap.size, 1, none⟩ = some (.int .i64 S) ∧ wx.cell? ⟨w.heap.size + 1, 0, none⟩ = some (.slice none 0 0) ∧ wx.cell? ⟨w.heap.size + 1, 1, none⟩ = some (.int .i64 0) ∧ wx.frozen? ⟨w.heap.size + 1, 0, none⟩ = false ∧ wx.frozen? ⟨w.heap.size + 1, 1, none⟩ = false from by
    subst hw0
    obtain ⟨k, kf⟩ := bcell hb
    exact ⟨(k _ _ (by simp; try omega)).trans (by simp [go_sem]), (k _ _ (by simp; try omega)).trans (by simp [go_sem]), (k _ _ (by simp; try omega)).trans (by simp [go_sem]), (k _ _ (by simp; try omega)).trans (by simp [go_sem]), (kf _ _ (by simp; try omega)).trans (by simp [go_sem]), (kf _ _ (by simp; try omega)).trans (by simp [go_sem])⟩))
  rw [hw0]
  clear hw0
  have HZ0 := Lib.hid (Below.refl w0.heap.size w0)
  obtain ⟨c0, c1, c2, c3, z1_0, z1_1⟩ := HC.out w0 HZ0.out
  go_upto_region 2 with (first | (go_at_call 97; (with_reducible refine Calls.mono (CW.out _ HB0.out) ?_); rintro e w1 ⟨rfl, hb1⟩; have R1 := Lib.hid (show IntRow (w1.alloc (.cells #[.int .i64 p] 3)) (some ⟨w1.heap.size, 0, none⟩) 1 [p] from intRow_new w1 [p] 3 _ rfl (n := 1) rfl); have R2 := Lib.hid (show IntRow ((w1.alloc (.cells #[.int .i64 p] 3)).alloc (.cells #[.int .i64 e1, .int .i64 e2] 31)) (some ⟨w1.heap.size + 1, 0, none⟩) 2 [e1, e2] from (by have := intRow_new (w1.alloc (.cells #[.int .i64 p] 3)) [e1, e2] 31 _ rfl (n := 2) rfl; simpa using this))) | (go_at_call 96; (with_reducible refine Calls.mono (C1 _ _ R1.out).out ?_); rintro e w2 ⟨rfl, rfl⟩) | (go_at_call 95; (with_reducible refine Calls.mono (C3 _ _ R2.out).out ?_); rintro e w3 ⟨rfl, rfl⟩) | fail)
  obtain ⟨w5, hw5⟩ : ∃ w5, ((w1.alloc (.cells #[.int .i64 p] 3)).alloc (.cells #[.int .i64 e1, .int .i64 e2] 31)) = w5 := ⟨_, rfl⟩
  have H5 : Hid (Below w0.heap.size w0 w5) := Lib.hid (by rw [← hw5]; exact (hb1.alloc hb1.size _).alloc (by have := hb1.size; simp; omega) _)
  rw [hw5]
  clear hw5 hb1 R1 R2 CW C1 C3
  have HBX := Lib.hid (HB0.out.trans (H5.out.mono HB0.out.size))
  clear c0 c1 c2 c3 z1_0 z1_1
  by_cases he : ee = 0
  · subst he
    obtain ⟨hwt, p0, p1⟩ := HOK.out rfl
    have HS1 := Lib.hid (HV1.out rfl)
    have HS2 := Lib.hid (HV2.out rfl)
    have MS := fun wx => Lib.hid (MU.out S (by have := hwt.S0; have := hwt.S1; omega) (by omega) p1 wx)
    have HN : Hid (∀ q ∈ l, q.n.natAbs ≤ 20000) := Lib.hid (fun q hq => by have := (hwt.pt q hq).n0; have := (hwt.pt q hq).n1; omega)
    rw [HSV.out] at MS
    clear HV0 HV1 HV2 HOK hwt HSV
    have GE : ∀ {n : Nat}, w5.heap.size ≤ n → w0.heap.size ≤ n := fun h => Nat.le_trans H5.out.size h
    have HC2 := Lib.hid (fun wy (hy : Below w5.heap.size w5 wy) => HC.out wy (H5.out.trans (hy.mono H5.out.size)))
    have HR2 := Lib.hid (fun wy (hy : Below w5.heap.size w5 wy) => HR.out.below (HBX.out.trans (hy.mono HBX.out.size)))
    obtain ⟨c0, c1, c2, c3, z1_0, z1_1⟩ := HC.out w5 H5.out
    go_upto_region 4 with fail
    clear c0 c1 c2 c3 z1_0 z1_1
    refine wp_region_ptrsG (t := 26) (z0 := .slice none 0 0) (z1 := .int .i64 0) [21, 22, 23, 24, 25, 26, 27, 28, 7, 51] [⟨8, 9, XO w0.heap.size n l hS⟩] [rEq (.pointer (some ⟨w.heap.size, 0, none⟩)), rEq (.slice A n c), (rOwnR w0.heap.size n l), rEq (.pointer (some ⟨w.heap.size, 1, none⟩)), rEq (.int .i64 S), rEq (.int .i64 p), rEq (.int .i64 hS), (rOwnB w0.heap.size n l hS), (rAny), (rAny)] [8, 9] (by kernel_rfl) (by kernel_rfl) (by decide) rfl ?_ ?_ ?_ ?_ ?_ ?_ ?_ ?_ ?_
    · refine ⟨fun i h1 h2 => ?_, fun q hq => ?_, fun q hq q' hq' h => ?_, fun q hq o ho => ?_, fun q hq => ?_⟩
      · have h3 : i = 9 := by
          revert h2
          revert h1
          revert i
          decide +kernel
        rcases h3 with rfl
        · exact ⟨⟨8, 9, XO w0.heap.size n l hS⟩, by simp, rfl⟩
      · simp only [List.mem_cons, List.not_mem_nil, or_false] at hq
        rcases hq with rfl
        · exact ⟨by kernel_rfl, by kernel_rfl, (show 8 < _ by decide +kernel)⟩
      · simp only [List.mem_cons, List.not_mem_nil, or_false] at hq
        simp only [List.mem_cons, List.not_mem_nil, or_false] at hq'
        rcases hq with rfl <;> rcases hq' with rfl <;> first | rfl | (exfalso; revert h; simp)
      · simp only [List.mem_cons, List.not_mem_nil, or_false] at hq
        rcases hq with rfl
        · dsimp only at ho
          have ho2 : _ = o := Option.some.inj ho
          subst ho2
          show 8 ∈ depsOf _
          decide
      · simp only [List.mem_cons, List.not_mem_nil, or_false] at hq
        rcases hq with rfl <;> exact ⟨rfl, rfl⟩
    · intro i he
      have he' : i = 8 ∨ i = 9 := by simpa using he
      rcases he' with rfl | rfl
      · exact ⟨⟨8, 9, XO w0.heap.size n l hS⟩, by simp, .inl rfl⟩
      · exact ⟨⟨8, 9, XO w0.heap.size n l hS⟩, by simp, .inr rfl⟩
    · intro j v w1' b x0 x1 hle hz h
      match j, h with
      | 0, h => exact h
      | 1, h => exact h
      | 2, h => exact (let ⟨A, c, e, r⟩ := h; ⟨A, c, e, r.set2 hz⟩)
      | 3, h => exact h
      | 4, h => exact h
      | 5, h => exact h
      | 6, h => exact h
      | 7, h => exact (let ⟨A, c, e, r⟩ := h; ⟨A, c, e, r.set2 hz⟩)
      | 8, h => exact trivial
      | 9, h => exact trivial
      | _ + 10, _ => exact trivial
    · intro q hq
      simp only [List.mem_cons, List.not_mem_nil, or_false] at hq
      rcases hq with rfl
      · exact fun y0 y1 w1 w2 hb ⟨A, c, e0, e1, h⟩ => ⟨A, c, e0, e1, h.below hb⟩
    · intro q hq
      simp only [List.mem_cons, List.not_mem_nil, or_false] at hq
      rcases hq with rfl
      · exact fun y0 y1 w1 pb x0 x1 hz ⟨A, c, e0, e1, h⟩ => ⟨A, c, e0, e1, h.set2 hz⟩
    · refine ⟨?_, ?_, ?_, ?_, ?_, ?_, ?_, ?_, ?_, ?_, trivial⟩
      · intro _ ac wx hf hb hd -- 0
        have f2 : ac.tmps[2]?.getD undef = .pointer (some ⟨w.heap.size, 0, none⟩) := by rw [← Array.getD_eq_getD_getElem?]; exact hf.same 2 (by decide)
        exact rstep_eq (by simp [execOp, Act.eval, f2, go_sem]) rfl
      · intro _ ac wx hf hb hd -- 1
        have d0 : ac.tmps[21]?.getD undef = .pointer (some ⟨w.heap.size, 0, none⟩) := by rw [← Array.getD_eq_getD_getElem?]; exact hd 0 (by decide)
        obtain ⟨c0, c1, c2, c3, z1_0, z1_1⟩ := HC2.out wx hb
        exact rstep_eq (by simp [execOp, Act.eval, d0, c0, go_sem]) rfl
      · intro _ ac wx hf hb hd -- 2
        have d1 : ac.tmps[22]?.getD undef = .slice A n c := by rw [← Array.getD_eq_getD_getElem?]; exact hd 1 (by decide)
        exact rstep_clone (A := A) (c := c) (GE hb.size) (by simp [execOp, Act.eval, d1, go_sem]) (HR2.out wx hb) hn rfl
      · intro _ ac wx hf hb hd -- 3
        have f2 : ac.tmps[2]?.getD undef = .pointer (some ⟨w.heap.size, 0, none⟩) := by rw [← Array.getD_eq_getD_getElem?]; exact hf.same 2 (by decide)
        exact rstep_eq (by simp [execOp, Act.eval, f2, go_sem]) rfl
      · intro _ ac wx hf hb hd -- 4
        have d3 : ac.tmps[24]?.getD undef = .pointer (some ⟨w.heap.size, 1, none⟩) := by rw [← Array.getD_eq_getD_getElem?]; exact hd 3 (by decide)
        obtain ⟨c0, c1, c2, c3, z1_0, z1_1⟩ := HC2.out wx hb
        exact rstep_eq (by simp [execOp, Act.eval, d3, c1, go_sem]) rfl
      · intro _ ac wx hf hb hd -- 5
        have f1 : ac.tmps[1]?.getD undef = .int .i64 p := by rw [← Array.getD_eq_getD_getElem?]; exact hf.same 1 (by decide)
        exact rstep_eq (by simp [execOp, Act.eval, f1, go_sem]) rfl
      · intro _ ac wx hf hb hd -- 6
        have d4 : ac.tmps[25]?.getD undef = .int .i64 S := by rw [← Array.getD_eq_getD_getElem?]; exact hd 4 (by decide)
        have d5 : ac.tmps[26]?.getD undef = .int .i64 p := by rw [← Array.getD_eq_getD_getElem?]; exact hd 5 (by decide)
        refine rstep_call (f := 111) (args := #[.int .i64 S, .int .i64 p]) (by simp [Act.eval, d4, d5, go_sem]) ?_ rfl
        exact (MS wx).out.mono fun e w' ⟨he, hw⟩ => ⟨he, hw ▸ Below.refl _ _⟩
      · intro _ ac wx hf hb hd -- 7
        obtain ⟨A2, cc2, d2, r2⟩ : ∃ A c, ac.tmps[23]?.getD undef = .slice A n c ∧ OwnPts w0.heap.size wx A n l := by rw [← Array.getD_eq_getD_getElem?]; exact hd 2 (by decide)
        have d6 : ac.tmps[27]?.getD undef = .int .i64 hS := by rw [← Array.getD_eq_getD_getElem?]; exact hd 6 (by decide)
        exact rstep_ownB (A := A2) (c := cc2) (by simp [execOp, Act.eval, d2, d6, buV, go_sem]) r2 rfl
      · intro h; cases h
      · intro h; cases h
    · intro q hq o ac wx ho
      simp only [List.mem_cons, List.not_mem_nil, or_false] at hq
      rcases hq with rfl <;> (cases ho; simp [execOp, go_sem])
    · intro q hq o ac wx bb ho hf hp z0 z1 y0 y1 hd
      simp only [List.mem_cons, List.not_mem_nil, or_false] at hq
      rcases hq with rfl
      · dsimp only at ho
        have ho2 : _ = o := Option.some.inj ho
        subst ho2
        clear ho
        have dp : ac.tmps[7]?.getD undef = .pointer (some ⟨bb, 0, none⟩) := by rw [← Array.getD_eq_getD_getElem?]; exact hp
        obtain ⟨A5, c5, dv, rr⟩ : ∃ A c, ac.tmps[28]?.getD undef = buV A n c hS ∧ OwnPts w0.heap.size wx A n l := by rw [← Array.getD_eq_getD_getElem?]; exact hd 7 (by decide)
        unfold buV at dv
        simp [Oper.wp, Oper.upon, execOp, Act.eval, go_sem, dp, dv, z0, z1, y0, y1]
        exact ⟨_, _, rfl, A5, c5, rfl, rfl, rr.set2 y0⟩
    rintro ⟨⟨ll⟩, df⟩ w4 hf hbw4 hall ⟨blkf, hq1, hq2⟩
    have hdf : df = [] := hf.defers
    subst hdf
    have hsz : ll.length = 52 := hf.size
    obtain ⟨x0, ll0, rfl, hsz0⟩ := cons_of hsz
    obtain ⟨x1, ll1, rfl, hsz1⟩ := cons_of hsz0
    obtain ⟨x2, ll2, rfl, hsz2⟩ := cons_of hsz1
    obtain ⟨x3, ll3, rfl, hsz3⟩ := cons_of hsz2
    obtain ⟨x4, ll4, rfl, hsz4⟩ := cons_of hsz3
    obtain ⟨x5, ll5, rfl, hsz5⟩ := cons_of hsz4
    obtain ⟨x6, ll6, rfl, hsz6⟩ := cons_of hsz5
    obtain ⟨x7, ll7, rfl, hsz7⟩ := cons_of hsz6
    obtain ⟨x8, ll8, rfl, hsz8⟩ := cons_of hsz7
    obtain ⟨x9, ll9, rfl, hsz9⟩ := cons_of hsz8
    obtain ⟨x10, ll10, rfl, hsz10⟩ := cons_of hsz9
    obtain ⟨x11, ll11, rfl, hsz11⟩ := cons_of hsz10
    obtain ⟨x12, ll12, rfl, hsz12⟩ := cons_of hsz11
    obtain ⟨x13, ll13, rfl, hsz13⟩ := cons_of hsz12
    obtain ⟨x14, ll14, rfl, hsz14⟩ := cons_of hsz13
    obtain ⟨x15, ll15, rfl, hsz15⟩ := cons_of hsz14
    obtain ⟨x16, ll16, rfl, hsz16⟩ := cons_of hsz15
    obtain ⟨x17, ll17, rfl, hsz17⟩ := cons_of hsz16
    obtain ⟨x18, ll18, rfl, hsz18⟩ := cons_of hsz17
    obtain ⟨x19, ll19, rfl, hsz19⟩ := cons_of hsz18
    obtain ⟨x20, ll20, rfl, hsz20⟩ := cons_of hsz19
    obtain ⟨x21, ll21, rfl, hsz21⟩ := cons_of hsz20
    obtain ⟨x22, ll22, rfl, hsz22⟩ := cons_of hsz21
    obtain ⟨x23, ll23, rfl, hsz23⟩ := cons_of hsz22
    obtain ⟨x24, ll24, rfl, hsz24⟩ := cons_of hsz23
    obtain ⟨x25, ll25, rfl, hsz25⟩ := cons_of hsz24
    obtain ⟨x26, ll26, rfl, hsz26⟩ := cons_of hsz25
    obtain ⟨x27, ll27, rfl, hsz27⟩ := cons_of hsz26
    obtain ⟨x28, ll28, rfl, hsz28⟩ := cons_of hsz27
    obtain ⟨x29, ll29, rfl, hsz29⟩ := cons_of hsz28
    obtain ⟨x30, ll30, rfl, hsz30⟩ := cons_of hsz29
    obtain ⟨x31, ll31, rfl, hsz31⟩ := cons_of hsz30
    obtain ⟨x32, ll32, rfl, hsz32⟩ := cons_of hsz31
    obtain ⟨x33, ll33, rfl, hsz33⟩ := cons_of hsz32
    obtain ⟨x34, ll34, rfl, hsz34⟩ := cons_of hsz33
    obtain ⟨x35, ll35, rfl, hsz35⟩ := cons_of hsz34
    obtain ⟨x36, ll36, rfl, hsz36⟩ := cons_of hsz35
    obtain ⟨x37, ll37, rfl, hsz37⟩ := cons_of hsz36
    obtain ⟨x38, ll38, rfl, hsz38⟩ := cons_of hsz37
    obtain ⟨x39, ll39, rfl, hsz39⟩ := cons_of hsz38
    obtain ⟨x40, ll40, rfl, hsz40⟩ := cons_of hsz39
    obtain ⟨x41, ll41, rfl, hsz41⟩ := cons_of hsz40
    obtain ⟨x42, ll42, rfl, hsz42⟩ := cons_of hsz41
    obtain ⟨x43, ll43, rfl, hsz43⟩ := cons_of hsz42
    obtain ⟨x44, ll44, rfl, hsz44⟩ := cons_of hsz43
    obtain ⟨x45, ll45, rfl, hsz45⟩ := cons_of hsz44
    obtain ⟨x46, ll46, rfl, hsz46⟩ := cons_of hsz45
    obtain ⟨x47, ll47, rfl, hsz47⟩ := cons_of hsz46
    obtain ⟨x48, ll48, rfl, hsz48⟩ := cons_of hsz47
    obtain ⟨x49, ll49, rfl, hsz49⟩ := cons_of hsz48
    obtain ⟨x50, ll50, rfl, hsz50⟩ := cons_of hsz49
    obtain ⟨x51, ll51, rfl, hsz51⟩ := cons_of hsz50
    obtain rfl := List.eq_nil_of_length_eq_zero hsz51
    obtain rfl : x1 = .int .i64 p := hf.same 1 (by decide)
    obtain rfl : x2 = .pointer (some ⟨w.heap.size, 0, none⟩) := hf.same 2 (by decide)
    obtain rfl : x4 = .pointer (some ⟨w.heap.size + 1, 0, none⟩) := hf.same 4 (by decide)
    obtain rfl : x21 = .pointer (some ⟨w.heap.size, 0, none⟩) := hall 0 21 rfl
    obtain rfl : x22 = .slice A n c := hall 1 22 rfl
    obtain rfl : x24 = .pointer (some ⟨w.heap.size, 1, none⟩) := hall 3 24 rfl
    obtain rfl : x25 = .int .i64 S := hall 4 25 rfl
    obtain rfl : x26 = .int .i64 p := hall 5 26 rfl
    obtain rfl : x27 = .int .i64 hS := hall 6 27 rfl
    obtain ⟨pH, hxH, plH, psH, c0H, c1H, paH, pcH, pxH⟩ : ∃ blk, x7 = .pointer (some ⟨blk, 0, none⟩) ∧ w0.heap.size ≤ blk ∧ blk < w4.heap.size ∧ ∃ y0 y1, w4.cell? ⟨blk, 0, none⟩ = some y0 ∧ w4.cell? ⟨blk, 1, none⟩ = some y1 ∧ XO w0.heap.size n l hS y0 y1 w4 := by
      obtain ⟨g0, g1, g2, -, -, y0, y1, g5, g6, -, g8⟩ := hq1 ⟨8, 9, XO w0.heap.size n l hS⟩ (by simp) rfl
      exact ⟨blkf 8, g0, GE g1, g2, y0, y1, g5, g6, g8 rfl⟩
    subst hxH
    clear hall hf hq1 hq2 blkf
    clear hsz hsz0 hsz1 hsz2 hsz3 hsz4 hsz5 hsz6 hsz7 hsz8 hsz9 hsz10 hsz11 hsz12 hsz13 hsz14 hsz15 hsz16 hsz17 hsz18 hsz19 hsz20 hsz21 hsz22 hsz23 hsz24 hsz25 hsz26 hsz27 hsz28 hsz29 hsz30 hsz31 hsz32 hsz33 hsz34 hsz35 hsz36 hsz37 hsz38 hsz39 hsz40 hsz41 hsz42 hsz43 hsz44 hsz45 hsz46 hsz47 hsz48 hsz49 hsz50 hsz51
    obtain ⟨A', c', rfl, rfl, hO⟩ := pxH
    have H4 := Lib.hid (H5.out.trans (hbw4.mono H5.out.size))
    have HH4 := Lib.hid (And.intro paH (And.intro pcH (And.intro psH hO)))
    clear hbw4 paH pcH psH hO HC2 HR2 GE MS
    obtain ⟨c0, c1, c2, c3, z1_0, z1_1⟩ := HC.out w4 H4.out
    go_wp2
    go_loopw [32] (fun i wr => ∃ k : Nat, k ≤ n ∧ i = .int .i64 k ∧ Below w0.heap.size w0 wr ∧ wr.cell? ⟨pH, 0, none⟩ = some (.slice A' n c') ∧ wr.cell? ⟨pH, 1, none⟩ = some (.int .i64 hS) ∧ pH < wr.heap.size ∧ OwnPts w0.heap.size wr A' n (mixL p k l)) (fun i _ => n - (intOf i).toNat)
    case atStart => exact ⟨0, Nat.zero_le _, rfl, H4.out, HH4.out.1, HH4.out.2.1, HH4.out.2.2.1, by rw [mixL_zero]; exact HH4.out.2.2.2⟩
    case round =>
      obtain ⟨k, hk, rfl, hbw, q0, q1, q2, hO⟩ := hrel
      clear c0 c1 c2 c3 z1_0 z1_1
      have HB := Lib.hid hbw
      have HBW := Lib.hid (HB0.out.trans (hbw.mono HB0.out.size))
      obtain ⟨d0, d1, d2, d3, z1_0, z1_1⟩ := HC.out wr hbw
      have HO := Lib.hid hO
      have HQ := Lib.hid (And.intro q0 (And.intro q1 q2))
      clear hbw hO HH4
      by_cases hlt : k < n
      · have hkl : k < l.length := by omega
        obtain ⟨blk, off, rfl, hblk, hx⟩ := HR.out.2 (by omega)
        obtain ⟨g, rfl, hg0, hg1, hgf⟩ := HO.out.2 (by omega)
        have PP := (hx k hkl).below HBW.out hblk
        have hnv := HN.out _ (List.getElem_mem hkl)
        have hne : pH ≠ g := fun e => by
          subst e
          obtain ⟨b2, o2, e2, -, hc2⟩ := HO.out.1.2 (by omega)
          cases e2
          obtain ⟨z0, -⟩ := hc2 0 (by rw [mixL_len]; omega)
          simp only [Nat.zero_mul, Nat.add_zero] at z0
          rw [HQ.out.1] at z0
          cases z0
        obtain ⟨pt, hpe⟩ : ∃ x, l[k] = x := ⟨_, rfl⟩
        rw [hpe] at PP hnv
        obtain ⟨a, v⟩ := pt
        unfold PtAt at PP
        simp only at PP hnv
        have MV := fun wx => Lib.hid (MU.out v hnv (by omega) p1 wx)
        obtain ⟨hv, hhv⟩ : ∃ x, hvI v p = x := ⟨_, rfl⟩
        rw [hhv] at MV
        have HHV : Hid (hvI l[k].n p = hv) := Lib.hid (by rw [hpe]; exact hhv)
        clear hhv hpe hnv hx hgf hg1 MU HN HS1 HS2 CE
        have hk64 : IntKind.i64.wrap (k : Int) = k := i64w (w64 (by omega))
        have hki : (k : Int) < (n : Int) := by omega
        have hk0 : (0 : Int) ≤ (k : Int) := by omega
        have hnm : n ≤ 9223372036854775807 := by omega
        obtain ⟨e0, e1'⟩ := PP
        clear q0 q1 q2
        go_wp2
        obtain ⟨w6, hw6⟩ : ∃ w6, wr.alloc (.cells #[.int .i64 a, .int .i64 v] 90) = w6 := ⟨_, rfl⟩
        have HB6 : Hid (Below wr.heap.size wr w6) := Lib.hid (by rw [← hw6]; exact (Below.refl _ _).alloc (Nat.le_refl _) _)
        have HC6 : Hid (∀ wx, Below w6.heap.size w6 wx → wx.cell? ⟨pH, 0, none⟩ = some (.slice (some ⟨g, 0, none⟩) n c') ∧ wx.cell? ⟨wr.heap.size, 1, none⟩ = some (.int .i64 v)) := Lib.hid (fun wx hb => ⟨((bcell (HB6.out.trans (hb.mono HB6.out.size))).1 _ _ HQ.out.2.2).trans HQ.out.1, ((bcell hb).1 _ _ (by rw [← hw6]; simp)).trans (by rw [← hw6]; simp [go_sem])⟩)
        rw [hw6]
        clear hw6 e0 e1'
        refine wp_region_tail [37, 38, 39, 40, 41, 42, 43, 44, 45] [rEq (.pointer (some ⟨pH, 0, none⟩)), rEq (.slice (some ⟨g, 0, none⟩) n c'), rEq (.int .i64 (k : Int)), rEq (.pointer (some ⟨wr.heap.size, 1, none⟩)), rEq (.int .i64 v), rEq (.int .i64 p), rEq (.int .i64 hv), rEq (.pointer (some ⟨g, k * 2, none⟩)), rEq (.pointer (some ⟨g, k * 2 + 1, none⟩))] (by kernel_rfl) (by kernel_rfl) (by decide) (by decide +kernel) ⟨?_, ?_, ?_, ?_, ?_, ?_, ?_, ?_, ?_, trivial⟩ ?_
        · intro ac wx hf hb hd -- 0
          have f7 : ac.tmps[7]?.getD undef = .pointer (some ⟨pH, 0, none⟩) := by rw [← Array.getD_eq_getD_getElem?]; exact hf.same 7 (by decide)
          exact rstep_eq (by simp [execOp, Act.eval, f7, go_sem]) rfl
        · intro ac wx hf hb hd -- 1
          have d0 : ac.tmps[37]?.getD undef = .pointer (some ⟨pH, 0, none⟩) := by rw [← Array.getD_eq_getD_getElem?]; exact hd 0 (by decide)
          obtain ⟨q0, q1⟩ := HC6.out wx hb
          exact rstep_eq (by simp [execOp, Act.eval, d0, q0, go_sem]) rfl
        · intro ac wx hf hb hd -- 2
          have f8 : ac.tmps[8]?.getD undef = .int .i64 (k : Int) := by rw [← Array.getD_eq_getD_getElem?]; exact hf.same 8 (by decide)
          exact rstep_eq (by simp [execOp, Act.eval, f8, go_sem]) rfl
        · intro ac wx hf hb hd -- 3
          have f9 : ac.tmps[9]?.getD undef = .pointer (some ⟨wr.heap.size, 0, none⟩) := by rw [← Array.getD_eq_getD_getElem?]; exact hf.same 9 (by decide)
          exact rstep_eq (by simp [execOp, Act.eval, f9, go_sem]) rfl
        · intro ac wx hf hb hd -- 4
          have d3 : ac.tmps[40]?.getD undef = .pointer (some ⟨wr.heap.size, 1, none⟩) := by rw [← Array.getD_eq_getD_getElem?]; exact hd 3 (by decide)
          obtain ⟨q0, q1⟩ := HC6.out wx hb
          exact rstep_eq (by simp [execOp, Act.eval, d3, q1, go_sem]) rfl
        · intro ac wx hf hb hd -- 5
          have f1 : ac.tmps[1]?.getD undef = .int .i64 p := by rw [← Array.getD_eq_getD_getElem?]; exact hf.same 1 (by decide)
          exact rstep_eq (by simp [execOp, Act.eval, f1, go_sem]) rfl
        · intro ac wx hf hb hd -- 6
          have d4 : ac.tmps[41]?.getD undef = .int .i64 v := by rw [← Array.getD_eq_getD_getElem?]; exact hd 4 (by decide)
          have d5 : ac.tmps[42]?.getD undef = .int .i64 p := by rw [← Array.getD_eq_getD_getElem?]; exact hd 5 (by decide)
          refine rstep_call (f := 111) (args := #[.int .i64 v, .int .i64 p]) (by simp [Act.eval, d4, d5, go_sem]) ?_ rfl
          exact (MV wx).out.mono fun e w' ⟨he, hw⟩ => ⟨he, hw ▸ Below.refl _ _⟩
        · intro ac wx hf hb hd -- 7
          have d1 : ac.tmps[38]?.getD undef = .slice (some ⟨g, 0, none⟩) n c' := by rw [← Array.getD_eq_getD_getElem?]; exact hd 1 (by decide)
          have d2 : ac.tmps[39]?.getD undef = .int .i64 (k : Int) := by rw [← Array.getD_eq_getD_getElem?]; exact hd 2 (by decide)
          exact rstep_eq (by simp [execOp, Act.eval, d1, d2, hki, hk0, go_sem]) rfl
        · intro ac wx hf hb hd -- 8
          have d7 : ac.tmps[44]?.getD undef = .pointer (some ⟨g, k * 2, none⟩) := by rw [← Array.getD_eq_getD_getElem?]; exact hd 7 (by decide)
          exact rstep_eq (by simp [execOp, Act.eval, d7, go_sem]) rfl
        rintro ⟨⟨ll⟩, df⟩ wx hf hbwx hall
        have hdf : df = [] := hf.defers
        subst hdf
        have hsz : ll.length = 52 := hf.size
        obtain ⟨x0, ll0, rfl, hsz0⟩ := cons_of hsz
        obtain ⟨x1, ll1, rfl, hsz1⟩ := cons_of hsz0
        obtain ⟨x2, ll2, rfl, hsz2⟩ := cons_of hsz1
        obtain ⟨x3, ll3, rfl, hsz3⟩ := cons_of hsz2
        obtain ⟨x4, ll4, rfl, hsz4⟩ := cons_of hsz3
        obtain ⟨x5, ll5, rfl, hsz5⟩ := cons_of hsz4
        obtain ⟨x6, ll6, rfl, hsz6⟩ := cons_of hsz5
        obtain ⟨x7, ll7, rfl, hsz7⟩ := cons_of hsz6
        obtain ⟨x8, ll8, rfl, hsz8⟩ := cons_of hsz7
        obtain ⟨x9, ll9, rfl, hsz9⟩ := cons_of hsz8
        obtain ⟨x10, ll10, rfl, hsz10⟩ := cons_of hsz9
        obtain ⟨x11, ll11, rfl, hsz11⟩ := cons_of hsz10
        obtain ⟨x12, ll12, rfl, hsz12⟩ := cons_of hsz11
        obtain ⟨x13, ll13, rfl, hsz13⟩ := cons_of hsz12
        obtain ⟨x14, ll14, rfl, hsz14⟩ := cons_of hsz13
        obtain ⟨x15, ll15, rfl, hsz15⟩ := cons_of hsz14
        obtain ⟨x16, ll16, rfl, hsz16⟩ := cons_of hsz15
        obtain ⟨x17, ll17, rfl, hsz17⟩ := cons_of hsz16
        obtain ⟨x18, ll18, rfl, hsz18⟩ := cons_of hsz17
        obtain ⟨x19, ll19, rfl, hsz19⟩ := cons_of hsz18
        obtain ⟨x20, ll20, rfl, hsz20⟩ := cons_of hsz19
        obtain ⟨x21, ll21, rfl, hsz21⟩ := cons_of hsz20
        obtain ⟨x22, ll22, rfl, hsz22⟩ := cons_of hsz21
        obtain ⟨x23, ll23, rfl, hsz23⟩ := cons_of hsz22
        obtain ⟨x24, ll24, rfl, hsz24⟩ := cons_of hsz23
        obtain ⟨x25, ll25, rfl, hsz25⟩ := cons_of hsz24
        obtain ⟨x26, ll26, rfl, hsz26⟩ := cons_of hsz25
        obtain ⟨x27, ll27, rfl, hsz27⟩ := cons_of hsz26
        obtain ⟨x28, ll28, rfl, hsz28⟩ := cons_of hsz27
        obtain ⟨x29, ll29, rfl, hsz29⟩ := cons_of hsz28
        obtain ⟨x30, ll30, rfl, hsz30⟩ := cons_of hsz29
        obtain ⟨x31, ll31, rfl, hsz31⟩ := cons_of hsz30
        obtain ⟨x32, ll32, rfl, hsz32⟩ := cons_of hsz31
        obtain ⟨x33, ll33, rfl, hsz33⟩ := cons_of hsz32
        obtain ⟨x34, ll34, rfl, hsz34⟩ := cons_of hsz33
        obtain ⟨x35, ll35, rfl, hsz35⟩ := cons_of hsz34
        obtain ⟨x36, ll36, rfl, hsz36⟩ := cons_of hsz35
        obtain ⟨x37, ll37, rfl, hsz37⟩ := cons_of hsz36
        obtain ⟨x38, ll38, rfl, hsz38⟩ := cons_of hsz37
        obtain ⟨x39, ll39, rfl, hsz39⟩ := cons_of hsz38
        obtain ⟨x40, ll40, rfl, hsz40⟩ := cons_of hsz39
        obtain ⟨x41, ll41, rfl, hsz41⟩ := cons_of hsz40
        obtain ⟨x42, ll42, rfl, hsz42⟩ := cons_of hsz41
        obtain ⟨x43, ll43, rfl, hsz43⟩ := cons_of hsz42
        obtain ⟨x44, ll44, rfl, hsz44⟩ := cons_of hsz43
        obtain ⟨x45, ll45, rfl, hsz45⟩ := cons_of hsz44
        obtain ⟨x46, ll46, rfl, hsz46⟩ := cons_of hsz45
        obtain ⟨x47, ll47, rfl, hsz47⟩ := cons_of hsz46
        obtain ⟨x48, ll48, rfl, hsz48⟩ := cons_of hsz47
        obtain ⟨x49, ll49, rfl, hsz49⟩ := cons_of hsz48
        obtain ⟨x50, ll50, rfl, hsz50⟩ := cons_of hsz49
        obtain ⟨x51, ll51, rfl, hsz51⟩ := cons_of hsz50
        obtain rfl := List.eq_nil_of_length_eq_zero hsz51
        obtain rfl : x0 = _ := hf.same 0 (by decide)
        obtain rfl : x1 = .int .i64 p := hf.same 1 (by decide)
        obtain rfl : x2 = .pointer (some ⟨w.heap.size, 0, none⟩) := hf.same 2 (by decide)
        obtain rfl : x3 = _ := hf.same 3 (by decide)
        obtain rfl : x4 = .pointer (some ⟨w.heap.size + 1, 0, none⟩) := hf.same 4 (by decide)
        obtain rfl : x5 = _ := hf.same 5 (by decide)
        obtain rfl : x6 = _ := hf.same 6 (by decide)
        obtain rfl : x7 = .pointer (some ⟨pH, 0, none⟩) := hf.same 7 (by decide)
        obtain rfl : x8 = .int .i64 (k : Int) := hf.same 8 (by decide)
        obtain rfl : x9 = .pointer (some ⟨wr.heap.size, 0, none⟩) := hf.same 9 (by decide)
        obtain rfl : x10 = _ := hf.same 10 (by decide)
        obtain rfl : x11 = _ := hf.same 11 (by decide)
        obtain rfl : x12 = _ := hf.same 12 (by decide)
        obtain rfl : x13 = _ := hf.same 13 (by decide)
        obtain rfl : x14 = _ := hf.same 14 (by decide)
        obtain rfl : x15 = _ := hf.same 15 (by decide)
        obtain rfl : x16 = _ := hf.same 16 (by decide)
        obtain rfl : x17 = _ := hf.same 17 (by decide)
        obtain rfl : x18 = _ := hf.same 18 (by decide)
        obtain rfl : x19 = _ := hf.same 19 (by decide)
        obtain rfl : x20 = _ := hf.same 20 (by decide)
        obtain rfl : x21 = _ := hf.same 21 (by decide)
        obtain rfl : x22 = _ := hf.same 22 (by decide)
        obtain rfl : x23 = _ := hf.same 23 (by decide)
        obtain rfl : x24 = _ := hf.same 24 (by decide)
        obtain rfl : x25 = _ := hf.same 25 (by decide)
        obtain rfl : x26 = _ := hf.same 26 (by decide)
        obtain rfl : x27 = _ := hf.same 27 (by decide)
        obtain rfl : x28 = _ := hf.same 28 (by decide)
        obtain rfl : x29 = _ := hf.same 29 (by decide)
        obtain rfl : x30 = .slice (some ⟨blk, off, none⟩) n c := hf.same 30 (by decide)
        obtain rfl : x31 = .int .i64 (n : Int) := hf.same 31 (by decide)
        obtain rfl : x32 = .int .i64 (k : Int) := hf.same 32 (by decide)
        obtain rfl : x33 = _ := hf.same 33 (by decide)
        obtain rfl : x34 = _ := hf.same 34 (by decide)
        obtain rfl : x35 = _ := hf.same 35 (by decide)
        obtain rfl : x36 = _ := hf.same 36 (by decide)
        obtain rfl : x37 = .pointer (some ⟨pH, 0, none⟩) := hall 0 37 rfl
        obtain rfl : x38 = .slice (some ⟨g, 0, none⟩) n c' := hall 1 38 rfl
        obtain rfl : x39 = .int .i64 (k : Int) := hall 2 39 rfl
        obtain rfl : x40 = .pointer (some ⟨wr.heap.size, 1, none⟩) := hall 3 40 rfl
        obtain rfl : x41 = .int .i64 v := hall 4 41 rfl
        obtain rfl : x42 = .int .i64 p := hall 5 42 rfl
        obtain rfl : x43 = .int .i64 hv := hall 6 43 rfl
        obtain rfl : x44 = .pointer (some ⟨g, k * 2, none⟩) := hall 7 44 rfl
        obtain rfl : x45 = .pointer (some ⟨g, k * 2 + 1, none⟩) := hall 8 45 rfl
        obtain rfl : x46 = _ := hf.same 46 (by decide)
        obtain rfl : x47 = _ := hf.same 47 (by decide)
        obtain rfl : x48 = _ := hf.same 48 (by decide)
        obtain rfl : x49 = _ := hf.same 49 (by decide)
        obtain rfl : x50 = _ := hf.same 50 (by decide)
        obtain rfl : x51 = _ := hf.same 51 (by decide)
        clear hall hf
        clear hsz hsz0 hsz1 hsz2 hsz3 hsz4 hsz5 hsz6 hsz7 hsz8 hsz9 hsz10 hsz11 hsz12 hsz13 hsz14 hsz15 hsz16 hsz17 hsz18 hsz19 hsz20 hsz21 hsz22 hsz23 hsz24 hsz25 hsz26 hsz27 hsz28 hsz29 hsz30 hsz31 hsz32 hsz33 hsz34 hsz35 hsz36 hsz37 hsz38 hsz39 hsz40 hsz41 hsz42 hsz43 hsz44 hsz45 hsz46 hsz47 hsz48 hsz49 hsz50 hsz51
        have HBr := Lib.hid (HB6.out.trans (hbwx.mono HB6.out.size))
        have HOx := Lib.hid (HO.out.below HBr.out)
        have HQ2 := Lib.hid (And.intro (((bcell HBr.out).1 _ _ HQ.out.2.2).trans HQ.out.1) (And.intro (((bcell HBr.out).1 _ _ HQ.out.2.2).trans HQ.out.2.1) (Nat.lt_of_lt_of_le HQ.out.2.2 HBr.out.size)))
        obtain ⟨u, s1⟩ : ∃ u, wx.cell? ⟨g, k * 2 + 1, none⟩ = some (.int .i64 u) := by
          obtain ⟨b2, o2, e2, -, hc2⟩ := HOx.out.1.2 (by omega)
          cases e2
          obtain ⟨-, z1⟩ := hc2 k (by rw [mixL_len]; omega)
          rw [Nat.zero_add] at z1
          exact ⟨_, z1⟩
        have s2 : wx.frozen? ⟨g, k * 2 + 1, none⟩ = false := by
          obtain ⟨b2, e2, -, -, hf2⟩ := HOx.out.2 (by omega)
          cases e2
          exact hf2 _
        have HB1 := Lib.hid ((HB.out.trans (HBr.out.mono HB.out.size)).setCell (p := ⟨g, k * 2 + 1, none⟩) hg0 (.int .i64 hv))
        clear hbwx
        simp [wpSeq_cons, wpSeq_nil, Oper.wp, Oper.upon, execOp, Act.eval, go_sem, s1, s2]
        go_wp2
        go_roundw
        case rel => exact ⟨k + 1, by omega, by go_num, HB1.out, (World.cell?_setCell_other _ _ _ _ (fun h => hne (by injection h with h; exact h.symm))).trans HQ2.out.1, (World.cell?_setCell_other _ _ _ _ (fun h => hne (by injection h with h; exact h.symm))).trans HQ2.out.2.1, by simpa using HQ2.out.2.2, mix_step HOx.out.1 hkl HHV.out, fun h => (HOx.out.2 h).set⟩
        case measure => simp [intOf]; omega
      · obtain rfl : k = n := by omega
        have HX : Hid (PtRow wr A' k (l.map (hvP p))) := Lib.hid (by have := HO.out.1; rwa [mixL_all hle] at this)
        have CE2 := Lib.hid (CE.out wr A' c' HX.out)
        have hw0 : w.heap.size + 1 < w0.heap.size := World.block_lt_of_cell? w0 _ (HC.out w0 HZ0.out).2.2.1
        have hfar : Hid (0 < k → ∀ a, A' = some a → a.block ≠ w.heap.size + 1) := Lib.hid (fun h a e => by
          obtain ⟨g, e2, hg, -⟩ := HO.out.2 h
          subst e2
          cases e
          show g ≠ _
          omega)
        obtain ⟨e3, he3⟩ : ∃ x, wtsE 2000 (l.map (hvP p)) hS = x := ⟨_, rfl⟩
        rw [he3] at CE2 HS1 HS2
        clear he3 CE MU HN
        by_cases h3 : e3 = 0
        · subst h3
          have HRV := Lib.hid (HS1.out rfl)
          clear HS1 HS2
          go_wp2_with (go_at_call 97; (with_reducible refine Calls.mono CE2.out ?_); rintro e w7 ⟨rfl, hb7⟩; have H7 := Lib.hid hb7; clear hb7; obtain ⟨f0, f1, f2, f3, y1_0, y1_1⟩ := HC.out w7 (HB.out.trans (H7.out.mono HB.out.size)); have g0 := ((bcell H7.out).1 _ _ HQ.out.2.2).trans HQ.out.1; have g1 := ((bcell H7.out).1 _ _ HQ.out.2.2).trans HQ.out.2.1)
          refine bodyPost_ret (v := .tuple #[.agg #[.slice A' k c', .int .i64 hS], .int .i64 0]) (by simp [results, Try.results44, go_sem, f2, f3]) rfl ⟨A', k, c', by rw [HRV.out], by rw [HRV.out]; exact ptrow_other (ptrow_other (HX.out.below H7.out) hfar.out) hfar.out, ?_⟩
          exact ((HBW.out.trans (H7.out.mono HBW.out.size)).setCell (p := ⟨w.heap.size + 1, 0, none⟩) (by simp) _).setCell (p := ⟨w.heap.size + 1, 1, none⟩) (by simp) _
        · have HRV := Lib.hid (HS2.out h3)
          have e1' : (e3 == 0) = false := by simpa using h3
          have e2' : (e3 != 0) = true := by simpa using h3
          clear HS1 HS2
          go_wp2_with (go_at_call 97; (with_reducible refine Calls.mono CE2.out ?_); rintro e w7 ⟨rfl, hb7⟩; have H7 := Lib.hid hb7; clear hb7; obtain ⟨f0, f1, f2, f3, y1_0, y1_1⟩ := HC.out w7 (HB.out.trans (H7.out.mono HB.out.size)))
          refine bodyPost_ret (v := .tuple #[.agg #[.slice none 0 0, .int .i64 0], .int .i64 8]) (by simp [results, Try.results44, go_sem, f2, f3]) rfl ⟨none, 0, 0, by rw [HRV.out], by rw [HRV.out]; exact ⟨rfl, fun h => absurd h (by decide)⟩, ?_⟩
          exact ((HBW.out.trans (H7.out.mono HBW.out.size)).setCell (p := ⟨w.heap.size + 1, 0, none⟩) (by simp) _).setCell (p := ⟨w.heap.size + 1, 1, none⟩) (by simp) _
  · have e1' : (ee == 0) = false := by simpa using he
    have e2' : (ee != 0) = true := by simpa using he
    have HRV := Lib.hid (HV0.out he)
    clear HV0 HV1 HV2 HOK
    obtain ⟨c0, c1, c2, c3, z1_0, z1_1⟩ := HC.out w5 H5.out
    go_wp2
    refine bodyPost_ret (v := .tuple #[.agg #[.slice none 0 0, .int .i64 0], .int .i64 ee]) (by simp [results, Try.results44, go_sem, c2, c3]) rfl ⟨none, 0, 0, by rw [HRV.out], by rw [HRV.out]; exact ⟨rfl, fun h => absurd h (by decide)⟩, ?_⟩
    exact (HBX.out.setCell (p := ⟨w.heap.size + 1, 0, none⟩) (by simp) _).setCell (p := ⟨w.heap.size + 1, 1, none⟩) (by simp) _
end Go.Proofs.Ytageiimcmnebmaa
