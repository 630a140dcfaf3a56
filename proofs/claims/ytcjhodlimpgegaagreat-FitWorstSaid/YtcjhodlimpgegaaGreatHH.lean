/- Walks over the fits: the law of the worst seasons. -/
import Derived.Test.YtcjhodlimpgegaaGreatHG
import Derived.Test.YtcjhodlimpgegaaGreatFV
import Derived.Test.YtcjhodlimpgegaaGreatFYB
import Derived.ChangeKeysEq
namespace Go.Proofs.YtcjhodlimpgegaaGreat
open Go.RowKit Go.Maps

set_option maxRecDepth 100000 in
theorem eqArr2 (a b : Int) (w : World) : (Op.equalIn 10000 76 (.agg #[.int .i64 a, .int .i64 b]) (.agg #[.int .i64 a, .int .i64 b])).run Tryz.prog w = .ok true w := by
  obtain ⟨i, hi, hz0, hz1, hz2⟩ := info_parts infoI
  rw [show (10000 : Nat) = 9999 + 1 from rfl, run_equalIn_array w 9999 _ _ Tryz.underlying76 hi, show Tryz.prog.cellsOf 3 = 1 by kernel_rfl, show List.range 2 = [0, 1] from rfl]
  have hp : ∀ (w : World) (j : Nat) (x y : Value), j < 2 → (part 3 #[x, y] (j * 1)).run Tryz.prog w = .ok (if j = 0 then x else y) w := by
    intro w j x y hj
    have ha : (isAgg 3).run Tryz.prog w = .ok false w := by kernel_rfl
    match j, hj with
    | 0, _ => simp [part, ha]
    | 1, _ => simp [part, ha]
  have he : ∀ (w : World) (x : Int), (Op.equalIn 9999 3 (.int .i64 x) (.int .i64 x)).run Tryz.prog w = .ok true w := by
    intro w x
    have := run_equalIn_int w 9998 3 .i64 .i64 x x Tryz.underlying3
    rw [this, beq_self_eq_true]
  simp only [Op.eqItems, Sem.run_bind, hp _ 0 _ _ (by omega), Result.andThen_ok, if_true, he]
  have hp1 : ∀ (w : World) (x y : Value), (part 3 #[x, y] 1).run Tryz.prog w = .ok y w := fun w x y => hp w 1 x y (by omega)
  simp [hp1, he]
set_option maxHeartbeats 4000000 in
set_option maxRecDepth 20000 in
theorem fitWorst_out {nm : ByteArray} {A A' S : Option Addr} {n c n' c' m d : Nat} {F : FitD} {l : List Sn} (h : slightB nm n n' = false ∨ snBound l = false) (hsz : nm.size ≤ maxLen) (hn : n ≤ maxLen) (hn' : n' ≤ maxLen) (hmm : m ≤ maxLen) (w : World) (hS : SnRow w S m l) :
    Calls Tryz.prog 8 #[ftV nm A n c A' n' c' F.le F.mo, .slice S m d] w fun e w' => e = .returned (.bool true) ∧ Below w.heap.size w w' := by
  have HS := Lib.hid (fun wx (hb : Below w.heap.size w wx) => hS.below hb)
  have SL := fun wx => Lib.hid (slight_law (A := A) (n := n) (c := c) (A' := A') (n' := n') (c' := c') (le := F.le) (mo := F.mo) hsz hn hn' wx)
  have hB1 : Hid (∀ o, Below w.heap.size w (w.alloc o)) := Lib.hid (fun o => (Below.refl _ _).alloc (Nat.le_refl _) _)
  obtain ⟨b, hb⟩ : ∃ b, slightB nm n n' = b := ⟨_, rfl⟩
  simp only [hb] at SL h
  clear hS hb
  unfold ftV at SL ⊢
  cases b with
  | false =>
    clear h
    go_enter Tryz.func8, Tryz.ntmps8
    go_wp2_with (first | (go_at_call 11; refine Calls.mono (awake_any _) ?_; rintro e w1 ⟨rfl, hb1⟩; have hB1' := (hB1.out _).trans (hb1.mono (by simp)); obtain ⟨hc1, hf1⟩ := bcell hb1) | (go_at_call 12; refine Calls.mono (SL _).out ?_; rintro e w2 ⟨rfl, hb2⟩))
    go_ret
    exact ⟨rfl, hB1'.trans (hb2.mono hB1'.size)⟩
  | true =>
    have h2 : snBound l = false := by rcases h with h | h; (cases h); exact h
    have SB := Lib.hid (fun wx (hx : Below w.heap.size w wx) => seasons_law (d := d) h2 hmm wx (HS.out wx hx))
    clear h h2
    go_enter Tryz.func8, Tryz.ntmps8
    go_wp2_with (first | (go_at_call 11; refine Calls.mono (awake_any _) ?_; rintro e w1 ⟨rfl, hb1⟩; have hB1' := (hB1.out _).trans (hb1.mono (by simp)); obtain ⟨hc1, hf1⟩ := bcell hb1) | (go_at_call 12; refine Calls.mono (SL _).out ?_; rintro e w2 ⟨rfl, hb2⟩; have hB2 := hB1'.trans (hb2.mono hB1'.size)) | (go_at_call 23; refine Calls.mono (SB.out _ hB2) ?_; rintro e w3 ⟨rfl, rfl⟩))
    go_ret
    exact ⟨rfl, hB2⟩
set_option maxHeartbeats 4000000 in
set_option maxRecDepth 20000 in
theorem fitWorst_bad {nm : ByteArray} {A A' S : Option Addr} {n c n' c' m d : Nat} {F : FitD} {l : List Sn} {cd : Int} (hc : wcode nm F l = cd) (h0 : cd ≠ 0) (h1 : slightB nm n n' = true) (h2 : snBound l = true) (hsz : nm.size ≤ maxLen) (hn : n ≤ 1000000) (hn' : n' ≤ 1000000) (hmm : m ≤ maxLen) (w : World) (hA : MdRow w A n F.o) (hA' : MdRow w A' n' F.i) (hS : SnRow w S m l) :
    Calls Tryz.prog 8 #[ftV nm A n c A' n' c' F.le F.mo, .slice S m d] w fun e w' => e = .returned (.bool true) ∧ Below w.heap.size w w' := by
  have hln := hS.1
  have hm30 : m ≤ 30 := by rw [← hln]; exact snBound_len h2
  have HMD := Lib.hid (fun wx (hb : Below w.heap.size w wx) => And.intro (hA.below hb) (And.intro (hA'.below hb) (hS.below hb)))
  have SL := fun wx => Lib.hid (slight_law (A := A) (n := n) (c := c) (A' := A') (n' := n') (c' := c') (le := F.le) (mo := F.mo) hsz (by unfold maxLen; omega) (by unfold maxLen; omega) wx)
  simp only [h1] at SL
  have SB := Lib.hid (fun wx (hx : Below w.heap.size w wx) => seasons_law (d := d) h2 hmm wx (HMD.out wx hx).2.2)
  have WB := Lib.hid (fun wx (hx : Below w.heap.size w wx) => worst_bad (c := c) (c' := c') (d := d) hc h0 hsz hn hn' hmm wx (HMD.out wx hx).1 (HMD.out wx hx).2.1 (HMD.out wx hx).2.2)
  obtain ⟨bc, hbc⟩ : ∃ bc, bothCode nm F l = bc := ⟨_, rfl⟩
  have RB := Lib.hid (fun wx (hx : Below w.heap.size w wx) => rboth_any (c := c) (c' := c') (d := d) hbc hsz hn hn' hmm wx (HMD.out wx hx).1 (HMD.out wx hx).2.1 (HMD.out wx hx).2.2)
  have hB1 : Hid (∀ o, Below w.heap.size w (w.alloc o)) := Lib.hid (fun o => (Below.refl _ _).alloc (Nat.le_refl _) _)
  unfold wcode at hc
  rw [hbc, hln] at hc
  clear hA hA' hS hbc HMD h1 h2
  unfold ftV at SL WB RB ⊢
  have hq : ∀ o j (hj : j < 5), o = Obj.cells #[.string nm, .slice A n c, .slice A' n' c', .int .i64 F.le, .int .i64 F.mo] 24 → (w.alloc o).cell? ⟨w.heap.size, j, none⟩ = #[Value.string nm, .slice A n c, .slice A' n' c', .int .i64 F.le, .int .i64 F.mo][j]? := by
    intro o j hj e; subst e; rw [World.cell?_alloc_new]
  have KF := Lib.hid (fun wx (hb : Below (w.alloc (.cells #[.string nm, .slice A n c, .slice A' n' c', .int .i64 F.le, .int .i64 F.mo] 24)).heap.size (w.alloc (.cells #[.string nm, .slice A n c, .slice A' n' c', .int .i64 F.le, .int .i64 F.mo] 24)) wx) => (show wx.cell? ⟨w.heap.size, 0, none⟩ = some (.string nm) ∧ wx.cell? ⟨w.heap.size, 1, none⟩ = some (.slice A n c) ∧ wx.cell? ⟨w.heap.size, 2, none⟩ = some (.slice A' n' c') ∧ wx.cell? ⟨w.heap.size, 3, none⟩ = some (.int .i64 F.le) ∧ wx.cell? ⟨w.heap.size, 4, none⟩ = some (.int .i64 F.mo) from by
    have k := (bcell hb).1
    exact ⟨(k _ _ (by simp)).trans (hq _ 0 (by omega) rfl), (k _ _ (by simp)).trans (hq _ 1 (by omega) rfl), (k _ _ (by simp)).trans (hq _ 2 (by omega) rfl), (k _ _ (by simp)).trans (hq _ 3 (by omega) rfl), (k _ _ (by simp)).trans (hq _ 4 (by omega) rfl)⟩))
  clear hq
  have HQ := fun wx => eqArr2 0 0 wx
  have hcc : (bc = 0 ∧ m = 0 ∧ cd = 12) ∨ (bc ≠ 0 ∧ bc = cd) := by
    by_cases hb0 : bc = 0
    · rw [decide_eq_true hb0] at hc
      by_cases hm0 : m = 0
      · rw [decide_eq_true hm0] at hc; exact .inl ⟨hb0, hm0, hc.symm⟩
      · rw [decide_eq_false hm0] at hc; exact absurd hc.symm h0
    · rw [decide_eq_false hb0] at hc; exact .inr ⟨hb0, hc⟩
  clear hc
  rcases hcc with ⟨rfl, rfl, rfl⟩ | ⟨hb0, rfl⟩
  · go_enter Tryz.func8, Tryz.ntmps8
    go_wp2_with (first | (go_at_call 11; refine Calls.mono (awake_any _) ?_; rintro e w1 ⟨rfl, hb1⟩; have hB1' := (hB1.out _).trans (hb1.mono (by simp)); obtain ⟨f0, f1, f2, f3, f4⟩ := KF.out w1 hb1) | (go_at_call 12; refine Calls.mono (SL _).out ?_; rintro e w2 ⟨rfl, hb2⟩; have hB2 := hB1'.trans (hb2.mono hB1'.size); have hP2 := hb1.trans (hb2.mono hb1.size); obtain ⟨g0, g1, g2, g3, g4⟩ := KF.out w2 hP2) | (go_at_call 23; refine Calls.mono (SB.out _ hB2) ?_; rintro e w3 ⟨rfl, rfl⟩) | (go_at_call 39; refine Calls.mono (WB.out _ hB2) ?_; rintro e w4 ⟨rfl, hb4⟩; have hB4 := ((hB2.trans (hb4.mono hB2.size)).alloc (hB2.trans (hb4.mono hB2.size)).size (.cells #[.int .i64 0, .int .i64 0] 76)).alloc (by refine Nat.le_trans (hB2.trans (hb4.mono hB2.size)).size ?_; simp) (.cells #[.int .i64 0, .int .i64 0] 31); have hP4 := ((hP2.trans (hb4.mono hP2.size)).alloc (hP2.trans (hb4.mono hP2.size)).size (.cells #[.int .i64 0, .int .i64 0] 76)).alloc (by refine Nat.le_trans (hP2.trans (hb4.mono hP2.size)).size ?_; simp) (.cells #[.int .i64 0, .int .i64 0] 31); obtain ⟨k0, k1, k2, k3, k4⟩ := KF.out _ hP4) | (go_at_call 25; refine Calls.mono (RB.out _ hB4) ?_; rintro e w5 ⟨rfl, hb5⟩; obtain ⟨hc5, hf5⟩ := bcell hb5))
    go_ret
    exact ⟨rfl, hB4.trans (hb5.mono hB4.size)⟩
  · have hcb : (bc == 0) = false := beq_eq_false_iff_ne.2 hb0
    have hcb' : (bc != 0) = true := bne_iff_ne.2 hb0
    go_enter Tryz.func8, Tryz.ntmps8
    go_wp2_with (first | (go_at_call 11; refine Calls.mono (awake_any _) ?_; rintro e w1 ⟨rfl, hb1⟩; have hB1' := (hB1.out _).trans (hb1.mono (by simp)); obtain ⟨f0, f1, f2, f3, f4⟩ := KF.out w1 hb1) | (go_at_call 12; refine Calls.mono (SL _).out ?_; rintro e w2 ⟨rfl, hb2⟩; have hB2 := hB1'.trans (hb2.mono hB1'.size); have hP2 := hb1.trans (hb2.mono hb1.size); obtain ⟨g0, g1, g2, g3, g4⟩ := KF.out w2 hP2) | (go_at_call 23; refine Calls.mono (SB.out _ hB2) ?_; rintro e w3 ⟨rfl, rfl⟩) | (go_at_call 39; refine Calls.mono (WB.out _ hB2) ?_; rintro e w4 ⟨rfl, hb4⟩; have hB4 := ((hB2.trans (hb4.mono hB2.size)).alloc (hB2.trans (hb4.mono hB2.size)).size (.cells #[.int .i64 0, .int .i64 0] 76)).alloc (by refine Nat.le_trans (hB2.trans (hb4.mono hB2.size)).size ?_; simp) (.cells #[.int .i64 0, .int .i64 0] 31); have hP4 := ((hP2.trans (hb4.mono hP2.size)).alloc (hP2.trans (hb4.mono hP2.size)).size (.cells #[.int .i64 0, .int .i64 0] 76)).alloc (by refine Nat.le_trans (hP2.trans (hb4.mono hP2.size)).size ?_; simp) (.cells #[.int .i64 0, .int .i64 0] 31); obtain ⟨k0, k1, k2, k3, k4⟩ := KF.out _ hP4) | (go_at_call 25; refine Calls.mono (RB.out _ hB4) ?_; rintro e w5 ⟨rfl, hb5⟩; obtain ⟨hc5, hf5⟩ := bcell hb5))
    go_ret
    exact ⟨rfl, hB4.trans (hb5.mono hB4.size)⟩
end Go.Proofs.YtcjhodlimpgegaaGreat
