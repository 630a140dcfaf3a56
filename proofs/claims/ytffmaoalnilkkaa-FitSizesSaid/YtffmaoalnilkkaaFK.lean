/- Walks over the fits: the interval of the right numbers of a range. -/
import Derived.Test.YtffmaoalnilkkaaFH
import Derived.Test.YtffmaoalnilkkaaFJ
namespace Go.Proofs.Ytffmaoalnilkkaa
open Go.RowKit Go.Maps

/-- The closure that 'holding' hands to 'narrowed'. -/
abbrev rightFn (pa pb pc pd : Addr) : Value := .func (.func 90) #[] #[.pointer (some pa), .pointer (some pb), .pointer (some pc), .pointer (some pd)]
set_option maxHeartbeats 2000000 in
set_option maxRecDepth 20000 in
theorem narrowed1_any {lo m : Int} {f v : Bool} {a2 a3 a5 : Nat} {pa pb pc pd : Addr} (hm : -1000000 ≤ lo ∧ lo ≤ 1000000 ∧ 0 ≤ m ∧ m ≤ 1000000) (w : World) (c3 : w.cell? ⟨a3, 0, none⟩ = some (rightFn pa pb pc pd)) (c2 : w.cell? ⟨a2, 0, none⟩ = some (.int .i64 lo)) (c5 : w.cell? ⟨a5, 0, none⟩ = some (.bool f))
    (CR : ∀ wx, Below w.heap.size w wx → Calls Try.prog 90 #[.int .i64 (lo + m), .pointer (some pa), .pointer (some pb), .pointer (some pc), .pointer (some pd)] wx fun e w' => e = .returned (.bool v) ∧ Below wx.heap.size wx w') :
    Calls Try.prog 105 #[.int .i64 m, .pointer (some ⟨a3, 0, none⟩), .pointer (some ⟨a2, 0, none⟩), .pointer (some ⟨a5, 0, none⟩)] w fun e w' => e = .returned (.bool (v != f)) ∧ Below w.heap.size w w' := by
  have HR := Lib.hid CR
  have l3 := World.block_lt_of_cell? w _ c3
  have l2 := World.block_lt_of_cell? w _ c2
  have l5 := World.block_lt_of_cell? w _ c5
  simp only at l3 l2 l5
  have hw1 : IntKind.i64.wrap (lo + m) = lo + m := by rw [IntKind.wrap_i64]; omega
  have KP := Lib.hid (fun (wx w' : World) (hb : Below wx.heap.size wx w') (h : Below w.heap.size w wx ∧ wx.cell? ⟨a3, 0, none⟩ = some (rightFn pa pb pc pd) ∧ wx.cell? ⟨a2, 0, none⟩ = some (.int .i64 lo) ∧ wx.cell? ⟨a5, 0, none⟩ = some (.bool f)) => (show Below w.heap.size w w' ∧ w'.cell? ⟨a3, 0, none⟩ = some (rightFn pa pb pc pd) ∧ w'.cell? ⟨a2, 0, none⟩ = some (.int .i64 lo) ∧ w'.cell? ⟨a5, 0, none⟩ = some (.bool f) from by
    obtain ⟨h0, h1, h2, h3⟩ := h
    have hs := h0.size
    have k : ∀ b o, b < w.heap.size → w'.cell? ⟨b, o, none⟩ = wx.cell? ⟨b, o, none⟩ := fun b o hlt => hb.cell (p := ⟨b, o, none⟩) (Nat.lt_of_lt_of_le hlt hs)
    exact ⟨h0.trans (hb.mono hs), by rw [k _ _ l3, h1], by rw [k _ _ l2, h2], by rw [k _ _ l5, h3]⟩))
  clear CR
  go_enter Try.func105, Try.ntmps105
  go_upto_region 1 with fail
  go_region_held3 (fun wx => Below w.heap.size w wx ∧ wx.cell? ⟨a3, 0, none⟩ = some (rightFn pa pb pc pd) ∧ wx.cell? ⟨a2, 0, none⟩ = some (.int .i64 lo) ∧ wx.cell? ⟨a5, 0, none⟩ = some (.bool f)) ((first | assumption | (refine ⟨(Below.refl _ _).drew, ?_, ?_, ?_⟩ <;> assumption) | (exact KP.out _ _ hb1 (by assumption)))) (first | (go_at_call 90; refine Calls.mono (HR.out _ (And.left (by assumption))) ?_; rintro e w1 ⟨rfl, hb1⟩))
  go_wp2
  go_ret
  exact ⟨rfl, (‹Below w.heap.size w w1 ∧ _›).1⟩

theorem Found.le {N : Nat} {q : Nat → Bool} {r : Nat} (h : Found N q r) : r ≤ N := And.left h
/-- What 'narrowed' hands back. -/
def Narrow (p : Int → Bool) (lo hi lo' hi' : Int) : Prop := ∃ r : Nat, Found (hi - lo + 1).toNat (fun m => p (lo + (m : Int)) != p lo) r ∧ ((p lo = true ∧ lo' = lo ∧ hi' = lo + r - 1) ∨ (p lo = false ∧ lo' = lo + r ∧ hi' = hi))
set_option maxHeartbeats 1000000 in
set_option maxRecDepth 20000 in
theorem narrowed_any {p : Int → Bool} {lo hi : Int} {pa pb pc pd : Addr} (hl : 0 ≤ lo) (hlh : lo ≤ hi) (hh : hi ≤ 600000) (w : World)
    (CR : ∀ wx n, lo ≤ n → n ≤ hi → Below w.heap.size w wx → Calls Try.prog 90 #[.int .i64 n, .pointer (some pa), .pointer (some pb), .pointer (some pc), .pointer (some pd)] wx fun e w' => e = .returned (.bool (p n)) ∧ Below wx.heap.size wx w') :
    Calls Try.prog 89 #[.agg #[.int .i64 lo, .int .i64 hi], rightFn pa pb pc pd] w fun e w' => ∃ lo' hi', e = .returned (.agg #[.int .i64 lo', .int .i64 hi']) ∧ Narrow p lo hi lo' hi' ∧ Below w.heap.size w w' := by
  have HR := Lib.hid CR
  obtain ⟨N, hN⟩ : ∃ N, (hi - lo + 1).toNat = N := ⟨_, rfl⟩
  have hN1 : hi - lo + 1 = (N : Int) := by omega
  have hw1 : IntKind.i64.wrap (hi - lo) = hi - lo := by rw [IntKind.wrap_i64]; omega
  have hw2 : IntKind.i64.wrap (N : Int) = (N : Int) := by rw [IntKind.wrap_i64]; omega
  have HN := Lib.hid hN
  have hNb : N ≤ 1000000 := by omega
  clear CR hN
  obtain ⟨f, hf⟩ : ∃ f, p lo = f := ⟨_, rfl⟩
  have HF := Lib.hid hf
  go_enter Try.func89, Try.ntmps89
  have CF := Lib.hid (HR.out (((w.alloc (.cells #[.int .i64 lo, .int .i64 hi] 48)).alloc (.cells #[rightFn pa pb pc pd] 54)).alloc (.cells #[.int .i64 0, .int .i64 0] 48)) lo (Int.le_refl _) hlh ((((Below.refl _ _).alloc (Nat.le_refl _) _).alloc (by first | omega | (simp; done) | (simp; omega)) _).alloc (by first | omega | (simp; done) | (simp; omega)) _))
  rw [hf] at CF
  clear hf
  unfold rightFn at CF ⊢
  go_wp2_with (go_at_call 90; refine Calls.mono CF.out ?_; rintro e w1 ⟨rfl, hb1⟩; have hz : w.heap.size + 2 < w1.heap.size := (by have := hb1.size; simp at this; omega); obtain ⟨hc1, hf1⟩ := bcell hb1)
  have kk : ∀ b o, b < w1.heap.size → (w1.alloc (.cells #[.bool f] 4)).cell? ⟨b, o, none⟩ = w1.cell? ⟨b, o, none⟩ := fun b o h => ((Below.refl w1.heap.size w1).alloc (Nat.le_refl _) _).cell (p := ⟨b, o, none⟩) h
  have kf0 : ∀ b o, b < w1.heap.size → (w1.alloc (.cells #[.bool f] 4)).frozen? ⟨b, o, none⟩ = w1.frozen? ⟨b, o, none⟩ := fun b o h => ((Below.refl w1.heap.size w1).alloc (Nat.le_refl _) _).frozen (p := ⟨b, o, none⟩) h
  have e0 : (w1.alloc (.cells #[.bool f] 4)).cell? ⟨w.heap.size, 0, none⟩ = some (.int .i64 lo) := (kk _ _ (by omega)).trans ((hc1 _ _ (by first | omega | (simp; done) | (simp; omega))).trans (by simp [go_sem]))
  have e1 : (w1.alloc (.cells #[.bool f] 4)).cell? ⟨w.heap.size, 1, none⟩ = some (.int .i64 hi) := (kk _ _ (by omega)).trans ((hc1 _ _ (by first | omega | (simp; done) | (simp; omega))).trans (by simp [go_sem]))
  have e2 : (w1.alloc (.cells #[.bool f] 4)).cell? ⟨w.heap.size + 1, 0, none⟩ = some (rightFn pa pb pc pd) := (kk _ _ (by omega)).trans ((hc1 _ _ (by first | omega | (simp; done) | (simp; omega))).trans (by simp [go_sem]))
  have e3 : (w1.alloc (.cells #[.bool f] 4)).cell? ⟨w1.heap.size, 0, none⟩ = some (.bool f) := by rw [World.cell?_alloc_new]; rfl
  have e4 : (w1.alloc (.cells #[.bool f] 4)).cell? ⟨w.heap.size + 2, 0, none⟩ = some (.int .i64 0) := (kk _ _ (by omega)).trans ((hc1 _ _ (by first | omega | (simp; done) | (simp; omega))).trans (by simp [go_sem]))
  have e5 : (w1.alloc (.cells #[.bool f] 4)).cell? ⟨w.heap.size + 2, 1, none⟩ = some (.int .i64 0) := (kk _ _ (by omega)).trans ((hc1 _ _ (by first | omega | (simp; done) | (simp; omega))).trans (by simp [go_sem]))
  have f0 : (w1.alloc (.cells #[.bool f] 4)).frozen? ⟨w.heap.size, 0, none⟩ = false := (kf0 _ _ (by omega)).trans ((hf1 _ _ (by first | omega | (simp; done) | (simp; omega))).trans (by simp [go_sem]))
  have f1 : (w1.alloc (.cells #[.bool f] 4)).frozen? ⟨w.heap.size, 1, none⟩ = false := (kf0 _ _ (by omega)).trans ((hf1 _ _ (by first | omega | (simp; done) | (simp; omega))).trans (by simp [go_sem]))
  have f4 : (w1.alloc (.cells #[.bool f] 4)).frozen? ⟨w.heap.size + 2, 0, none⟩ = false := (kf0 _ _ (by omega)).trans ((hf1 _ _ (by first | omega | (simp; done) | (simp; omega))).trans (by simp [go_sem]))
  have f5 : (w1.alloc (.cells #[.bool f] 4)).frozen? ⟨w.heap.size + 2, 1, none⟩ = false := (kf0 _ _ (by omega)).trans ((hf1 _ _ (by first | omega | (simp; done) | (simp; omega))).trans (by simp [go_sem]))
  have HB1 : Hid (Below w.heap.size w (w1.alloc (.cells #[.bool f] 4))) := Lib.hid ((((((Below.refl w.heap.size w).alloc (Nat.le_refl _) _).alloc (by simp) _).alloc (by simp; omega) _).trans (hb1.mono (by simp; omega))).alloc (by omega) _)
  have hz1 : w1.heap.size < (w1.alloc (.cells #[.bool f] 4)).heap.size := by simp
  generalize (w1.alloc (.cells #[.bool f] 4)) = W1 at e0 e1 e2 e3 e4 e5 f0 f1 f4 f5 HB1 hz1 ⊢
  obtain ⟨b5, hb5⟩ : ∃ b5, w1.heap.size = b5 := ⟨_, rfl⟩
  rw [hb5] at e3 hz hz1 ⊢
  clear hc1 hf1 hb1 hb5
  have SC := Lib.hid (fun wx (hbx : Below W1.heap.size W1 wx) => search_any (q := fun m => p (lo + (m : Int)) != f) (a := ⟨w.heap.size + 1, 0, none⟩) (b := ⟨w.heap.size, 0, none⟩) (c := ⟨b5, 0, none⟩) hNb wx (fun wy m hm hby => by
    have hxy := hbx.trans (hby.mono hbx.size)
    have k := (bcell hxy).1
    exact narrowed1_any (lo := lo) (m := m) (by omega) wy ((k _ _ (by omega)).trans e2) ((k _ _ (by omega)).trans e0) ((k _ _ (by omega)).trans e3) (fun wz hbz => HR.out wz _ (by omega) (by omega) (HB1.out.trans ((hxy.trans (hbz.mono hxy.size)).mono HB1.out.size)))))
  have KP := Lib.hid (fun (wx w' : World) (hb : Below wx.heap.size wx w') (h : Below W1.heap.size W1 wx ∧ wx.cell? ⟨w.heap.size, 0, none⟩ = some (.int .i64 lo) ∧ wx.cell? ⟨w.heap.size, 1, none⟩ = some (.int .i64 hi)) => (show Below W1.heap.size W1 w' ∧ w'.cell? ⟨w.heap.size, 0, none⟩ = some (.int .i64 lo) ∧ w'.cell? ⟨w.heap.size, 1, none⟩ = some (.int .i64 hi) from by
    obtain ⟨h0, h1, h2⟩ := h
    have hs := h0.size
    have k : ∀ b o, b < W1.heap.size → w'.cell? ⟨b, o, none⟩ = wx.cell? ⟨b, o, none⟩ := fun b o hlt => hb.cell (p := ⟨b, o, none⟩) (Nat.lt_of_lt_of_le hlt hs)
    exact ⟨h0.trans (hb.mono hs), by rw [k _ _ (by omega), h1], by rw [k _ _ (by omega), h2]⟩))
  go_region_held3 (fun wx => Below W1.heap.size W1 wx ∧ wx.cell? ⟨w.heap.size, 0, none⟩ = some (.int .i64 lo) ∧ wx.cell? ⟨w.heap.size, 1, none⟩ = some (.int .i64 hi)) ((first | assumption | (refine ⟨(Below.refl _ _).drew, ?_, ?_⟩ <;> assumption) | (exact KP.out _ _ hb2 (by assumption)))) (first | (go_at_call 104; with_reducible refine Calls.mono (SC.out _ (And.left (by assumption))) ?_; rintro e w2 ⟨r, rfl, hr, hb2⟩; have hwr : IntKind.i64.wrap (lo + (r : Int)) = lo + (r : Int) := (by have := hr.le; rw [IntKind.wrap_i64]; omega)))
  obtain ⟨hBx, g0, g1⟩ := ‹Below W1.heap.size W1 w2 ∧ _›
  obtain ⟨kc, kf⟩ := bcell hBx
  have g3 := (kc _ 0 hz1).trans e3
  have g4 := (kc (w.heap.size + 1 + 1) 0 (by omega)).trans e4
  have g5 := (kc (w.heap.size + 1 + 1) 1 (by omega)).trans e5
  have k0 := (kf (w.heap.size) 0 (by omega)).trans f0
  have k1 := (kf (w.heap.size) 1 (by omega)).trans f1
  have k4 := (kf (w.heap.size + 1 + 1) 0 (by omega)).trans f4
  have k5 := (kf (w.heap.size + 1 + 1) 1 (by omega)).trans f5
  have hwr2 : IntKind.i64.wrap (lo + (r : Int) - 1) = lo + (r : Int) - 1 := by have := hr.le; rw [IntKind.wrap_i64]; omega
  have HRR := Lib.hid hr
  have HBX := Lib.hid (HB1.out.trans (hBx.mono HB1.out.size))
  clear kc kf hBx e0 e1 e2 e3 e4 e5 f0 f1 f4 f5 SC KP hr hb2
  cases f
  · go_wp2
    refine bodyPost_ret (v := .agg #[.int .i64 (lo + (r : Int)), .int .i64 (hi)]) (by simp [results, Try.results89, go_sem, g4, g5]) rfl ⟨_, _, rfl, ⟨r, ?_, ?_⟩, ?_⟩
    · rw [HF.out, HN.out]; exact HRR.out
    · exact .inr ⟨HF.out, rfl, rfl⟩
    · exact ((HBX.out.setCell (p := ⟨w.heap.size, _, none⟩) (Nat.le_refl _) _).setCell (p := ⟨w.heap.size + 1 + 1, 0, none⟩) (by show w.heap.size ≤ w.heap.size + 1 + 1; omega) _).setCell (p := ⟨w.heap.size + 1 + 1, 1, none⟩) (by show w.heap.size ≤ w.heap.size + 1 + 1; omega) _
  · go_wp2
    refine bodyPost_ret (v := .agg #[.int .i64 (lo), .int .i64 (lo + (r : Int) - 1)]) (by simp [results, Try.results89, go_sem, g4, g5]) rfl ⟨_, _, rfl, ⟨r, ?_, ?_⟩, ?_⟩
    · rw [HF.out, HN.out]; exact HRR.out
    · exact .inl ⟨HF.out, rfl, rfl⟩
    · exact ((HBX.out.setCell (p := ⟨w.heap.size, _, none⟩) (Nat.le_refl _) _).setCell (p := ⟨w.heap.size + 1 + 1, 0, none⟩) (by show w.heap.size ≤ w.heap.size + 1 + 1; omega) _).setCell (p := ⟨w.heap.size + 1 + 1, 1, none⟩) (by show w.heap.size ≤ w.heap.size + 1 + 1; omega) _
end Go.Proofs.Ytffmaoalnilkkaa
