/- Walks over the fits: awake. -/
import Derived.Test.YtffmaoalnilkkaaFU
namespace Go.Proofs.Ytffmaoalnilkkaa
open Go.RowKit Go.Maps

set_option maxHeartbeats 2000000 in
set_option maxRecDepth 20000 in
theorem leastGroove_year {S : Option Addr} {d : Nat} (w : World) (hS : SnRow w S 1 yearL) :
    Calls Try.prog 38 #[pnV (pW 40000) pO 200 50, .slice S 1 d] w fun e w' => e = .returned (.tuple #[.int .i64 1015, .int .i64 0]) ∧ Below w.heap.size w w' := by
  have CP := fun wx => Lib.hid (checkPanel_ok (ho := 200) (pl := 50) (okW (n := 40000) (by decide) (by decide)) okO (by decide) wx)
  have CS := Lib.hid (fun wx (hb : Below w.heap.size w wx) => checkSeasons_any (d := d) yearOk (by decide) wx (hS.below hb))
  have HO := Lib.hid (fun wx (hb : Below w.heap.size w wx) (hq : ∀ k v, (#[.int .i64 40000, .int .i64 300, .int .i64 80, .int .i64 0, .int .i64 0, .int .i64 0, .int .i64 38500, .int .i64 0, .int .i64 80, .int .i64 1, .int .i64 0, .int .i64 0, .int .i64 200, .int .i64 50] : Array Value)[k]? = some v → wx.cell? ⟨w.heap.size, k, none⟩ = some v) (hlt : w.heap.size < wx.heap.size) =>
    (holding_LG (F := FL) (lo := 0) (hi := 300000) (S := S) (m := 1) (d := d) (q := ⟨w.heap.size, 0, none⟩) (l := yearL) (by decide) (by decide) (by decide) (fun n j h1 h2 => okFL j h1 h2) (snsCode_ok yearOk).2 (by decide) (fun t ht => moL ht) wx (hS.below hb)
      (fun wy n h1 h2 hby => groove1_any (W := pW 40000) (O := pO) (ho := 200) (pl := 50) (q := w.heap.size) (by omega) wy (fun k v hk => (hby.cell (p := ⟨w.heap.size, k, none⟩) hlt).trans (hq k v hk)))).mono (R' := fun e w' => e = .returned (.tuple #[.agg #[.int .i64 1015, .int .i64 1060], .int .i64 0]) ∧ Below wx.heap.size wx w') (fun e w' ⟨v, he, hv, hb'⟩ => ⟨by rw [he, outL hv], hb'⟩))
  clear hS
  unfold pnV at CP ⊢
  simp only at CP ⊢
  go_enter Try.func38, Try.ntmps38
  go_wp2_with (first | (go_at_call 65; refine Calls.mono (CP _).out ?_; rintro e w1 ⟨rfl, hb1⟩; have hB1 := ((Below.refl w.heap.size w).alloc (Nat.le_refl _) (.cells #[.int .i64 40000, .int .i64 300, .int .i64 80, .int .i64 0, .int .i64 0, .int .i64 0, .int .i64 38500, .int .i64 0, .int .i64 80, .int .i64 1, .int .i64 0, .int .i64 0, .int .i64 200, .int .i64 50] 78)).trans (hb1.mono (by simp))) | (go_at_call 13; refine Calls.mono (CS.out _ hB1) ?_; rintro e w2 ⟨rfl, hb2⟩; have hB2 := hB1.trans (hb2.mono hB1.size); have hP2 := hb1.trans (hb2.mono hb1.size); have HH := Lib.hid (HO.out w2 hB2 (fun k v hk => (hP2.cell (p := ⟨w.heap.size, k, none⟩) (by simp)).trans (by rw [World.cell?_alloc_new]; exact hk)) (by have := hP2.size; simp at this; omega))) | (go_at_call 66; refine Calls.mono HH.out ?_; rintro e w3 ⟨rfl, hb3⟩; have hB3 := hB2.trans (hb3.mono hB2.size)))
  go_ret2
  exact ⟨rfl, hB3.alloc hB3.size _⟩
set_option maxHeartbeats 2000000 in
set_option maxRecDepth 20000 in
theorem greatestPanel_year {S : Option Addr} {d : Nat} (w : World) (hS : SnRow w S 1 yearL) :
    Calls Try.prog 41 #[pnV (pW 40000) pO 200 50, .int .i64 1015, .slice S 1 d] w fun e w' => e = .returned (.tuple #[.int .i64 40000, .int .i64 0]) ∧ Below w.heap.size w w' := by
  have CP := fun wx => Lib.hid (checkGrooves_ok (ho := 200) (pl := 50) (dep := 1015) (okW (n := 40000) (by decide) (by decide)) okO (by decide) (by decide) wx)
  have CZ := fun wx => Lib.hid (sizesOf_any (x := pW 40000) (by decide) wx)
  have CS := Lib.hid (fun wx (hb : Below w.heap.size w wx) => checkSeasons_any (d := d) yearOk (by decide) wx (hS.below hb))
  have HO := Lib.hid (fun wx (hb : Below w.heap.size w wx) (hq : ∀ k v, (#[.int .i64 40000, .int .i64 300, .int .i64 80, .int .i64 0, .int .i64 0, .int .i64 0, .int .i64 38500, .int .i64 0, .int .i64 80, .int .i64 1, .int .i64 0, .int .i64 0, .int .i64 200, .int .i64 50] : Array Value)[k]? = some v → wx.cell? ⟨w.heap.size, k, none⟩ = some v) (hq2 : wx.cell? ⟨w.heap.size + 1, 0, none⟩ = some (.int .i64 1015)) (hlt : w.heap.size + 1 < wx.heap.size) =>
    (holding_GP (F := FG) (lo := 0) (hi := 600000) (S := S) (m := 1) (d := d) (q := ⟨w.heap.size, 0, none⟩) (q2 := ⟨w.heap.size + 1, 0, none⟩) (l := yearL) (by decide) (by decide) (by decide) (fun n j h1 h2 => okFG j h1 h2) (snsCode_ok yearOk).2 (by decide) (fun t ht => moG ht) wx (hS.below hb)
      (fun wy n h1 h2 hby => panel1_any (W := pW 40000) (O := pO) (ho := 200) (pl := 50) (dep := 1015) (q := w.heap.size) (q2 := w.heap.size + 1) (by decide) wy (fun k v hk => (hby.cell (p := ⟨w.heap.size, k, none⟩) (by show w.heap.size < _; omega)).trans (hq k v hk)) ((hby.cell (p := ⟨w.heap.size + 1, 0, none⟩) hlt).trans hq2))).mono (R' := fun e w' => e = .returned (.tuple #[.agg #[.int .i64 39955, .int .i64 40000], .int .i64 0]) ∧ Below wx.heap.size wx w') (fun e w' ⟨v, he, hv, hb'⟩ => ⟨by rw [he, outG hv], hb'⟩))
  clear hS
  unfold pnV at CP ⊢
  unfold mdV at CZ
  simp only at CP CZ ⊢
  go_enter Try.func41, Try.ntmps41
  go_wp2_with (first | (go_at_call 69; refine Calls.mono (CP _).out ?_; rintro e w1 ⟨rfl, hb1⟩; have hB1 := (((Below.refl w.heap.size w).alloc (Nat.le_refl _) (.cells #[.int .i64 40000, .int .i64 300, .int .i64 80, .int .i64 0, .int .i64 0, .int .i64 0, .int .i64 38500, .int .i64 0, .int .i64 80, .int .i64 1, .int .i64 0, .int .i64 0, .int .i64 200, .int .i64 50] 78)).alloc (by simp) (.cells #[.int .i64 1015] 3)).trans (hb1.mono (by simp; omega)); obtain ⟨hc1, hf1⟩ := bcell hb1) | (go_at_call 13; refine Calls.mono (CS.out _ hB1) ?_; rintro e w2 ⟨rfl, hb2⟩; have hB2 := hB1.trans (hb2.mono hB1.size); have hP2 := hb1.trans (hb2.mono hb1.size); obtain ⟨hc2, hf2⟩ := bcell hP2) | (go_at_call 70; refine Calls.mono (CZ _).out ?_; rintro e w4 ⟨rfl, hb4⟩; have hB4 := hB2.trans (hb4.mono hB2.size); have hP4 := hP2.trans (hb4.mono hP2.size); have hc4 := (bcell hP4).1; have HH := Lib.hid (HO.out w4 hB4 (fun k v hk => (hc4 _ _ (by simp; omega)).trans (by rw [World.cell?_alloc_lt _ _ _ (by simp), World.cell?_alloc_new]; exact hk)) ((hc4 _ _ (by simp)).trans (by simp [go_sem])) (by have := hP4.size; simp at this; omega))) | (go_at_call 66; refine Calls.mono HH.out ?_; rintro e w3 ⟨rfl, hb3⟩; have hB3 := hB4.trans (hb3.mono hB4.size)))
  go_ret2
  exact ⟨rfl, hB3.alloc hB3.size _⟩
set_option maxHeartbeats 2000000 in
theorem panel_any (w : World) : Calls Try.prog 39 #[] w fun e w' => e = .returned (pnV (pW 40000) pO 200 50) ∧ Below w.heap.size w w' := by
  unfold pnV
  simp only
  go_enter Try.func39, Try.ntmps39
  go_wp2
  refine bodyPost_ret (v := .agg #[.int .i64 40000, .int .i64 300, .int .i64 80, .int .i64 0, .int .i64 0, .int .i64 0, .int .i64 38500, .int .i64 0, .int .i64 80, .int .i64 1, .int .i64 0, .int .i64 0, .int .i64 200, .int .i64 50]) (by simp [results, Try.results39, go_sem]) rfl ⟨rfl, ?_⟩
  exact (Below.refl _ _).alloc (Nat.le_refl _) _
theorem year_any (w : World) : Calls Try.prog 40 #[] w fun e w' => ∃ S, e = .returned (.slice S 1 1) ∧ SnRow w' S 1 yearL ∧ Below w.heap.size w w' := by
  go_enter Try.func40, Try.ntmps40
  go_wp2
  go_ret
  refine ⟨some ⟨w.heap.size, 0, none⟩, rfl, ⟨rfl, fun _ => ⟨w.heap.size, 0, rfl, by simp, fun k hk => ?_⟩⟩, (Below.refl _ _).alloc (Nat.le_refl _) _⟩
  match k, hk with
  | 0, _ => exact ⟨by simp [go_sem], by simp [go_sem], by simp [go_sem], (by decide : yearB.size ≤ maxLen)⟩
set_option maxHeartbeats 2000000 in
set_option maxRecDepth 20000 in
/-- The examples of the document are so. -/
theorem awake_any (w : World) : Calls Try.prog 8 #[] w fun e w' => e = .returned (.bool true) ∧ Below w.heap.size w w' := by
  have LG := fun wx S (h : SnRow wx S 1 yearL) => Lib.hid (leastGroove_year (d := 1) wx h)
  have GP := fun wx S (h : SnRow wx S 1 yearL) => Lib.hid (greatestPanel_year (d := 1) wx h)
  have SL := fun wx S (h : SnRow wx S 1 yearL) => Lib.hid (slot_ok (p := ⟨20000, 300, 80, 0, 0, 0⟩) (screw := 500) (d := 1) (okW (n := 20000) (by decide) (by decide)) (by decide) yearOk wx h)
  simp only [slotY] at SL
  unfold mdV at SL
  simp only at SL
  go_enter Try.func8, Try.ntmps8
  go_upto_region 2 with (first | (go_at_call 39; refine (panel_any _).mono ?_; rintro e w1 ⟨rfl, hb1⟩) | (go_at_call 40; refine (year_any _).mono ?_; rintro e w2 ⟨S, rfl, hS, hb2⟩) | (go_at_call 38; refine Calls.mono (LG _ _ hS).out ?_; rintro e w3 ⟨rfl, hb3⟩))
  have hB3 := Lib.hid ((hb1.trans (hb2.mono hb1.size)).trans (hb3.mono (hb1.trans (hb2.mono hb1.size)).size))
  clear hb1 hb2 hb3 hS
  go_upto_region 3 with (first | (go_at_call 39; refine (panel_any _).mono ?_; rintro e w4 ⟨rfl, hb4⟩) | (go_at_call 40; refine (year_any _).mono ?_; rintro e w5 ⟨S', rfl, hS', hb5⟩) | (go_at_call 41; refine Calls.mono (GP _ _ hS').out ?_; rintro e w6 ⟨rfl, hb6⟩))
  have hB6 := Lib.hid (hB3.out.trans (((hb4.trans (hb5.mono hb4.size)).trans (hb6.mono (hb4.trans (hb5.mono hb4.size)).size)).mono hB3.out.size))
  clear hb4 hb5 hb6 hS' hB3
  go_upto_region 4 with (first | (go_at_call 40; refine (year_any _).mono ?_; rintro e w7 ⟨S'', rfl, hS'', hb7⟩) | (go_at_call 29; refine Calls.mono (SL _ _ hS'').out ?_; rintro e w8 ⟨rfl, hb8⟩))
  go_wp2
  go_ret
  exact ⟨rfl, hB6.out.trans ((hb7.trans (hb8.mono hb7.size)).mono hB6.out.size)⟩
end Go.Proofs.Ytffmaoalnilkkaa
