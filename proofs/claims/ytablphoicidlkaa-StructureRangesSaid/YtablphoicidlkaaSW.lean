/- Walks over the laws of beams: the examples of the document (awake). -/
import Derived.Test.YtablphoicidlkaaSV
namespace Go.Proofs.Ytablphoicidlkaa
open Go.RowKit

def shB : Bm := ⟨1000, 250, 20, 0⟩
def shL : List Pt := [⟨400, 300⟩]
theorem shB_ok : BmOk shB := ⟨by decide, by decide, by decide, by decide, by decide, by decide, .inl rfl⟩
theorem shL_ok : WtOk shB.s shL 0 := ⟨by decide, fun p hp => by
  simp only [shL, List.mem_cons, List.not_mem_nil, or_false] at hp
  subst hp
  exact ⟨by decide, by decide, by decide, by decide⟩, by decide, by decide⟩
theorem sh_stress : lowN (strN shB shL 0) (strD shB) = 108 ∧ lowD (strN shB shL 0) (strD shB) = 25 := by decide +kernel
theorem sh_sag : sagE shB [] 240 10000 500 = 0 ∧ lowN (sag shB [] 240 500) (sgD shB 10000) = 15 ∧ lowD (sag shB [] 240 500) (sgD shB 10000) = 8 := by decide +kernel
def shW : Wd := ⟨10000, 12000, 40⟩
theorem sh_lon : lonE shB shW 400 250 = 0 ∧ lonQ shB shW 400 250 1084 = false ∧ lonQ shB shW 400 250 1085 = true := by decide +kernel
def shY : List By := [⟨1000, 500, 4, 500, []⟩]
theorem sh_dri : driE2 shY 200 = 0 ∧ lowN (pushV shY 200) (sumL stf shY) = 1 ∧ lowD (pushV shY 200) (sumL stf shY) = 5 := by decide +kernel
theorem sh_found {k : Nat} (h : Found 2000 (lonQ shB shW 400 250) k) : k = 1085 := by
  have hm := lonQ_mono (b := shB) (x := shW) (p := 400) (r := 250) (by decide) (by decide)
  refine found_unique hm h (by decide) (fun a ha => ?_) (fun _ => sh_lon.2.2)
  cases hq : lonQ shB shW 400 250 a
  · rfl
  · have := hm a 1084 (by omega) (by decide) hq
    rw [sh_lon.2.1] at this; cases this
theorem shelf_any (w : World) : Calls Try.prog 90 #[] w fun e w' => e = .returned (.agg #[.int .i64 1000, .int .i64 250, .int .i64 20, .int .i64 0]) ∧ Below w.heap.size w w' := by
  go_enter Try.func90, Try.ntmps90
  go_wp2
  refine bodyPost_ret (v := .agg #[.int .i64 1000, .int .i64 250, .int .i64 20, .int .i64 0]) (by simp [results, Try.results90, go_sem]) rfl ⟨rfl, ?_⟩
  exact (Below.refl _ _).alloc (Nat.le_refl _) _
theorem stress_sh (w : World) (t : TypeId) {b : Nat} (hb : b = w.heap.size) : Calls Try.prog 36 #[.agg #[.int .i64 1000, .int .i64 250, .int .i64 20, .int .i64 0], .agg #[.slice (some ⟨b, 0, none⟩) 1 1, .int .i64 0]] (w.alloc (.cells #[.int .i64 400, .int .i64 300] t)) fun e w' => e = .returned (.tuple #[.agg #[.int .i64 108, .int .i64 25], .int .i64 0]) ∧ Below w.heap.size w w' := by
  subst hb
  have h := stressF_any (A := some ⟨w.heap.size, 0, none⟩) (n := 1) (c := 1) shB_ok shL_ok (w.alloc (.cells #[.int .i64 400, .int .i64 300] t)) ⟨rfl, fun _ => ⟨_, 0, rfl, by simp, fun k hk => by
    obtain rfl : k = 0 := by simp [shL] at hk; omega
    constructor
    · show (w.alloc _).cell? _ = _; rw [World.cell?_alloc_new]; rfl
    · show (w.alloc _).cell? _ = _; rw [World.cell?_alloc_new]; rfl⟩⟩
  refine h.mono fun e w' ⟨he, hw⟩ => ⟨?_, ((Below.refl _ _).alloc (Nat.le_refl _) _).trans (hw.mono (by simp))⟩
  rw [he]
  unfold frV
  rw [sh_stress.1, sh_stress.2]
theorem sag_sh (w : World) : Calls Try.prog 39 #[.agg #[.int .i64 1000, .int .i64 250, .int .i64 20, .int .i64 0], .int .i64 10000, .agg #[.slice none 0 0, .int .i64 240], .int .i64 500] w fun e w' => e = .returned (.tuple #[.agg #[.int .i64 15, .int .i64 8], .int .i64 0]) ∧ Below w.heap.size w w' := by
  have h := sagF_any (b := shB) (A := none) (n := 0) (c := 0) (S := 240) (E := 10000) (x := 500) (l := []) w ⟨rfl, fun h => absurd h (by decide)⟩ (by decide)
  refine h.mono fun e w' ⟨he, hw⟩ => ⟨?_, hw⟩
  rw [he, sh_sag.1, fr1_ok]
  unfold frV
  rw [sh_sag.2.1, sh_sag.2.2]
theorem lon_sh (w : World) : Calls Try.prog 60 #[.agg #[.int .i64 1000, .int .i64 250, .int .i64 20, .int .i64 0], .agg #[.int .i64 10000, .int .i64 12000, .int .i64 40], .int .i64 400, .int .i64 250] w fun e w' => e = .returned (.tuple #[.int .i64 1085, .int .i64 0]) ∧ Below w.heap.size w w' := by
  have h := longestSpan_any (b := shB) (x := shW) (p := 400) (r := 250) w
  refine h.mono fun e w' ⟨k, he, hf, hw⟩ => ⟨?_, hw⟩
  rw [he, sh_lon.1, sh_found (hf sh_lon.1)]
  rfl
theorem dri_sh (w : World) (t : TypeId) {b : Nat} (hb : b = w.heap.size) : Calls Try.prog 63 #[.slice (some ⟨b, 0, none⟩) 1 1, .int .i64 200] (w.alloc (.cells #[.int .i64 1000, .int .i64 500, .int .i64 4, .int .i64 500, .slice none 0 0] t)) fun e w' => e = .returned (.tuple #[.agg #[.int .i64 1, .int .i64 5], .int .i64 0]) ∧ Below w.heap.size w w' := by
  subst hb
  have h := drift_any (A := some ⟨w.heap.size, 0, none⟩) (n := 1) (c := 1) (l := shY) (N := 200) (w.alloc (.cells #[.int .i64 1000, .int .i64 500, .int .i64 4, .int .i64 500, .slice none 0 0] t)) ⟨rfl, fun _ => ⟨_, 0, rfl, by simp, fun k hk => by
    obtain rfl : k = 0 := by simp [shY] at hk; omega
    refine ⟨⟨?_, ?_, ?_, ?_⟩, none, 0, 0, ?_, ⟨rfl, fun h => absurd h (by decide)⟩, by decide⟩ <;> (rw [World.cell?_alloc_new]; rfl)⟩⟩ (by decide)
  refine h.mono fun e w' ⟨he, hw⟩ => ⟨?_, ((Below.refl _ _).alloc (Nat.le_refl _) _).trans (hw.mono (by simp))⟩
  rw [he, sh_dri.1, fr1_ok]
  unfold frV
  rw [sh_dri.2.1, sh_dri.2.2]
set_option maxHeartbeats 4000000 in
set_option maxRecDepth 20000 in
/-- The examples of the document are so. -/
theorem awake_any (w : World) : Calls Try.prog 19 #[] w fun e w' => e = .returned (.bool true) ∧ Below w.heap.size w w' := by
  go_enter Try.func19, Try.ntmps19
  go_upto_region 2 with (first | (go_at_call 90; refine (shelf_any _).mono ?_; rintro e w1 ⟨rfl, hb1⟩) | (go_at_call 36; refine (stress_sh _ _ (by simp)).mono ?_; rintro e w2 ⟨rfl, hb2⟩))
  have HB2 := Lib.hid (hb1.trans (hb2.mono hb1.size))
  clear hb1 hb2
  obtain ⟨v2, hv2⟩ : ∃ v2, w2.alloc (.cells #[.int .i64 108, .int .i64 25] 30) = v2 := ⟨_, rfl⟩
  have HV2 : Hid (Below w.heap.size w v2) := Lib.hid (by rw [← hv2]; exact HB2.out.alloc HB2.out.size _)
  have K2 := Lib.hid (fun wx (hb : Below v2.heap.size v2 wx) => (show wx.cell? ⟨w2.heap.size, 0, none⟩ = some (.int .i64 108) ∧ wx.cell? ⟨w2.heap.size, 1, none⟩ = some (.int .i64 25) from by
    subst hv2
    have k := (bcell hb).1
    exact ⟨(k _ _ (by simp)).trans (by simp [go_sem]), (k _ _ (by simp)).trans (by simp [go_sem])⟩))
  rw [hv2]
  clear hv2 HB2
  go_upto_region 3 with (first | (go_at_call 90; refine (shelf_any _).mono ?_; rintro e w3 ⟨rfl, hb3⟩) | (go_at_call 39; refine (sag_sh _).mono ?_; rintro e w4 ⟨rfl, hb4⟩))
  have HB4 := Lib.hid (hb3.trans (hb4.mono hb3.size))
  clear hb3 hb4
  obtain ⟨v4, hv4⟩ : ∃ v4, w4.alloc (.cells #[.int .i64 15, .int .i64 8] 30) = v4 := ⟨_, rfl⟩
  have HV4 : Hid (Below v2.heap.size v2 v4) := Lib.hid (by rw [← hv4]; exact HB4.out.alloc HB4.out.size _)
  have K4 := Lib.hid (fun wx (hb : Below v4.heap.size v4 wx) => (show wx.cell? ⟨w4.heap.size, 0, none⟩ = some (.int .i64 15) ∧ wx.cell? ⟨w4.heap.size, 1, none⟩ = some (.int .i64 8) from by
    subst hv4
    have k := (bcell hb).1
    exact ⟨(k _ _ (by simp)).trans (by simp [go_sem]), (k _ _ (by simp)).trans (by simp [go_sem])⟩))
  rw [hv4]
  clear hv4 HB4
  go_upto_region 4 with (first | (go_at_call 90; refine (shelf_any _).mono ?_; rintro e w5 ⟨rfl, hb5⟩) | (go_at_call 60; refine (lon_sh _).mono ?_; rintro e w6 ⟨rfl, hb6⟩))
  have HB6 := Lib.hid (hb5.trans (hb6.mono hb5.size))
  clear hb5 hb6
  go_upto_region 5 with (first | (go_at_call 63; refine (dri_sh _ _ (by simp)).mono ?_; rintro e w8 ⟨rfl, hb8⟩))
  have HB8 := Lib.hid (HB6.out.trans (hb8.mono HB6.out.size))
  clear hb8 HB6
  obtain ⟨v8, hv8⟩ : ∃ v8, w8.alloc (.cells #[.int .i64 1, .int .i64 5] 30) = v8 := ⟨_, rfl⟩
  have HV8 : Hid (Below v4.heap.size v4 v8) := Lib.hid (by rw [← hv8]; exact HB8.out.alloc HB8.out.size _)
  have k8 : v8.cell? ⟨w8.heap.size, 0, none⟩ = some (.int .i64 1) ∧ v8.cell? ⟨w8.heap.size, 1, none⟩ = some (.int .i64 5) := by
    subst hv8
    exact ⟨by simp [go_sem], by simp [go_sem]⟩
  rw [hv8]
  obtain ⟨a0, a1⟩ := K2.out v8 (HV4.out.trans (HV8.out.mono HV4.out.size))
  obtain ⟨a2, a3⟩ := K4.out v8 HV8.out
  obtain ⟨a4, a5⟩ := k8
  clear hv8 HB8 K2 K4
  go_wp2
  go_ret
  exact ⟨rfl, HV2.out.trans ((HV4.out.trans (HV8.out.mono HV4.out.size)).mono HV2.out.size)⟩
end Go.Proofs.Ytablphoicidlkaa
