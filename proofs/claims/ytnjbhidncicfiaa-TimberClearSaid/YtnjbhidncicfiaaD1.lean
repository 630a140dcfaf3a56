/- Walks over the timber seat: sound rectangles. -/
import Derived.Test.YtnjbhidncicfiaaB3
import Derived.Test.YtnjbhidncicfiaaMC
import Derived.Deep.RegionHeld3
namespace Go.Proofs.Ytnjbhidncicfiaa
open Go.RowKit

def overV (a1 b1 a2 b2 x1 y1 x2 y2 : Int) : Bool := (decide (a1 < x2) && decide (x1 < a2)) && (decide (b1 < y2) && decide (y1 < b2))
theorem overV_eq (d r : Rc) : overB d r = overV d.x1 d.y1 d.x2 d.y2 r.x1 r.y1 r.x2 r.y2 := rfl
set_option maxHeartbeats 1000000 in
theorem disturbs_any {a1 b1 a2 b2 x1 y1 x2 y2 : Int} {v : Bool} (hv : overV a1 b1 a2 b2 x1 y1 x2 y2 = v) (blk off : Nat) (w : World) (hr : RcAt w blk off ⟨x1, y1, x2, y2⟩) (hlt : blk < w.heap.size) :
    Calls Try.prog 91 #[.agg #[.int .i64 a1, .int .i64 b1, .int .i64 a2, .int .i64 b2], .pointer (some ⟨blk, off, none⟩)] w fun e w' => e = .returned (.bool v) ∧ Below w.heap.size w w' := by
  have HV := Lib.hid hv
  obtain ⟨c0, c1, c2, c3⟩ := hr
  simp only at c0 c1 c2 c3
  clear hv
  go_enter Try.func91, Try.ntmps91
  go_wp2
  all_goals
    go_ret
    refine ⟨ret_bool ?_, (Below.refl _ _).alloc (Nat.le_refl _) _⟩
    rw [← HV.out]
    unfold overV
    rw [Bool.eq_iff_iff]
    simp
    omega
set_option maxHeartbeats 1000000 in
theorem overlaps_any {a1 b1 a2 b2 x1 y1 x2 y2 : Int} {v : Bool} (hv : overV a1 b1 a2 b2 x1 y1 x2 y2 = v) (w : World) :
    Calls Try.prog 95 #[.agg #[.int .i64 a1, .int .i64 b1, .int .i64 a2, .int .i64 b2], .agg #[.int .i64 x1, .int .i64 y1, .int .i64 x2, .int .i64 y2]] w fun e w' => e = .returned (.bool v) ∧ Below w.heap.size w w' := by
  have HV := Lib.hid hv
  clear hv
  go_enter Try.func95, Try.ntmps95
  go_wp2
  all_goals
    go_ret
    refine ⟨ret_bool ?_, by go_grown⟩
    rw [← HV.out]
    unfold overV
    rw [Bool.eq_iff_iff]
    simp
    omega
theorem any_rc_succ (p : Rc → Bool) (zs : List Rc) (k : Nat) (h : k < zs.length) (h0 : (zs.take k).any p = false) (h1 : p zs[k] = false) : (zs.take (k + 1)).any p = false := by
  rw [List.take_succ_eq_append_getElem h, List.any_append, h0]; simp [h1]
set_option maxHeartbeats 2000000 in
set_option maxRecDepth 20000 in
theorem rcIndex_any {x1 y1 x2 y2 : Int} {ds : List Rc} {D : Option Addr} {dn dc blk off : Nat} (w : World) (hd : RcRow w D dn ds) (hdn : dn ≤ maxLen) (hr : RcAt w blk off ⟨x1, y1, x2, y2⟩) (hlt : blk < w.heap.size) :
    Calls Try.prog 121 #[.slice D dn dc, .func (.func 91) #[] #[.pointer (some ⟨blk, off, none⟩)]] w fun e w' => (∃ r : Int, e = .returned (.int .i64 r) ∧ decide (0 ≤ r) = ds.any (fun d => overB d ⟨x1, y1, x2, y2⟩)) ∧ Below w.heap.size w w' := by
  have hdl := hd.1
  have hdn' : dn ≤ 9223372036854775807 := hdn
  have HD := Lib.hid hd
  have HR := Lib.hid hr
  clear hd hr
  go_enter Try.func121, Try.ntmps121
  go_wp2
  go_loopw [8] (fun i wr => ∃ k : Nat, k ≤ dn ∧ (ds.take k).any (fun d => overB d ⟨x1, y1, x2, y2⟩) = false ∧ i = .int .i64 k ∧ Below w.heap.size w wr) (fun i _ => dn - (intOf i).toNat)
  case atStart => exact ⟨0, Nat.zero_le _, rfl, rfl, Below.refl _ _⟩
  case round =>
    obtain ⟨k, hk, hno, rfl, hbw⟩ := hrel
    have HN := Lib.hid hno
    have HB := Lib.hid hbw
    clear hno
    by_cases hlt2 : k < dn
    · have hkl : k < ds.length := by omega
      obtain ⟨bk, of, rfl, hbk, hx⟩ := HD.out.2 (by omega)
      have hxx := (hx k hkl).below hbw hbk
      have HS := Lib.hid (any_rc_succ (fun d => overB d ⟨x1, y1, x2, y2⟩) ds k hkl HN.out)
      have HA := Lib.hid (fun h : overB ds[k] ⟨x1, y1, x2, y2⟩ = true => (List.any_eq_true (l := ds) (p := fun d => overB d ⟨x1, y1, x2, y2⟩)).2 ⟨_, List.getElem_mem hkl, h⟩)
      clear hx
      obtain ⟨d, hdd⟩ : ∃ d, ds[k] = d := ⟨_, rfl⟩
      rw [hdd] at hxx HS HA
      clear hdd
      obtain ⟨a1, b1, a2, b2⟩ := d
      obtain ⟨c0, c1, c2, c3⟩ := hxx
      simp only at c0 c1 c2 c3
      cases ho : overV a1 b1 a2 b2 x1 y1 x2 y2
      · have DI := fun wx hb => Lib.hid (disturbs_any ho blk off wx (RcAt.below HR.out (HB.out.trans (Below.mono hb HB.out.size)) hlt) (Nat.lt_of_lt_of_le hlt (Nat.le_trans HB.out.size (Below.size hb))))
        have HO := Lib.hid ho
        clear ho hbw
        go_wp2_with (go_at_call 91; (refine Calls.mono (DI _ (Below.refl _ _)).out ?_); rintro e w1 ⟨rfl, hb1⟩)
        go_roundw
        case rel => exact ⟨k + 1, by omega, HS.out HO.out, by go_num, HB.out.trans (hb1.mono HB.out.size)⟩
        case measure => simp [intOf]; omega
      · have DI := fun wx hb => Lib.hid (disturbs_any ho blk off wx (RcAt.below HR.out (HB.out.trans (Below.mono hb HB.out.size)) hlt) (Nat.lt_of_lt_of_le hlt (Nat.le_trans HB.out.size (Below.size hb))))
        have HO := Lib.hid ho
        clear ho hbw
        go_wp2_with (go_at_call 91; (refine Calls.mono (DI _ (Below.refl _ _)).out ?_); rintro e w1 ⟨rfl, hb1⟩)
        go_ret
        exact ⟨⟨k, rfl, by rw [HA.out HO.out]; simp⟩, HB.out.trans (hb1.mono HB.out.size)⟩
    · have hk' : k = dn := by omega
      go_wp2
      go_ret
      exact ⟨⟨-1, rfl, by have := HN.out; rw [List.take_of_length_le (by omega)] at this; rw [this]; rfl⟩, HB.out⟩
set_option maxHeartbeats 1000000 in
theorem rcContains_any {x1 y1 x2 y2 : Int} {ds : List Rc} {D : Option Addr} {dn dc blk off : Nat} {v : Bool} (hv : ds.any (fun d => overB d ⟨x1, y1, x2, y2⟩) = v) (w : World) (hd : RcRow w D dn ds) (hdn : dn ≤ maxLen) (hr : RcAt w blk off ⟨x1, y1, x2, y2⟩) (hlt : blk < w.heap.size) :
    Calls Try.prog 92 #[.slice D dn dc, .func (.func 91) #[] #[.pointer (some ⟨blk, off, none⟩)]] w fun e w' => e = .returned (.bool v) ∧ Below w.heap.size w w' := by
  have I := Lib.hid (rcIndex_any (dc := dc) w hd hdn hr hlt)
  have HV := Lib.hid hv
  clear hv hd hr
  go_enter Try.func92, Try.ntmps92
  go_wp2_with (go_at_call 121; refine (Calls.mono I.out ?_); rintro e w1 ⟨⟨r, rfl, hr⟩, hb1⟩; have HR := Lib.hid hr; clear hr)
  go_ret
  exact ⟨ret_bool (HR.out.trans HV.out), hb1⟩
theorem kept9 {W wx w' : World} {b blk off : Nat} {v0 v1 v2 v3 v4 v5 v6 v7 v8 : Value} (hb : Below wx.heap.size wx w') (h : Below W.heap.size W wx ∧ wx.cell? ⟨b, 7, none⟩ = some v0 ∧ wx.cell? ⟨blk, off, none⟩ = some v1 ∧ wx.cell? ⟨blk, off + 1, none⟩ = some v2 ∧ wx.cell? ⟨blk, off + 2, none⟩ = some v3 ∧ wx.cell? ⟨blk, off + 3, none⟩ = some v4 ∧ wx.cell? ⟨b + 1, 0, none⟩ = some v5 ∧ wx.cell? ⟨b + 1, 1, none⟩ = some v6 ∧ wx.cell? ⟨b + 1, 2, none⟩ = some v7 ∧ wx.cell? ⟨b + 1, 3, none⟩ = some v8)
    (h0 : b + 1 < W.heap.size) (h1 : blk < W.heap.size) : Below W.heap.size W w' ∧ w'.cell? ⟨b, 7, none⟩ = some v0 ∧ w'.cell? ⟨blk, off, none⟩ = some v1 ∧ w'.cell? ⟨blk, off + 1, none⟩ = some v2 ∧ w'.cell? ⟨blk, off + 2, none⟩ = some v3 ∧ w'.cell? ⟨blk, off + 3, none⟩ = some v4 ∧ w'.cell? ⟨b + 1, 0, none⟩ = some v5 ∧ w'.cell? ⟨b + 1, 1, none⟩ = some v6 ∧ w'.cell? ⟨b + 1, 2, none⟩ = some v7 ∧ w'.cell? ⟨b + 1, 3, none⟩ = some v8 := by
  obtain ⟨a, c0, c1, c2, c3, c4, c5, c6, c7, c8⟩ := h
  have hs := a.size
  have k : ∀ b o, b < W.heap.size → w'.cell? ⟨b, o, none⟩ = wx.cell? ⟨b, o, none⟩ := fun b o hlt => hb.cell (p := ⟨b, o, none⟩) (Nat.lt_of_lt_of_le hlt hs)
  have h2 : b < W.heap.size := by omega
  exact ⟨a.trans (hb.mono hs), by rw [k _ _ h2, c0], by rw [k _ _ h1, c1], by rw [k _ _ h1, c2], by rw [k _ _ h1, c3], by rw [k _ _ h1, c4], by rw [k _ _ h0, c5], by rw [k _ _ h0, c6], by rw [k _ _ h0, c7], by rw [k _ _ h0, c8]⟩
set_option maxHeartbeats 4000000 in
set_option maxRecDepth 20000 in
theorem isSound_any {nm sp : ByteArray} {ln wd th cu mo : Int} {D : Option Addr} {dn dc : Nat} {ds : List Rc} {x1 y1 x2 y2 : Int} {v : Bool} (hv : soundB ⟨nm, sp, ln, wd, th, cu, mo, ds⟩ ⟨x1, y1, x2, y2⟩ = v) (hdn : dn ≤ maxLen) (w : World) (hd : RcRow w D dn ds) :
    Calls Try.prog 50 #[.agg #[.string nm, .string sp, .int .i64 ln, .int .i64 wd, .int .i64 th, .int .i64 cu, .int .i64 mo, .slice D dn dc], .agg #[.int .i64 x1, .int .i64 y1, .int .i64 x2, .int .i64 y2]] w fun e w' => e = .returned (.bool v) ∧ Below w.heap.size w w' := by
  have hdl := hd.1
  have hdn' : dn ≤ 9223372036854775807 := hdn
  have HD := Lib.hid hd
  have HV := Lib.hid hv
  clear hd hv
  go_enter Try.func50, Try.ntmps50
  go_wp2
  go_loopw [5] (fun i wr => ∃ k : Nat, k ≤ dn ∧ (ds.take k).any (fun d => overB d ⟨x1, y1, x2, y2⟩) = false ∧ i = .int .i64 k ∧ Below (w.heap.size + 2) ((w.alloc (.cells #[.string nm, .string sp, .int .i64 ln, .int .i64 wd, .int .i64 th, .int .i64 cu, .int .i64 mo, .slice D dn dc] 34)).alloc (.cells #[.int .i64 x1, .int .i64 y1, .int .i64 x2, .int .i64 y2] 75)) wr) (fun i _ => dn - (intOf i).toNat)
  case atStart => exact ⟨0, Nat.zero_le _, rfl, rfl, Below.refl _ _⟩
  case round =>
    obtain ⟨k, hk, hno, rfl, hbw⟩ := hrel
    have HN := Lib.hid hno
    have HB := Lib.hid hbw
    clear hno
    have HBW := Lib.hid (show Below w.heap.size w wr from (((Below.refl w.heap.size w).alloc (Nat.le_refl _) _).alloc (by simp) _).trans (hbw.mono (by omega)))
    have kB : ∀ o, wr.cell? ⟨w.heap.size, o, none⟩ = _ := fun o => hbw.cell (p := ⟨w.heap.size, o, none⟩) (by simp)
    have kR : ∀ o, wr.cell? ⟨w.heap.size + 1, o, none⟩ = _ := fun o => hbw.cell (p := ⟨w.heap.size + 1, o, none⟩) (by simp)
    have q7 := kB 7
    have r0 := kR 0; have r1 := kR 1; have r2 := kR 2; have r3 := kR 3
    simp [go_sem] at q7 r0 r1 r2 r3
    have hsz := hbw.size
    simp at hsz
    clear kB kR
    by_cases hlt2 : k < dn
    · have hkl : k < ds.length := by omega
      obtain ⟨bk, of, rfl, hbk, hx⟩ := HD.out.2 (by omega)
      have hxx := (hx k hkl).below HBW.out hbk
      have HS := Lib.hid (any_rc_succ (fun d => overB d ⟨x1, y1, x2, y2⟩) ds k hkl HN.out)
      have HA := Lib.hid (fun h : overB ds[k] ⟨x1, y1, x2, y2⟩ = true => (List.any_eq_true (l := ds) (p := fun d => overB d ⟨x1, y1, x2, y2⟩)).2 ⟨_, List.getElem_mem hkl, h⟩)
      clear hx
      obtain ⟨d, hdd⟩ : ∃ d, ds[k] = d := ⟨_, rfl⟩
      rw [hdd] at hxx HS HA
      clear hdd hbw
      obtain ⟨a1, b1, a2, b2⟩ := d
      obtain ⟨c0, c1, c2, c3⟩ := hxx
      simp only at c0 c1 c2 c3
      have hkn : (k : Int) < (dn : Int) := by omega
      have QB := Lib.hid (show w.heap.size + 1 < wr.heap.size by omega)
      have QK := Lib.hid (show bk < wr.heap.size by omega)
      cases ho : overV a1 b1 a2 b2 x1 y1 x2 y2
      · have OV := fun wx => Lib.hid (overlaps_any (w := wx) ho)
        have HO := Lib.hid ho
        clear ho
        go_wp2
        go_region_held3 (fun wx => Below wr.heap.size wr wx ∧ wx.cell? ⟨w.heap.size, 7, none⟩ = some (.slice (some ⟨bk, of, none⟩) dn dc) ∧ wx.cell? ⟨bk, of + k * 4, none⟩ = some (.int .i64 a1) ∧ wx.cell? ⟨bk, of + k * 4 + 1, none⟩ = some (.int .i64 b1) ∧ wx.cell? ⟨bk, of + k * 4 + 2, none⟩ = some (.int .i64 a2) ∧ wx.cell? ⟨bk, of + k * 4 + 3, none⟩ = some (.int .i64 b2) ∧ wx.cell? ⟨w.heap.size + 1, 0, none⟩ = some (.int .i64 x1) ∧ wx.cell? ⟨w.heap.size + 1, 1, none⟩ = some (.int .i64 y1) ∧ wx.cell? ⟨w.heap.size + 1, 2, none⟩ = some (.int .i64 x2) ∧ wx.cell? ⟨w.heap.size + 1, 3, none⟩ = some (.int .i64 y2)) ((first | (refine ⟨(Below.refl _ _).drew, ?_, ?_, ?_, ?_, ?_, ?_, ?_, ?_, ?_⟩ <;> assumption) | (refine ⟨?_, ?_, ?_, ?_, ?_, ?_, ?_, ?_, ?_, ?_⟩ <;> assumption) | (apply kept9 <;> first | assumption | exact QB.out | exact QK.out))) (first | (go_at_call 95; refine Calls.mono (OV _).out ?_; rintro e w' ⟨rfl, hbx⟩))
        obtain ⟨hWx, -⟩ := ‹Below wr.heap.size wr w' ∧ _›
        go_wp2
        go_roundw
        case rel => exact ⟨k + 1, by omega, HS.out HO.out, by go_num, HB.out.trans (hWx.mono (by omega))⟩
        case measure => simp [intOf]; omega
      · have OV := fun wx => Lib.hid (overlaps_any (w := wx) ho)
        have HO := Lib.hid ho
        have HF : Hid (false = v) := Lib.hid (by rw [← HV.out]; unfold soundB; rw [HA.out HO.out]; rfl)
        clear ho
        go_wp2
        go_region_held3 (fun wx => Below wr.heap.size wr wx ∧ wx.cell? ⟨w.heap.size, 7, none⟩ = some (.slice (some ⟨bk, of, none⟩) dn dc) ∧ wx.cell? ⟨bk, of + k * 4, none⟩ = some (.int .i64 a1) ∧ wx.cell? ⟨bk, of + k * 4 + 1, none⟩ = some (.int .i64 b1) ∧ wx.cell? ⟨bk, of + k * 4 + 2, none⟩ = some (.int .i64 a2) ∧ wx.cell? ⟨bk, of + k * 4 + 3, none⟩ = some (.int .i64 b2) ∧ wx.cell? ⟨w.heap.size + 1, 0, none⟩ = some (.int .i64 x1) ∧ wx.cell? ⟨w.heap.size + 1, 1, none⟩ = some (.int .i64 y1) ∧ wx.cell? ⟨w.heap.size + 1, 2, none⟩ = some (.int .i64 x2) ∧ wx.cell? ⟨w.heap.size + 1, 3, none⟩ = some (.int .i64 y2)) ((first | (refine ⟨(Below.refl _ _).drew, ?_, ?_, ?_, ?_, ?_, ?_, ?_, ?_, ?_⟩ <;> assumption) | (refine ⟨?_, ?_, ?_, ?_, ?_, ?_, ?_, ?_, ?_, ?_⟩ <;> assumption) | (apply kept9 <;> first | assumption | exact QB.out | exact QK.out))) (first | (go_at_call 95; refine Calls.mono (OV _).out ?_; rintro e w' ⟨rfl, hbx⟩))
        obtain ⟨hWx, -⟩ := ‹Below wr.heap.size wr w' ∧ _›
        go_wp2
        go_ret
        exact ⟨ret_bool HF.out, HBW.out.trans (hWx.mono (by omega))⟩
    · have hk' : k = dn := by omega
      have HF : Hid (true = v) := Lib.hid (by rw [← HV.out]; unfold soundB; have := HN.out; rw [List.take_of_length_le (by omega)] at this; rw [this]; rfl)
      clear hbw
      subst hk'
      go_wp2
      go_ret
      exact ⟨ret_bool HF.out, HBW.out⟩
end Go.Proofs.Ytnjbhidncicfiaa
