/- The reference of beams: burdens. Few weights. -/
import Derived.Test.YtablphoicidlkaaBA
import Derived.Test.YtablphoicidlkaaBG
namespace Go.Proofs.Ytablphoicidlkaa
open Go.RowKit

theorem few_any {A : Option Addr} {n c : Nat} {S : Int} (w : World) :
    Calls Try.prog 20 #[buV A n c S] w fun e w' => e = .returned (.bool (decide (n ≤ 12))) ∧ Below w.heap.size w w' := by
  unfold buV
  have hB : Hid (Below w.heap.size w (w.alloc (.cells #[.slice A n c, .int .i64 S] 26))) := Lib.hid ((Below.refl _ _).alloc (Nat.le_refl _) _)
  have HD : Hid (decide ((n : Int) ≤ 12) = decide (n ≤ 12)) := Lib.hid (by
    by_cases h : n ≤ 12
    · rw [decide_eq_true h, decide_eq_true (by omega)]
    · rw [decide_eq_false h, decide_eq_false (by omega)])
  go_enter Try.func20, Try.ntmps20
  go_wp2
  go_ret
  exact ⟨ret_bool (by rw [← HD.out]), hB.out⟩
theorem ptE_wi (span : Int) (p : Pt) : ptE span p = bif wiB p.a 0 span && wiB p.n (-2000) 2000 then 0 else 2 := by
  unfold ptE
  rw [rng_wi, rng_wi]
  cases wiB p.a 0 span <;> cases wiB p.n (-2000) 2000 <;> rfl
set_option maxHeartbeats 4000000 in
set_option maxRecDepth 20000 in
theorem rweights_any {A : Option Addr} {n c : Nat} {S span : Int} {l : List Pt} (w : World) (h : PtRow w A n l) (hn : n ≤ maxLen) :
    Calls Try.prog 94 #[buV A n c S, .int .i64 span] w fun e w' => e = .returned (.int .i64 (wtsE span l S)) ∧ Below w.heap.size w w' := by
  unfold buV maxLen at *
  have hle : l.length ≤ n := by have := h.1; omega
  have hge : n ≤ l.length := by have := h.1; omega
  have hB : Hid (Below w.heap.size w (w.alloc (.cells #[.slice A n c, .int .i64 S] 26))) := Lib.hid ((Below.refl _ _).alloc (Nat.le_refl _) _)
  have HR := Lib.hid (h.below hB.out)
  have HWS := fun wx => Lib.hid (within_any S (-20000) 20000 wx)
  have HQ : Hid (decide (8 < l.length) = decide (8 < n)) := Lib.hid (by rw [h.1])
  clear h
  by_cases h8 : 8 < n
  · have hd : decide (8 < n) = true := decide_eq_true h8
    have hd' : (8 : Int) < (n : Int) := by omega
    have HD := Lib.hid hd
    go_enter Try.func94, Try.ntmps94
    go_wp2
    go_ret
    exact ⟨ret_int (by unfold wtsE; rw [HQ.out, HD.out]; rfl), hB.out⟩
  · have hd : decide (8 < n) = false := decide_eq_false h8
    have hd' : ¬ (8 : Int) < (n : Int) := by omega
    have HD := Lib.hid hd
    go_enter Try.func94, Try.ntmps94
    go_wp2
    obtain ⟨w0, hw0⟩ : ∃ w0, w.alloc (.cells #[.slice A n c, .int .i64 S] 26) = w0 := ⟨_, rfl⟩
    have c0 : w0.cell? ⟨w.heap.size, 0, none⟩ = some (.slice A n c) := by rw [← hw0]; simp [go_sem]
    have c1 : w0.cell? ⟨w.heap.size, 1, none⟩ = some (.int .i64 S) := by rw [← hw0]; simp [go_sem]
    rw [hw0] at HR hB ⊢
    clear hw0
    go_loopw [5] (fun i wr => ∃ k : Nat, k ≤ n ∧ i = .int .i64 k ∧ (l.take k).any (fun p => ptE span p != 0) = false ∧ wr = w0) (fun i _ => n - (intOf i).toNat)
    case atStart => exact ⟨0, Nat.zero_le _, rfl, rfl, rfl⟩
    case round =>
      obtain ⟨k, hk, rfl, hno, rfl⟩ := hrel
      have H := Lib.hid hno
      clear hno
      by_cases hlt : k < n
      · have hkl : k < l.length := by omega
        obtain ⟨blk, off, rfl, hb, hx⟩ := HR.out.2 (by omega)
        obtain ⟨hc0, hc1⟩ := hx k hkl
        have HT := Lib.hid (any_takeP (fun p => ptE span p != 0) l k hkl H.out)
        have HA := Lib.hid (any_atP (fun p => ptE span p != 0) l k hkl)
        obtain ⟨x, hxe⟩ : ∃ x, l[k] = x := ⟨_, rfl⟩
        rw [hxe] at hc0 hc1 HT HA
        clear hxe hx
        obtain ⟨a, v⟩ := x
        simp only at hc0 hc1
        have HP := Lib.hid (ptE_wi span ⟨a, v⟩)
        have W1 := fun wx => Lib.hid (within_any a 0 span wx)
        have W2 := fun wx => Lib.hid (within_any v (-2000) 2000 wx)
        generalize wiB a 0 span = v1 at *
        generalize wiB v (-2000) 2000 = v2 at *
        cases v1 <;> cases v2
        case true.true =>
          go_wp2_with (first | (go_at_call 32; (with_reducible refine Calls.mono (W1 _).out ?_); rintro e w9 ⟨rfl, rfl⟩) | (go_at_call 32; (with_reducible refine Calls.mono (W2 _).out ?_); rintro e w9 ⟨rfl, rfl⟩) | fail)
          exact ⟨⟨k + 1, by omega, by go_num, HT.out (by rw [HP.out]; rfl), trivial⟩, by simp [intOf]; omega⟩
        all_goals
          go_wp2_with (first | (go_at_call 32; (with_reducible refine Calls.mono (W1 _).out ?_); rintro e w9 ⟨rfl, rfl⟩) | (go_at_call 32; (with_reducible refine Calls.mono (W2 _).out ?_); rintro e w9 ⟨rfl, rfl⟩) | fail)
          go_ret
          exact ⟨ret_int (by unfold wtsE; rw [HQ.out, HD.out, HA.out (by rw [HP.out]; rfl)]; rfl), hB.out⟩
      · obtain rfl : k = n := by omega
        have HN : Hid (l.any (fun p => ptE span p != 0) = false) := Lib.hid (by have := H.out; rwa [List.take_of_length_le (by omega)] at this)
        have HRS := Lib.hid (rng_wi (n := S) (lo := -20000) (hi := 20000))
        generalize wiB S (-20000) 20000 = v3 at *
        cases v3
        all_goals
          go_wp2_with (go_at_call 32; (with_reducible refine Calls.mono (HWS _).out ?_); rintro e w9 ⟨rfl, rfl⟩)
          go_ret
          exact ⟨ret_int (by unfold wtsE; rw [HQ.out, HD.out, HN.out, cond_false, cond_false, HRS.out]; rfl), hB.out⟩
theorem firstE_z (e : Int) : firstE [0, e] = e := by
  by_cases h : e = 0
  · subst h; rfl
  · show (bif e == 0 then 0 else e) = e
    rw [show (e == 0) = false from by simpa using h]; rfl
set_option maxHeartbeats 1000000 in
theorem rcheckBurden_any {b : Bm} {A : Option Addr} {n c : Nat} {S : Int} {l : List Pt} (w : World) (h : PtRow w A n l) (hn : n ≤ maxLen) :
    Calls Try.prog 23 #[bmV b, buV A n c S] w fun e w' => e = .returned (.int .i64 (burE b l S)) ∧ Below w.heap.size w w' := by
  have CB := fun wx => Lib.hid (rcheckBeam_any b wx)
  have WT := Lib.hid (fun wx (hx : Below w.heap.size w wx) => rweights_any (span := b.s) (S := S) (c := c) wx (h.below hx) hn)
  have h2 := beamE_two b
  have HE : Hid (burE b l S = firstE [beamE b, wtsE b.s l S]) := Lib.hid rfl
  obtain ⟨s, ww, t, en⟩ := b
  unfold bmV buV at *
  simp only at CB WT HE h2 ⊢
  clear h hn
  generalize burE ⟨s, ww, t, en⟩ l S = ee at *
  generalize beamE ⟨s, ww, t, en⟩ = e1 at *
  generalize wtsE s l S = e2 at *
  go_enter Try.func23, Try.ntmps23
  go_upto_region 1 with fail
  obtain ⟨w0, hw0⟩ : ∃ w0, ((w.alloc (.cells #[.int .i64 s, .int .i64 ww, .int .i64 t, .int .i64 en] 23)).alloc (.cells #[.slice A n c, .int .i64 S] 26)) = w0 := ⟨_, rfl⟩
  have HB0 : Hid (Below w.heap.size w w0) := Lib.hid (by rw [← hw0]; exact (((Below.refl _ _).alloc (Nat.le_refl _) _).alloc (by simp; try omega) _))
  have HC := Lib.hid (fun wx (hb : Below w0.heap.size w0 wx) => (show wx.cell? ⟨w.heap.size, 0, none⟩ = some (.int .i64 s) ∧ wx.cell? ⟨w.heap.size, 1, none⟩ = some (.int .i64 ww) ∧ wx.cell? ⟨w.heap.size, 2, none⟩ = some (.int .i64 t) ∧ wx.cell? ⟨w.heap.size, 3, none⟩ = some (.int .i64 en) ∧ wx.cell? ⟨w.heap.size + 1, 0, none⟩ = some (.slice A n c) ∧ wx.cell? ⟨w.heap.size + 1, 1, none⟩ = some (.int .i64 S) from by
    subst hw0
    obtain ⟨k, kf⟩ := bcell hb
    exact ⟨(k _ _ (by simp; try omega)).trans (by simp [go_sem]), (k _ _ (by simp; try omega)).trans (by simp [go_sem]), (k _ _ (by simp; try omega)).trans (by simp [go_sem]), (k _ _ (by simp; try omega)).trans (by simp [go_sem]), (k _ _ (by simp; try omega)).trans (by simp [go_sem]), (k _ _ (by simp; try omega)).trans (by simp [go_sem])⟩))
  rw [hw0]
  clear hw0
  have HZ0 := Lib.hid (Below.refl w0.heap.size w0)
  obtain ⟨c0, c1, c2, c3, c4, c5⟩ := HC.out w0 HZ0.out
  rcases h2 with rfl | rfl
  · go_wp2_with (first | (go_at_call 25; (refine Calls.mono (CB _).out ?_); rintro e w1 ⟨rfl, hb1⟩; have HB1 := Lib.hid (HB0.out.trans (hb1.mono HB0.out.size)); obtain ⟨e0, e1, e2, e3, e4, e5⟩ := HC.out w1 hb1; clear hb1) | (go_at_call 94; (refine Calls.mono (WT.out _ HB1.out) ?_); rintro e w2 ⟨rfl, hb2⟩; have HB2 := Lib.hid (HB1.out.trans (hb2.mono HB1.out.size))) | fail)
    go_ret
    exact ⟨ret_int (by rw [HE.out, firstE_z]), HB2.out⟩
  · go_wp2_with (go_at_call 25; (refine Calls.mono (CB _).out ?_); rintro e w1 ⟨rfl, hb1⟩; have HB1 := Lib.hid (HB0.out.trans (hb1.mono HB0.out.size)))
    go_ret
    exact ⟨ret_int (by rw [HE.out]; rfl), HB1.out⟩
end Go.Proofs.Ytablphoicidlkaa
