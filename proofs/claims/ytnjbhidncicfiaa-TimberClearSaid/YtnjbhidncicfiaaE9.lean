/- Walks over the timber seat: the reference's Clear. -/
import Derived.Test.YtnjbhidncicfiaaE8
import Derived.Deep.AppendLies
import Derived.Deep.RegionHeldLaw
import Derived.BigQuiet
namespace Go.Proofs.Ytnjbhidncicfiaa
open Go.RowKit

theorem clr_step {b : Bd} {xs : List Int} {k : Nat} {x y : Int} {v : Bool} (hx : xs[k]? = some x) (hy : xs[k + 1]? = some y) (hv : soundB b ⟨x, 0, y, b.wd⟩ = v) : clrTo b xs (k + 1) = bif v then addSeg (clrTo b xs k) x y else clrTo b xs k := by
  show (bif soundB b ⟨xs.getD k 0, 0, xs.getD (k + 1) 0, b.wd⟩ then addSeg (clrTo b xs k) (xs.getD k 0) (xs.getD (k + 1) 0) else clrTo b xs k) = _
  rw [List.getD_eq_getElem?_getD, List.getD_eq_getElem?_getD, hx, hy, Option.getD_some, Option.getD_some, hv]
theorem own_kept {w w' : World} {base e size n : Nat} {v : Value} {xs : List Value} (h : w.ownsRow base e size v n xs) (hb : Below w.heap.size w w') : w'.ownsRow base e size v n xs :=
  ⟨h.1, h.2.imp id fun ⟨g, cap, cur, h1, h2, h3, h4⟩ => ⟨g, cap, cur, h1, h2, (hb.block g (Array.getElem?_eq_some_iff.1 h3).1).trans h3, h4⟩⟩
theorem own_none {w : World} {base n : Nat} {v : Value} {xs : List Value} (h : w.ownsRow base 50 2 v n xs) (hn : n = 0) : ∃ p cap, v = .slice p 0 cap := by
  subst hn
  rcases h.2 with ⟨rfl, -⟩ | ⟨g, cap, cur, rfl, -⟩
  · exact ⟨_, _, rfl⟩
  · exact ⟨_, _, rfl⟩
theorem kept10 {W wx w' : World} {b g k : Nat} {v0 v1 v2 v3 v4 v5 v6 v7 x y : Value} (hb : Below wx.heap.size wx w') (h : Below W.heap.size W wx ∧ wx.cell? ⟨b, 0, none⟩ = some v0 ∧ wx.cell? ⟨b, 1, none⟩ = some v1 ∧ wx.cell? ⟨b, 2, none⟩ = some v2 ∧ wx.cell? ⟨b, 3, none⟩ = some v3 ∧ wx.cell? ⟨b, 4, none⟩ = some v4 ∧ wx.cell? ⟨b, 5, none⟩ = some v5 ∧ wx.cell? ⟨b, 6, none⟩ = some v6 ∧ wx.cell? ⟨b, 7, none⟩ = some v7 ∧ wx.cell? ⟨g, k, none⟩ = some x ∧ wx.cell? ⟨g, k + 1, none⟩ = some y) (h0 : b < W.heap.size) (h1 : g < W.heap.size) : Below W.heap.size W w' ∧ w'.cell? ⟨b, 0, none⟩ = some v0 ∧ w'.cell? ⟨b, 1, none⟩ = some v1 ∧ w'.cell? ⟨b, 2, none⟩ = some v2 ∧ w'.cell? ⟨b, 3, none⟩ = some v3 ∧ w'.cell? ⟨b, 4, none⟩ = some v4 ∧ w'.cell? ⟨b, 5, none⟩ = some v5 ∧ w'.cell? ⟨b, 6, none⟩ = some v6 ∧ w'.cell? ⟨b, 7, none⟩ = some v7 ∧ w'.cell? ⟨g, k, none⟩ = some x ∧ w'.cell? ⟨g, k + 1, none⟩ = some y := by
  obtain ⟨a, c0, c1, c2, c3, c4, c5, c6, c7, c8, c9⟩ := h
  have hs := a.size
  have k : ∀ b o, b < W.heap.size → w'.cell? ⟨b, o, none⟩ = wx.cell? ⟨b, o, none⟩ := fun b o hlt => hb.cell (p := ⟨b, o, none⟩) (Nat.lt_of_lt_of_le hlt hs)
  exact ⟨a.trans (hb.mono hs), by rw [k _ _ h0, c0], by rw [k _ _ h0, c1], by rw [k _ _ h0, c2], by rw [k _ _ h0, c3], by rw [k _ _ h0, c4], by rw [k _ _ h0, c5], by rw [k _ _ h0, c6], by rw [k _ _ h0, c7], by rw [k _ _ h1, c8], by rw [k _ _ h1, c9]⟩
set_option maxHeartbeats 4000000 in
set_option maxRecDepth 20000 in
theorem clearRef_any {nm sp : ByteArray} {ln wd th cu mo : Int} {D : Option Addr} {dn dc : Nat} {ds : List Rc} (hb : BdOk ⟨nm, sp, ln, wd, th, cu, mo, ds⟩) (w : World) (hd : RcRow w D dn ds) :
    Calls Try.prog 52 #[.agg #[.string nm, .string sp, .int .i64 ln, .int .i64 wd, .int .i64 th, .int .i64 cu, .int .i64 mo, .slice D dn dc]] w fun e w' => ∃ r : Value, e = .returned r ∧ w'.ownsRow w.heap.size 50 2 r (clrTo ⟨nm, sp, ln, wd, th, cu, mo, ds⟩ (xLines ⟨nm, sp, ln, wd, th, cu, mo, ds⟩) ((xLines ⟨nm, sp, ln, wd, th, cu, mo, ds⟩).length - 1)).length (ivCells (clrTo ⟨nm, sp, ln, wd, th, cu, mo, ds⟩ (xLines ⟨nm, sp, ln, wd, th, cu, mo, ds⟩) ((xLines ⟨nm, sp, ln, wd, th, cu, mo, ds⟩).length - 1))) ∧ Below w.heap.size w w' := by
  have hdn := hb.dn
  simp only at hdn
  have hdl := hd.1
  have hdn' : dn ≤ 60 := by omega
  have hdm : dn ≤ maxLen := by unfold maxLen; omega
  obtain ⟨i0, hi, hz0, hz1, hz2⟩ := info_parts info50
  have hBL : Below w.heap.size w (w.alloc (.cells #[.string nm, .string sp, .int .i64 ln, .int .i64 wd, .int .i64 th, .int .i64 cu, .int .i64 mo, .slice D dn dc] 34)) := (Below.refl _ _).alloc (Nat.le_refl _) _
  have hd1 := RcRow.below hd hBL
  have LX := Lib.hid (lines_x (dc := dc) hb _ hd1)
  have hxl := x_first hb
  have hl2 := hxl.2.1
  have hlm : (xLines ⟨nm, sp, ln, wd, th, cu, mo, ds⟩).length ≤ 122 := by
    have h1 := insS_len (a := ln) (l := [0])
    have h2 := lnF_len (f := fun d => d.x1) (g := fun d => d.x2) (ds := ds) (l := insS ln [0]) h1.1
    have h3 : xLines ⟨nm, sp, ln, wd, th, cu, mo, ds⟩ = lnF (fun d => d.x1) (fun d => d.x2) ds (insS ln [0]) := rfl
    have h4 := h1.2
    simp at h4
    rw [h3]; omega
  have HD := Lib.hid hd
  have HBL := Lib.hid hBL
  obtain ⟨xs, hxs⟩ : ∃ xs, xLines ⟨nm, sp, ln, wd, th, cu, mo, ds⟩ = xs := ⟨_, rfl⟩
  rw [hxs] at LX hl2 hlm ⊢
  clear hxs hxl hd hd1 hBL hb
  go_enter Try.func52, Try.ntmps52
  go_wp2_with (go_at_call 94; refine Calls.mono LX.out ?_; rintro e w1 ⟨r1, rfl, hown1, hb1⟩; obtain ⟨g, cap, rfl, hbg, hgl, hnc, hcm, hcell⟩ := own_int hown1 rfl (by omega))
  have HB1 := Lib.hid hb1
  have HC := Lib.hid hcell
  have hs1 : w.heap.size < w1.heap.size := by have := hb1.size; simp at this; omega
  have HW1 := Lib.hid (HBL.out.trans (hb1.mono (by simp)))
  clear hcell hb1 hown1 LX
  obtain ⟨n, hn⟩ : ∃ n, xs.length = n := ⟨_, rfl⟩
  rw [hn] at hl2 hlm hnc
  have hn1 : n ≤ xs.length := by omega
  have hn2 : xs.length ≤ n := by omega
  have HNX := Lib.hid hn
  clear hn
  go_loopw [4, 5] (fun ov i wr => ∃ k : Nat, k + 1 ≤ n ∧ i = .int .i64 k ∧ wr.ownsRow w1.heap.size 50 2 ov (clrTo ⟨nm, sp, ln, wd, th, cu, mo, ds⟩ xs k).length (ivCells (clrTo ⟨nm, sp, ln, wd, th, cu, mo, ds⟩ xs k)) ∧ Below w1.heap.size w1 wr) (fun _ i _ => n - (intOf i).toNat)
  case atStart => exact ⟨0, by omega, rfl, ⟨rfl, .inl ⟨rfl, rfl⟩⟩, Below.refl _ _⟩
  case round =>
    obtain ⟨k, hk, rfl, hov, hbw⟩ := hrel
    have HB := Lib.hid hbw
    have HBW := Lib.hid (HW1.out.trans (hbw.mono (by omega)))
    have kB : ∀ o, wr.cell? ⟨w.heap.size, o, none⟩ = _ := fun o => (hbw.cell (p := ⟨w.heap.size, o, none⟩) hs1).trans (HB1.out.cell (p := ⟨w.heap.size, o, none⟩) (by simp))
    have q0 := kB 0; have q1 := kB 1; have q2 := kB 2; have q3 := kB 3; have q4 := kB 4; have q5 := kB 5; have q6 := kB 6; have q7 := kB 7
    simp [go_sem] at q0 q1 q2 q3 q4 q5 q6 q7
    have hsz := hbw.size
    clear kB
    have hkn : (k : Int) + 1 ≤ n := by omega
    by_cases hlt : k + 1 < n
    · have hk0 : k < xs.length := by omega
      have hk1 : k + 1 < xs.length := by omega
      have hlti : (k : Int) + 1 < n := by omega
      have hki : (k : Int) + 1 < xs.length := by omega
      have hkj : (k : Int) < xs.length := by omega
      have hwk : IntKind.i64.wrap ((k : Int) + 1) = (k : Int) + 1 := by rw [IntKind.wrap_i64]; omega
      have htk : ((k : Int) + 1).toNat = k + 1 := by omega
      have hk0p : (0 : Int) ≤ (k : Int) + 1 := by omega
      have hkd : decide ((k : Int) + 1 < 0) = false := decide_eq_false (by omega)
      have c0 := (hbw.cell (p := ⟨g, k, none⟩) hgl).trans (HC.out k hk0)
      have c1 := (hbw.cell (p := ⟨g, k + 1, none⟩) hgl).trans (HC.out (k + 1) hk1)
      have hx0 : xs[k]? = some xs[k] := List.getElem?_eq_getElem hk0
      have hx1 : xs[k + 1]? = some xs[k + 1] := List.getElem?_eq_getElem hk1
      obtain ⟨x, hx⟩ : ∃ x, xs[k] = x := ⟨_, rfl⟩
      obtain ⟨y, hy⟩ : ∃ y, xs[k + 1] = y := ⟨_, rfl⟩
      rw [hx] at c0 hx0
      rw [hy] at c1 hx1
      have hlen := clrTo_len (b := ⟨nm, sp, ln, wd, th, cu, mo, ds⟩) (xs := xs) k
      have QB := Lib.hid (show w.heap.size < wr.heap.size by omega)
      have QK := Lib.hid (show g < wr.heap.size by omega)
      cases hv : soundB ⟨nm, sp, ln, wd, th, cu, mo, ds⟩ ⟨x, 0, y, wd⟩
      · have HS := Lib.hid (clr_step hx0 hx1 hv)
        have IS := fun wx hbx => Lib.hid (isSound_any (dc := dc) hv hdm wx (RcRow.below HD.out (HBW.out.trans hbx)))
        clear hx0 hx1 hx hy hv hbw
        go_wp2
        go_region_held3 (fun wx => Below wr.heap.size wr wx ∧ wx.cell? ⟨w.heap.size, 0, none⟩ = some (.string nm) ∧ wx.cell? ⟨w.heap.size, 1, none⟩ = some (.string sp) ∧ wx.cell? ⟨w.heap.size, 2, none⟩ = some (.int .i64 ln) ∧ wx.cell? ⟨w.heap.size, 3, none⟩ = some (.int .i64 wd) ∧ wx.cell? ⟨w.heap.size, 4, none⟩ = some (.int .i64 th) ∧ wx.cell? ⟨w.heap.size, 5, none⟩ = some (.int .i64 cu) ∧ wx.cell? ⟨w.heap.size, 6, none⟩ = some (.int .i64 mo) ∧ wx.cell? ⟨w.heap.size, 7, none⟩ = some (.slice D dn dc) ∧ wx.cell? ⟨g, k, none⟩ = some (.int .i64 x) ∧ wx.cell? ⟨g, k + 1, none⟩ = some (.int .i64 y)) ((first | (refine ⟨(Below.refl _ _).drew, ?_, ?_, ?_, ?_, ?_, ?_, ?_, ?_, ?_, ?_⟩ <;> assumption) | (refine ⟨?_, ?_, ?_, ?_, ?_, ?_, ?_, ?_, ?_, ?_, ?_⟩ <;> assumption) | (apply kept10 <;> first | assumption | exact QB.out | exact QK.out))) (first | (go_at_call 50; refine Calls.mono (IS _ (by first | assumption | exact (Below.refl _ _).drew | exact And.left (by assumption))).out ?_; rintro e w' ⟨rfl, hbx⟩))
        obtain ⟨hWx, -⟩ := ‹Below wr.heap.size wr w' ∧ _›
        go_wp2
        go_roundw
        case rel => exact ⟨k + 1, by omega, by go_num, by rw [HS.out]; exact own_kept hov hWx, HB.out.trans (hWx.mono (by omega))⟩
        case measure => first | (simp [intOf]; done) | (simp [intOf]; omega)
      · have HS := Lib.hid (clr_step hx0 hx1 hv)
        have IS := fun wx hbx => Lib.hid (isSound_any (dc := dc) hv hdm wx (RcRow.below HD.out (HBW.out.trans hbx)))
        clear hx0 hx1 hx hy hv hbw
        go_wp2
        go_region_held3 (fun wx => Below wr.heap.size wr wx ∧ wx.cell? ⟨w.heap.size, 0, none⟩ = some (.string nm) ∧ wx.cell? ⟨w.heap.size, 1, none⟩ = some (.string sp) ∧ wx.cell? ⟨w.heap.size, 2, none⟩ = some (.int .i64 ln) ∧ wx.cell? ⟨w.heap.size, 3, none⟩ = some (.int .i64 wd) ∧ wx.cell? ⟨w.heap.size, 4, none⟩ = some (.int .i64 th) ∧ wx.cell? ⟨w.heap.size, 5, none⟩ = some (.int .i64 cu) ∧ wx.cell? ⟨w.heap.size, 6, none⟩ = some (.int .i64 mo) ∧ wx.cell? ⟨w.heap.size, 7, none⟩ = some (.slice D dn dc) ∧ wx.cell? ⟨g, k, none⟩ = some (.int .i64 x) ∧ wx.cell? ⟨g, k + 1, none⟩ = some (.int .i64 y)) ((first | (refine ⟨(Below.refl _ _).drew, ?_, ?_, ?_, ?_, ?_, ?_, ?_, ?_, ?_, ?_⟩ <;> assumption) | (refine ⟨?_, ?_, ?_, ?_, ?_, ?_, ?_, ?_, ?_, ?_, ?_⟩ <;> assumption) | (apply kept10 <;> first | assumption | exact QB.out | exact QK.out))) (first | (go_at_call 50; refine Calls.mono (IS _ (by first | assumption | exact (Below.refl _ _).drew | exact And.left (by assumption))).out ?_; rintro e w' ⟨rfl, hbx⟩))
        obtain ⟨hWx, -, -, -, z3, -, -, -, -, z8, z9⟩ := ‹Below wr.heap.size wr w' ∧ _›
        have hov2 := own_kept hov hWx
        have hwx := hWx.size
        have HWX := Lib.hid hWx
        clear hov hWx
        rcases List.eq_nil_or_concat (clrTo ⟨nm, sp, ln, wd, th, cu, mo, ds⟩ xs k) with he | ⟨l, p, he⟩
        · rw [he] at hov2 hlen HS
          obtain ⟨pp, cp, rfl⟩ := own_none hov2 rfl
          have HNE := Lib.hid (show ∀ l' p, ([] : List Iv) = l' ++ [p] → p.2 ≠ x from fun l' p e => by simp at e)
          go_wp2
          go_quiet (fail)
          go_wp2
          go_region_law (refine step_append_lies _ rfl (.tmp 58) (.tmp 69) 84 rfl w1.heap.size 50 i0 (.agg #[.int .i64 0, .int .i64 0]) 2 16 Try.underlying84 hi hz0 hz1 hz2 rfl (by decide) _ _ _ rfl (own_kept hov2 (by first | exact (below_drewN (Below.refl _ _) _).alloc (Nat.le_refl _) _ | exact ((Below.refl _ _).drew).alloc (Nat.le_refl _) _)) ⟨w'.heap.size, 0, none⟩ 1 1 [.int .i64 x, .int .i64 y] rfl rfl (cell_two_new _ _ _ _ rfl) (two_oneCell _ _) (by decide) (by unfold maxLen; simp) (by simp) (by simp; omega) _ rfl ?_; intro g5 cap5 w5 hown5 hgrow5 hor5 hlt5)
          all_goals
            go_wp2
            go_roundw
            case rel =>
              refine ⟨k + 1, by omega, by go_num, ?_, ?_⟩
              · rw [HS.out, cond_true, addSeg_new HNE.out, List.length_append, ivCells_snoc]; exact hown5
              · have hbx := HB.out.trans (HWX.out.mono hsz)
                exact Below.grown (by first | exact (below_drewN hbx _).alloc (Nat.le_trans hsz hwx) _ | exact hbx.drew.alloc (Nat.le_trans hsz hwx) _) hgrow5 (by simp; omega) (fun j hj => own_ge hov2 j hj)
            case measure => first | (simp [intOf]; done) | (simp [intOf]; omega)
        · rw [List.concat_eq_append] at he
          rw [he] at hov2 hlen HS
          have hlp : (l ++ [p]).length = l.length + 1 := by simp
          rw [hlp] at hov2 hlen
          obtain ⟨g4, cap4, rfl, hb4, hg4, hn4, hc4, -, d1, hf4⟩ := own_cell hov2 hlp.symm (k := l.length) (by simp)
          have e4 : (l ++ [p])[l.length]'(by simp) = p := by simp
          rw [e4, Nat.zero_add] at d1
          have hl4 : (l.length : Int) ≤ 121 := by omega
          have f4 := hf4 (l.length * 2 + 1)
          obtain ⟨p1, p2⟩ := p
          simp only at d1
          clear e4 hf4
          by_cases hpx : p2 = x
          · have hpb : (p2 == x) = true := beq_iff_eq.2 hpx
            have HPX := Lib.hid hpx
            clear hpx
            go_wp2
            go_quiet (fail)
            go_wp2
            go_roundw
            case rel =>
              refine ⟨k + 1, by omega, by go_num, ?_, ?_⟩
              · rw [HS.out, cond_true, addSeg_join (p := (p1, p2)) HPX.out, ← iv_set (p := (p1, p2)) rfl, List.length_append]
                exact own_setcell (own_kept hov2 (below_drewN (Below.refl _ _) _)) (by omega) _
              · exact (below_drewN (HB.out.trans (HWX.out.mono hsz)) _).setCell (by simp; omega) _
            case measure => first | (simp [intOf]; done) | (simp [intOf]; omega)
          · have hpb : (p2 == x) = false := beq_eq_false_iff_ne.2 hpx
            have HNE := Lib.hid (show ∀ l' q, l ++ [(p1, p2)] = l' ++ [q] → q.2 ≠ x from fun l' q e => by
              have := List.append_inj_right' e rfl
              injection this with this
              subst this
              exact hpx)
            clear hpx
            go_wp2
            go_quiet (fail)
            go_wp2
            go_region_law (refine step_append_lies _ rfl (.tmp 58) (.tmp 69) 84 rfl w1.heap.size 50 i0 (.agg #[.int .i64 0, .int .i64 0]) 2 16 Try.underlying84 hi hz0 hz1 hz2 rfl (by decide) _ _ _ rfl (own_kept hov2 (by first | exact (below_drewN (Below.refl _ _) _).alloc (Nat.le_refl _) _ | exact ((Below.refl _ _).drew).alloc (Nat.le_refl _) _)) ⟨w'.heap.size, 0, none⟩ 1 1 [.int .i64 x, .int .i64 y] rfl rfl (cell_two_new _ _ _ _ rfl) (two_oneCell _ _) (by decide) (by unfold maxLen; omega) (by omega) (by simp; omega) _ rfl ?_; intro g5 cap5 w5 hown5 hgrow5 hor5 hlt5)
            all_goals
              go_wp2
              go_roundw
              case rel =>
                refine ⟨k + 1, by omega, by go_num, ?_, ?_⟩
                · rw [HS.out, cond_true, addSeg_new HNE.out, List.length_append, hlp, ivCells_snoc]; exact hown5
                · have hbx := HB.out.trans (HWX.out.mono hsz)
                  exact Below.grown (by first | exact (below_drewN hbx _).alloc (Nat.le_trans hsz hwx) _ | exact hbx.drew.alloc (Nat.le_trans hsz hwx) _) hgrow5 (by simp; omega) (fun j hj => own_ge hov2 j hj)
              case measure => first | (simp [intOf]; done) | (simp [intOf]; omega)
    · have hk' : k = n - 1 := by omega
      have hge : ¬ ((k : Int) + 1 < n) := by omega
      clear hbw
      rw [hk', ← HNX.out] at hov
      go_wp2
      go_ret
      exact ⟨_, rfl, ⟨hov.1, hov.2.imp id fun ⟨g, cap, cur, h1, h2, h3⟩ => ⟨g, cap, cur, h1, by omega, h3⟩⟩, HBW.out⟩
end Go.Proofs.Ytnjbhidncicfiaa
