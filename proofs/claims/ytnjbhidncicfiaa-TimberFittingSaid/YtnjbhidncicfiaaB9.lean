/- Walks over the timber seat: TimberBoards. -/
import Derived.Test.YtnjbhidncicfiaaB8
import Derived.Deep.RegionHeld3
namespace Go.Proofs.Ytnjbhidncicfiaa
open Go.RowKit Go.Maps

def fewB (bs : List Bd) : Bool := (!((decide (6 < bs.length) && decide (bs.length ≤ 100)) || decide (110 < bs.length))) && bs.all fun b => plainB b.nm b.sp b.df.length
theorem few_size {bs : List Bd} (h : (6 < bs.length ∧ bs.length ≤ 100) ∨ 110 < bs.length) : fewB bs = false := by
  unfold fewB
  rw [Bool.and_eq_false_iff]
  left
  simp
  omega
theorem few_no {bs : List Bd} {k : Nat} (hk : k < bs.length) (h : plainB bs[k].nm bs[k].sp bs[k].df.length = false) : fewB bs = false := by
  unfold fewB
  rw [Bool.and_eq_false_iff]
  right
  rw [List.all_eq_false]
  exact ⟨bs[k], List.getElem_mem hk, by rw [h]; decide⟩
theorem few_yes {bs : List Bd} (hs : ¬ ((6 < bs.length ∧ bs.length ≤ 100) ∨ 110 < bs.length)) (h : ∀ k (hk : k < bs.length), plainB bs[k].nm bs[k].sp bs[k].df.length = true) : fewB bs = true := by
  unfold fewB
  rw [Bool.and_eq_true, List.all_eq_true]
  refine ⟨by simp; omega, fun b hb => ?_⟩
  obtain ⟨k, hk, rfl⟩ := List.mem_iff_getElem.1 hb
  exact h k hk
set_option maxHeartbeats 4000000 in
set_option maxRecDepth 20000 in
theorem few_any {S : Option Addr} {sn sc : Nat} {bs : List Bd} {v : Bool} (hv : fewB bs = v) (w : World) (hs : BdRow w S sn bs) (hsn : sn ≤ maxLen) :
    Calls Try.prog 25 #[.slice S sn sc] w fun e w' => e = .returned (.bool v) ∧ Below w.heap.size w w' := by
  have hsl := hs.1
  have hsn' : sn ≤ 9223372036854775807 := hsn
  have HS := Lib.hid hs
  have HV := Lib.hid hv
  clear hs hv
  by_cases hz : (6 < sn ∧ sn ≤ 100) ∨ 110 < sn
  · have HF : Hid (false = v) := Lib.hid ((few_size (by omega)).symm.trans HV.out)
    rcases hz with ⟨h1, h2⟩ | h1
    all_goals
      go_enter Try.func25, Try.ntmps25
      go_wp2
      go_ret
      exact ⟨ret_bool HF.out, Below.refl _ _⟩
  · have d1 : (decide (6 < (sn : Int)) && decide ((sn : Int) ≤ 100)) = false := by rw [Bool.and_eq_false_iff]; simp; omega
    have d2 : decide (110 < (sn : Int)) = false := decide_eq_false (by omega)
    have FY := Lib.hid (fun h => few_yes (bs := bs) (by omega) h)
    have h3 : sn ≤ 6 ∨ (100 < sn ∧ sn ≤ 110) := by omega
    clear hz d1
    rcases h3 with h3 | ⟨h3, h4⟩
    all_goals
      go_enter Try.func25, Try.ntmps25
      go_wp2
      go_loopw [3] (fun i wr => ∃ k : Nat, k ≤ sn ∧ (∀ j (hj : j < bs.length), j < k → plainB bs[j].nm bs[j].sp bs[j].df.length = true) ∧ i = .int .i64 k ∧ Below w.heap.size w wr) (fun i _ => sn - (intOf i).toNat)
      case atStart => exact ⟨0, Nat.zero_le _, fun j _ h => absurd h (by omega), rfl, Below.refl _ _⟩
      case round =>
        obtain ⟨k, hk, hall, rfl, hbw⟩ := hrel
        have HA := Lib.hid hall
        have HB := Lib.hid hbw
        clear hall
        by_cases hlt : k < sn
        · have hkl : k < bs.length := by omega
          obtain ⟨blk, off, rfl, hblk, hx⟩ := (BdRow.below HS.out hbw).2 (by omega)
          have hxx := hx k hkl
          have FN := Lib.hid (fun h => few_no hkl h)
          clear hx
          obtain ⟨b, hb⟩ : ∃ b, bs[k] = b := ⟨_, rfl⟩
          have HBK := Lib.hid hb
          rw [hb] at hxx FN
          clear hb hbw
          obtain ⟨nm, sp, ln, wd, th, cu, mo, ds⟩ := b
          obtain ⟨D, dn, dc, ⟨c0, c1, c2, c3, c4, c5, c6, c7⟩, ⟨hn1, hn2, hdn, -⟩, hrc⟩ := hxx
          simp only at c0 c1 c2 c3 c4 c5 c6 c7 hn1 hn2 hrc FN
          have hdl := hrc.1
          rw [hdl] at FN
          clear hrc
          cases hp : plainB nm sp dn
          · have HF : Hid (false = v) := Lib.hid ((FN.out hp).symm.trans HV.out)
            have PL := fun wx => Lib.hid (plain_any (nm := nm) (sp := sp) (ln := ln) (wd := wd) (th := th) (cu := cu) (mo := mo) (D := D) (dn := dn) (dc := dc) (w := wx) hp hn1 hn2 hdn)
            clear hp
            go_wp2_with (go_at_call 24; (refine Calls.mono (PL _).out ?_); rintro e w1 ⟨rfl, hb1⟩)
            go_ret
            exact ⟨ret_bool HF.out, HB.out.trans (hb1.mono HB.out.size)⟩
          · have HP := Lib.hid hp
            have PL := fun wx => Lib.hid (plain_any (nm := nm) (sp := sp) (ln := ln) (wd := wd) (th := th) (cu := cu) (mo := mo) (D := D) (dn := dn) (dc := dc) (w := wx) hp hn1 hn2 hdn)
            clear hp
            go_wp2_with (go_at_call 24; (refine Calls.mono (PL _).out ?_); rintro e w1 ⟨rfl, hb1⟩)
            go_roundw
            case rel =>
              refine ⟨k + 1, by omega, fun j hj hjk => ?_, by go_num, HB.out.trans (hb1.mono HB.out.size)⟩
              by_cases e : j = k
              · subst e; rw [HBK.out]; simp only; rw [hdl]; exact HP.out
              · exact HA.out j hj (by omega)
            case measure => simp [intOf]; omega
        · have HF : Hid (true = v) := Lib.hid ((FY.out fun j hj => HA.out j hj (by omega)).symm.trans HV.out)
          have hk' : k = sn := by omega
          subst hk'
          go_wp2
          go_ret
          exact ⟨ret_bool HF.out, HB.out⟩
theorem kept8 {W wx w' : World} {b : Nat} {v0 v1 v2 v3 v4 v5 v6 v7 : Value} (hb : Below wx.heap.size wx w') (h : Below W.heap.size W wx ∧ wx.cell? ⟨b, 0, none⟩ = some v0 ∧ wx.cell? ⟨b, 1, none⟩ = some v1 ∧ wx.cell? ⟨b, 2, none⟩ = some v2 ∧ wx.cell? ⟨b, 3, none⟩ = some v3 ∧ wx.cell? ⟨b, 4, none⟩ = some v4 ∧ wx.cell? ⟨b, 5, none⟩ = some v5 ∧ wx.cell? ⟨b, 6, none⟩ = some v6 ∧ wx.cell? ⟨b, 7, none⟩ = some v7)
    (h0 : b < W.heap.size) : Below W.heap.size W w' ∧ w'.cell? ⟨b, 0, none⟩ = some v0 ∧ w'.cell? ⟨b, 1, none⟩ = some v1 ∧ w'.cell? ⟨b, 2, none⟩ = some v2 ∧ w'.cell? ⟨b, 3, none⟩ = some v3 ∧ w'.cell? ⟨b, 4, none⟩ = some v4 ∧ w'.cell? ⟨b, 5, none⟩ = some v5 ∧ w'.cell? ⟨b, 6, none⟩ = some v6 ∧ w'.cell? ⟨b, 7, none⟩ = some v7 := by
  obtain ⟨a, c0, c1, c2, c3, c4, c5, c6, c7⟩ := h
  have hs := a.size
  have k : ∀ b o, b < W.heap.size → w'.cell? ⟨b, o, none⟩ = wx.cell? ⟨b, o, none⟩ := fun b o hlt => hb.cell (p := ⟨b, o, none⟩) (Nat.lt_of_lt_of_le hlt hs)
  exact ⟨a.trans (hb.mono hs), by rw [k _ _ h0, c0], by rw [k _ _ h0, c1], by rw [k _ _ h0, c2], by rw [k _ _ h0, c3], by rw [k _ _ h0, c4], by rw [k _ _ h0, c5], by rw [k _ _ h0, c6], by rw [k _ _ h0, c7]⟩
set_option maxHeartbeats 4000000 in
set_option maxRecDepth 20000 in
theorem boards_any {nm sp : ByteArray} {ln wd th cu mo : Int} {D : Option Addr} {dn dc : Nat} {ds : List Rc} {A S : Option Addr} {n cp sn sc : Nat} {l : List Sp} {bs : List Bd} (hn1 : nm.size ≤ maxLen) (hn2 : sp.size ≤ maxLen) (hdn : dn ≤ maxLen) (w : World) (hr : RcRow w D dn ds) (hl : SpRow w A n l) (hn : n ≤ maxLen) (hcp : n ≤ cp) (hs : BdRow w S sn bs) (hsn : sn ≤ maxLen) :
    Calls Try.prog 4 #[.slice A n cp, .agg #[.string nm, .string sp, .int .i64 ln, .int .i64 wd, .int .i64 th, .int .i64 cu, .int .i64 mo, .slice D dn dc], .slice S sn sc] w fun e w' => e = .returned (.bool true) ∧ Below w.heap.size w w' := by
  have hBL : Below w.heap.size w (w.alloc (.cells #[.string nm, .string sp, .int .i64 ln, .int .i64 wd, .int .i64 th, .int .i64 cu, .int .i64 mo, .slice D dn dc] 34)) := (Below.refl _ _).alloc (Nat.le_refl _) _
  have hl1 := SpRow.below hl hBL
  have hr1 := RcRow.below hr hBL
  have hs1 := BdRow.below hs hBL
  have SH := fun wx hb => Lib.hid (short_any (cp := cp) rfl wx (SpRow.below hl1 hb) hn)
  have PL := fun wx => Lib.hid (plain_any (nm := nm) (sp := sp) (ln := ln) (wd := wd) (th := th) (cu := cu) (mo := mo) (D := D) (dn := dn) (dc := dc) (w := wx) rfl hn1 hn2 hdn)
  have FE := fun wx hb => Lib.hid (few_any (sc := sc) rfl wx (BdRow.below hs1 hb) hsn)
  obtain ⟨c1, hc1⟩ : ∃ c, chkBoard l ⟨nm, sp, ln, wd, th, cu, mo, ds⟩ = c := ⟨_, rfl⟩
  obtain ⟨c2, hc2⟩ : ∃ c, stCode l bs = c := ⟨_, rfl⟩
  have CB := fun wx hb => Lib.hid (checkBoard_any (cp := cp) (dc := dc) hc1 hn1 hn2 hdn wx (RcRow.below hr1 hb) (SpRow.below hl1 hb) hn)
  have RB := fun wx hb => Lib.hid (rcheckBoard_any (cp := cp) (dc := dc) hc1 hn1 hn2 hdn wx (RcRow.below hr1 hb) (SpRow.below hl1 hb) hn hcp)
  have CS := fun wx hb => Lib.hid (checkStock_any (cp := cp) (sc := sc) hc2 wx (SpRow.below hl1 hb) hn (BdRow.below hs1 hb) hsn)
  have RS := fun wx hb => Lib.hid (rcheckStock_any (cp := cp) (sc := sc) hc2 wx (SpRow.below hl1 hb) hn hcp (BdRow.below hs1 hb) hsn)
  obtain ⟨v1, hv1⟩ : ∃ v, shortB l = v := ⟨_, rfl⟩
  obtain ⟨v2, hv2⟩ : ∃ v, plainB nm sp dn = v := ⟨_, rfl⟩
  obtain ⟨v3, hv3⟩ : ∃ v, fewB bs = v := ⟨_, rfl⟩
  simp only [hv1] at SH
  simp only [hv2] at PL
  simp only [hv3] at FE
  have HBL := Lib.hid hBL
  clear hBL hl1 hr1 hs1 hl hr hs hc1 hc2 hv1 hv2 hv3
  cases v1
  · go_enter Try.func4, Try.ntmps4
    go_wp2_with (first | (go_at_call 18; refine (awake_any _).mono ?_; rintro e w1 ⟨rfl, hb1⟩) | (go_at_call 19; (refine Calls.mono (SH _ hb1).out ?_); rintro e w2 ⟨rfl, rfl⟩))
    go_ret
    exact ⟨rfl, HBL.out.trans (hb1.mono (by simp))⟩
  · cases v2
    · go_enter Try.func4, Try.ntmps4
      go_wp2_with (first | (go_at_call 18; refine (awake_any _).mono ?_; rintro e w1 ⟨rfl, hb1⟩; have hs1 : w.heap.size < w1.heap.size := (by have := hb1.size; (try simp at this); omega); obtain ⟨hc1, hf1⟩ := bcell hb1) | (go_at_call 19; (refine Calls.mono (SH _ hb1).out ?_); rintro e w2 ⟨rfl, rfl⟩) | (go_at_call 24; (refine Calls.mono (PL _).out ?_); rintro e w3 ⟨rfl, hb3⟩; have hb13 := hb1.trans (hb3.mono hb1.size)))
      go_ret
      exact ⟨rfl, HBL.out.trans (hb13.mono (by simp))⟩
    · cases v3
      · go_enter Try.func4, Try.ntmps4
        go_wp2_with (first | (go_at_call 18; refine (awake_any _).mono ?_; rintro e w1 ⟨rfl, hb1⟩; have hs1 : w.heap.size < w1.heap.size := (by have := hb1.size; (try simp at this); omega); obtain ⟨hc1, hf1⟩ := bcell hb1) | (go_at_call 19; (refine Calls.mono (SH _ hb1).out ?_); rintro e w2 ⟨rfl, rfl⟩) | (go_at_call 24; (refine Calls.mono (PL _).out ?_); rintro e w3 ⟨rfl, hb3⟩; have hb13 := hb1.trans (hb3.mono hb1.size)) | (go_at_call 25; (refine Calls.mono (FE _ hb13).out ?_); rintro e w4 ⟨rfl, hb4⟩; have hb14 := hb13.trans (hb4.mono hb13.size)))
        go_ret
        exact ⟨rfl, HBL.out.trans (hb14.mono (by simp))⟩
      · go_enter Try.func4, Try.ntmps4
        go_wp2_with (first | (go_at_call 18; refine (awake_any _).mono ?_; rintro e w1 ⟨rfl, hb1⟩; have hs1 : w.heap.size < w1.heap.size := (by have := hb1.size; (try simp at this); omega); obtain ⟨hc1, hf1⟩ := bcell hb1) | (go_at_call 19; (refine Calls.mono (SH _ hb1).out ?_); rintro e w2 ⟨rfl, rfl⟩) | (go_at_call 24; (refine Calls.mono (PL _).out ?_); rintro e w3 ⟨rfl, hb3⟩; have hb13 := hb1.trans (hb3.mono hb1.size)) | (go_at_call 25; (refine Calls.mono (FE _ hb13).out ?_); rintro e W4 ⟨rfl, hb4⟩; have hb14 := hb13.trans (hb4.mono hb13.size)))
        have HB14 := Lib.hid hb14
        have kb : ∀ o, W4.cell? ⟨w.heap.size, o, none⟩ = _ := fun o => hb14.cell (p := ⟨w.heap.size, o, none⟩) (by simp)
        have z0 := kb 0; have z1 := kb 1; have z2 := kb 2; have z3 := kb 3; have z4 := kb 4; have z5 := kb 5; have z6 := kb 6; have z7 := kb 7
        simp [go_sem] at z0 z1 z2 z3 z4 z5 z6 z7
        have QB := Lib.hid (show w.heap.size < W4.heap.size by have := hb14.size; (try simp at this); omega)
        have HBA := Lib.hid (HBL.out.trans (hb14.mono (by simp)))
        clear kb hb1 hb3 hb13 hb4 hb14 hs1 hc1 hf1 SH PL FE
        go_region_held3 (fun wx => Below W4.heap.size W4 wx ∧ wx.cell? ⟨w.heap.size, 0, none⟩ = some (.string nm) ∧ wx.cell? ⟨w.heap.size, 1, none⟩ = some (.string sp) ∧ wx.cell? ⟨w.heap.size, 2, none⟩ = some (.int .i64 ln) ∧ wx.cell? ⟨w.heap.size, 3, none⟩ = some (.int .i64 wd) ∧ wx.cell? ⟨w.heap.size, 4, none⟩ = some (.int .i64 th) ∧ wx.cell? ⟨w.heap.size, 5, none⟩ = some (.int .i64 cu) ∧ wx.cell? ⟨w.heap.size, 6, none⟩ = some (.int .i64 mo) ∧ wx.cell? ⟨w.heap.size, 7, none⟩ = some (.slice D dn dc)) ((first | (refine ⟨(Below.refl _ _).drew, ?_, ?_, ?_, ?_, ?_, ?_, ?_, ?_⟩ <;> assumption) | (refine ⟨?_, ?_, ?_, ?_, ?_, ?_, ?_, ?_, ?_⟩ <;> assumption) | (apply kept8 <;> first | assumption | exact QB.out))) (first | (go_at_call 26; refine Calls.mono (CB _ (HB14.out.trans (Below.mono (‹Below W4.heap.size W4 _ ∧ _›).1 HB14.out.size))).out ?_; rintro e w' ⟨rfl, hbx⟩) | (go_at_call 27; refine Calls.mono (RB _ (HB14.out.trans (Below.mono (‹Below W4.heap.size W4 _ ∧ _›).1 HB14.out.size))).out ?_; rintro e w' ⟨rfl, hbx⟩) | (go_at_call 28; refine Calls.mono (CS _ (HB14.out.trans (Below.mono (‹Below W4.heap.size W4 _ ∧ _›).1 HB14.out.size))).out ?_; rintro e w' ⟨rfl, hbx⟩) | (go_at_call 29; refine Calls.mono (RS _ (HB14.out.trans (Below.mono (‹Below W4.heap.size W4 _ ∧ _›).1 HB14.out.size))).out ?_; rintro e w' ⟨rfl, hbx⟩))
        obtain ⟨hWx, -⟩ := ‹Below W4.heap.size W4 w' ∧ _›
        go_wp2
        go_ret
        exact ⟨rfl, HBA.out.trans (hWx.mono HBA.out.size)⟩
theorem boards_law (A : Option Addr) (n cp : Nat) (l : List Sp) (bd : Bd) (D : Option Addr) (dn dc : Nat) (S : Option Addr) (sn sc : Nat) (bs : List Bd) (hn : n ≤ maxLen ∧ n ≤ cp) (hb : bd.nm.size ≤ maxLen ∧ bd.sp.size ≤ maxLen ∧ dn ≤ maxLen ∧ dn ≤ dc) (hsn : sn ≤ maxLen ∧ sn ≤ sc) (w : World) (hl : SpRow w A n l) (hr : RcRow w D dn bd.df) (hs : BdRow w S sn bs) :
    Calls Try.prog 4 #[.slice A n cp, .agg #[.string bd.nm, .string bd.sp, .int .i64 bd.ln, .int .i64 bd.wd, .int .i64 bd.th, .int .i64 bd.cu, .int .i64 bd.mo, .slice D dn dc], .slice S sn sc] w fun e w' => e = .returned (.bool true) ∧ Below w.heap.size w w' := by
  obtain ⟨nm, sp, ln, wd, th, cu, mo, ds⟩ := bd
  exact boards_any hb.1 hb.2.1 hb.2.2.1 w hr hl hn.1 hn.2 hs hsn.1
end Go.Proofs.Ytnjbhidncicfiaa
