/- Walks over the timber seat: the reference's stocks. -/
import Derived.Test.YtnjbhidncicfiaaB7
import Derived.BigQuiet
namespace Go.Proofs.Ytnjbhidncicfiaa
open Go.RowKit Go.Maps

theorem seen_miss {bs : List Bd} {k : Nat} {nm : ByteArray} (h : ∀ i (hi : i < bs.length), i < k → bs[i].nm ≠ nm) : seenB bs k nm = false := by
  unfold seenB
  rw [List.any_eq_false]
  intro b hb
  obtain ⟨i, hi, rfl⟩ := List.mem_iff_getElem.1 hb
  rw [List.length_take] at hi
  rw [List.getElem_take]
  simp [h i (by omega) (by omega)]
theorem seen_hit {bs : List Bd} {k j : Nat} {nm : ByteArray} (hj : j < bs.length) (hjk : j < k) (h : bs[j].nm = nm) : seenB bs k nm = true := by
  unfold seenB
  rw [List.any_eq_true]
  refine ⟨bs[j], ?_, decide_eq_true h⟩
  rw [List.mem_iff_getElem]
  exact ⟨j, by rw [List.length_take]; omega, by rw [List.getElem_take]⟩
set_option maxHeartbeats 8000000 in
set_option maxRecDepth 20000 in
theorem rcheckStock_any {A S : Option Addr} {n cp sn sc : Nat} {l : List Sp} {bs : List Bd} {c : Int} (hc : stCode l bs = c) (w : World) (hl : SpRow w A n l) (hn : n ≤ maxLen) (hcp : n ≤ cp) (hs : BdRow w S sn bs) (hsn : sn ≤ maxLen) :
    Calls Try.prog 29 #[.slice A n cp, .slice S sn sc] w fun e w' => e = .returned (.int .i64 c) ∧ Below w.heap.size w w' := by
  have hsl := hs.1
  have hsn' : sn ≤ 9223372036854775807 := hsn
  obtain ⟨x, hx⟩ : ∃ x, spsCode l = x := ⟨_, rfl⟩
  have SP := Lib.hid (rcheckSpecies_any (cp := cp) hx w hl hn hcp)
  by_cases hx0 : x = 0
  · subst hx0
    by_cases h100 : 100 < sn
    · have HV : Hid (8 = c) := Lib.hid (by rw [← hc]; unfold stCode; rw [decide_eq_true hx, decide_eq_true (by omega)]; rfl)
      have hd : decide (100 < (sn : Int)) = true := decide_eq_true (by omega)
      clear hc hl hs hx
      go_enter Try.func29, Try.ntmps29
      go_wp2_with (go_at_call 21; (refine Calls.mono SP.out ?_); rintro e w1 ⟨rfl, hb1⟩)
      go_ret
      exact ⟨ret_int HV.out, hb1⟩
    · have HV : Hid (stFrom l bs (bs.length - 0) 0 = c) := Lib.hid (by rw [← hc]; unfold stCode; rw [decide_eq_true hx, decide_eq_false (by omega)]; rfl)
      have hd : decide (100 < (sn : Int)) = false := decide_eq_false (by omega)
      have HS := Lib.hid hs
      have HL := Lib.hid hl
      clear hc hl hs hx
      go_enter Try.func29, Try.ntmps29
      go_wp2_with (go_at_call 21; (refine Calls.mono SP.out ?_); rintro e W ⟨rfl, hb1⟩)
      have HB1 := Lib.hid hb1
      clear hb1
      go_loopw [6] (fun i wr => ∃ k : Nat, k ≤ sn ∧ stFrom l bs (bs.length - k) k = c ∧ i = .int .i64 k ∧ Below w.heap.size w wr) (fun i _ => sn - (intOf i).toNat)
      case atStart => exact ⟨0, Nat.zero_le _, HV.out, rfl, HB1.out⟩
      case round =>
        obtain ⟨k, hk, ht, rfl, hbw⟩ := hrel
        have HT := Lib.hid ht
        have HB := Lib.hid hbw
        clear ht
        by_cases hlt : k < sn
        · have hkl : k < bs.length := by omega
          have HSw := Lib.hid (BdRow.below HS.out hbw)
          obtain ⟨blk, off, rfl, hblk, hx⟩ := HSw.out.2 (by omega)
          have hxx := hx k hkl
          have HX := Lib.hid hx
          have HF := Lib.hid (st_from (l := l) hkl)
          clear hx
          obtain ⟨b, hb⟩ : ∃ b, bs[k] = b := ⟨_, rfl⟩
          rw [hb] at hxx HF
          have HBK := Lib.hid hb
          clear hb
          obtain ⟨nm, sp, ln, wd, th, cu, mo, ds⟩ := b
          obtain ⟨D, dn, dc, ⟨c0, c1, c2, c3, c4, c5, c6, c7⟩, ⟨hn1, hn2, hdn, -⟩, hrc⟩ := hxx
          simp only at c0 c1 c2 c3 c4 c5 c6 c7 hn1 hn2 hrc
          have hkn : (k : Int) < (sn : Int) := by omega
          obtain ⟨y, hy⟩ : ∃ y, bdCode ⟨nm, sp, ln, wd, th, cu, mo, ds⟩ = y := ⟨_, rfl⟩
          obtain ⟨r, hr⟩ : ∃ r, findFrom 0 sp l = r := ⟨_, rfl⟩
          have hge := find_ge l 0 sp
          rw [hr] at hge
          have BE := Lib.hid (rboardErr_any (dc := dc) hy hn1 hn2 hdn wr hrc)
          have FI := fun wx hb => Lib.hid (rfind_any (cp := cp) hr wx (SpRow.below HL.out (HB.out.trans (Below.mono hb HB.out.size))) hn)
          have hN : bdOf l ⟨nm, sp, ln, wd, th, cu, mo, ds⟩ = bif decide (y = 0) then (bif decide (r = -1) then 6 else 0) else y := by rw [← hy, ← hr]; rfl
          rw [hN] at HF
          have HF2 := Lib.hid (HT.out.symm.trans HF.out)
          clear hy hr hrc hN hbw
          by_cases hy0 : y = 0
          · subst hy0
            by_cases h1 : r = -1
            · have HV2 : Hid (6 = c) := Lib.hid (by rw [HF2.out, decide_eq_true h1]; rfl)
              have hlin : r < 0 := by omega
              have hneg : decide (r < 0) = true := decide_eq_true hlin
              clear h1 hge
              go_wp2_with (first | (go_at_call 45; (refine Calls.mono BE.out ?_); rintro e w1 ⟨rfl, hb1⟩; have kk : ∀ o, w1.cell? ⟨blk, o, none⟩ = wr.cell? ⟨blk, o, none⟩ := (fun o => hb1.cell (p := ⟨blk, o, none⟩) hblk); have z1 := (kk _).trans c1; clear kk) | (go_at_call 23; (refine Calls.mono (FI _ hb1).out ?_); rintro e w2 ⟨rfl, rfl⟩))
              go_ret
              exact ⟨ret_int HV2.out, HB.out.trans (hb1.mono HB.out.size)⟩
            · have HF3 : Hid (c = bif seenB bs k nm then 5 else stFrom l bs (bs.length - (k + 1)) (k + 1)) := Lib.hid (by rw [HF2.out, decide_eq_false h1]; rfl)
              have hlin : 0 ≤ r := by omega
              have hneg : decide (r < 0) = false := decide_eq_false (by omega)
              clear h1 hge
              go_wp2_with (first | (go_at_call 45; (refine Calls.mono BE.out ?_); rintro e W1 ⟨rfl, hb1⟩; have kk : ∀ o, W1.cell? ⟨blk, o, none⟩ = wr.cell? ⟨blk, o, none⟩ := (fun o => hb1.cell (p := ⟨blk, o, none⟩) hblk); have z1 := (kk _).trans c1; clear kk) | (go_at_call 23; (refine Calls.mono (FI _ hb1).out ?_); rintro e w2 ⟨rfl, rfl⟩))
              have HBW := Lib.hid hb1
              clear hb1 c0 c1 c2 c3 c4 c5 c6 c7 z1
              go_loopw [8] (fun i wy => ∃ j : Nat, j ≤ k ∧ (∀ i (hi : i < bs.length), i < j → bs[i].nm ≠ nm) ∧ i = .int .i64 j ∧ Below wr.heap.size wr wy) (fun i _ => k - (intOf i).toNat)
              case atStart => exact ⟨0, Nat.zero_le _, fun i _ h => absurd h (by omega), rfl, HBW.out⟩
              case round =>
                obtain ⟨j, hjk, hno, rfl, hby⟩ := hrel
                have HNO := Lib.hid hno
                have HBY := Lib.hid hby
                clear hno
                by_cases hjlt : j < k
                · have hjl : j < bs.length := by omega
                  have hjn : (j : Int) < (sn : Int) := by omega
                  have hjk' : (j : Int) < (k : Int) := by omega
                  have p0 := (BdAt.below (HX.out j hjl) hby hblk).choose_spec.choose_spec.choose_spec.1.1
                  have q0 := (BdAt.below (HX.out k hkl) hby hblk).choose_spec.choose_spec.choose_spec.1.1
                  rw [HBK.out] at q0
                  simp only at q0
                  obtain ⟨t, ht⟩ : ∃ t, bs[j].nm = t := ⟨_, rfl⟩
                  rw [ht] at p0
                  have HTT := Lib.hid ht
                  clear ht
                  cases he : (t.toList == nm.toList)
                  · have hdd : t ≠ nm := by rw [string_eq] at he; exact of_decide_eq_false he
                    have HD := Lib.hid hdd
                    clear hdd
                    go_wp2
                    go_quiet (fail)
                    go_wp2
                    go_roundw
                    case rel =>
                      refine ⟨j + 1, by omega, fun i hi hij => ?_, by go_num, below_drewN HBY.out _⟩
                      by_cases e : i = j
                      · subst e; rw [HTT.out]; exact HD.out
                      · exact HNO.out i hi (by omega)
                    case measure => simp [intOf]; omega
                  · have hdd : t = nm := by rw [string_eq] at he; exact of_decide_eq_true he
                    have HV2 : Hid (5 = c) := Lib.hid (by rw [HF3.out, seen_hit hjl hjlt (HTT.out.trans hdd)]; rfl)
                    clear hdd
                    go_wp2
                    go_quiet (fail)
                    go_wp2
                    go_ret
                    exact ⟨ret_int HV2.out, HB.out.trans ((below_drewN HBY.out _).mono HB.out.size)⟩
                · have HV2 : Hid (stFrom l bs (bs.length - (k + 1)) (k + 1) = c) := Lib.hid (by rw [HF3.out, seen_miss (fun i hi hik => HNO.out i hi (by omega))]; rfl)
                  have hjk2 : j = k := by omega
                  subst hjk2
                  go_wp2
                  go_roundw
                  case rel => exact ⟨j + 1, by omega, HV2.out, by go_num, HB.out.trans (HBY.out.mono HB.out.size)⟩
                  case measure => simp [intOf]; omega
          · have HV2 : Hid (y = c) := Lib.hid (by rw [HF2.out]; simp [hy0])
            have hyb : (y == 0) = false := beq_eq_false_iff_ne.2 hy0
            go_wp2_with (go_at_call 45; (refine Calls.mono BE.out ?_); rintro e w1 ⟨rfl, hb1⟩)
            go_ret
            exact ⟨ret_int HV2.out, HB.out.trans (hb1.mono HB.out.size)⟩
        · have HV2 : Hid (0 = c) := Lib.hid (by rw [← HT.out, st_end (by omega)])
          have hk' : k = sn := by omega
          subst hk'
          go_wp2
          go_ret
          exact ⟨ret_int HV2.out, HB.out⟩
  · have HV : Hid (x = c) := Lib.hid (by rw [← hc]; unfold stCode; rw [hx, decide_eq_false hx0]; rfl)
    have hxb : (x == 0) = false := beq_eq_false_iff_ne.2 hx0
    clear hc hl hs hx
    go_enter Try.func29, Try.ntmps29
    go_wp2_with (go_at_call 21; (refine Calls.mono SP.out ?_); rintro e w1 ⟨rfl, hb1⟩)
    go_ret
    exact ⟨ret_int HV.out, hb1⟩
end Go.Proofs.Ytnjbhidncicfiaa
