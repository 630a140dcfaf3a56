/- Walks over the fits: the reference's seasons, the errors of a slot. -/
import Derived.Test.YtffmaoalnilkkaaFT
namespace Go.Proofs.Ytffmaoalnilkkaa
open Go.RowKit Go.Maps

theorem string_eq {s t : ByteArray} : (s.toList == t.toList) = decide (s = t) := by
  rw [Bool.eq_iff_iff, beq_iff_eq, decide_eq_true_iff, ByteArray.toList_eq, ByteArray.toList_eq]
  exact ⟨fun h => keyL_inj (by unfold keyL; rw [h]), fun h => by rw [h]⟩
theorem allIn_two {lo hi a b : Int} : allIn lo hi [a, b] = (allIn lo hi [a] && allIn lo hi [b]) := by
  rw [Bool.eq_iff_iff, Bool.and_eq_true, allIn_iff, allIn_iff, allIn_iff]; simp
set_option maxHeartbeats 1000000 in
theorem rseason_any {s : Sn} {c : Int} (hc : snCode s = c) (hsz : s.nm.size ≤ maxLen) (w : World) :
    Calls Try.prog 28 #[snV s] w fun e w' => e = .returned (.int .i64 c) ∧ Below w.heap.size w w' := by
  obtain ⟨nm, lo, hi⟩ := s
  unfold snCode at hc
  unfold snV
  simp only [allIn_two] at hc hsz ⊢
  cases hn : nameB nm
  · have N := fun wx => Lib.hid (rname_any (w := wx) hn hsz)
    rw [hn] at hc; simp only [cond_false] at hc; subst hc
    clear hn
    go_enter Try.func28, Try.ntmps28
    go_wp2_with (go_at_call 50; refine Calls.mono (N _).out ?_; rintro e w1 ⟨rfl, rfl⟩)
    go_ret
    exact ⟨rfl, (Below.refl _ _).alloc (Nat.le_refl _) _⟩
  · have N := fun wx => Lib.hid (rname_any (w := wx) hn hsz)
    rw [hn] at hc; simp only [cond_true] at hc
    clear hn
    cases h1 : allIn 0 400 [lo]
    · rw [h1] at hc; simp only [Bool.false_and, cond_false] at hc; subst hc
      have X := Lib.hid h1
      clear h1
      go_enter Try.func28, Try.ntmps28
      go_wp2_with (first | (go_at_call 50; refine Calls.mono (N _).out ?_; rintro e w1 ⟨rfl, rfl⟩) | (go_at_call 24; (with_reducible refine (rmoist_any X.out _).mono ?_); rintro e w1 ⟨rfl, rfl⟩))
      go_ret
      exact ⟨rfl, (Below.refl _ _).alloc (Nat.le_refl _) _⟩
    · rw [h1] at hc; simp only [Bool.true_and] at hc
      have X := Lib.hid h1
      clear h1
      cases h2 : allIn 0 400 [hi]
      · rw [h2] at hc; simp only [cond_false] at hc; subst hc
        have Y := Lib.hid h2
        clear h2
        go_enter Try.func28, Try.ntmps28
        go_wp2_with (first | (go_at_call 50; refine Calls.mono (N _).out ?_; rintro e w1 ⟨rfl, rfl⟩) | (go_at_call 24; (first | with_reducible refine (rmoist_any X.out _).mono ?_ | with_reducible refine (rmoist_any Y.out _).mono ?_); rintro e w1 ⟨rfl, rfl⟩))
        go_ret
        exact ⟨rfl, (Below.refl _ _).alloc (Nat.le_refl _) _⟩
      · rw [h2] at hc; simp only [cond_true] at hc
        have Y := Lib.hid h2
        clear h2
        by_cases hlt : hi < lo
        · rw [decide_eq_true hlt] at hc; simp only [cond_true] at hc; subst hc
          go_enter Try.func28, Try.ntmps28
          go_wp2_with (first | (go_at_call 50; refine Calls.mono (N _).out ?_; rintro e w1 ⟨rfl, rfl⟩) | (go_at_call 24; (first | with_reducible refine (rmoist_any X.out _).mono ?_ | with_reducible refine (rmoist_any Y.out _).mono ?_); rintro e w1 ⟨rfl, rfl⟩))
          go_ret
          exact ⟨rfl, (Below.refl _ _).alloc (Nat.le_refl _) _⟩
        · rw [decide_eq_false hlt] at hc; simp only [cond_false] at hc; subst hc
          go_enter Try.func28, Try.ntmps28
          go_wp2_with (first | (go_at_call 50; refine Calls.mono (N _).out ?_; rintro e w1 ⟨rfl, rfl⟩) | (go_at_call 24; (first | with_reducible refine (rmoist_any X.out _).mono ?_ | with_reducible refine (rmoist_any Y.out _).mono ?_); rintro e w1 ⟨rfl, rfl⟩))
          go_ret
          exact ⟨rfl, (Below.refl _ _).alloc (Nat.le_refl _) _⟩
theorem any_names {l : List Sn} {k : Nat} {nm : ByteArray} (h : ∀ i (hi : i < l.length), i < k → l[i].nm ≠ nm) : (((l.take k).map Sn.nm).any fun n => decide (n = nm)) = false := by
  rw [List.any_eq_false]
  intro n hn
  obtain ⟨x, hx, rfl⟩ := List.mem_map.1 hn
  obtain ⟨i, hi, rfl⟩ := List.mem_iff_getElem.1 hx
  rw [List.length_take] at hi
  rw [List.getElem_take]
  simpa using h i (by omega) (by omega)
theorem any_names' {l : List Sn} {k i : Nat} {nm : ByteArray} (hi : i < l.length) (hik : i < k) (h : l[i].nm = nm) : (((l.take k).map Sn.nm).any fun n => decide (n = nm)) = true := by
  rw [List.any_eq_true]
  exact ⟨nm, List.mem_map.2 ⟨l[i], List.mem_iff_getElem.2 ⟨i, by rw [List.length_take]; omega, by rw [List.getElem_take]⟩, h⟩, by simp⟩
set_option maxHeartbeats 4000000 in
set_option maxRecDepth 20000 in
theorem rseasons_any {l : List Sn} {S : Option Addr} {c : Int} {m d : Nat} (hc : snsCode l = c) (hmm : m ≤ maxLen) (w : World) (hS : SnRow w S m l) :
    Calls Try.prog 14 #[.slice S m d] w fun e w' => e = .returned (.int .i64 c) ∧ Below w.heap.size w w' := by
  have hln := hS.1
  have hm' : m ≤ 9223372036854775807 := Nat.le_trans hmm (by decide)
  have HSR := Lib.hid hS
  clear hS
  by_cases h24 : 24 < m
  · have HC : Hid (c = 8) := Lib.hid (by rw [← hc]; unfold snsCode; rw [decide_eq_true (by omega)]; rfl)
    clear hc
    have hd : decide (24 < (m : Int)) = true := decide_eq_true (by omega)
    go_enter Try.func14, Try.ntmps14
    go_wp2
    go_ret
    exact ⟨ret_int HC.out.symm, Below.refl _ _⟩
  · have HC : Hid (snFrom [] (l.drop 0) = c) := Lib.hid (by rw [← hc]; unfold snsCode; rw [decide_eq_false (by omega)]; rfl)
    clear hc
    have hd : decide (24 < (m : Int)) = false := decide_eq_false (by omega)
    go_enter Try.func14, Try.ntmps14
    go_wp2
    go_loopw [3] (fun i wr => ∃ k : Nat, k ≤ m ∧ Hid (snFrom ((l.take k).map Sn.nm) (l.drop k) = c) ∧ i = .int .i64 k ∧ Hid (Below w.heap.size w wr)) (fun i _ => m - (intOf i).toNat)
    case atStart => exact ⟨0, Nat.zero_le _, HC, rfl, Lib.hid (Below.refl _ _)⟩
    case round =>
      obtain ⟨k, hk, HT, rfl, HB⟩ := hrel
      by_cases hlt : k < m
      · have hkl : k < l.length := by omega
        obtain ⟨blk, off, rfl, hblk, hx⟩ := HSR.out.2 (by omega)
        have hxx := (hx k hkl).below HB.out hblk
        have HX := Lib.hid hx
        have HS := Lib.hid (snFrom_cons (seen := (l.take k).map Sn.nm) hkl)
        have HNS := Lib.hid (names_succ hkl)
        have HAN := Lib.hid (fun (h : ∀ i (hi : i < l.length), i < k → l[i].nm ≠ l[k].nm) => any_names h)
        have HAY := Lib.hid (fun i (hi : i < l.length) (hik : i < k) (h : l[i].nm = l[k].nm) => any_names' hi hik h)
        clear hx
        obtain ⟨x, hxe⟩ : ∃ x, l[k] = x := ⟨_, rfl⟩
        rw [hxe] at hxx HS HNS HAN HAY
        clear hxe
        obtain ⟨nm, lo, hi⟩ := x
        obtain ⟨q0, q1, q2, hsz⟩ := hxx
        simp only at q0 q1 q2 hsz HS HNS HAN HAY
        have hbr : blk < wr.heap.size := Nat.lt_of_lt_of_le hblk HB.out.size
        by_cases hs0 : snCode ⟨nm, lo, hi⟩ = 0
        · have CO := fun wx => Lib.hid (rseason_any (s := ⟨nm, lo, hi⟩) (w := wx) hs0 hsz)
          unfold snV at CO
          simp only at CO
          have HV : Hid (c = bif (((l.take k).map Sn.nm).any fun n => decide (n = nm)) then 5 else snFrom (((l.take k).map Sn.nm) ++ [nm]) (l.drop (k + 1))) := Lib.hid (by rw [← HT.out, HS.out, decide_eq_true hs0]; rfl)
          clear hs0 HS
          obtain ⟨wq, hwq⟩ : ∃ wq, wq = wr := ⟨_, rfl⟩
          rw [← hwq] at q0 q1 q2 HB hbr ⊢
          clear hwq
          go_wp2_with (go_at_call 28; refine Calls.mono (CO _).out ?_; rintro e w1 ⟨rfl, hb1⟩)
          have HB1 := Lib.hid (HB.out.trans (hb1.mono HB.out.size))
          have y0 := (hb1.cell (p := ⟨blk, off + k * 3, none⟩) hbr).trans q0
          go_loopw [5] (fun j wr => ∃ i : Nat, i ≤ k ∧ Hid (∀ a (ha : a < l.length), a < i → l[a].nm ≠ nm) ∧ j = .int .i64 i ∧ ∃ n, wr = w1.drewN n) (fun j _ => k - (intOf j).toNat)
          case atStart => exact ⟨0, Nat.zero_le _, Lib.hid (fun a _ h => absurd h (by omega)), rfl, 0, rfl⟩
          case round =>
            obtain ⟨i, hi', HI, rfl, n, rfl⟩ := hrel
            by_cases hil : i < k
            · have hill : i < l.length := by omega
              have z0 := ((HX.out i hill).below HB1.out hblk).1
              have hA1 := HAY.out i hill hil
              have HA1 := Lib.hid hA1
              obtain ⟨u, hu⟩ : ∃ u, l[i].nm = u := ⟨_, rfl⟩
              rw [hu] at z0 HA1
              have HU := Lib.hid hu
              clear hu hA1
              have hik : (i : Int) < (m : Int) := by omega
              have hkk : (k : Int) < (m : Int) := by omega
              cases he : (u.toList == nm.toList)
              · have hne : Hid (u ≠ nm) := Lib.hid (by rw [string_eq] at he; exact of_decide_eq_false he)
                go_wp2
                go_quiet (fail)
                go_wp2
                go_roundw
                case rel =>
                  refine ⟨i + 1, by omega, Lib.hid (fun a ha hai => ?_), by go_num, _, rfl⟩
                  by_cases e : a = i
                  · subst e; rw [HU.out]; exact hne.out
                  · exact HI.out a ha (by omega)
                case measure => simp [intOf]; omega
              · have hee : u = nm := by rw [string_eq] at he; exact of_decide_eq_true he
                have HV5 : Hid (c = 5) := Lib.hid (by rw [HV.out, HA1.out hee]; rfl)
                clear hee
                go_wp2
                go_quiet (fail)
                go_wp2
                go_ret
                exact ⟨ret_int HV5.out.symm, below_drewN (below_drewN HB1.out _) _⟩
            · have hki : i = k := by omega
              have HVN : Hid (snFrom ((l.take (k + 1)).map Sn.nm) (l.drop (k + 1)) = c) := Lib.hid (by rw [HV.out, HAN.out (fun a ha hak => HI.out a ha (by omega)), HNS.out]; rfl)
              subst hki
              go_wp2
              go_roundw
              case rel => exact ⟨i + 1, by omega, HVN, by go_num, Lib.hid (below_drewN HB1.out _)⟩
              case measure => simp [intOf]; omega
        · have HV : Hid (c = snCode ⟨nm, lo, hi⟩) := Lib.hid (by rw [← HT.out, HS.out, decide_eq_false hs0]; rfl)
          obtain ⟨y, hy⟩ : ∃ y, snCode ⟨nm, lo, hi⟩ = y := ⟨_, rfl⟩
          have CO := fun wx => Lib.hid (rseason_any (s := ⟨nm, lo, hi⟩) (w := wx) hy hsz)
          unfold snV at CO
          simp only at CO
          rw [hy] at HV hs0
          have hyb : (y == 0) = false := beq_eq_false_iff_ne.2 hs0
          have hyb' : (y != 0) = true := bne_iff_ne.2 hs0
          clear hy HS
          go_wp2_with (go_at_call 28; refine Calls.mono (CO _).out ?_; rintro e w1 ⟨rfl, hb1⟩)
          go_ret
          exact ⟨ret_int HV.out.symm, HB.out.trans (hb1.mono HB.out.size)⟩
      · have HV : Hid (c = 0) := Lib.hid (by rw [← HT.out, snFrom_end (by omega)])
        have hk' : k = m := by omega
        subst hk'
        go_wp2
        go_ret
        exact ⟨ret_int HV.out.symm, HB.out⟩
end Go.Proofs.Ytffmaoalnilkkaa
