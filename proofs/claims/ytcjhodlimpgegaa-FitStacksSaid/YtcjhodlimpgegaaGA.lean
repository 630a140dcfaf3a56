/- Walks over the fits: the checks of lists of pieces and of a fit. -/
import Derived.Test.YtcjhodlimpgegaaFR
import Derived.Test.YtcjhodlimpgegaaFM
namespace Go.Proofs.Ytcjhodlimpgegaa
open Go.RowKit Go.Maps

def catN (X : Nat → List Md) : Nat → List Md
  | 0 => []
  | k + 1 => catN X k ++ X k
def madesCode (l : List Md) : Int := bif decide (20 < l.length) then 8 else bif l.all madeB then 0 else 2
theorem madesCode_ok {l : List Md} (h : madesCode l = 0) : l.length ≤ 20 ∧ ∀ x ∈ l, MdOk x := by
  unfold madesCode at h
  cases hc : decide (20 < l.length)
  · rw [hc] at h
    cases ha : l.all madeB
    · rw [ha] at h; exact absurd h (by decide)
    · exact ⟨by have := of_decide_eq_false hc; omega, fun x hx => madeB_iff.1 (List.all_eq_true.1 ha x hx)⟩
  · rw [hc] at h; exact absurd h (by simp)
theorem all_take_succ {l : List Md} {k : Nat} (h : k < l.length) : (l.take (k + 1)).all madeB = ((l.take k).all madeB && madeB l[k]) := by
  rw [List.take_succ_eq_append_getElem h, List.all_append]; simp
theorem all_not {l : List Md} {k : Nat} (h : k < l.length) (hb : madeB l[k] = false) : l.all madeB = false := by
  rw [List.all_eq_false]; exact ⟨_, List.getElem_mem h, by simp [hb]⟩
theorem catN_all (X : Nat → List Md) : ∀ {q k : Nat}, k < q → (X k).all madeB = false → (catN X q).all madeB = false
  | 0, k, h, _ => absurd h (by omega)
  | q + 1, k, h, hb => by
    show (catN X q ++ X q).all madeB = false
    rw [List.all_append]
    by_cases e : k = q
    · subst e; rw [hb]; simp
    · rw [catN_all X (by omega) hb]; rfl
theorem catN_len (X : Nat → List Md) : ∀ {q k : Nat}, k ≤ q → (catN X k).length ≤ (catN X q).length
  | 0, k, h => by rw [show k = 0 by omega]; exact Nat.le_refl _
  | q + 1, k, h => by
    by_cases e : k = q + 1
    · rw [e]; exact Nat.le_refl _
    · have := catN_len X (q := q) (k := k) (by omega)
      show _ ≤ (catN X q ++ X q).length
      rw [List.length_append]; omega
set_option maxHeartbeats 4000000 in
set_option maxRecDepth 20000 in
theorem checkListsM_any {q lb lc : Nat} {A : Nat → Option Addr} {n c : Nat → Nat} {X : Nat → List Md} (hq : q ≤ 2) (w : World) (hl : ∀ k, k < q → w.cell? ⟨lb, k, none⟩ = some (.slice (A k) (n k) (c k))) (hX : ∀ k, k < q → MdRow w (A k) (n k) (X k)) (hm : ∀ k, k < q → n k ≤ 1000000) :
    Calls Try.prog 53 #[.int .i64 20, .func (.func 23) #[] #[], .slice (some ⟨lb, 0, none⟩) q lc] w
      fun e w' => e = .returned (.int .i64 (madesCode (catN X q))) ∧ Below w.heap.size w w' := by
  have HL := Lib.hid hl
  have HX := Lib.hid hX
  have HM := Lib.hid hm
  have HLen : Hid (∀ k, k ≤ q → (catN X k).length ≤ k * 1000000) := Lib.hid (fun k => by
    induction k with
    | zero => intro _; simp [catN]
    | succ k ih =>
      intro hk
      have h1 := ih (by omega)
      have h2 := (HX.out k (by omega)).1
      have h3 := HM.out k (by omega)
      show (catN X k ++ X k).length ≤ _
      rw [List.length_append]; omega)
  clear hl hX hm
  go_enter Try.func53, Try.ntmps53
  go_wp2
  go_loop [7, 17] (fun s i => ∃ k : Nat, k ≤ q ∧ i = .int .i64 k ∧ s = .int .i64 (catN X k).length) (fun _ i => q - (intOf i).toNat)
  case atStart => exact ⟨0, Nat.zero_le _, rfl, rfl⟩
  case round =>
    obtain ⟨k, hk, rfl, rfl⟩ := hrel
    by_cases hlt : k < q
    · have h1 := HL.out k hlt
      have h2 := HM.out k hlt
      have h3 := HLen.out k (by omega)
      have HE : Hid ((catN X (k + 1)).length = (catN X k).length + n k) := Lib.hid (by show (catN X k ++ X k).length = _; rw [List.length_append, (HX.out k hlt).1])
      obtain ⟨s, hs⟩ : ∃ s, (catN X k).length = s := ⟨_, rfl⟩
      rw [hs] at h3 HE ⊢
      clear hs
      go_wp2
      go_round
      case rel => exact ⟨k + 1, by omega, by go_num, by rw [HE.out]; go_num⟩
      case measure => simp [intOf]; omega
    · have hkq : k = q := by omega
      subst hkq
      have h3 := HLen.out k (Nat.le_refl _)
      by_cases h20 : 20 < (catN X k).length
      · have HC : Hid (madesCode (catN X k) = 8) := Lib.hid (by unfold madesCode; rw [decide_eq_true h20]; rfl)
        obtain ⟨s, hs⟩ : ∃ s, (catN X k).length = s := ⟨_, rfl⟩
        rw [hs] at h20 h3 ⊢
        clear hs
        go_wp2
        go_ret
        exact ⟨ret_int HC.out.symm, Below.refl _ _⟩
      · have HC : Hid (madesCode (catN X k) = bif (catN X k).all madeB then 0 else 2) := Lib.hid (by unfold madesCode; rw [decide_eq_false h20]; rfl)
        obtain ⟨s, hs⟩ : ∃ s, (catN X k).length = s := ⟨_, rfl⟩
        have h20' : (catN X k).length ≤ 20 := by omega
        have HB20 := Lib.hid (fun j (hj : j < k) => (show n j ≤ 20 by have := catN_len X (show j + 1 ≤ k by omega); have e : (catN X (j + 1)).length = (catN X j).length + (X j).length := List.length_append; have := (HX.out j hj).1; omega))
        clear h20'
        rw [hs] at h20 h3 ⊢
        clear hs
        go_wp2
        go_loopw [31] (fun i wr => ∃ j : Nat, j ≤ k ∧ i = .int .i64 j ∧ Hid ((catN X j).all madeB = true) ∧ Hid (Below w.heap.size w wr)) (fun i _ => k - (intOf i).toNat)
        case atStart => exact ⟨0, Nat.zero_le _, rfl, Lib.hid rfl, Lib.hid (Below.refl _ _)⟩
        case round =>
          obtain ⟨j, hj, rfl, HA, HB⟩ := hrel
          by_cases hjk : j < k
          · have h1 := (HB.out.cell (p := ⟨lb, j, none⟩) (World.block_lt_of_cell? w _ (HL.out j hjk))).trans (HL.out j hjk)
            have h2 := HB20.out j hjk
            have HR := Lib.hid ((HX.out j hjk))
            obtain ⟨nj, hnj⟩ : ∃ nj, n j = nj := ⟨_, rfl⟩
            obtain ⟨Aj, hAj⟩ : ∃ Aj, A j = Aj := ⟨_, rfl⟩
            rw [hnj, hAj] at h1 HR
            rw [hnj] at h2
            clear hnj hAj
            have hln := HR.out.1
            obtain ⟨wq, hwq⟩ : ∃ wq, wq = wr := ⟨_, rfl⟩
            rw [← hwq] at h1 HB ⊢
            clear hwq
            go_wp2
            go_loopw [37] (fun i wr => ∃ p : Nat, p ≤ nj ∧ i = .int .i64 p ∧ Hid (((X j).take p).all madeB = true) ∧ Hid (Below w.heap.size w wr)) (fun i _ => nj - (intOf i).toNat)
            case atStart => exact ⟨0, Nat.zero_le _, rfl, Lib.hid rfl, HB⟩
            case round =>
              clear h1
              obtain ⟨p, hp, rfl, HP, HBr⟩ := hrel
              by_cases hpl : p < nj
              · have hkl : p < (X j).length := by omega
                obtain ⟨blk, off, rfl, hblk, hx⟩ := HR.out.2 (by omega)
                have hxx := (hx p hkl).below HBr.out hblk
                have HT := Lib.hid (all_take_succ hkl)
                have HN := Lib.hid (fun hb => all_not hkl hb)
                clear hx
                obtain ⟨x, hxe⟩ : ∃ x, (X j)[p] = x := ⟨_, rfl⟩
                rw [hxe] at hxx HT HN
                clear hxe
                have hsw := HBr.out.size
                obtain ⟨b, hb⟩ : ∃ b, madeB x = b := ⟨_, rfl⟩
                cases b with
                | true =>
                  have CM := fun wx => Lib.hid (made_any (x := x) (c := 0) (w := wx) (by unfold madeCode; rw [hb]; rfl))
                  have HT2 : Hid (((X j).take (p + 1)).all madeB = true) := Lib.hid (by rw [HT.out, HP.out, hb]; rfl)
                  clear hb HN HT
                  obtain ⟨s0, r0, m0, g0, l0, h0⟩ := x
                  obtain ⟨c0, c1, c2, c3, c4, c5⟩ := hxx
                  unfold mdV at CM
                  simp only at c0 c1 c2 c3 c4 c5 CM
                  go_wp2_with (go_at_call 23; refine Calls.mono (CM _).out ?_; rintro e w2 ⟨rfl, hb2⟩)
                  go_roundw
                  case rel => exact ⟨p + 1, by omega, by go_num, HT2, Lib.hid ((HBr.out.alloc (by omega) _).trans (hb2.mono (by simp; omega)))⟩
                  case measure => simp [intOf]; omega
                | false =>
                  have CM := fun wx => Lib.hid (made_any (x := x) (c := 2) (w := wx) (by unfold madeCode; rw [hb]; rfl))
                  have HV : Hid (madesCode (catN X k) = 2) := Lib.hid (by rw [HC.out, catN_all X hjk (HN.out hb)]; rfl)
                  clear hb HN HT
                  obtain ⟨s0, r0, m0, g0, l0, h0⟩ := x
                  obtain ⟨c0, c1, c2, c3, c4, c5⟩ := hxx
                  unfold mdV at CM
                  simp only at c0 c1 c2 c3 c4 c5 CM
                  go_wp2_with (go_at_call 23; refine Calls.mono (CM _).out ?_; rintro e w2 ⟨rfl, hb2⟩)
                  go_ret
                  exact ⟨ret_int HV.out.symm, (HBr.out.alloc (by omega) _).trans (hb2.mono (by simp; omega))⟩
              · have hpn : p = nj := by omega
                have HA2 : Hid ((catN X (j + 1)).all madeB = true) := Lib.hid (by
                  show (catN X j ++ X j).all madeB = true
                  have := HP.out
                  rw [List.take_of_length_le (by omega)] at this
                  rw [List.all_append, HA.out, this]; rfl)
                subst hpn
                go_wp2
                go_roundw
                case rel => exact ⟨j + 1, by omega, by go_num, HA2, HBr⟩
                case measure => simp [intOf]; omega
          · have hje : j = k := by omega
            have HV : Hid (madesCode (catN X k) = 0) := Lib.hid (by rw [HC.out]; subst hje; rw [HA.out]; rfl)
            subst hje
            go_wp2
            go_ret
            exact ⟨ret_int HV.out.symm, HB.out⟩
end Go.Proofs.Ytcjhodlimpgegaa
