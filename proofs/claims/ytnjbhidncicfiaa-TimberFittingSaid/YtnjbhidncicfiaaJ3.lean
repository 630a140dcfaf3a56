/- Walks over the timber seat: the boards of which a blank can be cut, the reference's choice; lists of numbers. -/
import Derived.Test.YtnjbhidncicfiaaJ2
import Derived.Test.YtnjbhidncicfiaaG2
namespace Go.Proofs.Ytnjbhidncicfiaa
open Go.Shelf Go.RowKit Go.Lib Go.Sort

set_option maxHeartbeats 8000000 in
set_option maxRecDepth 20000 in
theorem rfits_any {S : Option Addr} {sn sc : Nat} {bs : List Bd} {kn ks : ByteArray} {kl kw kt kc : Int} (hok : ∀ b ∈ bs, BdOk b) (hlen : bs.length ≤ 100) (hk : 1 ≤ kl) (hkw : 1 ≤ kw) (w : World) (hs : BdRow w S sn bs) :
    Calls Try.prog 71 #[.slice S sn sc, .agg #[.string kn, .string ks, .int .i64 kl, .int .i64 kw, .int .i64 kt, .int .i64 kc]] w fun e w' => ∃ r : Value, e = .returned r ∧ w'.ownsRow w.heap.size 3 1 r (fitL ⟨kn, ks, kl, kw, kt, kc⟩ bs sn).length (intCells (fitL ⟨kn, ks, kl, kw, kt, kc⟩ bs sn)) ∧ Below w.heap.size w w' := by
  have hll := hs.1
  have hBL : Below w.heap.size w (w.alloc (.cells #[.string kn, .string ks, .int .i64 kl, .int .i64 kw, .int .i64 kt, .int .i64 kc] 116)) := (Below.refl _ _).alloc (Nat.le_refl _) _
  have HS := Lib.hid (BdRow.below hs hBL)
  have HBL := Lib.hid hBL
  have hkk : BkAt (w.alloc (.cells #[.string kn, .string ks, .int .i64 kl, .int .i64 kw, .int .i64 kt, .int .i64 kc] 116)) w.heap.size ⟨kn, ks, kl, kw, kt, kc⟩ := by refine ⟨?_, ?_, ?_, ?_, ?_, ?_⟩ <;> simp [go_sem]
  have HK := Lib.hid hkk
  have HOK := Lib.hid hok
  obtain ⟨i0, hi, hz0, hz1, hz2⟩ := info_parts info3
  clear hs hok hBL hkk
  go_enter Try.func71, Try.ntmps71
  go_wp2
  go_loopw [5, 6] (fun ov i wr => ∃ k : Nat, k ≤ sn ∧ i = .int .i64 k ∧ wr.ownsRow (w.heap.size + 1) 3 1 ov (fitL ⟨kn, ks, kl, kw, kt, kc⟩ bs k).length (intCells (fitL ⟨kn, ks, kl, kw, kt, kc⟩ bs k)) ∧ Below (w.alloc (.cells #[.string kn, .string ks, .int .i64 kl, .int .i64 kw, .int .i64 kt, .int .i64 kc] 116)).heap.size (w.alloc (.cells #[.string kn, .string ks, .int .i64 kl, .int .i64 kw, .int .i64 kt, .int .i64 kc] 116)) wr) (fun _ i _ => sn - (intOf i).toNat)
  case atStart => exact ⟨0, Nat.zero_le _, rfl, ⟨rfl, .inl ⟨rfl, rfl⟩⟩, Below.refl _ _⟩
  case round =>
    obtain ⟨k, hk', rfl, hov, hbw⟩ := hrel
    have HB := Lib.hid hbw
    by_cases hlt2 : k < sn
    · have hkl : k < bs.length := by omega
      obtain ⟨blk, off, rfl, hblk, hx⟩ := (BdRow.below HS.out hbw).2 (by omega)
      have hxx := hx k hkl
      have hbok := HOK.out _ (List.getElem_mem hkl)
      have FY := fun h => Lib.hid (fit_yes (k := ⟨kn, ks, kl, kw, kt, kc⟩) hkl h)
      have FN := fun h => Lib.hid (fit_no (k := ⟨kn, ks, kl, kw, kt, kc⟩) hkl h)
      have hfl := fit_len (k := ⟨kn, ks, kl, kw, kt, kc⟩) (bs := bs) k
      have hltr : w.heap.size < wr.heap.size := by have := hbw.size; simp at this; omega
      obtain ⟨-, m1, m2, m3, m4, -⟩ := HK.out.below hbw (by simp)
      simp only at m1 m2 m3 m4
      clear hx
      obtain ⟨b, hbe⟩ : ∃ b, bs[k] = b := ⟨_, rfl⟩
      rw [hbe] at hxx hbok FY FN
      obtain ⟨tk, htk⟩ : ∃ tk, fitL ⟨kn, ks, kl, kw, kt, kc⟩ bs k = tk := ⟨_, rfl⟩
      rw [htk] at hov FY FN hfl
      clear hbe hbw htk
      obtain ⟨nm, sp, ln, wd, th, cu, mo, ds⟩ := b
      obtain ⟨D, dn, dc, ⟨c0, c1, c2, c3, c4, c5, c6, c7⟩, ⟨hn1, hn2, hdn, -⟩, hrc⟩ := hxx
      simp only at c0 c1 c2 c3 c4 c5 c6 c7 hn1 hn2 hrc
      have hneb : w.heap.size ≠ wr.heap.size := by omega
      have hov1 := fun W (h : Below wr.heap.size wr W) => own_kept hov h
      cases he : (sp.toList == ks.toList)
      · have hd : Hid (decide (sp = ks) = false) := Lib.hid (by rw [← string_eq]; exact he)
        have HF := FN (by unfold fitB; simp only [hd.out, cond_false])
        clear FY FN hbok hrc
        go_wp2
        go_roundw
        case rel => exact ⟨k + 1, by omega, by go_num, by rw [HF.out]; exact hov1 _ ((Below.refl _ _).alloc (Nat.le_refl _) _), HB.out.trans (((Below.refl _ _).alloc (Nat.le_refl _) _).mono HB.out.size)⟩
        case measure => simp [intOf]; omega
      · have hd : Hid (decide (sp = ks) = true) := Lib.hid (by rw [← string_eq]; exact he)
        by_cases h1 : th < kt
        · have HF := FN (by unfold fitB; simp only [hd.out, cond_true, decide_eq_true h1])
          clear FY FN hbok hrc
          go_wp2
          go_roundw
          case rel => exact ⟨k + 1, by omega, by go_num, by rw [HF.out]; exact hov1 _ ((Below.refl _ _).alloc (Nat.le_refl _) _), HB.out.trans (((Below.refl _ _).alloc (Nat.le_refl _) _).mono HB.out.size)⟩
          case measure => simp [intOf]; omega
        · by_cases h2 : ln < kl
          · have HF := FN (by unfold fitB; simp only [hd.out, cond_true, cond_false, decide_eq_false h1, decide_eq_true h2])
            clear FY FN hbok hrc
            go_wp2
            go_roundw
            case rel => exact ⟨k + 1, by omega, by go_num, by rw [HF.out]; exact hov1 _ ((Below.refl _ _).alloc (Nat.le_refl _) _), HB.out.trans (((Below.refl _ _).alloc (Nat.le_refl _) _).mono HB.out.size)⟩
            case measure => simp [intOf]; omega
          · obtain ⟨hy0, hy1, hy2⟩ := widR_in hbok (n := kl)
            have hww := hbok.w1
            simp only at hy2 hww
            obtain ⟨⟨X1, Y1, X2, Y2⟩, hR⟩ : ∃ r, widR ⟨nm, sp, ln, wd, th, cu, mo, ds⟩ kl = r := ⟨_, rfl⟩
            have FV : Hid (fitB ⟨kn, ks, kl, kw, kt, kc⟩ ⟨nm, sp, ln, wd, th, cu, mo, ds⟩ = decide (kw ≤ Y2 - Y1)) := Lib.hid (by unfold fitB; simp only [hd.out, cond_true, cond_false, decide_eq_false h1, decide_eq_false h2, hR]; rfl)
            rw [hR] at hy0 hy1 hy2
            simp only at hy0 hy1 hy2
            obtain ⟨fb, hfb⟩ : ∃ fb, decide (0 < Y2 - Y1) = fb := ⟨_, rfl⟩
            have WA := fun wx (hbx : Below wr.heap.size wr wx) => Lib.hid (widRef_any (dc := dc) (q := kl) hbok hk (by omega) hR hfb wx (RcRow.below hrc hbx))
            have HFB := Lib.hid hfb
            clear hbok hrc hR hd hfb
            by_cases h3 : kw ≤ Y2 - Y1
            · have hfb1 : fb = true := by rw [← HFB.out]; exact decide_eq_true (by omega)
              subst hfb1
              have HF := FY (by rw [FV.out]; exact decide_eq_true h3)
              clear FY FN
              go_wp2_with (first | (go_at_call 54; (refine Calls.mono (WA _ ((Below.refl wr.heap.size wr).alloc (Nat.le_refl _) _)).out ?_); rintro e w1 ⟨rfl, hb1⟩; have hBW1 : Below wr.heap.size wr w1 := (((Below.refl wr.heap.size wr).alloc (Nat.le_refl _) _).trans (hb1.mono (by first | omega | simp))); have hov2 := hov1 _ hBW1; have hsz1 := hBW1.size; have hsz0 : w.heap.size + 1 ≤ w1.heap.size := (by have := HB.out.size; simp at this; omega); have d3 : w1.cell? ⟨w.heap.size, 3, none⟩ = some (.int .i64 kw) := (hBW1.cell (p := ⟨w.heap.size, 3, none⟩) hltr).trans m3; have n1 : w.heap.size < w1.heap.size := (by omega); have n2 : w.heap.size ≠ w1.heap.size := (by omega)) | (at_builtin; refine wpList_append_own_at _ rfl _ _ 117 rfl (w.heap.size + 1) 3 i0 (.int .i64 0) 1 8 Try.underlying117 hi hz0 hz1 hz2 rfl (by decide) _ _ _ rfl ((hov2.alloc _).alloc _) ⟨w1.heap.size + 1, 0, none⟩ 1 1 [.int .i64 k] rfl rfl (by first | exact cell_one_new _ _ _ | (intro j u h; match j, h with | 0, h => simp at h; subst h; simp [Addr.add, go_sem])) (by intro u hu; simp at hu; subst hu; rfl) (by unfold maxLen; omega) (by omega) (by first | omega | (simp; omega)) ?_; intro v3 w3 hown3 hgrow3 hnil3 hloc3))
              all_goals
                go_roundw
                case rel =>
                  refine ⟨k + 1, by omega, by go_num, ?_, ?_⟩
                  · rw [HF.out, List.length_append]; simpa [intCells] using hown3
                  · have h5 := HB.out.trans (hBW1.mono HB.out.size)
                    have h6 := h5.size
                    have h7 := h5.alloc h5.size (.cells #[.int .i64 X1, .int .i64 Y1, .int .i64 X2, .int .i64 Y2] 75)
                    exact (h7.alloc h7.size _).grown hgrow3 (by have := h7.size; simp at this ⊢; omega) (fun j hj => by have := own_ge hov j hj; simp; omega)
                case measure => first | (simp [intOf]; done) | (simp [intOf]; omega)
            · have HF := FN (by rw [FV.out]; exact decide_eq_false h3)
              clear FY FN
              cases fb
              all_goals
                go_wp2_with (go_at_call 54; (refine Calls.mono (WA _ ((Below.refl wr.heap.size wr).alloc (Nat.le_refl _) _)).out ?_); rintro e w1 ⟨rfl, hb1⟩; have hBW1 : Below wr.heap.size wr w1 := (((Below.refl wr.heap.size wr).alloc (Nat.le_refl _) _).trans (hb1.mono (by first | omega | simp))); have hov2 := hov1 _ hBW1; have hsz1 := hBW1.size; have d3 : w1.cell? ⟨w.heap.size, 3, none⟩ = some (.int .i64 kw) := (hBW1.cell (p := ⟨w.heap.size, 3, none⟩) hltr).trans m3; have n1 : w.heap.size < w1.heap.size := (by omega); have n2 : w.heap.size ≠ w1.heap.size := (by omega))
                go_roundw
                case rel =>
                  have h5 := HB.out.trans (hBW1.mono HB.out.size)
                  exact ⟨k + 1, by omega, by go_num, by rw [HF.out]; exact hov2.alloc _, h5.alloc h5.size _⟩
                case measure => simp [intOf]; omega
    · have hk'' : k = sn := by omega
      subst hk''
      go_wp2
      go_ret
      exact ⟨_, rfl, ⟨hov.1, hov.2.imp id fun ⟨g, cap, cur, h1, h2, h3⟩ => ⟨g, cap, cur, h1, by omega, h3⟩⟩, HBL.out.trans (HB.out.mono (by simp))⟩

set_option maxHeartbeats 2000000 in
theorem ints_any {b1 b2 : Nat} {u v : Value} {zs : List Int} (w : World) (hu : w.ownsRow b1 3 1 u zs.length (intCells zs)) (hv : w.ownsRow b2 3 1 v zs.length (intCells zs)) :
    Calls Try.prog 70 #[u, v] w fun e w' => e = .returned (.bool true) ∧ ∃ q, w' = w.drewN q := by
  obtain ⟨pu, cu, eu⟩ := own_sl1 hu
  obtain ⟨pv, cv, ev⟩ := own_sl1 hv
  have HU := Lib.hid hu
  have HV := Lib.hid hv
  subst eu ev
  obtain ⟨n, hn⟩ : ∃ n, zs.length = n := ⟨_, rfl⟩
  have hmx : n ≤ 9223372036854775807 := by
    by_cases h0 : n = 0
    · omega
    · obtain ⟨g, cap, -, -, -, h1, h2, -⟩ := own_int hu rfl (by omega)
      unfold maxLen at h2; omega
  rw [hn]
  have HN := Lib.hid hn
  clear hu hv hn
  go_enter Try.func70, Try.ntmps70
  go_wp2
  go_loopw [5] (fun i wr => ∃ k : Nat, k ≤ n ∧ i = .int .i64 k ∧ ∃ q, wr = w.drewN q) (fun i _ => n - (intOf i).toNat)
  case atStart => exact ⟨0, Nat.zero_le _, rfl, 0, rfl⟩
  case round =>
    obtain ⟨k, hk, rfl, q, rfl⟩ := hrel
    by_cases hlt : k < n
    · have hkz : k < zs.length := by have := HN.out; omega
      have hkj : (k : Int) < n := by omega
      obtain ⟨g1, cap1, e1, -, hg1, -, -, hc1⟩ := own_int HU.out rfl (by omega)
      obtain ⟨g2, cap2, e2, -, hg2, -, -, hc2⟩ := own_int HV.out rfl (by omega)
      injection e1 with e11 _ e13
      injection e2 with e21 _ e23
      subst e11 e13 e21 e23
      have c1 := hc1 k hkz
      have c2 := hc2 k hkz
      obtain ⟨z, hz⟩ : ∃ z, zs[k] = z := ⟨_, rfl⟩
      rw [hz] at c1 c2
      clear hz hc1 hc2
      go_wp2
      go_quiet (fail)
      go_wp2
      go_roundw
      case rel => exact ⟨k + 1, by omega, by go_num, _, rfl⟩
      case measure => simp [intOf]; omega
    · have hk' : k = n := by omega
      go_wp2
      go_ret
      exact ⟨rfl, _, rfl⟩
end Go.Proofs.Ytnjbhidncicfiaa
