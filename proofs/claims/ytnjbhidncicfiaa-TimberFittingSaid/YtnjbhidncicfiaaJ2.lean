/- Walks over the timber seat: the boards of which a blank can be cut, the program's question and choice. -/
import Derived.Test.YtnjbhidncicfiaaJ1
import Derived.Test.YtnjbhidncicfiaaMI2
import Derived.Test.YtnjbhidncicfiaaG1
namespace Go.Proofs.Ytnjbhidncicfiaa
open Go.Shelf Go.RowKit Go.Lib Go.Sort

def BkAt (w : World) (bb : Nat) (k : Bk) : Prop :=
  w.cell? ⟨bb, 0, none⟩ = some (.string k.nm) ∧ w.cell? ⟨bb, 1, none⟩ = some (.string k.sp) ∧ w.cell? ⟨bb, 2, none⟩ = some (.int .i64 k.ln) ∧ w.cell? ⟨bb, 3, none⟩ = some (.int .i64 k.wd) ∧ w.cell? ⟨bb, 4, none⟩ = some (.int .i64 k.th) ∧ w.cell? ⟨bb, 5, none⟩ = some (.int .i64 k.ct)
theorem BkAt.below {w w' : World} {B bb : Nat} {k : Bk} (h : BkAt w bb k) (hb : Below B w w') (hlt : bb < B) : BkAt w' bb k := by
  obtain ⟨h0, h1, h2, h3, h4, h5⟩ := h
  have kk : ∀ o, w'.cell? ⟨bb, o, none⟩ = w.cell? ⟨bb, o, none⟩ := fun o => hb.cell (p := ⟨bb, o, none⟩) hlt
  exact ⟨by rw [kk, h0], by rw [kk, h1], by rw [kk, h2], by rw [kk, h3], by rw [kk, h4], by rw [kk, h5]⟩

set_option maxHeartbeats 2000000 in
set_option maxRecDepth 20000 in
theorem fits_any {nm sp : ByteArray} {ln wd th cu mo : Int} {D : Option Addr} {dn dc : Nat} {ds : List Rc} {kn ks : ByteArray} {kl kw kt kc : Int} {v : Bool} {bb : Nat} (hb : BdOk ⟨nm, sp, ln, wd, th, cu, mo, ds⟩) (hv : fitB ⟨kn, ks, kl, kw, kt, kc⟩ ⟨nm, sp, ln, wd, th, cu, mo, ds⟩ = v) (hk : 1 ≤ kl) (w : World) (hd : RcRow w D dn ds) (hkk : BkAt w bb ⟨kn, ks, kl, kw, kt, kc⟩) (hlt : bb < w.heap.size) :
    Calls Try.prog 112 #[.agg #[.string nm, .string sp, .int .i64 ln, .int .i64 wd, .int .i64 th, .int .i64 cu, .int .i64 mo, .slice D dn dc], .pointer (some ⟨bb, 0, none⟩)] w fun e w' => e = .returned (.bool v) ∧ Below w.heap.size w w' := by
  have HV := Lib.hid hv
  have hBL : Below w.heap.size w (w.alloc (.cells #[.string nm, .string sp, .int .i64 ln, .int .i64 wd, .int .i64 th, .int .i64 cu, .int .i64 mo, .slice D dn dc] 34)) := (Below.refl _ _).alloc (Nat.le_refl _) _
  have hd1 := RcRow.below hd hBL
  obtain ⟨-, c1, c2, c3, c4, -⟩ := hkk
  simp only at c1 c2 c3 c4
  clear hv hd
  cases he : (sp.toList == ks.toList)
  · have hd : Hid (decide (sp = ks) = false) := Lib.hid (by rw [← string_eq]; exact he)
    have HVV : Hid (v = false) := Lib.hid (by rw [← HV.out]; unfold fitB; simp only [hd.out, cond_false])
    go_enter Try.func112, Try.ntmps112
    go_wp2
    go_ret
    exact ⟨ret_bool HVV.out.symm, hBL⟩
  · have hd : Hid (decide (sp = ks) = true) := Lib.hid (by rw [← string_eq]; exact he)
    by_cases h1 : th < kt
    · have HVV : Hid (v = false) := Lib.hid (by rw [← HV.out]; unfold fitB; simp only [hd.out, cond_true, decide_eq_true h1])
      go_enter Try.func112, Try.ntmps112
      go_wp2
      go_ret
      exact ⟨ret_bool HVV.out.symm, hBL⟩
    · by_cases h2 : ln < kl
      · have HVV : Hid (v = false) := Lib.hid (by rw [← HV.out]; unfold fitB; simp only [hd.out, cond_true, cond_false, decide_eq_false h1, decide_eq_true h2])
        go_enter Try.func112, Try.ntmps112
        go_wp2
        go_ret
        exact ⟨ret_bool HVV.out.symm, hBL⟩
      · have HVV : Hid (v = decide (kw ≤ wdt (widR ⟨nm, sp, ln, wd, th, cu, mo, ds⟩ kl))) := Lib.hid (by rw [← HV.out]; unfold fitB; simp only [hd.out, cond_true, cond_false, decide_eq_false h1, decide_eq_false h2])
        have WA := fun wx hbx => Lib.hid (widest_any (dc := dc) (q := kl) hb hk (by omega) wx (RcRow.below hd1 hbx))
        obtain ⟨hy0, hy1, hy2⟩ := widR_in hb (n := kl)
        have hww := hb.w1
        simp only at hy2 hww
        obtain ⟨⟨X1, Y1, X2, Y2⟩, hR⟩ : ∃ r, widR ⟨nm, sp, ln, wd, th, cu, mo, ds⟩ kl = r := ⟨_, rfl⟩
        rw [hR] at WA hy0 hy1 hy2 HVV
        simp only at WA hy0 hy1 hy2
        have HVW : Hid (v = decide (kw ≤ Y2 - Y1)) := HVV
        have hBB := Lib.hid hBL
        clear hb hd1 hR hd HV HVV hBL
        go_enter Try.func112, Try.ntmps112
        go_wp2_with (go_at_call 97; (refine Calls.mono (WA _ (Below.refl _ _)).out ?_); rintro e w1 ⟨rfl, hb1⟩; have hs1 : w.heap.size < w1.heap.size := (by have := hb1.size; (try simp at this); omega); have d3 : w1.cell? ⟨bb, 3, none⟩ = some (.int .i64 kw) := (hb1.cell (p := ⟨bb, 3, none⟩) (by simp; omega)).trans ((hBB.out.cell (p := ⟨bb, 3, none⟩) hlt).trans c3); have n1 : bb < w1.heap.size := (by omega); have n2 : bb ≠ w1.heap.size := (by omega))
        all_goals
          go_ret
          refine ⟨ret_bool ?_, hBB.out.trans ((hb1.alloc hb1.size _).mono (by simp))⟩
          first | exact HVW.out.symm | (rw [HVW.out]; done) | (rw [HVW.out]; first | rfl | (symm; simp; omega) | (simp; omega))

set_option maxHeartbeats 4000000 in
set_option maxRecDepth 20000 in
theorem choose_any {S : Option Addr} {sn sc : Nat} {bs : List Bd} {kn ks : ByteArray} {kl kw kt kc : Int} {bb : Nat} (hok : ∀ b ∈ bs, BdOk b) (hlen : bs.length ≤ 100) (hk : 1 ≤ kl) (w : World) (hs : BdRow w S sn bs) (hkk : BkAt w bb ⟨kn, ks, kl, kw, kt, kc⟩) (hlt : bb < w.heap.size) :
    Calls Try.prog 111 #[.slice S sn sc, .func (.func 112) #[] #[.pointer (some ⟨bb, 0, none⟩)]] w fun e w' => ∃ r : Value, e = .returned r ∧ w'.ownsRow w.heap.size 3 1 r (fitL ⟨kn, ks, kl, kw, kt, kc⟩ bs sn).length (intCells (fitL ⟨kn, ks, kl, kw, kt, kc⟩ bs sn)) ∧ Below w.heap.size w w' := by
  have hll := hs.1
  have HS := Lib.hid hs
  have HK := Lib.hid hkk
  have HOK := Lib.hid hok
  obtain ⟨i0, hi, hz0, hz1, hz2⟩ := info_parts info3
  clear hs hkk hok
  go_enter Try.func111, Try.ntmps111
  go_wp2
  go_loopw [5, 10] (fun ov i wr => ∃ k : Nat, k ≤ sn ∧ i = .int .i64 k ∧ wr.ownsRow w.heap.size 3 1 ov (fitL ⟨kn, ks, kl, kw, kt, kc⟩ bs k).length (intCells (fitL ⟨kn, ks, kl, kw, kt, kc⟩ bs k)) ∧ Below w.heap.size w wr) (fun _ i _ => sn - (intOf i).toNat)
  case atStart => exact ⟨0, Nat.zero_le _, rfl, ⟨rfl, .inl ⟨rfl, rfl⟩⟩, Below.refl _ _⟩
  case round =>
    obtain ⟨k, hk', rfl, hov, hbw⟩ := hrel
    have HB := Lib.hid hbw
    by_cases hlt2 : k < sn
    · have hkl : k < bs.length := by omega
      obtain ⟨blk, off, rfl, hblk, hx⟩ := (BdRow.below HS.out hbw).2 (by omega)
      have hxx := hx k hkl
      have hbok := HOK.out _ (List.getElem_mem hkl)
      have FY := fun h => Lib.hid (fit_yes (k := ⟨kn, ks, kl, kw, kt, kc⟩) hkl h)
      have FN := fun h => Lib.hid (fit_no (k := ⟨kn, ks, kl, kw, kt, kc⟩) hkl h)
      have hfl := fit_len (k := ⟨kn, ks, kl, kw, kt, kc⟩) (bs := bs) k
      have hkk := HK.out.below hbw hlt
      have hltr : bb < wr.heap.size := Nat.lt_of_lt_of_le hlt hbw.size
      clear hx
      obtain ⟨b, hbe⟩ : ∃ b, bs[k] = b := ⟨_, rfl⟩
      rw [hbe] at hxx hbok FY FN
      obtain ⟨tk, htk⟩ : ∃ tk, fitL ⟨kn, ks, kl, kw, kt, kc⟩ bs k = tk := ⟨_, rfl⟩
      rw [htk] at hov FY FN hfl
      clear hbe hbw htk
      obtain ⟨nm, sp, ln, wd, th, cu, mo, ds⟩ := b
      obtain ⟨D, dn, dc, ⟨c0, c1, c2, c3, c4, c5, c6, c7⟩, ⟨hn1, hn2, hdn, -⟩, hrc⟩ := hxx
      simp only at c0 c1 c2 c3 c4 c5 c6 c7 hn1 hn2 hrc
      cases hf : fitB ⟨kn, ks, kl, kw, kt, kc⟩ ⟨nm, sp, ln, wd, th, cu, mo, ds⟩
      · have HF := FN hf
        have FA := fun wx (hbx : Below wr.heap.size wr wx) => Lib.hid (fits_any (dc := dc) (bb := bb) hbok hf hk wx (RcRow.below hrc hbx) (hkk.below hbx hltr) (Nat.lt_of_lt_of_le hltr hbx.size))
        clear FY FN hf hbok hrc hkk
        go_wp2_with (go_at_call 112; (refine Calls.mono (FA _ ((Below.refl wr.heap.size wr).alloc (Nat.le_refl _) _)).out ?_); rintro e w1 ⟨rfl, hb1⟩; have hBW1 : Below wr.heap.size wr w1 := (((Below.refl wr.heap.size wr).alloc (Nat.le_refl _) _).trans (hb1.mono (by first | omega | simp))))
        go_roundw
        case rel => exact ⟨k + 1, by omega, by go_num, by rw [HF.out]; exact own_kept hov hBW1, HB.out.trans (hBW1.mono HB.out.size)⟩
        case measure => simp [intOf]; omega
      · have HF := FY hf
        have FA := fun wx (hbx : Below wr.heap.size wr wx) => Lib.hid (fits_any (dc := dc) (bb := bb) hbok hf hk wx (RcRow.below hrc hbx) (hkk.below hbx hltr) (Nat.lt_of_lt_of_le hltr hbx.size))
        clear FY FN hf hbok hrc hkk
        go_wp2_with (first | (go_at_call 112; (refine Calls.mono (FA _ ((Below.refl wr.heap.size wr).alloc (Nat.le_refl _) _)).out ?_); rintro e w1 ⟨rfl, hb1⟩; have hBW1 : Below wr.heap.size wr w1 := (((Below.refl wr.heap.size wr).alloc (Nat.le_refl _) _).trans (hb1.mono (by first | omega | simp))); have hov1 := own_kept hov hBW1; have hsz1 := hBW1.size; have hsz0 : w.heap.size ≤ w1.heap.size := Nat.le_trans HB.out.size hBW1.size) | (at_builtin; refine wpList_append_own_at _ rfl _ _ 117 rfl w.heap.size 3 i0 (.int .i64 0) 1 8 Try.underlying117 hi hz0 hz1 hz2 rfl (by decide) _ _ _ rfl (hov1.alloc _) ⟨w1.heap.size, 0, none⟩ 1 1 [.int .i64 k] rfl rfl (by first | exact cell_one_new _ _ _ | (intro j u h; match j, h with | 0, h => simp at h; subst h; simp [Addr.add, go_sem])) (by intro u hu; simp at hu; subst hu; rfl) (by unfold maxLen; omega) (by omega) (by first | omega | (simp; omega)) ?_; intro v3 w3 hown3 hgrow3 hnil3 hloc3))
        all_goals
          go_roundw
          case rel =>
            refine ⟨k + 1, by omega, by go_num, ?_, ?_⟩
            · rw [HF.out, List.length_append]; simpa [intCells] using hown3
            · have h5 := HB.out.trans (hBW1.mono HB.out.size)
              exact (h5.alloc (by have := h5.size; omega) _).grown hgrow3 (by have := h5.size; simp; omega) (fun j hj => own_ge hov j hj)
          case measure => first | (simp [intOf]; done) | (simp [intOf]; omega)
    · have hk'' : k = sn := by omega
      subst hk''
      go_wp2
      go_ret
      exact ⟨_, rfl, hov, HB.out⟩
end Go.Proofs.Ytnjbhidncicfiaa
