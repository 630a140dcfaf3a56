/- Walks over the fits: the law of checks. -/
import Derived.Test.YtcjhodlimpgegaaGY
import Derived.Test.YtcjhodlimpgegaaFY
import Derived.Test.YtcjhodlimpgegaaFV
namespace Go.Proofs.Ytcjhodlimpgegaa
open Go.RowKit Go.Maps

set_option maxHeartbeats 2000000 in
set_option maxRecDepth 20000 in
theorem fitChecks_out {f : List Ft} {l : List Sn} {S T : Option Addr} {n c m d : Nat} (h : slB f = false ∨ snBound l = false) (hn : n ≤ maxLen) (hm : m ≤ maxLen) (w : World) (hF : FtRow w.heap.size w S n f) (hS : SnRow w T m l) :
    Calls Try.prog 3 #[.slice S n c, .slice T m d] w fun e w' => e = .returned (.bool true) ∧ Below w.heap.size w w' := by
  have HF := Lib.hid (fun wx (hb : Below w.heap.size w wx) => FtRow.below hF hb)
  have HS := Lib.hid (fun wx (hb : Below w.heap.size w wx) => hS.below hb)
  have HL := Lib.hid hF.lens
  have up : ∀ wx, Below w.heap.size w wx → FtRow wx.heap.size wx S n f := fun wx hb => RowOf.keep (HF.out wx hb) hb.size (fun blk off x hlt hx => by
    obtain ⟨A, p, c, A', p', c', h0, h1, h2, h3, h4, h5, h6, h7⟩ := hx
    exact ⟨A, p, c, A', p', c', h0, h1, h2, h3, h4, mdRow_up h5 hb.size, mdRow_up h6 hb.size, h7⟩)
  have UP := Lib.hid up
  clear hF hS up
  cases h1 : slB f
  · have SB := Lib.hid (fun wx (hb : Below w.heap.size w wx) => slights_law (d := c) h1 hn wx (UP.out wx hb) HL.out)
    clear h h1
    go_enter Try.func3, Try.ntmps3
    go_wp2_with (first | (go_at_call 8; refine Calls.mono (awake_any _) ?_; rintro e w1 ⟨rfl, hb1⟩) | (go_at_call 9; refine Calls.mono (SB.out _ hb1) ?_; rintro e w2 ⟨rfl, hb2⟩))
    go_ret
    exact ⟨rfl, hb1.trans (hb2.mono hb1.size)⟩
  · have SB := Lib.hid (fun wx (hb : Below w.heap.size w wx) => slights_law (d := c) h1 hn wx (UP.out wx hb) HL.out)
    have h2 : snBound l = false := by rcases h with h | h; (rw [h1] at h; cases h); exact h
    have NB := Lib.hid (fun wx (hb : Below w.heap.size w wx) => seasons_law (d := d) h2 hm wx (HS.out wx hb))
    clear h h1 h2
    go_enter Try.func3, Try.ntmps3
    go_wp2_with (first | (go_at_call 8; refine Calls.mono (awake_any _) ?_; rintro e w1 ⟨rfl, hb1⟩) | (go_at_call 9; refine Calls.mono (SB.out _ hb1) ?_; rintro e w2 ⟨rfl, hb2⟩; have hB2 := hb1.trans (hb2.mono hb1.size)) | (go_at_call 10; refine Calls.mono (NB.out _ hB2) ?_; rintro e w3 ⟨rfl, rfl⟩))
    go_ret
    exact ⟨rfl, hB2⟩
set_option maxHeartbeats 4000000 in
set_option maxRecDepth 20000 in
theorem fitChecks_in {f : List Ft} {l : List Sn} {S T : Option Addr} {n c m d : Nat} (h1 : slB f = true) (h2 : snBound l = true) (hn : n ≤ maxLen) (hm : m ≤ maxLen) (w : World) (hF : FtRow w.heap.size w S n f) (hS : SnRow w T m l) :
    Calls Try.prog 3 #[.slice S n c, .slice T m d] w fun e w' => e = .returned (.bool true) ∧ Below w.heap.size w w' := by
  have hln := hF.1
  have hn65 : n ≤ 65 := by rw [← hln]; exact (slB_ok h1).1
  have HSM := Lib.hid (slB_ok h1).2
  have hsl : ∀ x ∈ f, x.f.o.length ≤ 1000000 ∧ x.f.i.length ≤ 1000000 := fun x hx => by have := HSM.out x hx; omega
  have HF := Lib.hid (fun wx (hb : Below w.heap.size w wx) => FtRow.below hF hb)
  have HS := Lib.hid (fun wx (hb : Below w.heap.size w wx) => hS.below hb)
  have up : ∀ wx, Below w.heap.size w wx → FtRow wx.heap.size wx S n f := fun wx hb => RowOf.keep (HF.out wx hb) hb.size (fun blk off x hlt hx => by
    obtain ⟨A, p, c, A', p', c', h0, h1, h2, h3, h4, h5, h6, h7⟩ := hx
    exact ⟨A, p, c, A', p', c', h0, h1, h2, h3, h4, mdRow_up h5 hb.size, mdRow_up h6 hb.size, h7⟩)
  have UP := Lib.hid up
  have HL := Lib.hid hF.lens
  have HR := Lib.hid hF
  have SB := Lib.hid (fun wx (hb : Below w.heap.size w wx) => slights_law (d := c) h1 hn wx (UP.out wx hb) HL.out)
  have NB := Lib.hid (fun wx (hb : Below w.heap.size w wx) => seasons_law (d := d) h2 hm wx (HS.out wx hb))
  obtain ⟨fc, hfc⟩ : ∃ fc, ftsCode f = fc := ⟨_, rfl⟩
  obtain ⟨sc, hsc⟩ : ∃ sc, snsCode l = sc := ⟨_, rfl⟩
  have C1 := Lib.hid (fun wx (hb : Below w.heap.size w wx) => checkFits_any (d := c) hfc hn hsl wx (UP.out wx hb))
  have C2 := Lib.hid (fun wx (hb : Below w.heap.size w wx) => rfits_any (d := c) hfc hn hsl wx (UP.out wx hb))
  have C3 := Lib.hid (fun wx (hb : Below w.heap.size w wx) => checkSeasons_any (d := d) hsc hm wx (HS.out wx hb))
  have C4 := Lib.hid (fun wx (hb : Below w.heap.size w wx) => rseasons_any (d := d) hsc hm wx (HS.out wx hb))
  clear hF hS up hsl h1 h2 hfc hsc
  have hn' : n ≤ 9223372036854775807 := Nat.le_trans hn (by decide)
  go_enter Try.func3, Try.ntmps3
  go_wp2_with (first | (go_at_call 8; refine Calls.mono (awake_any _) ?_; rintro e w1 ⟨rfl, hb1⟩) | (go_at_call 9; refine Calls.mono (SB.out _ hb1) ?_; rintro e w2 ⟨rfl, hb2⟩; have hB2 := hb1.trans (hb2.mono hb1.size)) | (go_at_call 10; refine Calls.mono (NB.out _ hB2) ?_; rintro e w3 ⟨rfl, rfl⟩) | (go_at_call 11; refine Calls.mono (C1.out _ hB2) ?_; rintro e w4 ⟨rfl, hb4⟩; have hB4 := hB2.trans (hb4.mono hB2.size)) | (go_at_call 12; refine Calls.mono (C2.out _ hB4) ?_; rintro e w5 ⟨rfl, hb5⟩; have hB5 := hB4.trans (hb5.mono hB4.size)) | (go_at_call 13; refine Calls.mono (C3.out _ hB5) ?_; rintro e w6 ⟨rfl, hb6⟩; have hB6 := hB5.trans (hb6.mono hB5.size)) | (go_at_call 14; refine Calls.mono (C4.out _ hB6) ?_; rintro e w7 ⟨rfl, hb7⟩; have hB7 := hB6.trans (hb7.mono hB6.size)))
  have HB7 := Lib.hid hB7
  clear hb1 hb2 hB2 hb4 hB4 hb5 hB5 hb6 hB6 hb7 hB7 C1 C2 C3 C4 SB NB
  go_loopw [5] (fun i wr => ∃ k : Nat, k ≤ n ∧ k ≤ 4 ∧ i = .int .i64 k ∧ Hid (Below w.heap.size w wr)) (fun i _ => 4 - (intOf i).toNat)
  case atStart => exact ⟨0, Nat.zero_le _, Nat.zero_le _, rfl, HB7⟩
  case round =>
    obtain ⟨k, hk, hk4, rfl, HB⟩ := hrel
    by_cases hlt : k < n ∧ k < 4
    · obtain ⟨hlt, hlt4⟩ := hlt
      have hkl : k < f.length := by omega
      obtain ⟨blk, off, rfl, hblk, hx⟩ := HR.out.2 (by omega)
      have hxx := hx k hkl
      have hsm := HSM.out f[k] (List.getElem_mem hkl)
      clear hx
      obtain ⟨x, hxe⟩ : ∃ x, f[k] = x := ⟨_, rfl⟩
      rw [hxe] at hxx hsm
      clear hxe
      obtain ⟨nm, F⟩ := x
      obtain ⟨A, p, c0, A', p', c0', q0, q1, q2, q3, q4, qo, qi, hsz, -⟩ := hxx
      simp only at q0 q1 q2 q3 q4 qo qi hsz hsm
      have hpp : p ≤ 1000000 := by have := qo.1; omega
      have hpp' : p' ≤ 1000000 := by have := qi.1; omega
      have KC := Lib.hid (fun wx (hb : Below w.heap.size w wx) => (show wx.cell? ⟨blk, off + k * 5, none⟩ = some (.string nm) ∧ wx.cell? ⟨blk, off + k * 5 + 1, none⟩ = some (.slice A p c0) ∧ wx.cell? ⟨blk, off + k * 5 + 2, none⟩ = some (.slice A' p' c0') ∧ wx.cell? ⟨blk, off + k * 5 + 3, none⟩ = some (.int .i64 F.le) ∧ wx.cell? ⟨blk, off + k * 5 + 4, none⟩ = some (.int .i64 F.mo) from
        ⟨(hb.cell (p := ⟨blk, off + k * 5, none⟩) hblk).trans q0, (hb.cell (p := ⟨blk, off + k * 5 + 1, none⟩) hblk).trans q1, (hb.cell (p := ⟨blk, off + k * 5 + 2, none⟩) hblk).trans q2, (hb.cell (p := ⟨blk, off + k * 5 + 3, none⟩) hblk).trans q3, (hb.cell (p := ⟨blk, off + k * 5 + 4, none⟩) hblk).trans q4⟩))
      have MR := Lib.hid (fun wx (hb : Below w.heap.size w wx) => And.intro (mdRow_up (mdRow_keep qo hb) hb.size) (mdRow_up (mdRow_keep qi hb) hb.size))
      clear q0 q1 q2 q3 q4 qo qi hsm
      obtain ⟨q0, q1, q2, q3, q4⟩ := KC.out wr HB.out
      obtain ⟨wq, hwq⟩ : ∃ wq, wq = wr := ⟨_, rfl⟩
      rw [← hwq] at q0 q1 q2 q3 q4 HB ⊢
      clear hwq
      have hHB := HB.out
      obtain ⟨cd, hcd⟩ : ∃ cd, fitCode nm F = cd := ⟨_, rfl⟩
      have CF := Lib.hid (fun wx (hb : Below w.heap.size w wx) => checkFit_any (c := c0) (c' := c0') hcd hsz hpp hpp' wx (MR.out wx hb).1 (MR.out wx hb).2)
      have RF := Lib.hid (fun wx (hb : Below w.heap.size w wx) => rfit_any (c := c0) (c' := c0') hcd hsz hpp hpp' wx (MR.out wx hb).1 (MR.out wx hb).2)
      by_cases h0 : cd = 0
      · subst h0
        have GS := Lib.hid (fun wx (hb : Below w.heap.size w wx) => groups_any (c := c0) (c' := c0') hcd hsz wx (MR.out wx hb).1 (MR.out wx hb).2)
        have RG := Lib.hid (fun wx (hb : Below w.heap.size w wx) => rgroups_any (nm := nm) (c := c0) (c' := c0') (le := F.le) (mo := F.mo) hpp hpp' wx (MR.out wx hb).1 (MR.out wx hb).2)
        have GL := gsOf_length (F.o ++ F.i)
        have IN := Lib.hid (fun wx G gc G2 gc2 (h1 : IntsAt wx G (gsOf (F.o ++ F.i))) (h2 : IntsAt wx G2 (gsOf (F.o ++ F.i))) => ints_any (c := gc) (d := gc2) rfl rfl (by omega) (by omega) wx h1 h2)
        simp only [decide_true] at IN
        clear hcd MR
        unfold ftV at CF RF GS RG
        obtain ⟨N, hN⟩ : ∃ N, (gsOf (F.o ++ F.i)).length = N := ⟨_, rfl⟩
        simp only [hN] at GS RG IN GL
        clear hN
        go_wp2_with (first | (go_at_call 15; refine Calls.mono (GS.out _ hHB) ?_; rintro e w2 ⟨G, gc, rfl, hG, hb2⟩; have hB2 := hHB.trans (hb2.mono hHB.size); obtain ⟨r0, r1, r2, r3, r4⟩ := KC.out w2 hB2) | (go_at_call 16; refine Calls.mono (RF.out _ hB2) ?_; rintro e w3 ⟨rfl, hb3⟩; have hB3 := hB2.trans (hb3.mono hB2.size); obtain ⟨s0, s1, s2, s3, s4⟩ := KC.out w3 hB3) | (go_at_call 17; refine Calls.mono (CF.out _ hB3) ?_; rintro e w4 ⟨rfl, hb4⟩; have hB4 := hB3.trans (hb4.mono hB3.size); obtain ⟨t0, t1, t2, t3, t4⟩ := KC.out w4 hB4) | (go_at_call 19; refine Calls.mono (RG.out _ hB4) ?_; rintro e w5 ⟨G2, gc2, rfl, hG2, hb5⟩; have hB5 := hB4.trans (hb5.mono hB4.size)) | (go_at_call 18; refine Calls.mono (IN.out _ _ _ _ _ (((hG.below hb3).below hb4).below hb5) hG2) ?_; rintro e w6 ⟨rfl, hb6⟩; have hB6 := hB5.trans (hb6.mono hB5.size)))
        go_roundw
        case rel => exact ⟨k + 1, by omega, by omega, by go_num, Lib.hid hB6⟩
        case measure => simp [intOf]; omega
      · have GS := Lib.hid (fun wx (hb : Below w.heap.size w wx) => groups_bad (c := c0) (c' := c0') hcd h0 hsz hpp hpp' wx (MR.out wx hb).1 (MR.out wx hb).2)
        have hcb : (cd == 0) = false := beq_eq_false_iff_ne.2 h0
        have hcb' : (cd != 0) = true := bne_iff_ne.2 h0
        clear hcd MR
        unfold ftV at CF RF GS
        go_wp2_with (first | (go_at_call 15; refine Calls.mono (GS.out _ hHB) ?_; rintro e w2 ⟨rfl, hb2⟩; have hB2 := hHB.trans (hb2.mono hHB.size); obtain ⟨r0, r1, r2, r3, r4⟩ := KC.out w2 hB2) | (go_at_call 16; refine Calls.mono (RF.out _ hB2) ?_; rintro e w3 ⟨rfl, hb3⟩; have hB3 := hB2.trans (hb3.mono hB2.size); obtain ⟨s0, s1, s2, s3, s4⟩ := KC.out w3 hB3) | (go_at_call 17; refine Calls.mono (CF.out _ hB3) ?_; rintro e w4 ⟨rfl, hb4⟩; have hB4 := hB3.trans (hb4.mono hB3.size)))
        go_roundw
        case rel => exact ⟨k + 1, by omega, by omega, by go_num, Lib.hid hB4⟩
        case measure => simp [intOf]; omega
    · by_cases hkn : k < n
      · have hk' : k = 4 := by omega
        subst hk'
        go_wp2
        go_ret
        exact ⟨rfl, HB.out⟩
      · go_wp2
        go_ret
        exact ⟨rfl, HB.out⟩
theorem fitChecks_law (S : Option Addr) (n c : Nat) (f : List Ft) (T : Option Addr) (m d : Nat) (l : List Sn) (hn : n ≤ maxLen ∧ n ≤ c) (hm : m ≤ maxLen ∧ m ≤ d) (w : World) (hF : FtRow w.heap.size w S n f) (hS : SnRow w T m l) :
    Calls Try.prog 3 #[.slice S n c, .slice T m d] w fun e w' => e = .returned (.bool true) ∧ Below w.heap.size w w' := by
  cases h1 : slB f
  · exact fitChecks_out (.inl h1) hn.1 hm.1 w hF hS
  · cases h2 : snBound l
    · exact fitChecks_out (.inr h2) hn.1 hm.1 w hF hS
    · exact fitChecks_in h1 h2 hn.1 hm.1 w hF hS
end Go.Proofs.Ytcjhodlimpgegaa
