/- Walks over the fits: the reference's clearances at moistures. -/
import Derived.Test.YtcjhodlimpgegaaGreatHB
import Derived.Test.YtcjhodlimpgegaaGreatGY0
namespace Go.Proofs.YtcjhodlimpgegaaGreat
open Go.RowKit Go.Maps

theorem atM_hit {gs ms : List Int} {g : Int} {k : Nat} (h : k < gs.length) (h' : k < ms.length) (e : gs[k] = g) : atM (gs.drop k) (ms.drop k) g = ms[k] := by
  rw [List.drop_eq_getElem_cons h, List.drop_eq_getElem_cons h']
  show (bif decide (gs[k] = g) then ms[k] else _) = _
  rw [decide_eq_true e]; rfl
theorem atM_skip {gs ms : List Int} {g : Int} {k : Nat} (h : k < gs.length) (h' : k < ms.length) (e : gs[k] ≠ g) : atM (gs.drop k) (ms.drop k) g = atM (gs.drop (k + 1)) (ms.drop (k + 1)) g := by
  rw [List.drop_eq_getElem_cons h, List.drop_eq_getElem_cons h']
  show (bif decide (gs[k] = g) then ms[k] else _) = _
  rw [decide_eq_false e]; rfl
theorem atM_end {gs ms : List Int} {g : Int} {k : Nat} (h : gs.length ≤ k) : atM (gs.drop k) (ms.drop k) g = 0 := by
  rw [List.drop_eq_nil_iff.2 h]; unfold atM; rfl
set_option maxHeartbeats 1000000 in
theorem rat_any {G M : Option Addr} {gs ms : List Int} {n c c2 : Nat} {g : Int} (hn : gs.length = n) (hm : ms.length = n) (hnn : n ≤ 1000000) (w : World) (hG : IntsAt w G gs) (hM : IntsAt w M ms) :
    Calls Tryz.prog 66 #[.slice G n c, .slice M n c2, .int .i64 g] w fun e w' => e = .returned (.int .i64 (atM gs ms g)) ∧ w = w' := by
  have HG := Lib.hid hG
  have HM := Lib.hid hM
  obtain ⟨v, hv⟩ : ∃ v, atM gs ms g = v := ⟨_, rfl⟩
  rw [hv]
  have HV : Hid (atM (gs.drop 0) (ms.drop 0) g = v) := Lib.hid hv
  clear hG hM hv
  go_enter Tryz.func66, Tryz.ntmps66
  go_wp2
  go_loopw [7] (fun i wr => ∃ k : Nat, k ≤ n ∧ i = .int .i64 k ∧ Hid (atM (gs.drop k) (ms.drop k) g = v) ∧ w = wr) (fun i _ => n - (intOf i).toNat)
  case atStart => exact ⟨0, Nat.zero_le _, rfl, HV, rfl⟩
  case round =>
    obtain ⟨k, hk, rfl, HT, rfl⟩ := hrel
    by_cases hlt : k < n
    · have h1 : k < gs.length := by omega
      have h2 : k < ms.length := by omega
      obtain ⟨b1, o1, rfl, hb1, hc1⟩ := HG.out (by intro h; rw [h] at h1; simp at h1)
      obtain ⟨b2, o2, rfl, hb2, hc2⟩ := HM.out (by intro h; rw [h] at h2; simp at h2)
      have x1 := hc1 k h1
      have x2 := hc2 k h2
      clear hc1 hc2
      have HH := Lib.hid (fun e => atM_hit (g := g) h1 h2 e)
      have HSK := Lib.hid (fun e => atM_skip (g := g) h1 h2 e)
      obtain ⟨a, ha⟩ : ∃ a, gs[k] = a := ⟨_, rfl⟩
      obtain ⟨b, hb⟩ : ∃ b, ms[k] = b := ⟨_, rfl⟩
      simp only [ha, hb] at x1 x2 HH HSK
      clear ha hb
      have hkm : (k : Int) < (n : Int) := by omega
      by_cases e : a = g
      · have HF : Hid (b = v) := Lib.hid (by rw [← HT.out, HH.out e])
        subst e
        go_wp2
        go_ret
        exact ⟨ret_int HF.out, rfl⟩
      · have HF : Hid (atM (gs.drop (k + 1)) (ms.drop (k + 1)) g = v) := Lib.hid (by rw [← HT.out, HSK.out e])
        have eb : (a == g) = false := beq_eq_false_iff_ne.2 e
        go_wp2
        go_roundw
        case rel => exact ⟨k + 1, by omega, by go_num, HF, by first | rfl | trivial⟩
        case measure => simp [intOf]; omega
    · have HF : Hid (0 = v) := Lib.hid (by rw [← HT.out, atM_end (by omega)])
      go_wp2
      go_ret
      exact ⟨ret_int HF.out, rfl⟩
theorem low_bd {x : Md} (h : MdOk x) {t : Int} (t0 : 0 ≤ t) (t1 : t ≤ 400) : -1000000000000 ≤ lowM x t ∧ lowM x t ≤ 1000000000000 := by
  have := millis_bd (mov_low h t0 t1); unfold lowM; omega
theorem hi_bd {x : Md} (h : MdOk x) {t : Int} (t0 : 0 ≤ t) (t1 : t ≤ 400) : -1000000000000 ≤ hiM x t ∧ hiM x t ≤ 1000000000000 := by
  have := millis_bd (mov_hi h t0 t1); unfold hiM; omega
theorem at_bd {gs ms : List Int} {g : Int} (h : ∀ t ∈ ms, 0 ≤ t ∧ t ≤ 400) : 0 ≤ atM gs ms g ∧ atM gs ms g ≤ 400 := by
  rcases atM_mem (gs := gs) (ms := ms) (x := g) with e | e
  · omega
  · exact h _ e
set_option maxHeartbeats 8000000 in
set_option maxRecDepth 20000 in
theorem rleast_any {nm : ByteArray} {A A' M : Option Addr} {n c n' c' c2 N : Nat} {le mo : Int} {o i0 : List Md} {ms : List Int} (ho : ∀ x ∈ o, MdOk x) (hi' : ∀ x ∈ i0, MdOk x) (hn : n + n' ≤ 20) (hN : (gsOf (o ++ i0)).length = N) (hl : ms.length = N) (hms : ∀ t ∈ ms, 0 ≤ t ∧ t ≤ 400)
    (w : World) (hA : MdRow w A n o) (hA' : MdRow w A' n' i0) (hM : IntsAt w M ms) :
    Calls Tryz.prog 21 #[ftV nm A n c A' n' c' le mo, .slice M N c2] w fun e w' => e = .returned (.int .i64 (vL o i0 (gsOf (o ++ i0)) ms)) ∧ Below w.heap.size w w' := by
  subst hN
  have hol := hA.1
  have hil := hA'.1
  have GL := gsOf_length (o ++ i0)
  have ATB := Lib.hid (fun g => at_bd (gs := gsOf (o ++ i0)) (g := g) hms)
  have BD1 := Lib.hid (fun k => (show -20000000000000 ≤ sumL (fun x => lowM x (atM (gsOf (o ++ i0)) ms x.g)) (o.take k) ∧ sumL (fun x => lowM x (atM (gsOf (o ++ i0)) ms x.g)) (o.take k) ≤ 20000000000000 from by
    have := sumL_bd (f := fun x => lowM x (atM (gsOf (o ++ i0)) ms x.g)) (B := 1000000000000) (l := o.take k) (fun x hx => low_bd (ho x (List.mem_of_mem_take hx)) (ATB.out _).1 (ATB.out _).2)
    have hlen : (o.take k).length ≤ 20 := by rw [List.length_take]; omega
    omega))
  have BD2 := Lib.hid (fun k => (show -20000000000000 ≤ sumL (fun x => hiM x (atM (gsOf (o ++ i0)) ms x.g)) (i0.take k) ∧ sumL (fun x => hiM x (atM (gsOf (o ++ i0)) ms x.g)) (i0.take k) ≤ 20000000000000 from by
    have := sumL_bd (f := fun x => hiM x (atM (gsOf (o ++ i0)) ms x.g)) (B := 1000000000000) (l := i0.take k) (fun x hx => hi_bd (hi' x (List.mem_of_mem_take hx)) (ATB.out _).1 (ATB.out _).2)
    have hlen : (i0.take k).length ≤ 20 := by rw [List.length_take]; omega
    omega))
  have HMD := Lib.hid (fun wx (hb : Below w.heap.size w wx) => And.intro (hA.below hb) (And.intro (hA'.below hb) (hM.below hb)))
  have RG := Lib.hid (fun wx (hb : Below w.heap.size w wx) => rgroups_any (nm := nm) (c := c) (c' := c') (le := le) (mo := mo) (by omega) (by omega) wx (HMD.out wx hb).1 (HMD.out wx hb).2.1)
  have Ho := Lib.hid ho
  have Hi := Lib.hid hi'
  have hB0 : Below w.heap.size w (w.alloc (.cells #[.string nm, .slice A n c, .slice A' n' c', .int .i64 le, .int .i64 mo] 24)) := (Below.refl _ _).alloc (Nat.le_refl _) _
  have e1 : (w.alloc (.cells #[.string nm, .slice A n c, .slice A' n' c', .int .i64 le, .int .i64 mo] 24)).cell? ⟨w.heap.size, 1, none⟩ = some (.slice A n c) := by rw [World.cell?_alloc_new]; rfl
  have e2 : (w.alloc (.cells #[.string nm, .slice A n c, .slice A' n' c', .int .i64 le, .int .i64 mo] 24)).cell? ⟨w.heap.size, 2, none⟩ = some (.slice A' n' c') := by rw [World.cell?_alloc_new]; rfl
  clear hA hA' hM ho hi' hms
  unfold ftV at RG ⊢
  go_enter Tryz.func21, Tryz.ntmps21
  go_wp2_with (go_at_call 19; refine Calls.mono (RG.out _ hB0) ?_; rintro e W1 ⟨G, gc, rfl, hG, hb1⟩)
  have HB0 := Lib.hid (hB0.trans (hb1.mono hB0.size))
  have hs0 : w.heap.size < W1.heap.size := by have := hb1.size; simp at this; omega
  have C1 := Lib.hid (((bcell hb1).1 w.heap.size 1 (by simp)).trans e1)
  have C2 := Lib.hid (((bcell hb1).1 w.heap.size 2 (by simp)).trans e2)
  obtain ⟨hr1, hr2, hr3⟩ := HMD.out W1 HB0.out
  have HR := Lib.hid hr1
  have HR' := Lib.hid hr2
  have HMI := Lib.hid hr3
  have HGI := Lib.hid hG
  have c1 := C1.out
  clear hb1 hB0 e1 e2 hr1 hr2 hr3 hG RG HMD
  go_loopw [6, 7] (fun s i wr => ∃ k : Nat, k ≤ n ∧ i = .int .i64 k ∧ s = .int .i64 (sumL (fun x => lowM x (atM (gsOf (o ++ i0)) ms x.g)) (o.take k)) ∧ Hid (Below W1.heap.size W1 wr)) (fun _ i _ => n - (intOf i).toNat)
  case atStart => exact ⟨0, Nat.zero_le _, rfl, rfl, Lib.hid (Below.refl _ _)⟩
  case round =>
    obtain ⟨k, hk, rfl, rfl, HB⟩ := hrel
    have hsw := HB.out.size
    by_cases hlt : k < n
    · have hkl : k < o.length := by omega
      obtain ⟨blk, off, rfl, hblk, hx⟩ := HR.out.2 (by omega)
      have hok := Ho.out o[k] (List.getElem_mem hkl)
      have HST := Lib.hid (sumL_take_succ (fun x => lowM x (atM (gsOf (o ++ i0)) ms x.g)) o hkl)
      have bd := BD1.out k
      have hxx := hx k hkl
      clear hx
      obtain ⟨x, hxe⟩ : ∃ x, o[k] = x := ⟨_, rfl⟩
      rw [hxe] at hxx hok HST
      clear hxe
      have tb := ATB.out x.g
      obtain ⟨tm, htm⟩ : ∃ tm, atM (gsOf (o ++ i0)) ms x.g = tm := ⟨_, rfl⟩
      have RL := fun wx => Lib.hid (rlow_any hok tb.1 tb.2 wx)
      rw [htm] at HST tb
      simp only [htm] at RL
      have lb := low_bd hok tb.1 tb.2
      have RA := Lib.hid (fun wx (hb : Below W1.heap.size W1 wx) => rat_any (c := gc) (c2 := c2) (g := x.g) rfl hl.symm.symm (by omega) wx (HGI.out.below hb) (HMI.out.below hb))
      simp only [htm] at RA
      obtain ⟨y, hy⟩ : ∃ y, lowM x tm = y := ⟨_, rfl⟩
      rw [hy] at HST lb
      simp only [hy] at RL
      obtain ⟨a, ha⟩ : ∃ a, sumL (fun x => lowM x (atM (gsOf (o ++ i0)) ms x.g)) (o.take k) = a := ⟨_, rfl⟩
      rw [ha] at HST bd ⊢
      clear htm hy ha hok tb
      obtain ⟨s0, r0, m0, g0, l0, h0⟩ := x
      unfold mdV at RL
      simp only at RL RA
      have KX := Lib.hid (fun wx (hb : Below W1.heap.size W1 wx) => (show (fun wx => Below W1.heap.size W1 wx ∧ wx.cell? ⟨w.heap.size, 1, none⟩ = some (.slice (some ⟨blk, off, none⟩) n c) ∧ wx.cell? ⟨blk, off + k * 6, none⟩ = some (.int .i64 s0) ∧ wx.cell? ⟨blk, off + k * 6 + 1, none⟩ = some (.int .i64 r0) ∧ wx.cell? ⟨blk, off + k * 6 + 2, none⟩ = some (.int .i64 m0) ∧ wx.cell? ⟨blk, off + k * 6 + 3, none⟩ = some (.int .i64 g0) ∧ wx.cell? ⟨blk, off + k * 6 + 4, none⟩ = some (.int .i64 l0) ∧ wx.cell? ⟨blk, off + k * 6 + 5, none⟩ = some (.int .i64 h0)) wx from by
        obtain ⟨x0, x1, x2, x3, x4, x5⟩ := hxx.below hb (Nat.lt_of_lt_of_le hblk (Nat.le_refl _))
        exact ⟨hb, ((bcell hb).1 _ _ hs0).trans C1.out, x0, x1, x2, x3, x4, x5⟩))
      obtain ⟨-, c1, x0, x1, x2, x3, x4, x5⟩ := KX.out wr HB.out
      clear hxx
      have hkn : (k : Int) < (n : Int) := by omega
      have hw1 : wrap64 (a + y) = a + y := w64 (by omega)
      have hw2 : IntKind.i64.wrap (a + y) = a + y := by rw [IntKind.wrap_i64]; omega
      obtain ⟨wq, hwq⟩ : ∃ wq, wq = wr := ⟨_, rfl⟩
      rw [← hwq] at HB c1 x0 x1 x2 x3 x4 x5 ⊢
      clear hwq
      go_wp2
      clear c1 x0 x1 x2 x3 x4 x5
      go_region_held3 (fun wx => Below W1.heap.size W1 wx ∧ wx.cell? ⟨w.heap.size, 1, none⟩ = some (.slice (some ⟨blk, off, none⟩) n c) ∧ wx.cell? ⟨blk, off + k * 6, none⟩ = some (.int .i64 s0) ∧ wx.cell? ⟨blk, off + k * 6 + 1, none⟩ = some (.int .i64 r0) ∧ wx.cell? ⟨blk, off + k * 6 + 2, none⟩ = some (.int .i64 m0) ∧ wx.cell? ⟨blk, off + k * 6 + 3, none⟩ = some (.int .i64 g0) ∧ wx.cell? ⟨blk, off + k * 6 + 4, none⟩ = some (.int .i64 l0) ∧ wx.cell? ⟨blk, off + k * 6 + 5, none⟩ = some (.int .i64 h0)) (first | assumption | (exact KX.out _ HB.out.drew) | (exact KX.out _ (Below.trans (And.left (by assumption)) (Below.mono hba (Below.size (And.left (by assumption))))))) (first | (go_at_call 66; refine Calls.mono (RA.out _ (And.left (by assumption))) ?_; rintro e wz ⟨rfl, rfl⟩) | (go_at_call 65; refine Calls.mono (RL _).out ?_; rintro e wa ⟨rfl, hba⟩))
      all_goals
        go_wp2
        go_roundw
        case rel => exact ⟨k + 1, by omega, by go_num, by rw [HST.out], Lib.hid (And.left (by assumption))⟩
        case measure => simp [intOf]; omega
    · have hfull : o.take k = o := List.take_of_length_le (by omega)
      rw [hfull]
      have bdo := BD1.out n
      rw [List.take_of_length_le (by omega)] at bdo
      have hk' : k = n := by omega
      subst hk'
      obtain ⟨so, hso⟩ : ∃ so, sumL (fun x => lowM x (atM (gsOf (o ++ i0)) ms x.g)) o = so := ⟨_, rfl⟩
      rw [hso] at bdo ⊢
      have HSO := Lib.hid hso
      clear hso
      have k2 := ((bcell HB.out).1 _ _ hs0).trans C2.out
      have k1 := ((bcell HB.out).1 _ _ hs0).trans C1.out
      obtain ⟨wv, hwv⟩ : ∃ wv, wv = wr := ⟨_, rfl⟩
      rw [← hwv] at HB k1 k2 ⊢
      clear hwv
      go_wp2
      go_loopw [6, 8] (fun s i wr => ∃ k : Nat, k ≤ n' ∧ i = .int .i64 k ∧ s = .int .i64 (so - sumL (fun x => hiM x (atM (gsOf (o ++ i0)) ms x.g)) (i0.take k)) ∧ Hid (Below W1.heap.size W1 wr)) (fun _ i _ => n' - (intOf i).toNat)
      case atStart => exact ⟨0, Nat.zero_le _, rfl, by show _ = Value.int _ (so - 0); rw [Int.sub_zero], HB⟩
      case round =>
        obtain ⟨k, hk, rfl, rfl, HB⟩ := hrel
        have hsw := HB.out.size
        by_cases hlt : k < n'
        · have hkl : k < i0.length := by omega
          obtain ⟨blk, off, rfl, hblk, hx⟩ := HR'.out.2 (by omega)
          have hok := Hi.out i0[k] (List.getElem_mem hkl)
          have HST := Lib.hid (sumL_take_succ (fun x => hiM x (atM (gsOf (o ++ i0)) ms x.g)) i0 hkl)
          have bd := BD2.out k
          have hxx := hx k hkl
          clear hx
          obtain ⟨x, hxe⟩ : ∃ x, i0[k] = x := ⟨_, rfl⟩
          rw [hxe] at hxx hok HST
          clear hxe
          have tb := ATB.out x.g
          obtain ⟨tm, htm⟩ : ∃ tm, atM (gsOf (o ++ i0)) ms x.g = tm := ⟨_, rfl⟩
          have RL := fun wx => Lib.hid (rhigh_any hok tb.1 tb.2 wx)
          rw [htm] at HST tb
          simp only [htm] at RL
          have lb := hi_bd hok tb.1 tb.2
          have RA := Lib.hid (fun wx (hb : Below W1.heap.size W1 wx) => rat_any (c := gc) (c2 := c2) (g := x.g) rfl hl.symm.symm (by omega) wx (HGI.out.below hb) (HMI.out.below hb))
          simp only [htm] at RA
          obtain ⟨y, hy⟩ : ∃ y, hiM x tm = y := ⟨_, rfl⟩
          rw [hy] at HST lb
          simp only [hy] at RL
          obtain ⟨a, ha⟩ : ∃ a, sumL (fun x => hiM x (atM (gsOf (o ++ i0)) ms x.g)) (i0.take k) = a := ⟨_, rfl⟩
          rw [ha] at HST bd ⊢
          clear htm hy ha hok tb
          obtain ⟨s0, r0, m0, g0, l0, h0⟩ := x
          unfold mdV at RL
          simp only at RL RA
          have KX := Lib.hid (fun wx (hb : Below W1.heap.size W1 wx) => (show (fun wx => Below W1.heap.size W1 wx ∧ wx.cell? ⟨w.heap.size, 2, none⟩ = some (.slice (some ⟨blk, off, none⟩) n' c') ∧ wx.cell? ⟨blk, off + k * 6, none⟩ = some (.int .i64 s0) ∧ wx.cell? ⟨blk, off + k * 6 + 1, none⟩ = some (.int .i64 r0) ∧ wx.cell? ⟨blk, off + k * 6 + 2, none⟩ = some (.int .i64 m0) ∧ wx.cell? ⟨blk, off + k * 6 + 3, none⟩ = some (.int .i64 g0) ∧ wx.cell? ⟨blk, off + k * 6 + 4, none⟩ = some (.int .i64 l0) ∧ wx.cell? ⟨blk, off + k * 6 + 5, none⟩ = some (.int .i64 h0)) wx from by
            obtain ⟨x0, x1, x2, x3, x4, x5⟩ := hxx.below hb (Nat.lt_of_lt_of_le hblk (Nat.le_refl _))
            exact ⟨hb, ((bcell hb).1 _ _ hs0).trans C2.out, x0, x1, x2, x3, x4, x5⟩))
          obtain ⟨-, c2, x0, x1, x2, x3, x4, x5⟩ := KX.out wr HB.out
          clear hxx
          have hkn : (k : Int) < (n' : Int) := by omega
          have hw1 : wrap64 (so - a - y) = so - a - y := w64 (by omega)
          have hw2 : IntKind.i64.wrap (so - a - y) = so - a - y := by rw [IntKind.wrap_i64]; omega
          obtain ⟨wq, hwq⟩ : ∃ wq, wq = wr := ⟨_, rfl⟩
          rw [← hwq] at HB c2 x0 x1 x2 x3 x4 x5 ⊢
          clear hwq
          go_wp2
          clear c2 x0 x1 x2 x3 x4 x5
          go_region_held3 (fun wx => Below W1.heap.size W1 wx ∧ wx.cell? ⟨w.heap.size, 2, none⟩ = some (.slice (some ⟨blk, off, none⟩) n' c') ∧ wx.cell? ⟨blk, off + k * 6, none⟩ = some (.int .i64 s0) ∧ wx.cell? ⟨blk, off + k * 6 + 1, none⟩ = some (.int .i64 r0) ∧ wx.cell? ⟨blk, off + k * 6 + 2, none⟩ = some (.int .i64 m0) ∧ wx.cell? ⟨blk, off + k * 6 + 3, none⟩ = some (.int .i64 g0) ∧ wx.cell? ⟨blk, off + k * 6 + 4, none⟩ = some (.int .i64 l0) ∧ wx.cell? ⟨blk, off + k * 6 + 5, none⟩ = some (.int .i64 h0)) (first | assumption | (exact KX.out _ HB.out.drew) | (exact KX.out _ (Below.trans (And.left (by assumption)) (Below.mono hba (Below.size (And.left (by assumption))))))) (first | (go_at_call 66; refine Calls.mono (RA.out _ (And.left (by assumption))) ?_; rintro e wz ⟨rfl, rfl⟩) | (go_at_call 67; refine Calls.mono (RL _).out ?_; rintro e wa ⟨rfl, hba⟩))
          all_goals
            go_wp2
            go_roundw
            case rel => exact ⟨k + 1, by omega, by go_num, by rw [HST.out, show so - (a + y) = so - a - y by omega], Lib.hid (And.left (by assumption))⟩
            case measure => simp [intOf]; omega
        · have hfull2 : i0.take k = i0 := List.take_of_length_le (by omega)
          rw [hfull2]
          have bdi := BD2.out n'
          rw [List.take_of_length_le (by omega)] at bdi
          have hk2' : k = n' := by omega
          subst hk2'
          have k2 := ((bcell HB.out).1 _ _ hs0).trans C2.out
          have HRES : Hid (vL o i0 (gsOf (o ++ i0)) ms = so - sumL (fun x => hiM x (atM (gsOf (o ++ i0)) ms x.g)) i0) := Lib.hid (by rw [← HSO.out]; rfl)
          obtain ⟨si, hsi⟩ : ∃ si, sumL (fun x => hiM x (atM (gsOf (o ++ i0)) ms x.g)) i0 = si := ⟨_, rfl⟩
          rw [hsi] at HRES ⊢
          clear hsi
          go_wp2
          go_ret
          exact ⟨ret_int HRES.out.symm, HB0.out.trans (HB.out.mono (by have := HB0.out.size; omega))⟩
set_option maxHeartbeats 8000000 in
set_option maxRecDepth 20000 in
theorem rgreatest_any {nm : ByteArray} {A A' M : Option Addr} {n c n' c' c2 N : Nat} {le mo : Int} {o i0 : List Md} {ms : List Int} (ho : ∀ x ∈ o, MdOk x) (hi' : ∀ x ∈ i0, MdOk x) (hn : n + n' ≤ 20) (hN : (gsOf (o ++ i0)).length = N) (hl : ms.length = N) (hms : ∀ t ∈ ms, 0 ≤ t ∧ t ≤ 400)
    (w : World) (hA : MdRow w A n o) (hA' : MdRow w A' n' i0) (hM : IntsAt w M ms) :
    Calls Tryz.prog 22 #[ftV nm A n c A' n' c' le mo, .slice M N c2] w fun e w' => e = .returned (.int .i64 (-(vL i0 o (gsOf (o ++ i0)) ms))) ∧ Below w.heap.size w w' := by
  subst hN
  have hol := hA.1
  have hil := hA'.1
  have GL := gsOf_length (o ++ i0)
  have ATB := Lib.hid (fun g => at_bd (gs := gsOf (o ++ i0)) (g := g) hms)
  have BD1 := Lib.hid (fun k => (show -20000000000000 ≤ sumL (fun x => hiM x (atM (gsOf (o ++ i0)) ms x.g)) (o.take k) ∧ sumL (fun x => hiM x (atM (gsOf (o ++ i0)) ms x.g)) (o.take k) ≤ 20000000000000 from by
    have := sumL_bd (f := fun x => hiM x (atM (gsOf (o ++ i0)) ms x.g)) (B := 1000000000000) (l := o.take k) (fun x hx => hi_bd (ho x (List.mem_of_mem_take hx)) (ATB.out _).1 (ATB.out _).2)
    have hlen : (o.take k).length ≤ 20 := by rw [List.length_take]; omega
    omega))
  have BD2 := Lib.hid (fun k => (show -20000000000000 ≤ sumL (fun x => lowM x (atM (gsOf (o ++ i0)) ms x.g)) (i0.take k) ∧ sumL (fun x => lowM x (atM (gsOf (o ++ i0)) ms x.g)) (i0.take k) ≤ 20000000000000 from by
    have := sumL_bd (f := fun x => lowM x (atM (gsOf (o ++ i0)) ms x.g)) (B := 1000000000000) (l := i0.take k) (fun x hx => low_bd (hi' x (List.mem_of_mem_take hx)) (ATB.out _).1 (ATB.out _).2)
    have hlen : (i0.take k).length ≤ 20 := by rw [List.length_take]; omega
    omega))
  have HMD := Lib.hid (fun wx (hb : Below w.heap.size w wx) => And.intro (hA.below hb) (And.intro (hA'.below hb) (hM.below hb)))
  have RG := Lib.hid (fun wx (hb : Below w.heap.size w wx) => rgroups_any (nm := nm) (c := c) (c' := c') (le := le) (mo := mo) (by omega) (by omega) wx (HMD.out wx hb).1 (HMD.out wx hb).2.1)
  have Ho := Lib.hid ho
  have Hi := Lib.hid hi'
  have hB0 : Below w.heap.size w (w.alloc (.cells #[.string nm, .slice A n c, .slice A' n' c', .int .i64 le, .int .i64 mo] 24)) := (Below.refl _ _).alloc (Nat.le_refl _) _
  have e1 : (w.alloc (.cells #[.string nm, .slice A n c, .slice A' n' c', .int .i64 le, .int .i64 mo] 24)).cell? ⟨w.heap.size, 1, none⟩ = some (.slice A n c) := by rw [World.cell?_alloc_new]; rfl
  have e2 : (w.alloc (.cells #[.string nm, .slice A n c, .slice A' n' c', .int .i64 le, .int .i64 mo] 24)).cell? ⟨w.heap.size, 2, none⟩ = some (.slice A' n' c') := by rw [World.cell?_alloc_new]; rfl
  clear hA hA' hM ho hi' hms
  unfold ftV at RG ⊢
  go_enter Tryz.func22, Tryz.ntmps22
  go_wp2_with (go_at_call 19; refine Calls.mono (RG.out _ hB0) ?_; rintro e W1 ⟨G, gc, rfl, hG, hb1⟩)
  have HB0 := Lib.hid (hB0.trans (hb1.mono hB0.size))
  have hs0 : w.heap.size < W1.heap.size := by have := hb1.size; simp at this; omega
  have C1 := Lib.hid (((bcell hb1).1 w.heap.size 1 (by simp)).trans e1)
  have C2 := Lib.hid (((bcell hb1).1 w.heap.size 2 (by simp)).trans e2)
  obtain ⟨hr1, hr2, hr3⟩ := HMD.out W1 HB0.out
  have HR := Lib.hid hr1
  have HR' := Lib.hid hr2
  have HMI := Lib.hid hr3
  have HGI := Lib.hid hG
  have c1 := C1.out
  clear hb1 hB0 e1 e2 hr1 hr2 hr3 hG RG HMD
  go_loopw [6, 7] (fun s i wr => ∃ k : Nat, k ≤ n ∧ i = .int .i64 k ∧ s = .int .i64 (sumL (fun x => hiM x (atM (gsOf (o ++ i0)) ms x.g)) (o.take k)) ∧ Hid (Below W1.heap.size W1 wr)) (fun _ i _ => n - (intOf i).toNat)
  case atStart => exact ⟨0, Nat.zero_le _, rfl, rfl, Lib.hid (Below.refl _ _)⟩
  case round =>
    obtain ⟨k, hk, rfl, rfl, HB⟩ := hrel
    have hsw := HB.out.size
    by_cases hlt : k < n
    · have hkl : k < o.length := by omega
      obtain ⟨blk, off, rfl, hblk, hx⟩ := HR.out.2 (by omega)
      have hok := Ho.out o[k] (List.getElem_mem hkl)
      have HST := Lib.hid (sumL_take_succ (fun x => hiM x (atM (gsOf (o ++ i0)) ms x.g)) o hkl)
      have bd := BD1.out k
      have hxx := hx k hkl
      clear hx
      obtain ⟨x, hxe⟩ : ∃ x, o[k] = x := ⟨_, rfl⟩
      rw [hxe] at hxx hok HST
      clear hxe
      have tb := ATB.out x.g
      obtain ⟨tm, htm⟩ : ∃ tm, atM (gsOf (o ++ i0)) ms x.g = tm := ⟨_, rfl⟩
      have RL := fun wx => Lib.hid (rhigh_any hok tb.1 tb.2 wx)
      rw [htm] at HST tb
      simp only [htm] at RL
      have lb := hi_bd hok tb.1 tb.2
      have RA := Lib.hid (fun wx (hb : Below W1.heap.size W1 wx) => rat_any (c := gc) (c2 := c2) (g := x.g) rfl hl.symm.symm (by omega) wx (HGI.out.below hb) (HMI.out.below hb))
      simp only [htm] at RA
      obtain ⟨y, hy⟩ : ∃ y, hiM x tm = y := ⟨_, rfl⟩
      rw [hy] at HST lb
      simp only [hy] at RL
      obtain ⟨a, ha⟩ : ∃ a, sumL (fun x => hiM x (atM (gsOf (o ++ i0)) ms x.g)) (o.take k) = a := ⟨_, rfl⟩
      rw [ha] at HST bd ⊢
      clear htm hy ha hok tb
      obtain ⟨s0, r0, m0, g0, l0, h0⟩ := x
      unfold mdV at RL
      simp only at RL RA
      have KX := Lib.hid (fun wx (hb : Below W1.heap.size W1 wx) => (show (fun wx => Below W1.heap.size W1 wx ∧ wx.cell? ⟨w.heap.size, 1, none⟩ = some (.slice (some ⟨blk, off, none⟩) n c) ∧ wx.cell? ⟨blk, off + k * 6, none⟩ = some (.int .i64 s0) ∧ wx.cell? ⟨blk, off + k * 6 + 1, none⟩ = some (.int .i64 r0) ∧ wx.cell? ⟨blk, off + k * 6 + 2, none⟩ = some (.int .i64 m0) ∧ wx.cell? ⟨blk, off + k * 6 + 3, none⟩ = some (.int .i64 g0) ∧ wx.cell? ⟨blk, off + k * 6 + 4, none⟩ = some (.int .i64 l0) ∧ wx.cell? ⟨blk, off + k * 6 + 5, none⟩ = some (.int .i64 h0)) wx from by
        obtain ⟨x0, x1, x2, x3, x4, x5⟩ := hxx.below hb (Nat.lt_of_lt_of_le hblk (Nat.le_refl _))
        exact ⟨hb, ((bcell hb).1 _ _ hs0).trans C1.out, x0, x1, x2, x3, x4, x5⟩))
      obtain ⟨-, c1, x0, x1, x2, x3, x4, x5⟩ := KX.out wr HB.out
      clear hxx
      have hkn : (k : Int) < (n : Int) := by omega
      have hw1 : wrap64 (a + y) = a + y := w64 (by omega)
      have hw2 : IntKind.i64.wrap (a + y) = a + y := by rw [IntKind.wrap_i64]; omega
      obtain ⟨wq, hwq⟩ : ∃ wq, wq = wr := ⟨_, rfl⟩
      rw [← hwq] at HB c1 x0 x1 x2 x3 x4 x5 ⊢
      clear hwq
      go_wp2
      clear c1 x0 x1 x2 x3 x4 x5
      go_region_held3 (fun wx => Below W1.heap.size W1 wx ∧ wx.cell? ⟨w.heap.size, 1, none⟩ = some (.slice (some ⟨blk, off, none⟩) n c) ∧ wx.cell? ⟨blk, off + k * 6, none⟩ = some (.int .i64 s0) ∧ wx.cell? ⟨blk, off + k * 6 + 1, none⟩ = some (.int .i64 r0) ∧ wx.cell? ⟨blk, off + k * 6 + 2, none⟩ = some (.int .i64 m0) ∧ wx.cell? ⟨blk, off + k * 6 + 3, none⟩ = some (.int .i64 g0) ∧ wx.cell? ⟨blk, off + k * 6 + 4, none⟩ = some (.int .i64 l0) ∧ wx.cell? ⟨blk, off + k * 6 + 5, none⟩ = some (.int .i64 h0)) (first | assumption | (exact KX.out _ HB.out.drew) | (exact KX.out _ (Below.trans (And.left (by assumption)) (Below.mono hba (Below.size (And.left (by assumption))))))) (first | (go_at_call 66; refine Calls.mono (RA.out _ (And.left (by assumption))) ?_; rintro e wz ⟨rfl, rfl⟩) | (go_at_call 67; refine Calls.mono (RL _).out ?_; rintro e wa ⟨rfl, hba⟩))
      all_goals
        go_wp2
        go_roundw
        case rel => exact ⟨k + 1, by omega, by go_num, by rw [HST.out], Lib.hid (And.left (by assumption))⟩
        case measure => simp [intOf]; omega
    · have hfull : o.take k = o := List.take_of_length_le (by omega)
      rw [hfull]
      have bdo := BD1.out n
      rw [List.take_of_length_le (by omega)] at bdo
      have hk' : k = n := by omega
      subst hk'
      obtain ⟨so, hso⟩ : ∃ so, sumL (fun x => hiM x (atM (gsOf (o ++ i0)) ms x.g)) o = so := ⟨_, rfl⟩
      rw [hso] at bdo ⊢
      have HSO := Lib.hid hso
      clear hso
      have k2 := ((bcell HB.out).1 _ _ hs0).trans C2.out
      have k1 := ((bcell HB.out).1 _ _ hs0).trans C1.out
      obtain ⟨wv, hwv⟩ : ∃ wv, wv = wr := ⟨_, rfl⟩
      rw [← hwv] at HB k1 k2 ⊢
      clear hwv
      go_wp2
      go_loopw [6, 8] (fun s i wr => ∃ k : Nat, k ≤ n' ∧ i = .int .i64 k ∧ s = .int .i64 (so - sumL (fun x => lowM x (atM (gsOf (o ++ i0)) ms x.g)) (i0.take k)) ∧ Hid (Below W1.heap.size W1 wr)) (fun _ i _ => n' - (intOf i).toNat)
      case atStart => exact ⟨0, Nat.zero_le _, rfl, by show _ = Value.int _ (so - 0); rw [Int.sub_zero], HB⟩
      case round =>
        obtain ⟨k, hk, rfl, rfl, HB⟩ := hrel
        have hsw := HB.out.size
        by_cases hlt : k < n'
        · have hkl : k < i0.length := by omega
          obtain ⟨blk, off, rfl, hblk, hx⟩ := HR'.out.2 (by omega)
          have hok := Hi.out i0[k] (List.getElem_mem hkl)
          have HST := Lib.hid (sumL_take_succ (fun x => lowM x (atM (gsOf (o ++ i0)) ms x.g)) i0 hkl)
          have bd := BD2.out k
          have hxx := hx k hkl
          clear hx
          obtain ⟨x, hxe⟩ : ∃ x, i0[k] = x := ⟨_, rfl⟩
          rw [hxe] at hxx hok HST
          clear hxe
          have tb := ATB.out x.g
          obtain ⟨tm, htm⟩ : ∃ tm, atM (gsOf (o ++ i0)) ms x.g = tm := ⟨_, rfl⟩
          have RL := fun wx => Lib.hid (rlow_any hok tb.1 tb.2 wx)
          rw [htm] at HST tb
          simp only [htm] at RL
          have lb := low_bd hok tb.1 tb.2
          have RA := Lib.hid (fun wx (hb : Below W1.heap.size W1 wx) => rat_any (c := gc) (c2 := c2) (g := x.g) rfl hl.symm.symm (by omega) wx (HGI.out.below hb) (HMI.out.below hb))
          simp only [htm] at RA
          obtain ⟨y, hy⟩ : ∃ y, lowM x tm = y := ⟨_, rfl⟩
          rw [hy] at HST lb
          simp only [hy] at RL
          obtain ⟨a, ha⟩ : ∃ a, sumL (fun x => lowM x (atM (gsOf (o ++ i0)) ms x.g)) (i0.take k) = a := ⟨_, rfl⟩
          rw [ha] at HST bd ⊢
          clear htm hy ha hok tb
          obtain ⟨s0, r0, m0, g0, l0, h0⟩ := x
          unfold mdV at RL
          simp only at RL RA
          have KX := Lib.hid (fun wx (hb : Below W1.heap.size W1 wx) => (show (fun wx => Below W1.heap.size W1 wx ∧ wx.cell? ⟨w.heap.size, 2, none⟩ = some (.slice (some ⟨blk, off, none⟩) n' c') ∧ wx.cell? ⟨blk, off + k * 6, none⟩ = some (.int .i64 s0) ∧ wx.cell? ⟨blk, off + k * 6 + 1, none⟩ = some (.int .i64 r0) ∧ wx.cell? ⟨blk, off + k * 6 + 2, none⟩ = some (.int .i64 m0) ∧ wx.cell? ⟨blk, off + k * 6 + 3, none⟩ = some (.int .i64 g0) ∧ wx.cell? ⟨blk, off + k * 6 + 4, none⟩ = some (.int .i64 l0) ∧ wx.cell? ⟨blk, off + k * 6 + 5, none⟩ = some (.int .i64 h0)) wx from by
            obtain ⟨x0, x1, x2, x3, x4, x5⟩ := hxx.below hb (Nat.lt_of_lt_of_le hblk (Nat.le_refl _))
            exact ⟨hb, ((bcell hb).1 _ _ hs0).trans C2.out, x0, x1, x2, x3, x4, x5⟩))
          obtain ⟨-, c2, x0, x1, x2, x3, x4, x5⟩ := KX.out wr HB.out
          clear hxx
          have hkn : (k : Int) < (n' : Int) := by omega
          have hw1 : wrap64 (so - a - y) = so - a - y := w64 (by omega)
          have hw2 : IntKind.i64.wrap (so - a - y) = so - a - y := by rw [IntKind.wrap_i64]; omega
          obtain ⟨wq, hwq⟩ : ∃ wq, wq = wr := ⟨_, rfl⟩
          rw [← hwq] at HB c2 x0 x1 x2 x3 x4 x5 ⊢
          clear hwq
          go_wp2
          clear c2 x0 x1 x2 x3 x4 x5
          go_region_held3 (fun wx => Below W1.heap.size W1 wx ∧ wx.cell? ⟨w.heap.size, 2, none⟩ = some (.slice (some ⟨blk, off, none⟩) n' c') ∧ wx.cell? ⟨blk, off + k * 6, none⟩ = some (.int .i64 s0) ∧ wx.cell? ⟨blk, off + k * 6 + 1, none⟩ = some (.int .i64 r0) ∧ wx.cell? ⟨blk, off + k * 6 + 2, none⟩ = some (.int .i64 m0) ∧ wx.cell? ⟨blk, off + k * 6 + 3, none⟩ = some (.int .i64 g0) ∧ wx.cell? ⟨blk, off + k * 6 + 4, none⟩ = some (.int .i64 l0) ∧ wx.cell? ⟨blk, off + k * 6 + 5, none⟩ = some (.int .i64 h0)) (first | assumption | (exact KX.out _ HB.out.drew) | (exact KX.out _ (Below.trans (And.left (by assumption)) (Below.mono hba (Below.size (And.left (by assumption))))))) (first | (go_at_call 66; refine Calls.mono (RA.out _ (And.left (by assumption))) ?_; rintro e wz ⟨rfl, rfl⟩) | (go_at_call 65; refine Calls.mono (RL _).out ?_; rintro e wa ⟨rfl, hba⟩))
          all_goals
            go_wp2
            go_roundw
            case rel => exact ⟨k + 1, by omega, by go_num, by rw [HST.out, show so - (a + y) = so - a - y by omega], Lib.hid (And.left (by assumption))⟩
            case measure => simp [intOf]; omega
        · have hfull2 : i0.take k = i0 := List.take_of_length_le (by omega)
          rw [hfull2]
          have bdi := BD2.out n'
          rw [List.take_of_length_le (by omega)] at bdi
          have hk2' : k = n' := by omega
          subst hk2'
          have k2 := ((bcell HB.out).1 _ _ hs0).trans C2.out
          have HRES : Hid (-(vL i0 o (gsOf (o ++ i0)) ms) = so - sumL (fun x => lowM x (atM (gsOf (o ++ i0)) ms x.g)) i0) := Lib.hid (by rw [← HSO.out]; unfold vL; omega)
          obtain ⟨si, hsi⟩ : ∃ si, sumL (fun x => lowM x (atM (gsOf (o ++ i0)) ms x.g)) i0 = si := ⟨_, rfl⟩
          rw [hsi] at HRES ⊢
          clear hsi
          go_wp2
          go_ret
          exact ⟨ret_int HRES.out.symm, HB0.out.trans (HB.out.mono (by have := HB0.out.size; omega))⟩
end Go.Proofs.YtcjhodlimpgegaaGreat
