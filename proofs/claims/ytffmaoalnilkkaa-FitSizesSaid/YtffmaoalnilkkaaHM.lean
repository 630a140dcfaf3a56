/- Walks over the fits: the shares at the moistures of a map. -/
import Derived.Test.YtffmaoalnilkkaaFE
namespace Go.Proofs.Ytffmaoalnilkkaa
open Go.RowKit Go.Maps

theorem kept_at {MZ : World → Prop} (HK : ∀ wx w', MZ wx → Below wx.heap.size wx w' → MZ w') {wx w' : World} {B : Nat} {s r m g lo hi : Int} (h : MZ wx ∧ wx.cell? ⟨B, 0, none⟩ = some (.int .i64 s) ∧ wx.cell? ⟨B, 3, none⟩ = some (.int .i64 g) ∧ wx.cell? ⟨B, 4, none⟩ = some (.int .i64 lo) ∧ wx.cell? ⟨B, 5, none⟩ = some (.int .i64 hi) ∧ wx.cell? ⟨B, 0 + 1, none⟩ = some (.int .i64 r) ∧ wx.cell? ⟨B, 0 + 2, none⟩ = some (.int .i64 m) ∧ wx.cell? ⟨B, 0 + 3, none⟩ = some (.int .i64 g) ∧ wx.cell? ⟨B, 0 + 4, none⟩ = some (.int .i64 lo) ∧ wx.cell? ⟨B, 0 + 5, none⟩ = some (.int .i64 hi)) (hb : Below wx.heap.size wx w') : MZ w' ∧ w'.cell? ⟨B, 0, none⟩ = some (.int .i64 s) ∧ w'.cell? ⟨B, 3, none⟩ = some (.int .i64 g) ∧ w'.cell? ⟨B, 4, none⟩ = some (.int .i64 lo) ∧ w'.cell? ⟨B, 5, none⟩ = some (.int .i64 hi) ∧ w'.cell? ⟨B, 0 + 1, none⟩ = some (.int .i64 r) ∧ w'.cell? ⟨B, 0 + 2, none⟩ = some (.int .i64 m) ∧ w'.cell? ⟨B, 0 + 3, none⟩ = some (.int .i64 g) ∧ w'.cell? ⟨B, 0 + 4, none⟩ = some (.int .i64 lo) ∧ w'.cell? ⟨B, 0 + 5, none⟩ = some (.int .i64 hi) := by
  obtain ⟨hq, h0, h3, h4, h5, h01, h02, h03, h04, h05⟩ := h
  have hB : B < wx.heap.size := World.block_lt_of_cell? wx ⟨B, 0, none⟩ h0
  have k : ∀ b o, b < wx.heap.size → w'.cell? ⟨b, o, none⟩ = wx.cell? ⟨b, o, none⟩ := fun b o hlt => hb.cell (p := ⟨b, o, none⟩) hlt
  exact ⟨HK _ _ hq hb, by rw [k _ _ hB, h0], by rw [k _ _ hB, h3], by rw [k _ _ hB, h4], by rw [k _ _ hB, h5], by rw [k _ _ hB, h01], by rw [k _ _ hB, h02], by rw [k _ _ hB, h03], by rw [k _ _ hB, h04], by rw [k _ _ hB, h05]⟩
theorem keptg_at {MZ : World → Prop} {w0 : Nat} (HG : ∀ wx w' mb, MZ wx → wx.grownBy w' (some mb) → w0 ≤ mb → MZ w') {wx w' : World} {B mb : Nat} {s r m g lo hi : Int} (h : MZ wx ∧ wx.cell? ⟨B, 0, none⟩ = some (.int .i64 s) ∧ wx.cell? ⟨B, 3, none⟩ = some (.int .i64 g) ∧ wx.cell? ⟨B, 4, none⟩ = some (.int .i64 lo) ∧ wx.cell? ⟨B, 5, none⟩ = some (.int .i64 hi) ∧ wx.cell? ⟨B, 0 + 1, none⟩ = some (.int .i64 r) ∧ wx.cell? ⟨B, 0 + 2, none⟩ = some (.int .i64 m) ∧ wx.cell? ⟨B, 0 + 3, none⟩ = some (.int .i64 g) ∧ wx.cell? ⟨B, 0 + 4, none⟩ = some (.int .i64 lo) ∧ wx.cell? ⟨B, 0 + 5, none⟩ = some (.int .i64 hi)) (hg : wx.grownBy w' (some mb)) (h1 : w0 ≤ mb) (h2 : B ≠ mb) : MZ w' ∧ w'.cell? ⟨B, 0, none⟩ = some (.int .i64 s) ∧ w'.cell? ⟨B, 3, none⟩ = some (.int .i64 g) ∧ w'.cell? ⟨B, 4, none⟩ = some (.int .i64 lo) ∧ w'.cell? ⟨B, 5, none⟩ = some (.int .i64 hi) ∧ w'.cell? ⟨B, 0 + 1, none⟩ = some (.int .i64 r) ∧ w'.cell? ⟨B, 0 + 2, none⟩ = some (.int .i64 m) ∧ w'.cell? ⟨B, 0 + 3, none⟩ = some (.int .i64 g) ∧ w'.cell? ⟨B, 0 + 4, none⟩ = some (.int .i64 lo) ∧ w'.cell? ⟨B, 0 + 5, none⟩ = some (.int .i64 hi) := by
  obtain ⟨hq, h0, h3, h4, h5, h01, h02, h03, h04, h05⟩ := h
  have hB : B < wx.heap.size := World.block_lt_of_cell? wx ⟨B, 0, none⟩ h0
  have k : ∀ b o, b < wx.heap.size → b ≠ mb → w'.cell? ⟨b, o, none⟩ = wx.cell? ⟨b, o, none⟩ := fun b o hlt hne => hg.cell_far ⟨b, o, none⟩ hlt (fun e => hne (by injection e))
  exact ⟨HG _ _ _ hq hg h1, by rw [k _ _ hB h2, h0], by rw [k _ _ hB h2, h3], by rw [k _ _ hB h2, h4], by rw [k _ _ hB h2, h5], by rw [k _ _ hB h2, h01], by rw [k _ _ hB h2, h02], by rw [k _ _ hB h2, h03], by rw [k _ _ hB h2, h04], by rw [k _ _ hB h2, h05]⟩

set_option maxHeartbeats 8000000 in
set_option maxRecDepth 20000 in
theorem shares_at {nm : ByteArray} {A A' : Option Addr} {n c n' c' : Nat} {le mo : Int} {o i0 : List Md} {qb : Nat} {MZ : World → Prop} {tf : Int → Int} (HK : Hid (∀ wx w', MZ wx → Below wx.heap.size wx w' → MZ w'))
    (HM : Hid (∀ wx g, MZ wx → 0 ≤ g → g ≤ 19 → Calls Try.prog 97 #[.int .i64 g, .pointer (some ⟨qb, 0, none⟩)] wx fun e w' => e = .returned (.int .i64 (tf g)) ∧ wx = w')) (HT : Hid (∀ g, 0 ≤ tf g ∧ tf g ≤ 400)) (ho : ∀ x ∈ o, MdOk x) (hi : ∀ x ∈ i0, MdOk x) (hn : n + n' ≤ 20)
    (w : World) (HG : Hid (∀ wx w' mb, MZ wx → wx.grownBy w' (some mb) → w.heap.size ≤ mb → MZ w')) (hq : MZ w) (hA : MdRow w A n o) (hA' : MdRow w A' n' i0) :
    Calls Try.prog 96 #[.agg #[.string nm, .slice A n c, .slice A' n' c', .int .i64 le, .int .i64 mo], .func (.func 97) #[] #[.pointer (some ⟨qb, 0, none⟩)]] w
      fun e w' => ∃ D, e = .returned (.map (some (w.heap.size + 1))) ∧ w'.ownsMap Try.prog 3 (plainElem Try.prog 3) (w.heap.size + 1) 20 D ∧ SharesOf D tf o i0 ∧ Below w.heap.size w w' := by
  have hol := hA.1
  have hil := hA'.1
  have HQ := Lib.hid hq; have HA0 := Lib.hid hA; have HA1 := Lib.hid hA'; have Ho := Lib.hid ho; have Hi := Lib.hid hi
  clear hq hA hA' ho hi
  have hmk := @run_makeMap Try.prog
  go_enter Try.func96, Try.ntmps96
  go_wp2
  go_loopw [14] (fun i wr => ∃ (k : Nat) (D : DataW Unit), k ≤ n ∧ i = .int .i64 k ∧ wr.ownsMap Try.prog 3 (plainElem Try.prog 3) (w.heap.size + 1) (0 + k) D ∧ SharesOf D tf (o.take k) [] ∧ Below w.heap.size w wr ∧ wr.cell? ⟨w.heap.size, 2, none⟩ = some (.slice A' n' c')) (fun i _ => n - (intOf i).toNat)
  case atStart => exact ⟨0, _, Nat.zero_le _, rfl, (by have := World.ownsMap_made (H := Unit) (w.alloc (.cells #[.string nm, .slice A n c, .slice A' n' c', .int .i64 le, .int .i64 mo] 37)) Try.prog 3 (plainElem Try.prog 3); simpa using this), sharesOf_nil _, ((Below.refl _ _).alloc (Nat.le_refl _) _).alloc (by simp) _, by simp⟩
  case round =>

    obtain ⟨k, D, hk, rfl, hown, hsh, hbw, hc2⟩ := hrel
    have HB := Lib.hid hbw
    have hwsz := hbw.size
    have hblt : w.heap.size + 1 < wr.heap.size := hown.lt
    clear hbw
    by_cases hlt : k < n
    · have hkl : k < o.length := by omega
      obtain ⟨blk, off, rfl, hblk, hx⟩ := HA0.out.2 (by omega)
      have hxx := (hx k hkl).below HB.out hblk
      have hok := Ho.out o[k] (List.getElem_mem hkl)
      have HTK := Lib.hid (List.take_succ_eq_append_getElem hkl)
      clear hx
      obtain ⟨x, hxe⟩ : ∃ x, o[k] = x := ⟨_, rfl⟩
      rw [hxe] at hxx hok HTK
      clear hxe
      obtain ⟨t, htx⟩ : ∃ t, tf x.g = t := ⟨_, rfl⟩
      have t0 : 0 ≤ t := by rw [← htx]; exact (HT.out _).1
      have t1 : t ≤ 400 := by rw [← htx]; exact (HT.out _).2
      have HM1 : Hid (∀ wx, MZ wx → Calls Try.prog 97 #[.int .i64 x.g, .pointer (some ⟨qb, 0, none⟩)] wx fun e w' => e = .returned (.int .i64 t) ∧ wx = w') := Lib.hid (fun wx h => by have := HM.out wx x.g h hok.g0 hok.g1; rw [htx] at this; exact this)
      have ML := fun wx => Lib.hid (millionths_fit (w := wx) (mov_low hok t0 t1))
      have mbd := millis_bd (mov_low hok t0 t1)
      obtain ⟨s, r, m, g, lo, hi⟩ := x
      obtain ⟨c0, c1, c2, c3, c4, c5⟩ := hxx
      obtain ⟨s0, s1, r0, r1, m0, m1, g0, g1, l0, l1, h0, h1⟩ := hok
      simp only at htx HM1 c0 c1 c2 c3 c4 c5 ML mbd s0 s1 r0 r1 m0 m1 g0 g1 l0 l1 h0 h1
      obtain ⟨mv, hmv⟩ : ∃ mv, millis (s - lo) r m t = mv := ⟨_, rfl⟩
      rw [hmv] at ML mbd
      have HMV : Hid (mv = lowM ⟨s, r, m, g, lo, hi⟩ t) := Lib.hid hmv.symm
      obtain ⟨sv, hsv⟩ : ∃ sv, (share t (o.take k) [] g) = sv := ⟨_, rfl⟩
      have HSV := Lib.hid hsv.symm
      have HAT : Hid (D.atKey (intL g) (.lit (.int .i64 0)) = .lit (.int .i64 sv)) := Lib.hid (by rw [hsh.at_ g, htx, hsv])
      have sbd : -20000000000000 ≤ sv ∧ sv ≤ 20000000000000 := by
        rw [← hsv]
        exact share_bd (fun y hy => Ho.out y (by first | exact hy | exact List.mem_of_mem_take hy)) (fun y hy => Hi.out y (by first | exact hy | exact List.mem_of_mem_take hy | cases hy)) t0 t1 (by first | omega | (rw [List.length_take]; omega)) (by first | omega | (rw [List.length_take]; omega) | simp)
      clear hmv hsv
      have hw1 : IntKind.i64.wrap (s - lo) = s - lo := by rw [IntKind.wrap_i64]; omega
      have hw2 : IntKind.i64.wrap (sv + mv) = sv + mv := by rw [IntKind.wrap_i64]; omega
      have HSH := Lib.hid (hsh.outer ⟨s, r, m, g, lo, hi⟩ (v := sv + mv) (by simp only; rw [htx, HSV.out, HMV.out]))
      clear htx
      unfold mdV at ML
      clear hsh
      go_upto_region 5 with fail
      have hown1 : (wr.alloc (.cells #[.int .i64 s, .int .i64 r, .int .i64 m, .int .i64 g, .int .i64 lo, .int .i64 hi] 44)).ownsMap Try.prog 3 (plainElem Try.prog 3) (w.heap.size + 1) (0 + k) D := hown.alloc _
      have d0 : (wr.alloc (.cells #[.int .i64 s, .int .i64 r, .int .i64 m, .int .i64 g, .int .i64 lo, .int .i64 hi] 44)).cell? ⟨wr.heap.size, 0, none⟩ = some (.int .i64 s) := by rw [World.cell?_alloc_new]; rfl
      have d1 : (wr.alloc (.cells #[.int .i64 s, .int .i64 r, .int .i64 m, .int .i64 g, .int .i64 lo, .int .i64 hi] 44)).cell? ⟨wr.heap.size, 1, none⟩ = some (.int .i64 r) := by rw [World.cell?_alloc_new]; rfl
      have d2 : (wr.alloc (.cells #[.int .i64 s, .int .i64 r, .int .i64 m, .int .i64 g, .int .i64 lo, .int .i64 hi] 44)).cell? ⟨wr.heap.size, 2, none⟩ = some (.int .i64 m) := by rw [World.cell?_alloc_new]; rfl
      have d3 : (wr.alloc (.cells #[.int .i64 s, .int .i64 r, .int .i64 m, .int .i64 g, .int .i64 lo, .int .i64 hi] 44)).cell? ⟨wr.heap.size, 3, none⟩ = some (.int .i64 g) := by rw [World.cell?_alloc_new]; rfl
      have d4 : (wr.alloc (.cells #[.int .i64 s, .int .i64 r, .int .i64 m, .int .i64 g, .int .i64 lo, .int .i64 hi] 44)).cell? ⟨wr.heap.size, 4, none⟩ = some (.int .i64 lo) := by rw [World.cell?_alloc_new]; rfl
      have d5 : (wr.alloc (.cells #[.int .i64 s, .int .i64 r, .int .i64 m, .int .i64 g, .int .i64 lo, .int .i64 hi] 44)).cell? ⟨wr.heap.size, 5, none⟩ = some (.int .i64 hi) := by rw [World.cell?_alloc_new]; rfl
      have dq : MZ (wr.alloc (.cells #[.int .i64 s, .int .i64 r, .int .i64 m, .int .i64 g, .int .i64 lo, .int .i64 hi] 44)) := HK.out _ _ HQ.out (HB.out.alloc (by omega) _)
      have dc : (wr.alloc (.cells #[.int .i64 s, .int .i64 r, .int .i64 m, .int .i64 g, .int .i64 lo, .int .i64 hi] 44)).cell? ⟨w.heap.size, 2, none⟩ = some (.slice A' n' c') := by rw [((Below.refl wr.heap.size wr).alloc (Nat.le_refl _) _).cell (p := ⟨w.heap.size, 2, none⟩) (by show w.heap.size < _; omega)]; exact hc2
      have HB1 : Hid (Below w.heap.size w (wr.alloc (.cells #[.int .i64 s, .int .i64 r, .int .i64 m, .int .i64 g, .int .i64 lo, .int .i64 hi] 44))) := Lib.hid (HB.out.alloc (by omega) _)
      have hsz1 : wr.heap.size < (wr.alloc (.cells #[.int .i64 s, .int .i64 r, .int .i64 m, .int .i64 g, .int .i64 lo, .int .i64 hi] 44)).heap.size := by simp
      generalize (wr.alloc (.cells #[.int .i64 s, .int .i64 r, .int .i64 m, .int .i64 g, .int .i64 lo, .int .i64 hi] 44)) = W1 at hown1 d0 d1 d2 d3 d4 d5 dq dc HB1 hsz1 ⊢
      have dqd := HK.out _ _ dq (Below.refl _ _).drew
      have hl1 := look_int hown1.drew (by omega) HAT.out
      clear c0 c1 c2 c3 c4 c5 hc2 hown HB
      go_region_held3 (fun wx => MZ wx ∧ wx.cell? ⟨wr.heap.size, 0, none⟩ = some (.int .i64 s) ∧ wx.cell? ⟨wr.heap.size, 3, none⟩ = some (.int .i64 g) ∧ wx.cell? ⟨wr.heap.size, 4, none⟩ = some (.int .i64 lo) ∧ wx.cell? ⟨wr.heap.size, 5, none⟩ = some (.int .i64 hi) ∧ wx.cell? ⟨wr.heap.size, 0 + 1, none⟩ = some (.int .i64 r) ∧ wx.cell? ⟨wr.heap.size, 0 + 2, none⟩ = some (.int .i64 m) ∧ wx.cell? ⟨wr.heap.size, 0 + 3, none⟩ = some (.int .i64 g) ∧ wx.cell? ⟨wr.heap.size, 0 + 4, none⟩ = some (.int .i64 lo) ∧ wx.cell? ⟨wr.heap.size, 0 + 5, none⟩ = some (.int .i64 hi)) ((first | assumption | (refine ⟨?_, ?_, ?_, ?_, ?_, ?_, ?_, ?_, ?_, ?_⟩ <;> assumption) | (exact kept_at HK.out (by assumption) hb5) | (exact keptg_at HG.out (by assumption) hgrow6 (by omega) (by omega)))) (first | (go_at_call 97; refine Calls.mono (HM1.out _ (And.left (by assumption))) ?_; rintro e w4 ⟨rfl, rfl⟩) | (go_at_call 62; refine Calls.mono (ML _).out ?_; rintro e w5 ⟨rfl, hb5⟩; have hown5 := World.ownsMap.kept hown1.drew (below_grown hb5 none) (by simp); have hl5 := look_int hown5 (by omega) HAT.out; obtain ⟨w6, hrun6, hown6, hgrow6⟩ := upd_int (g := g) (S := sv + mv) hown5 (by unfold maxLen; omega) (by omega) (by omega)))
      all_goals
        go_wp2
        go_roundw
        case rel =>
          refine ⟨k + 1, _, by omega, by go_num, hown6, by rw [HTK.out]; exact HSH.out, ?_, ?_⟩
          · exact ((HB1.out.drew).trans (hb5.mono (by have := HB1.out.size; simp; omega))).grown hgrow6 (by have := hb5.size; simp at this; omega) (fun j hj => by cases hj; omega)
          · rw [hgrow6.cell_far ⟨w.heap.size, 2, none⟩ (by show w.heap.size < _; have := hb5.size; simp at this; omega) (by simp), hb5.cell (p := ⟨w.heap.size, 2, none⟩) (by show w.heap.size < _; simp; omega)]; exact dc
        case measure => simp [intOf]; omega

    · have hk' : k = n := by omega
      subst hk'
      have hsh' : Hid (SharesOf D tf o []) := Lib.hid (by rw [List.take_of_length_le (by omega)] at hsh; exact hsh)
      clear hsh
      obtain ⟨wz, rfl⟩ : ∃ wz, wz = wr := ⟨_, rfl⟩
      go_wp2
      go_loopw [38] (fun i wr => ∃ (k2 : Nat) (D : DataW Unit), k2 ≤ n' ∧ i = .int .i64 k2 ∧ wr.ownsMap Try.prog 3 (plainElem Try.prog 3) (w.heap.size + 1) (k + k2) D ∧ SharesOf D tf o (i0.take k2) ∧ Below w.heap.size w wr ∧ wr.cell? ⟨w.heap.size, 2, none⟩ = some (.slice A' n' c')) (fun i _ => n' - (intOf i).toNat)
      case atStart => exact ⟨0, D, Nat.zero_le _, rfl, by simpa using hown, hsh'.out, HB.out, hc2⟩
      case round =>
    
        obtain ⟨k2, D, hk, rfl, hown, hsh, hbw, hc2⟩ := hrel
        have HB := Lib.hid hbw
        have hwsz := hbw.size
        have hblt : w.heap.size + 1 < wr.heap.size := hown.lt
        clear hbw
        by_cases hlt : k2 < n'
        · have hkl : k2 < i0.length := by omega
          obtain ⟨blk, off, rfl, hblk, hx⟩ := HA1.out.2 (by omega)
          have hxx := (hx k2 hkl).below HB.out hblk
          have hok := Hi.out i0[k2] (List.getElem_mem hkl)
          have HTK := Lib.hid (List.take_succ_eq_append_getElem hkl)
          clear hx
          obtain ⟨x, hxe⟩ : ∃ x, i0[k2] = x := ⟨_, rfl⟩
          rw [hxe] at hxx hok HTK
          clear hxe
          obtain ⟨t, htx⟩ : ∃ t, tf x.g = t := ⟨_, rfl⟩
          have t0 : 0 ≤ t := by rw [← htx]; exact (HT.out _).1
          have t1 : t ≤ 400 := by rw [← htx]; exact (HT.out _).2
          have HM1 : Hid (∀ wx, MZ wx → Calls Try.prog 97 #[.int .i64 x.g, .pointer (some ⟨qb, 0, none⟩)] wx fun e w' => e = .returned (.int .i64 t) ∧ wx = w') := Lib.hid (fun wx h => by have := HM.out wx x.g h hok.g0 hok.g1; rw [htx] at this; exact this)
          have ML := fun wx => Lib.hid (millionths_fit (w := wx) (mov_hi hok t0 t1))
          have mbd := millis_bd (mov_hi hok t0 t1)
          obtain ⟨s, r, m, g, lo, hi⟩ := x
          obtain ⟨c0, c1, c2, c3, c4, c5⟩ := hxx
          obtain ⟨s0, s1, r0, r1, m0, m1, g0, g1, l0, l1, h0, h1⟩ := hok
          simp only at htx HM1 c0 c1 c2 c3 c4 c5 ML mbd s0 s1 r0 r1 m0 m1 g0 g1 l0 l1 h0 h1
          obtain ⟨mv, hmv⟩ : ∃ mv, millis (s + hi) r m t = mv := ⟨_, rfl⟩
          rw [hmv] at ML mbd
          have HMV : Hid (mv = hiM ⟨s, r, m, g, lo, hi⟩ t) := Lib.hid hmv.symm
          obtain ⟨sv, hsv⟩ : ∃ sv, (share t o (i0.take k2) g) = sv := ⟨_, rfl⟩
          have HSV := Lib.hid hsv.symm
          have HAT : Hid (D.atKey (intL g) (.lit (.int .i64 0)) = .lit (.int .i64 sv)) := Lib.hid (by rw [hsh.at_ g, htx, hsv])
          have sbd : -20000000000000 ≤ sv ∧ sv ≤ 20000000000000 := by
            rw [← hsv]
            exact share_bd (fun y hy => Ho.out y (by first | exact hy | exact List.mem_of_mem_take hy)) (fun y hy => Hi.out y (by first | exact hy | exact List.mem_of_mem_take hy | cases hy)) t0 t1 (by first | omega | (rw [List.length_take]; omega)) (by first | omega | (rw [List.length_take]; omega) | simp)
          clear hmv hsv
          have hw1 : IntKind.i64.wrap (s + hi) = s + hi := by rw [IntKind.wrap_i64]; omega
          have hw2 : IntKind.i64.wrap (sv - mv) = sv - mv := by rw [IntKind.wrap_i64]; omega
          have HSH := Lib.hid (hsh.inner ⟨s, r, m, g, lo, hi⟩ (v := sv - mv) (by simp only; rw [htx, HSV.out, HMV.out]))
          clear htx
          unfold mdV at ML
          clear hsh
          go_upto_region 10 with fail
          have hown1 : (wr.alloc (.cells #[.int .i64 s, .int .i64 r, .int .i64 m, .int .i64 g, .int .i64 lo, .int .i64 hi] 44)).ownsMap Try.prog 3 (plainElem Try.prog 3) (w.heap.size + 1) (k + k2) D := hown.alloc _
          have d0 : (wr.alloc (.cells #[.int .i64 s, .int .i64 r, .int .i64 m, .int .i64 g, .int .i64 lo, .int .i64 hi] 44)).cell? ⟨wr.heap.size, 0, none⟩ = some (.int .i64 s) := by rw [World.cell?_alloc_new]; rfl
          have d1 : (wr.alloc (.cells #[.int .i64 s, .int .i64 r, .int .i64 m, .int .i64 g, .int .i64 lo, .int .i64 hi] 44)).cell? ⟨wr.heap.size, 1, none⟩ = some (.int .i64 r) := by rw [World.cell?_alloc_new]; rfl
          have d2 : (wr.alloc (.cells #[.int .i64 s, .int .i64 r, .int .i64 m, .int .i64 g, .int .i64 lo, .int .i64 hi] 44)).cell? ⟨wr.heap.size, 2, none⟩ = some (.int .i64 m) := by rw [World.cell?_alloc_new]; rfl
          have d3 : (wr.alloc (.cells #[.int .i64 s, .int .i64 r, .int .i64 m, .int .i64 g, .int .i64 lo, .int .i64 hi] 44)).cell? ⟨wr.heap.size, 3, none⟩ = some (.int .i64 g) := by rw [World.cell?_alloc_new]; rfl
          have d4 : (wr.alloc (.cells #[.int .i64 s, .int .i64 r, .int .i64 m, .int .i64 g, .int .i64 lo, .int .i64 hi] 44)).cell? ⟨wr.heap.size, 4, none⟩ = some (.int .i64 lo) := by rw [World.cell?_alloc_new]; rfl
          have d5 : (wr.alloc (.cells #[.int .i64 s, .int .i64 r, .int .i64 m, .int .i64 g, .int .i64 lo, .int .i64 hi] 44)).cell? ⟨wr.heap.size, 5, none⟩ = some (.int .i64 hi) := by rw [World.cell?_alloc_new]; rfl
          have dq : MZ (wr.alloc (.cells #[.int .i64 s, .int .i64 r, .int .i64 m, .int .i64 g, .int .i64 lo, .int .i64 hi] 44)) := HK.out _ _ HQ.out (HB.out.alloc (by omega) _)
          have dc : (wr.alloc (.cells #[.int .i64 s, .int .i64 r, .int .i64 m, .int .i64 g, .int .i64 lo, .int .i64 hi] 44)).cell? ⟨w.heap.size, 2, none⟩ = some (.slice (some ⟨blk, off, none⟩) n' c') := by rw [((Below.refl wr.heap.size wr).alloc (Nat.le_refl _) _).cell (p := ⟨w.heap.size, 2, none⟩) (by show w.heap.size < _; omega)]; exact hc2
          have HB1 : Hid (Below w.heap.size w (wr.alloc (.cells #[.int .i64 s, .int .i64 r, .int .i64 m, .int .i64 g, .int .i64 lo, .int .i64 hi] 44))) := Lib.hid (HB.out.alloc (by omega) _)
          have hsz1 : wr.heap.size < (wr.alloc (.cells #[.int .i64 s, .int .i64 r, .int .i64 m, .int .i64 g, .int .i64 lo, .int .i64 hi] 44)).heap.size := by simp
          generalize (wr.alloc (.cells #[.int .i64 s, .int .i64 r, .int .i64 m, .int .i64 g, .int .i64 lo, .int .i64 hi] 44)) = W1 at hown1 d0 d1 d2 d3 d4 d5 dq dc HB1 hsz1 ⊢
          have dqd := HK.out _ _ dq (Below.refl _ _).drew
          have hl1 := look_int hown1.drew (by omega) HAT.out
          clear c0 c1 c2 c3 c4 c5 hc2 hown HB
          go_region_held3 (fun wx => MZ wx ∧ wx.cell? ⟨wr.heap.size, 0, none⟩ = some (.int .i64 s) ∧ wx.cell? ⟨wr.heap.size, 3, none⟩ = some (.int .i64 g) ∧ wx.cell? ⟨wr.heap.size, 4, none⟩ = some (.int .i64 lo) ∧ wx.cell? ⟨wr.heap.size, 5, none⟩ = some (.int .i64 hi) ∧ wx.cell? ⟨wr.heap.size, 0 + 1, none⟩ = some (.int .i64 r) ∧ wx.cell? ⟨wr.heap.size, 0 + 2, none⟩ = some (.int .i64 m) ∧ wx.cell? ⟨wr.heap.size, 0 + 3, none⟩ = some (.int .i64 g) ∧ wx.cell? ⟨wr.heap.size, 0 + 4, none⟩ = some (.int .i64 lo) ∧ wx.cell? ⟨wr.heap.size, 0 + 5, none⟩ = some (.int .i64 hi)) ((first | assumption | (refine ⟨?_, ?_, ?_, ?_, ?_, ?_, ?_, ?_, ?_, ?_⟩ <;> assumption) | (exact kept_at HK.out (by assumption) hb5) | (exact keptg_at HG.out (by assumption) hgrow6 (by omega) (by omega)))) (first | (go_at_call 97; refine Calls.mono (HM1.out _ (And.left (by assumption))) ?_; rintro e w4 ⟨rfl, rfl⟩) | (go_at_call 62; refine Calls.mono (ML _).out ?_; rintro e w5 ⟨rfl, hb5⟩; have hown5 := World.ownsMap.kept hown1.drew (below_grown hb5 none) (by simp); have hl5 := look_int hown5 (by omega) HAT.out; obtain ⟨w6, hrun6, hown6, hgrow6⟩ := upd_int (g := g) (S := sv - mv) hown5 (by unfold maxLen; omega) (by omega) (by omega)))
          all_goals
            go_wp2
            go_roundw
            case rel =>
              refine ⟨k2 + 1, _, by omega, by go_num, hown6, by rw [HTK.out]; exact HSH.out, ?_, ?_⟩
              · exact ((HB1.out.drew).trans (hb5.mono (by have := HB1.out.size; simp; omega))).grown hgrow6 (by have := hb5.size; simp at this; omega) (fun j hj => by cases hj; omega)
              · rw [hgrow6.cell_far ⟨w.heap.size, 2, none⟩ (by show w.heap.size < _; have := hb5.size; simp at this; omega) (by simp), hb5.cell (p := ⟨w.heap.size, 2, none⟩) (by show w.heap.size < _; simp; omega)]; exact dc
            case measure => simp [intOf]; omega
    
        · have hk2' : k2 = n' := by omega
          have hsh2 : Hid (SharesOf D tf o i0) := Lib.hid (by rw [List.take_of_length_le (by omega)] at hsh; exact hsh)
          clear hsh
          subst hk2'
          go_wp2
          go_ret
          exact ⟨_, rfl, hown.mono (by omega), hsh2.out, HB.out⟩
end Go.Proofs.Ytffmaoalnilkkaa
