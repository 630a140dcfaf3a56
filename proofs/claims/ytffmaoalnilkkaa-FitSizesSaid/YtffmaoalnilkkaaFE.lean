/- Walks over the fits: rows of pieces, the shares of the groups. -/
import Derived.Test.YtffmaoalnilkkaaFD
import Derived.Test.YtffmaoalnilkkaaFO
import Derived.Deep.RegionHeld3
import Derived.Deep.AppendLies
import Derived.Deep.DeepCutAuto
import Derived.Deep.CutBlock
import Derived.Deep.CutRange
import Derived.Maps.OwnOps
import Derived.Maps.OwnSet
import Derived.Handy
namespace Go.Proofs.Ytffmaoalnilkkaa
open Go.RowKit Go.Maps

def MdAt (w : World) (blk off : Nat) (x : Md) : Prop :=
  w.cell? ⟨blk, off, none⟩ = some (.int .i64 x.s) ∧ w.cell? ⟨blk, off + 1, none⟩ = some (.int .i64 x.r) ∧ w.cell? ⟨blk, off + 2, none⟩ = some (.int .i64 x.m) ∧ w.cell? ⟨blk, off + 3, none⟩ = some (.int .i64 x.g) ∧ w.cell? ⟨blk, off + 4, none⟩ = some (.int .i64 x.lo) ∧ w.cell? ⟨blk, off + 5, none⟩ = some (.int .i64 x.hi)
theorem MdAt.below {w w' : World} {B blk off : Nat} {s : Md} (h : MdAt w blk off s) (hb : Below B w w') (hlt : blk < B) : MdAt w' blk off s := by
  obtain ⟨h0, h1, h2, h3, h4, h5⟩ := h
  have k : ∀ o, w'.cell? ⟨blk, o, none⟩ = w.cell? ⟨blk, o, none⟩ := fun o => hb.cell (p := ⟨blk, o, none⟩) hlt
  exact ⟨by rw [k, h0], by rw [k, h1], by rw [k, h2], by rw [k, h3], by rw [k, h4], by rw [k, h5]⟩
abbrev MdRow (w : World) (A : Option Addr) (n : Nat) (l : List Md) : Prop := RowOf (MdAt w) 6 A n l w.heap.size
theorem MdRow.below {w w' : World} {A : Option Addr} {n : Nat} {l : List Md} (h : MdRow w A n l) (hb : Below w.heap.size w w') : MdRow w' A n l :=
  RowOf.keep h hb.size (fun _ _ _ hlt hx => MdAt.below hx hb hlt)
theorem below_grown {a w : World} (h : Below a.heap.size a w) (row : Option Nat) : a.grownBy w row := ⟨h.os, h.tape, h.output, h.size, fun i hi _ => h.block i hi⟩
theorem lawI : Keyed Try.prog 3 := int_keyed Try.underlying3
theorem zeroI (w : World) : (zeroValue 3).run Try.prog w = .ok (.int .i64 0) w := by kernel_rfl
theorem zeroB (w : World) : (zeroValue 4).run Try.prog w = .ok (.bool false) w := by kernel_rfl

/-! ### Maps in regions that draw -/
theorem look_int {w : World} {b n : Nat} {D : DataW Unit} {g S : Int} (hown : w.ownsMap Try.prog 3 (plainElem Try.prog 3) b n D) (hg : -9223372036854775808 ≤ g ∧ g ≤ 9223372036854775807) (hat : D.atKey (intL g) (.lit (.int .i64 0)) = .lit (.int .i64 S)) :
    (Instr.lookup 94 (.map (some b)) (.int .i64 g) false).run Try.prog w = .ok (.int .i64 S) w := by
  obtain ⟨c, hrun, hat', -⟩ := hown.lookup_int lawI Try.underlying94 Try.underlying3 (zeroI _) (keyOf_int_mk Try.underlying3 (WalkArith.wf_i64 hg) : keyOf Try.prog 3 (.int .i64 g) = some (intL g))
  have hat2 : D.atKey (intL g) (.lit (.int .i64 0)) = .lit (.int .i64 c) := hat'
  rw [hat] at hat2
  simp only [DataW.lit.injEq, Lit.int.injEq, true_and] at hat2
  rw [hat2]
  exact hrun
theorem upd_int {w : World} {b n : Nat} {D : DataW Unit} {g S : Int} (hown : w.ownsMap Try.prog 3 (plainElem Try.prog 3) b n D) (hn : n < maxLen) (hg : -9223372036854775808 ≤ g ∧ g ≤ 9223372036854775807) (hS : -9223372036854775808 ≤ S ∧ S ≤ 9223372036854775807) :
    ∃ w', (Instr.mapUpdate 94 (.map (some b)) (.int .i64 g) (.int .i64 S)).run Try.prog w = .ok () w' ∧ w'.ownsMap Try.prog 3 (plainElem Try.prog 3) b (n + 1) (D.put (intL g) (.lit (.int .i64 S))) ∧ w.grownBy w' (some b) :=
  hown.update lawI Try.underlying94 hn (keyOf_int_mk Try.underlying3 (WalkArith.wf_i64 hg)) (plainElem_int Try.underlying3 (WalkArith.wf_i64 hS))
theorem kept_lo {wx w' : World} {qb B : Nat} {t s r m g lo hi : Int} (h : wx.cell? ⟨qb, 1, none⟩ = some (.int .i64 t) ∧ wx.cell? ⟨B, 0, none⟩ = some (.int .i64 s) ∧ wx.cell? ⟨B, 3, none⟩ = some (.int .i64 g) ∧ wx.cell? ⟨B, 4, none⟩ = some (.int .i64 lo) ∧ wx.cell? ⟨B, 5, none⟩ = some (.int .i64 hi) ∧ wx.cell? ⟨B, 0 + 1, none⟩ = some (.int .i64 r) ∧ wx.cell? ⟨B, 0 + 2, none⟩ = some (.int .i64 m) ∧ wx.cell? ⟨B, 0 + 3, none⟩ = some (.int .i64 g) ∧ wx.cell? ⟨B, 0 + 4, none⟩ = some (.int .i64 lo) ∧ wx.cell? ⟨B, 0 + 5, none⟩ = some (.int .i64 hi)) (hb : Below wx.heap.size wx w') : w'.cell? ⟨qb, 1, none⟩ = some (.int .i64 t) ∧ w'.cell? ⟨B, 0, none⟩ = some (.int .i64 s) ∧ w'.cell? ⟨B, 3, none⟩ = some (.int .i64 g) ∧ w'.cell? ⟨B, 4, none⟩ = some (.int .i64 lo) ∧ w'.cell? ⟨B, 5, none⟩ = some (.int .i64 hi) ∧ w'.cell? ⟨B, 0 + 1, none⟩ = some (.int .i64 r) ∧ w'.cell? ⟨B, 0 + 2, none⟩ = some (.int .i64 m) ∧ w'.cell? ⟨B, 0 + 3, none⟩ = some (.int .i64 g) ∧ w'.cell? ⟨B, 0 + 4, none⟩ = some (.int .i64 lo) ∧ w'.cell? ⟨B, 0 + 5, none⟩ = some (.int .i64 hi) := by
  obtain ⟨hq, h0, h3, h4, h5, h01, h02, h03, h04, h05⟩ := h
  have hB : B < wx.heap.size := World.block_lt_of_cell? wx ⟨B, 0, none⟩ h0
  have hQ : qb < wx.heap.size := World.block_lt_of_cell? wx ⟨qb, 1, none⟩ hq
  have k : ∀ b o, b < wx.heap.size → w'.cell? ⟨b, o, none⟩ = wx.cell? ⟨b, o, none⟩ := fun b o hlt => hb.cell (p := ⟨b, o, none⟩) hlt
  exact ⟨by rw [k _ _ hQ, hq], by rw [k _ _ hB, h0], by rw [k _ _ hB, h3], by rw [k _ _ hB, h4], by rw [k _ _ hB, h5], by rw [k _ _ hB, h01], by rw [k _ _ hB, h02], by rw [k _ _ hB, h03], by rw [k _ _ hB, h04], by rw [k _ _ hB, h05]⟩
theorem keptg_lo {wx w' : World} {qb B mb : Nat} {t s r m g lo hi : Int} (h : wx.cell? ⟨qb, 1, none⟩ = some (.int .i64 t) ∧ wx.cell? ⟨B, 0, none⟩ = some (.int .i64 s) ∧ wx.cell? ⟨B, 3, none⟩ = some (.int .i64 g) ∧ wx.cell? ⟨B, 4, none⟩ = some (.int .i64 lo) ∧ wx.cell? ⟨B, 5, none⟩ = some (.int .i64 hi) ∧ wx.cell? ⟨B, 0 + 1, none⟩ = some (.int .i64 r) ∧ wx.cell? ⟨B, 0 + 2, none⟩ = some (.int .i64 m) ∧ wx.cell? ⟨B, 0 + 3, none⟩ = some (.int .i64 g) ∧ wx.cell? ⟨B, 0 + 4, none⟩ = some (.int .i64 lo) ∧ wx.cell? ⟨B, 0 + 5, none⟩ = some (.int .i64 hi)) (hg : wx.grownBy w' (some mb)) (h1 : qb ≠ mb) (h2 : B ≠ mb) : w'.cell? ⟨qb, 1, none⟩ = some (.int .i64 t) ∧ w'.cell? ⟨B, 0, none⟩ = some (.int .i64 s) ∧ w'.cell? ⟨B, 3, none⟩ = some (.int .i64 g) ∧ w'.cell? ⟨B, 4, none⟩ = some (.int .i64 lo) ∧ w'.cell? ⟨B, 5, none⟩ = some (.int .i64 hi) ∧ w'.cell? ⟨B, 0 + 1, none⟩ = some (.int .i64 r) ∧ w'.cell? ⟨B, 0 + 2, none⟩ = some (.int .i64 m) ∧ w'.cell? ⟨B, 0 + 3, none⟩ = some (.int .i64 g) ∧ w'.cell? ⟨B, 0 + 4, none⟩ = some (.int .i64 lo) ∧ w'.cell? ⟨B, 0 + 5, none⟩ = some (.int .i64 hi) := by
  obtain ⟨hq, h0, h3, h4, h5, h01, h02, h03, h04, h05⟩ := h
  have hB : B < wx.heap.size := World.block_lt_of_cell? wx ⟨B, 0, none⟩ h0
  have hQ : qb < wx.heap.size := World.block_lt_of_cell? wx ⟨qb, 1, none⟩ hq
  have k : ∀ b o, b < wx.heap.size → b ≠ mb → w'.cell? ⟨b, o, none⟩ = wx.cell? ⟨b, o, none⟩ := fun b o hlt hne => hg.cell_far ⟨b, o, none⟩ hlt (fun e => hne (by injection e))
  exact ⟨by rw [k _ _ hQ h1, hq], by rw [k _ _ hB h2, h0], by rw [k _ _ hB h2, h3], by rw [k _ _ hB h2, h4], by rw [k _ _ hB h2, h5], by rw [k _ _ hB h2, h01], by rw [k _ _ hB h2, h02], by rw [k _ _ hB h2, h03], by rw [k _ _ hB h2, h04], by rw [k _ _ hB h2, h05]⟩

theorem moist_lo {w : World} {qb : Nat} {t g : Int} (hq : w.cell? ⟨qb, 1, none⟩ = some (.int .i64 t)) :
    Calls Try.prog 98 #[.int .i64 g, .pointer (some ⟨qb, 0, none⟩)] w fun e w' => e = .returned (.int .i64 t) ∧ w = w' := by
  go_enter Try.func98, Try.ntmps98
  go_wp2
  go_ret
  exact ⟨rfl, rfl⟩
set_option maxHeartbeats 8000000 in
set_option maxRecDepth 20000 in
theorem shares_lo {nm : ByteArray} {A A' : Option Addr} {n c n' c' : Nat} {le mo t : Int} {o i0 : List Md} {qb : Nat} (ho : ∀ x ∈ o, MdOk x) (hi : ∀ x ∈ i0, MdOk x) (hn : n + n' ≤ 20) (t0 : 0 ≤ t) (t1 : t ≤ 400)
    (w : World) (hq : w.cell? ⟨qb, 1, none⟩ = some (.int .i64 t)) (hA : MdRow w A n o) (hA' : MdRow w A' n' i0) :
    Calls Try.prog 96 #[.agg #[.string nm, .slice A n c, .slice A' n' c', .int .i64 le, .int .i64 mo], .func (.func 98) #[] #[.pointer (some ⟨qb, 0, none⟩)]] w
      fun e w' => ∃ D, e = .returned (.map (some (w.heap.size + 1))) ∧ w'.ownsMap Try.prog 3 (plainElem Try.prog 3) (w.heap.size + 1) 20 D ∧ SharesOf D (fun _ => t) o i0 ∧ Below w.heap.size w w' := by
  have hqb : qb < w.heap.size := World.block_lt_of_cell? w ⟨qb, 1, none⟩ hq
  have hol := hA.1
  have hil := hA'.1
  have HQ := Lib.hid hq; have HA0 := Lib.hid hA; have HA1 := Lib.hid hA'; have Ho := Lib.hid ho; have Hi := Lib.hid hi
  clear hq hA hA' ho hi
  have hmk := @run_makeMap Try.prog
  go_enter Try.func96, Try.ntmps96
  go_wp2
  go_loopw [14] (fun i wr => ∃ (k : Nat) (D : DataW Unit), k ≤ n ∧ i = .int .i64 k ∧ wr.ownsMap Try.prog 3 (plainElem Try.prog 3) (w.heap.size + 1) (0 + k) D ∧ SharesOf D (fun _ => t) (o.take k) [] ∧ Below w.heap.size w wr ∧ wr.cell? ⟨w.heap.size, 2, none⟩ = some (.slice A' n' c')) (fun i _ => n - (intOf i).toNat)
  case atStart => exact ⟨0, _, Nat.zero_le _, rfl, (by have := World.ownsMap_made (H := Unit) (w.alloc (.cells #[.string nm, .slice A n c, .slice A' n' c', .int .i64 le, .int .i64 mo] 37)) Try.prog 3 (plainElem Try.prog 3); simpa using this), sharesOf_nil _, ((Below.refl _ _).alloc (Nat.le_refl _) _).alloc (by simp) _, by simp⟩
  case round =>

    obtain ⟨k, D, hk, rfl, hown, hsh, hbw, hc2⟩ := hrel
    have HB := Lib.hid hbw
    have hwsz := hbw.size
    have hblt : w.heap.size + 1 < wr.heap.size := hown.lt
    clear hbw
    by_cases hlt : k < n
    · have hkl : k < o.length := by omega
      obtain ⟨blk, off, rfl, hblk, hx⟩ := HA0.out.2 (by omega)
      have hxx := (hx k hkl).below HB.out hblk
      have hok := Ho.out o[k] (List.getElem_mem hkl)
      have HTK := Lib.hid (List.take_succ_eq_append_getElem hkl)
      clear hx
      obtain ⟨x, hxe⟩ : ∃ x, o[k] = x := ⟨_, rfl⟩
      rw [hxe] at hxx hok HTK
      clear hxe
      have ML := fun wx => Lib.hid (millionths_fit (w := wx) (mov_low hok t0 t1))
      have mbd := millis_bd (mov_low hok t0 t1)
      obtain ⟨s, r, m, g, lo, hi⟩ := x
      obtain ⟨c0, c1, c2, c3, c4, c5⟩ := hxx
      obtain ⟨s0, s1, r0, r1, m0, m1, g0, g1, l0, l1, h0, h1⟩ := hok
      simp only at c0 c1 c2 c3 c4 c5 ML mbd s0 s1 r0 r1 m0 m1 g0 g1 l0 l1 h0 h1
      obtain ⟨mv, hmv⟩ : ∃ mv, millis (s - lo) r m t = mv := ⟨_, rfl⟩
      rw [hmv] at ML mbd
      have HMV : Hid (mv = lowM ⟨s, r, m, g, lo, hi⟩ t) := Lib.hid hmv.symm
      obtain ⟨sv, hsv⟩ : ∃ sv, (share t (o.take k) [] g) = sv := ⟨_, rfl⟩
      have HSV := Lib.hid hsv.symm
      have HAT : Hid (D.atKey (intL g) (.lit (.int .i64 0)) = .lit (.int .i64 sv)) := Lib.hid (by rw [hsh.at_ g, hsv])
      have sbd : -20000000000000 ≤ sv ∧ sv ≤ 20000000000000 := by
        rw [← hsv]
        exact share_bd (fun y hy => Ho.out y (by first | exact hy | exact List.mem_of_mem_take hy)) (fun y hy => Hi.out y (by first | exact hy | exact List.mem_of_mem_take hy | cases hy)) t0 t1 (by first | omega | (rw [List.length_take]; omega)) (by first | omega | (rw [List.length_take]; omega) | simp)
      clear hmv hsv
      have hw1 : IntKind.i64.wrap (s - lo) = s - lo := by rw [IntKind.wrap_i64]; omega
      have hw2 : IntKind.i64.wrap (sv + mv) = sv + mv := by rw [IntKind.wrap_i64]; omega
      have HSH := Lib.hid (hsh.outer ⟨s, r, m, g, lo, hi⟩ (v := sv + mv) (by rw [HSV.out, HMV.out]))
      unfold mdV at ML
      clear hsh
      go_upto_region 5 with fail
      have hown1 : (wr.alloc (.cells #[.int .i64 s, .int .i64 r, .int .i64 m, .int .i64 g, .int .i64 lo, .int .i64 hi] 44)).ownsMap Try.prog 3 (plainElem Try.prog 3) (w.heap.size + 1) (0 + k) D := hown.alloc _
      have d0 : (wr.alloc (.cells #[.int .i64 s, .int .i64 r, .int .i64 m, .int .i64 g, .int .i64 lo, .int .i64 hi] 44)).cell? ⟨wr.heap.size, 0, none⟩ = some (.int .i64 s) := by rw [World.cell?_alloc_new]; rfl
      have d1 : (wr.alloc (.cells #[.int .i64 s, .int .i64 r, .int .i64 m, .int .i64 g, .int .i64 lo, .int .i64 hi] 44)).cell? ⟨wr.heap.size, 1, none⟩ = some (.int .i64 r) := by rw [World.cell?_alloc_new]; rfl
      have d2 : (wr.alloc (.cells #[.int .i64 s, .int .i64 r, .int .i64 m, .int .i64 g, .int .i64 lo, .int .i64 hi] 44)).cell? ⟨wr.heap.size, 2, none⟩ = some (.int .i64 m) := by rw [World.cell?_alloc_new]; rfl
      have d3 : (wr.alloc (.cells #[.int .i64 s, .int .i64 r, .int .i64 m, .int .i64 g, .int .i64 lo, .int .i64 hi] 44)).cell? ⟨wr.heap.size, 3, none⟩ = some (.int .i64 g) := by rw [World.cell?_alloc_new]; rfl
      have d4 : (wr.alloc (.cells #[.int .i64 s, .int .i64 r, .int .i64 m, .int .i64 g, .int .i64 lo, .int .i64 hi] 44)).cell? ⟨wr.heap.size, 4, none⟩ = some (.int .i64 lo) := by rw [World.cell?_alloc_new]; rfl
      have d5 : (wr.alloc (.cells #[.int .i64 s, .int .i64 r, .int .i64 m, .int .i64 g, .int .i64 lo, .int .i64 hi] 44)).cell? ⟨wr.heap.size, 5, none⟩ = some (.int .i64 hi) := by rw [World.cell?_alloc_new]; rfl
      have dq : (wr.alloc (.cells #[.int .i64 s, .int .i64 r, .int .i64 m, .int .i64 g, .int .i64 lo, .int .i64 hi] 44)).cell? ⟨qb, 1, none⟩ = some (.int .i64 t) := by rw [((Below.refl wr.heap.size wr).alloc (Nat.le_refl _) _).cell (p := ⟨qb, 1, none⟩) (by show qb < _; omega)]; exact (HB.out.cell (p := ⟨qb, 1, none⟩) hqb).trans HQ.out
      have dc : (wr.alloc (.cells #[.int .i64 s, .int .i64 r, .int .i64 m, .int .i64 g, .int .i64 lo, .int .i64 hi] 44)).cell? ⟨w.heap.size, 2, none⟩ = some (.slice A' n' c') := by rw [((Below.refl wr.heap.size wr).alloc (Nat.le_refl _) _).cell (p := ⟨w.heap.size, 2, none⟩) (by show w.heap.size < _; omega)]; exact hc2
      have HB1 : Hid (Below w.heap.size w (wr.alloc (.cells #[.int .i64 s, .int .i64 r, .int .i64 m, .int .i64 g, .int .i64 lo, .int .i64 hi] 44))) := Lib.hid (HB.out.alloc (by omega) _)
      have hsz1 : wr.heap.size < (wr.alloc (.cells #[.int .i64 s, .int .i64 r, .int .i64 m, .int .i64 g, .int .i64 lo, .int .i64 hi] 44)).heap.size := by simp
      generalize (wr.alloc (.cells #[.int .i64 s, .int .i64 r, .int .i64 m, .int .i64 g, .int .i64 lo, .int .i64 hi] 44)) = W1 at hown1 d0 d1 d2 d3 d4 d5 dq dc HB1 hsz1 ⊢
      have hl1 := look_int hown1.drew (by omega) HAT.out
      clear c0 c1 c2 c3 c4 c5 hc2 hown HB
      go_region_held3 (fun wx => wx.cell? ⟨qb, 1, none⟩ = some (.int .i64 t) ∧ wx.cell? ⟨wr.heap.size, 0, none⟩ = some (.int .i64 s) ∧ wx.cell? ⟨wr.heap.size, 3, none⟩ = some (.int .i64 g) ∧ wx.cell? ⟨wr.heap.size, 4, none⟩ = some (.int .i64 lo) ∧ wx.cell? ⟨wr.heap.size, 5, none⟩ = some (.int .i64 hi) ∧ wx.cell? ⟨wr.heap.size, 0 + 1, none⟩ = some (.int .i64 r) ∧ wx.cell? ⟨wr.heap.size, 0 + 2, none⟩ = some (.int .i64 m) ∧ wx.cell? ⟨wr.heap.size, 0 + 3, none⟩ = some (.int .i64 g) ∧ wx.cell? ⟨wr.heap.size, 0 + 4, none⟩ = some (.int .i64 lo) ∧ wx.cell? ⟨wr.heap.size, 0 + 5, none⟩ = some (.int .i64 hi)) ((first | assumption | (refine ⟨?_, ?_, ?_, ?_, ?_, ?_, ?_, ?_, ?_, ?_⟩ <;> assumption) | (exact kept_lo (by assumption) hb5) | (exact keptg_lo (by assumption) hgrow6 (by omega) (by omega)))) (first | (go_at_call 98; refine Calls.mono (moist_lo (And.left (by assumption))) ?_; rintro e w4 ⟨rfl, rfl⟩) | (go_at_call 62; refine Calls.mono (ML _).out ?_; rintro e w5 ⟨rfl, hb5⟩; have hown5 := World.ownsMap.kept hown1.drew (below_grown hb5 none) (by simp); have hl5 := look_int hown5 (by omega) HAT.out; obtain ⟨w6, hrun6, hown6, hgrow6⟩ := upd_int (g := g) (S := sv + mv) hown5 (by unfold maxLen; omega) (by omega) (by omega)))
      all_goals
        go_wp2
        go_roundw
        case rel =>
          refine ⟨k + 1, _, by omega, by go_num, hown6, by rw [HTK.out]; exact HSH.out, ?_, ?_⟩
          · exact ((HB1.out.drew).trans (hb5.mono (by have := HB1.out.size; simp; omega))).grown hgrow6 (by have := hb5.size; simp at this; omega) (fun j hj => by cases hj; omega)
          · rw [hgrow6.cell_far ⟨w.heap.size, 2, none⟩ (by show w.heap.size < _; have := hb5.size; simp at this; omega) (by simp), hb5.cell (p := ⟨w.heap.size, 2, none⟩) (by show w.heap.size < _; simp; omega)]; exact dc
        case measure => simp [intOf]; omega

    · have hk' : k = n := by omega
      subst hk'
      have hsh' : Hid (SharesOf D (fun _ => t) o []) := Lib.hid (by rw [List.take_of_length_le (by omega)] at hsh; exact hsh)
      clear hsh
      obtain ⟨wz, rfl⟩ : ∃ wz, wz = wr := ⟨_, rfl⟩
      go_wp2
      go_loopw [38] (fun i wr => ∃ (k2 : Nat) (D : DataW Unit), k2 ≤ n' ∧ i = .int .i64 k2 ∧ wr.ownsMap Try.prog 3 (plainElem Try.prog 3) (w.heap.size + 1) (k + k2) D ∧ SharesOf D (fun _ => t) o (i0.take k2) ∧ Below w.heap.size w wr ∧ wr.cell? ⟨w.heap.size, 2, none⟩ = some (.slice A' n' c')) (fun i _ => n' - (intOf i).toNat)
      case atStart => exact ⟨0, D, Nat.zero_le _, rfl, by simpa using hown, hsh'.out, HB.out, hc2⟩
      case round =>
    
        obtain ⟨k2, D, hk, rfl, hown, hsh, hbw, hc2⟩ := hrel
        have HB := Lib.hid hbw
        have hwsz := hbw.size
        have hblt : w.heap.size + 1 < wr.heap.size := hown.lt
        clear hbw
        by_cases hlt : k2 < n'
        · have hkl : k2 < i0.length := by omega
          obtain ⟨blk, off, rfl, hblk, hx⟩ := HA1.out.2 (by omega)
          have hxx := (hx k2 hkl).below HB.out hblk
          have hok := Hi.out i0[k2] (List.getElem_mem hkl)
          have HTK := Lib.hid (List.take_succ_eq_append_getElem hkl)
          clear hx
          obtain ⟨x, hxe⟩ : ∃ x, i0[k2] = x := ⟨_, rfl⟩
          rw [hxe] at hxx hok HTK
          clear hxe
          have ML := fun wx => Lib.hid (millionths_fit (w := wx) (mov_hi hok t0 t1))
          have mbd := millis_bd (mov_hi hok t0 t1)
          obtain ⟨s, r, m, g, lo, hi⟩ := x
          obtain ⟨c0, c1, c2, c3, c4, c5⟩ := hxx
          obtain ⟨s0, s1, r0, r1, m0, m1, g0, g1, l0, l1, h0, h1⟩ := hok
          simp only at c0 c1 c2 c3 c4 c5 ML mbd s0 s1 r0 r1 m0 m1 g0 g1 l0 l1 h0 h1
          obtain ⟨mv, hmv⟩ : ∃ mv, millis (s + hi) r m t = mv := ⟨_, rfl⟩
          rw [hmv] at ML mbd
          have HMV : Hid (mv = hiM ⟨s, r, m, g, lo, hi⟩ t) := Lib.hid hmv.symm
          obtain ⟨sv, hsv⟩ : ∃ sv, (share t o (i0.take k2) g) = sv := ⟨_, rfl⟩
          have HSV := Lib.hid hsv.symm
          have HAT : Hid (D.atKey (intL g) (.lit (.int .i64 0)) = .lit (.int .i64 sv)) := Lib.hid (by rw [hsh.at_ g, hsv])
          have sbd : -20000000000000 ≤ sv ∧ sv ≤ 20000000000000 := by
            rw [← hsv]
            exact share_bd (fun y hy => Ho.out y (by first | exact hy | exact List.mem_of_mem_take hy)) (fun y hy => Hi.out y (by first | exact hy | exact List.mem_of_mem_take hy | cases hy)) t0 t1 (by first | omega | (rw [List.length_take]; omega)) (by first | omega | (rw [List.length_take]; omega) | simp)
          clear hmv hsv
          have hw1 : IntKind.i64.wrap (s + hi) = s + hi := by rw [IntKind.wrap_i64]; omega
          have hw2 : IntKind.i64.wrap (sv - mv) = sv - mv := by rw [IntKind.wrap_i64]; omega
          have HSH := Lib.hid (hsh.inner ⟨s, r, m, g, lo, hi⟩ (v := sv - mv) (by rw [HSV.out, HMV.out]))
          unfold mdV at ML
          clear hsh
          go_upto_region 10 with fail
          have hown1 : (wr.alloc (.cells #[.int .i64 s, .int .i64 r, .int .i64 m, .int .i64 g, .int .i64 lo, .int .i64 hi] 44)).ownsMap Try.prog 3 (plainElem Try.prog 3) (w.heap.size + 1) (k + k2) D := hown.alloc _
          have d0 : (wr.alloc (.cells #[.int .i64 s, .int .i64 r, .int .i64 m, .int .i64 g, .int .i64 lo, .int .i64 hi] 44)).cell? ⟨wr.heap.size, 0, none⟩ = some (.int .i64 s) := by rw [World.cell?_alloc_new]; rfl
          have d1 : (wr.alloc (.cells #[.int .i64 s, .int .i64 r, .int .i64 m, .int .i64 g, .int .i64 lo, .int .i64 hi] 44)).cell? ⟨wr.heap.size, 1, none⟩ = some (.int .i64 r) := by rw [World.cell?_alloc_new]; rfl
          have d2 : (wr.alloc (.cells #[.int .i64 s, .int .i64 r, .int .i64 m, .int .i64 g, .int .i64 lo, .int .i64 hi] 44)).cell? ⟨wr.heap.size, 2, none⟩ = some (.int .i64 m) := by rw [World.cell?_alloc_new]; rfl
          have d3 : (wr.alloc (.cells #[.int .i64 s, .int .i64 r, .int .i64 m, .int .i64 g, .int .i64 lo, .int .i64 hi] 44)).cell? ⟨wr.heap.size, 3, none⟩ = some (.int .i64 g) := by rw [World.cell?_alloc_new]; rfl
          have d4 : (wr.alloc (.cells #[.int .i64 s, .int .i64 r, .int .i64 m, .int .i64 g, .int .i64 lo, .int .i64 hi] 44)).cell? ⟨wr.heap.size, 4, none⟩ = some (.int .i64 lo) := by rw [World.cell?_alloc_new]; rfl
          have d5 : (wr.alloc (.cells #[.int .i64 s, .int .i64 r, .int .i64 m, .int .i64 g, .int .i64 lo, .int .i64 hi] 44)).cell? ⟨wr.heap.size, 5, none⟩ = some (.int .i64 hi) := by rw [World.cell?_alloc_new]; rfl
          have dq : (wr.alloc (.cells #[.int .i64 s, .int .i64 r, .int .i64 m, .int .i64 g, .int .i64 lo, .int .i64 hi] 44)).cell? ⟨qb, 1, none⟩ = some (.int .i64 t) := by rw [((Below.refl wr.heap.size wr).alloc (Nat.le_refl _) _).cell (p := ⟨qb, 1, none⟩) (by show qb < _; omega)]; exact (HB.out.cell (p := ⟨qb, 1, none⟩) hqb).trans HQ.out
          have dc : (wr.alloc (.cells #[.int .i64 s, .int .i64 r, .int .i64 m, .int .i64 g, .int .i64 lo, .int .i64 hi] 44)).cell? ⟨w.heap.size, 2, none⟩ = some (.slice (some ⟨blk, off, none⟩) n' c') := by rw [((Below.refl wr.heap.size wr).alloc (Nat.le_refl _) _).cell (p := ⟨w.heap.size, 2, none⟩) (by show w.heap.size < _; omega)]; exact hc2
          have HB1 : Hid (Below w.heap.size w (wr.alloc (.cells #[.int .i64 s, .int .i64 r, .int .i64 m, .int .i64 g, .int .i64 lo, .int .i64 hi] 44))) := Lib.hid (HB.out.alloc (by omega) _)
          have hsz1 : wr.heap.size < (wr.alloc (.cells #[.int .i64 s, .int .i64 r, .int .i64 m, .int .i64 g, .int .i64 lo, .int .i64 hi] 44)).heap.size := by simp
          generalize (wr.alloc (.cells #[.int .i64 s, .int .i64 r, .int .i64 m, .int .i64 g, .int .i64 lo, .int .i64 hi] 44)) = W1 at hown1 d0 d1 d2 d3 d4 d5 dq dc HB1 hsz1 ⊢
          have hl1 := look_int hown1.drew (by omega) HAT.out
          clear c0 c1 c2 c3 c4 c5 hc2 hown HB
          go_region_held3 (fun wx => wx.cell? ⟨qb, 1, none⟩ = some (.int .i64 t) ∧ wx.cell? ⟨wr.heap.size, 0, none⟩ = some (.int .i64 s) ∧ wx.cell? ⟨wr.heap.size, 3, none⟩ = some (.int .i64 g) ∧ wx.cell? ⟨wr.heap.size, 4, none⟩ = some (.int .i64 lo) ∧ wx.cell? ⟨wr.heap.size, 5, none⟩ = some (.int .i64 hi) ∧ wx.cell? ⟨wr.heap.size, 0 + 1, none⟩ = some (.int .i64 r) ∧ wx.cell? ⟨wr.heap.size, 0 + 2, none⟩ = some (.int .i64 m) ∧ wx.cell? ⟨wr.heap.size, 0 + 3, none⟩ = some (.int .i64 g) ∧ wx.cell? ⟨wr.heap.size, 0 + 4, none⟩ = some (.int .i64 lo) ∧ wx.cell? ⟨wr.heap.size, 0 + 5, none⟩ = some (.int .i64 hi)) ((first | assumption | (refine ⟨?_, ?_, ?_, ?_, ?_, ?_, ?_, ?_, ?_, ?_⟩ <;> assumption) | (exact kept_lo (by assumption) hb5) | (exact keptg_lo (by assumption) hgrow6 (by omega) (by omega)))) (first | (go_at_call 98; refine Calls.mono (moist_lo (And.left (by assumption))) ?_; rintro e w4 ⟨rfl, rfl⟩) | (go_at_call 62; refine Calls.mono (ML _).out ?_; rintro e w5 ⟨rfl, hb5⟩; have hown5 := World.ownsMap.kept hown1.drew (below_grown hb5 none) (by simp); have hl5 := look_int hown5 (by omega) HAT.out; obtain ⟨w6, hrun6, hown6, hgrow6⟩ := upd_int (g := g) (S := sv - mv) hown5 (by unfold maxLen; omega) (by omega) (by omega)))
          all_goals
            go_wp2
            go_roundw
            case rel =>
              refine ⟨k2 + 1, _, by omega, by go_num, hown6, by rw [HTK.out]; exact HSH.out, ?_, ?_⟩
              · exact ((HB1.out.drew).trans (hb5.mono (by have := HB1.out.size; simp; omega))).grown hgrow6 (by have := hb5.size; simp at this; omega) (fun j hj => by cases hj; omega)
              · rw [hgrow6.cell_far ⟨w.heap.size, 2, none⟩ (by show w.heap.size < _; have := hb5.size; simp at this; omega) (by simp), hb5.cell (p := ⟨w.heap.size, 2, none⟩) (by show w.heap.size < _; simp; omega)]; exact dc
            case measure => simp [intOf]; omega
    
        · have hk2' : k2 = n' := by omega
          have hsh2 : Hid (SharesOf D (fun _ => t) o i0) := Lib.hid (by rw [List.take_of_length_le (by omega)] at hsh; exact hsh)
          clear hsh
          subst hk2'
          go_wp2
          go_ret
          exact ⟨_, rfl, hown.mono (by omega), hsh2.out, HB.out⟩
theorem kept_hi {wx w' : World} {qb B : Nat} {t s r m g lo hi : Int} (h : wx.cell? ⟨qb, 2, none⟩ = some (.int .i64 t) ∧ wx.cell? ⟨B, 0, none⟩ = some (.int .i64 s) ∧ wx.cell? ⟨B, 3, none⟩ = some (.int .i64 g) ∧ wx.cell? ⟨B, 4, none⟩ = some (.int .i64 lo) ∧ wx.cell? ⟨B, 5, none⟩ = some (.int .i64 hi) ∧ wx.cell? ⟨B, 0 + 1, none⟩ = some (.int .i64 r) ∧ wx.cell? ⟨B, 0 + 2, none⟩ = some (.int .i64 m) ∧ wx.cell? ⟨B, 0 + 3, none⟩ = some (.int .i64 g) ∧ wx.cell? ⟨B, 0 + 4, none⟩ = some (.int .i64 lo) ∧ wx.cell? ⟨B, 0 + 5, none⟩ = some (.int .i64 hi)) (hb : Below wx.heap.size wx w') : w'.cell? ⟨qb, 2, none⟩ = some (.int .i64 t) ∧ w'.cell? ⟨B, 0, none⟩ = some (.int .i64 s) ∧ w'.cell? ⟨B, 3, none⟩ = some (.int .i64 g) ∧ w'.cell? ⟨B, 4, none⟩ = some (.int .i64 lo) ∧ w'.cell? ⟨B, 5, none⟩ = some (.int .i64 hi) ∧ w'.cell? ⟨B, 0 + 1, none⟩ = some (.int .i64 r) ∧ w'.cell? ⟨B, 0 + 2, none⟩ = some (.int .i64 m) ∧ w'.cell? ⟨B, 0 + 3, none⟩ = some (.int .i64 g) ∧ w'.cell? ⟨B, 0 + 4, none⟩ = some (.int .i64 lo) ∧ w'.cell? ⟨B, 0 + 5, none⟩ = some (.int .i64 hi) := by
  obtain ⟨hq, h0, h3, h4, h5, h01, h02, h03, h04, h05⟩ := h
  have hB : B < wx.heap.size := World.block_lt_of_cell? wx ⟨B, 0, none⟩ h0
  have hQ : qb < wx.heap.size := World.block_lt_of_cell? wx ⟨qb, 2, none⟩ hq
  have k : ∀ b o, b < wx.heap.size → w'.cell? ⟨b, o, none⟩ = wx.cell? ⟨b, o, none⟩ := fun b o hlt => hb.cell (p := ⟨b, o, none⟩) hlt
  exact ⟨by rw [k _ _ hQ, hq], by rw [k _ _ hB, h0], by rw [k _ _ hB, h3], by rw [k _ _ hB, h4], by rw [k _ _ hB, h5], by rw [k _ _ hB, h01], by rw [k _ _ hB, h02], by rw [k _ _ hB, h03], by rw [k _ _ hB, h04], by rw [k _ _ hB, h05]⟩
theorem keptg_hi {wx w' : World} {qb B mb : Nat} {t s r m g lo hi : Int} (h : wx.cell? ⟨qb, 2, none⟩ = some (.int .i64 t) ∧ wx.cell? ⟨B, 0, none⟩ = some (.int .i64 s) ∧ wx.cell? ⟨B, 3, none⟩ = some (.int .i64 g) ∧ wx.cell? ⟨B, 4, none⟩ = some (.int .i64 lo) ∧ wx.cell? ⟨B, 5, none⟩ = some (.int .i64 hi) ∧ wx.cell? ⟨B, 0 + 1, none⟩ = some (.int .i64 r) ∧ wx.cell? ⟨B, 0 + 2, none⟩ = some (.int .i64 m) ∧ wx.cell? ⟨B, 0 + 3, none⟩ = some (.int .i64 g) ∧ wx.cell? ⟨B, 0 + 4, none⟩ = some (.int .i64 lo) ∧ wx.cell? ⟨B, 0 + 5, none⟩ = some (.int .i64 hi)) (hg : wx.grownBy w' (some mb)) (h1 : qb ≠ mb) (h2 : B ≠ mb) : w'.cell? ⟨qb, 2, none⟩ = some (.int .i64 t) ∧ w'.cell? ⟨B, 0, none⟩ = some (.int .i64 s) ∧ w'.cell? ⟨B, 3, none⟩ = some (.int .i64 g) ∧ w'.cell? ⟨B, 4, none⟩ = some (.int .i64 lo) ∧ w'.cell? ⟨B, 5, none⟩ = some (.int .i64 hi) ∧ w'.cell? ⟨B, 0 + 1, none⟩ = some (.int .i64 r) ∧ w'.cell? ⟨B, 0 + 2, none⟩ = some (.int .i64 m) ∧ w'.cell? ⟨B, 0 + 3, none⟩ = some (.int .i64 g) ∧ w'.cell? ⟨B, 0 + 4, none⟩ = some (.int .i64 lo) ∧ w'.cell? ⟨B, 0 + 5, none⟩ = some (.int .i64 hi) := by
  obtain ⟨hq, h0, h3, h4, h5, h01, h02, h03, h04, h05⟩ := h
  have hB : B < wx.heap.size := World.block_lt_of_cell? wx ⟨B, 0, none⟩ h0
  have hQ : qb < wx.heap.size := World.block_lt_of_cell? wx ⟨qb, 2, none⟩ hq
  have k : ∀ b o, b < wx.heap.size → b ≠ mb → w'.cell? ⟨b, o, none⟩ = wx.cell? ⟨b, o, none⟩ := fun b o hlt hne => hg.cell_far ⟨b, o, none⟩ hlt (fun e => hne (by injection e))
  exact ⟨by rw [k _ _ hQ h1, hq], by rw [k _ _ hB h2, h0], by rw [k _ _ hB h2, h3], by rw [k _ _ hB h2, h4], by rw [k _ _ hB h2, h5], by rw [k _ _ hB h2, h01], by rw [k _ _ hB h2, h02], by rw [k _ _ hB h2, h03], by rw [k _ _ hB h2, h04], by rw [k _ _ hB h2, h05]⟩

theorem moist_hi {w : World} {qb : Nat} {t g : Int} (hq : w.cell? ⟨qb, 2, none⟩ = some (.int .i64 t)) :
    Calls Try.prog 99 #[.int .i64 g, .pointer (some ⟨qb, 0, none⟩)] w fun e w' => e = .returned (.int .i64 t) ∧ w = w' := by
  go_enter Try.func99, Try.ntmps99
  go_wp2
  go_ret
  exact ⟨rfl, rfl⟩
set_option maxHeartbeats 8000000 in
set_option maxRecDepth 20000 in
theorem shares_hi {nm : ByteArray} {A A' : Option Addr} {n c n' c' : Nat} {le mo t : Int} {o i0 : List Md} {qb : Nat} (ho : ∀ x ∈ o, MdOk x) (hi : ∀ x ∈ i0, MdOk x) (hn : n + n' ≤ 20) (t0 : 0 ≤ t) (t1 : t ≤ 400)
    (w : World) (hq : w.cell? ⟨qb, 2, none⟩ = some (.int .i64 t)) (hA : MdRow w A n o) (hA' : MdRow w A' n' i0) :
    Calls Try.prog 96 #[.agg #[.string nm, .slice A n c, .slice A' n' c', .int .i64 le, .int .i64 mo], .func (.func 99) #[] #[.pointer (some ⟨qb, 0, none⟩)]] w
      fun e w' => ∃ D, e = .returned (.map (some (w.heap.size + 1))) ∧ w'.ownsMap Try.prog 3 (plainElem Try.prog 3) (w.heap.size + 1) 20 D ∧ SharesOf D (fun _ => t) o i0 ∧ Below w.heap.size w w' := by
  have hqb : qb < w.heap.size := World.block_lt_of_cell? w ⟨qb, 2, none⟩ hq
  have hol := hA.1
  have hil := hA'.1
  have HQ := Lib.hid hq; have HA0 := Lib.hid hA; have HA1 := Lib.hid hA'; have Ho := Lib.hid ho; have Hi := Lib.hid hi
  clear hq hA hA' ho hi
  have hmk := @run_makeMap Try.prog
  go_enter Try.func96, Try.ntmps96
  go_wp2
  go_loopw [14] (fun i wr => ∃ (k : Nat) (D : DataW Unit), k ≤ n ∧ i = .int .i64 k ∧ wr.ownsMap Try.prog 3 (plainElem Try.prog 3) (w.heap.size + 1) (0 + k) D ∧ SharesOf D (fun _ => t) (o.take k) [] ∧ Below w.heap.size w wr ∧ wr.cell? ⟨w.heap.size, 2, none⟩ = some (.slice A' n' c')) (fun i _ => n - (intOf i).toNat)
  case atStart => exact ⟨0, _, Nat.zero_le _, rfl, (by have := World.ownsMap_made (H := Unit) (w.alloc (.cells #[.string nm, .slice A n c, .slice A' n' c', .int .i64 le, .int .i64 mo] 37)) Try.prog 3 (plainElem Try.prog 3); simpa using this), sharesOf_nil _, ((Below.refl _ _).alloc (Nat.le_refl _) _).alloc (by simp) _, by simp⟩
  case round =>

    obtain ⟨k, D, hk, rfl, hown, hsh, hbw, hc2⟩ := hrel
    have HB := Lib.hid hbw
    have hwsz := hbw.size
    have hblt : w.heap.size + 1 < wr.heap.size := hown.lt
    clear hbw
    by_cases hlt : k < n
    · have hkl : k < o.length := by omega
      obtain ⟨blk, off, rfl, hblk, hx⟩ := HA0.out.2 (by omega)
      have hxx := (hx k hkl).below HB.out hblk
      have hok := Ho.out o[k] (List.getElem_mem hkl)
      have HTK := Lib.hid (List.take_succ_eq_append_getElem hkl)
      clear hx
      obtain ⟨x, hxe⟩ : ∃ x, o[k] = x := ⟨_, rfl⟩
      rw [hxe] at hxx hok HTK
      clear hxe
      have ML := fun wx => Lib.hid (millionths_fit (w := wx) (mov_low hok t0 t1))
      have mbd := millis_bd (mov_low hok t0 t1)
      obtain ⟨s, r, m, g, lo, hi⟩ := x
      obtain ⟨c0, c1, c2, c3, c4, c5⟩ := hxx
      obtain ⟨s0, s1, r0, r1, m0, m1, g0, g1, l0, l1, h0, h1⟩ := hok
      simp only at c0 c1 c2 c3 c4 c5 ML mbd s0 s1 r0 r1 m0 m1 g0 g1 l0 l1 h0 h1
      obtain ⟨mv, hmv⟩ : ∃ mv, millis (s - lo) r m t = mv := ⟨_, rfl⟩
      rw [hmv] at ML mbd
      have HMV : Hid (mv = lowM ⟨s, r, m, g, lo, hi⟩ t) := Lib.hid hmv.symm
      obtain ⟨sv, hsv⟩ : ∃ sv, (share t (o.take k) [] g) = sv := ⟨_, rfl⟩
      have HSV := Lib.hid hsv.symm
      have HAT : Hid (D.atKey (intL g) (.lit (.int .i64 0)) = .lit (.int .i64 sv)) := Lib.hid (by rw [hsh.at_ g, hsv])
      have sbd : -20000000000000 ≤ sv ∧ sv ≤ 20000000000000 := by
        rw [← hsv]
        exact share_bd (fun y hy => Ho.out y (by first | exact hy | exact List.mem_of_mem_take hy)) (fun y hy => Hi.out y (by first | exact hy | exact List.mem_of_mem_take hy | cases hy)) t0 t1 (by first | omega | (rw [List.length_take]; omega)) (by first | omega | (rw [List.length_take]; omega) | simp)
      clear hmv hsv
      have hw1 : IntKind.i64.wrap (s - lo) = s - lo := by rw [IntKind.wrap_i64]; omega
      have hw2 : IntKind.i64.wrap (sv + mv) = sv + mv := by rw [IntKind.wrap_i64]; omega
      have HSH := Lib.hid (hsh.outer ⟨s, r, m, g, lo, hi⟩ (v := sv + mv) (by rw [HSV.out, HMV.out]))
      unfold mdV at ML
      clear hsh
      go_upto_region 5 with fail
      have hown1 : (wr.alloc (.cells #[.int .i64 s, .int .i64 r, .int .i64 m, .int .i64 g, .int .i64 lo, .int .i64 hi] 44)).ownsMap Try.prog 3 (plainElem Try.prog 3) (w.heap.size + 1) (0 + k) D := hown.alloc _
      have d0 : (wr.alloc (.cells #[.int .i64 s, .int .i64 r, .int .i64 m, .int .i64 g, .int .i64 lo, .int .i64 hi] 44)).cell? ⟨wr.heap.size, 0, none⟩ = some (.int .i64 s) := by rw [World.cell?_alloc_new]; rfl
      have d1 : (wr.alloc (.cells #[.int .i64 s, .int .i64 r, .int .i64 m, .int .i64 g, .int .i64 lo, .int .i64 hi] 44)).cell? ⟨wr.heap.size, 1, none⟩ = some (.int .i64 r) := by rw [World.cell?_alloc_new]; rfl
      have d2 : (wr.alloc (.cells #[.int .i64 s, .int .i64 r, .int .i64 m, .int .i64 g, .int .i64 lo, .int .i64 hi] 44)).cell? ⟨wr.heap.size, 2, none⟩ = some (.int .i64 m) := by rw [World.cell?_alloc_new]; rfl
      have d3 : (wr.alloc (.cells #[.int .i64 s, .int .i64 r, .int .i64 m, .int .i64 g, .int .i64 lo, .int .i64 hi] 44)).cell? ⟨wr.heap.size, 3, none⟩ = some (.int .i64 g) := by rw [World.cell?_alloc_new]; rfl
      have d4 : (wr.alloc (.cells #[.int .i64 s, .int .i64 r, .int .i64 m, .int .i64 g, .int .i64 lo, .int .i64 hi] 44)).cell? ⟨wr.heap.size, 4, none⟩ = some (.int .i64 lo) := by rw [World.cell?_alloc_new]; rfl
      have d5 : (wr.alloc (.cells #[.int .i64 s, .int .i64 r, .int .i64 m, .int .i64 g, .int .i64 lo, .int .i64 hi] 44)).cell? ⟨wr.heap.size, 5, none⟩ = some (.int .i64 hi) := by rw [World.cell?_alloc_new]; rfl
      have dq : (wr.alloc (.cells #[.int .i64 s, .int .i64 r, .int .i64 m, .int .i64 g, .int .i64 lo, .int .i64 hi] 44)).cell? ⟨qb, 2, none⟩ = some (.int .i64 t) := by rw [((Below.refl wr.heap.size wr).alloc (Nat.le_refl _) _).cell (p := ⟨qb, 2, none⟩) (by show qb < _; omega)]; exact (HB.out.cell (p := ⟨qb, 2, none⟩) hqb).trans HQ.out
      have dc : (wr.alloc (.cells #[.int .i64 s, .int .i64 r, .int .i64 m, .int .i64 g, .int .i64 lo, .int .i64 hi] 44)).cell? ⟨w.heap.size, 2, none⟩ = some (.slice A' n' c') := by rw [((Below.refl wr.heap.size wr).alloc (Nat.le_refl _) _).cell (p := ⟨w.heap.size, 2, none⟩) (by show w.heap.size < _; omega)]; exact hc2
      have HB1 : Hid (Below w.heap.size w (wr.alloc (.cells #[.int .i64 s, .int .i64 r, .int .i64 m, .int .i64 g, .int .i64 lo, .int .i64 hi] 44))) := Lib.hid (HB.out.alloc (by omega) _)
      have hsz1 : wr.heap.size < (wr.alloc (.cells #[.int .i64 s, .int .i64 r, .int .i64 m, .int .i64 g, .int .i64 lo, .int .i64 hi] 44)).heap.size := by simp
      generalize (wr.alloc (.cells #[.int .i64 s, .int .i64 r, .int .i64 m, .int .i64 g, .int .i64 lo, .int .i64 hi] 44)) = W1 at hown1 d0 d1 d2 d3 d4 d5 dq dc HB1 hsz1 ⊢
      have hl1 := look_int hown1.drew (by omega) HAT.out
      clear c0 c1 c2 c3 c4 c5 hc2 hown HB
      go_region_held3 (fun wx => wx.cell? ⟨qb, 2, none⟩ = some (.int .i64 t) ∧ wx.cell? ⟨wr.heap.size, 0, none⟩ = some (.int .i64 s) ∧ wx.cell? ⟨wr.heap.size, 3, none⟩ = some (.int .i64 g) ∧ wx.cell? ⟨wr.heap.size, 4, none⟩ = some (.int .i64 lo) ∧ wx.cell? ⟨wr.heap.size, 5, none⟩ = some (.int .i64 hi) ∧ wx.cell? ⟨wr.heap.size, 0 + 1, none⟩ = some (.int .i64 r) ∧ wx.cell? ⟨wr.heap.size, 0 + 2, none⟩ = some (.int .i64 m) ∧ wx.cell? ⟨wr.heap.size, 0 + 3, none⟩ = some (.int .i64 g) ∧ wx.cell? ⟨wr.heap.size, 0 + 4, none⟩ = some (.int .i64 lo) ∧ wx.cell? ⟨wr.heap.size, 0 + 5, none⟩ = some (.int .i64 hi)) ((first | assumption | (refine ⟨?_, ?_, ?_, ?_, ?_, ?_, ?_, ?_, ?_, ?_⟩ <;> assumption) | (exact kept_hi (by assumption) hb5) | (exact keptg_hi (by assumption) hgrow6 (by omega) (by omega)))) (first | (go_at_call 99; refine Calls.mono (moist_hi (And.left (by assumption))) ?_; rintro e w4 ⟨rfl, rfl⟩) | (go_at_call 62; refine Calls.mono (ML _).out ?_; rintro e w5 ⟨rfl, hb5⟩; have hown5 := World.ownsMap.kept hown1.drew (below_grown hb5 none) (by simp); have hl5 := look_int hown5 (by omega) HAT.out; obtain ⟨w6, hrun6, hown6, hgrow6⟩ := upd_int (g := g) (S := sv + mv) hown5 (by unfold maxLen; omega) (by omega) (by omega)))
      all_goals
        go_wp2
        go_roundw
        case rel =>
          refine ⟨k + 1, _, by omega, by go_num, hown6, by rw [HTK.out]; exact HSH.out, ?_, ?_⟩
          · exact ((HB1.out.drew).trans (hb5.mono (by have := HB1.out.size; simp; omega))).grown hgrow6 (by have := hb5.size; simp at this; omega) (fun j hj => by cases hj; omega)
          · rw [hgrow6.cell_far ⟨w.heap.size, 2, none⟩ (by show w.heap.size < _; have := hb5.size; simp at this; omega) (by simp), hb5.cell (p := ⟨w.heap.size, 2, none⟩) (by show w.heap.size < _; simp; omega)]; exact dc
        case measure => simp [intOf]; omega

    · have hk' : k = n := by omega
      subst hk'
      have hsh' : Hid (SharesOf D (fun _ => t) o []) := Lib.hid (by rw [List.take_of_length_le (by omega)] at hsh; exact hsh)
      clear hsh
      obtain ⟨wz, rfl⟩ : ∃ wz, wz = wr := ⟨_, rfl⟩
      go_wp2
      go_loopw [38] (fun i wr => ∃ (k2 : Nat) (D : DataW Unit), k2 ≤ n' ∧ i = .int .i64 k2 ∧ wr.ownsMap Try.prog 3 (plainElem Try.prog 3) (w.heap.size + 1) (k + k2) D ∧ SharesOf D (fun _ => t) o (i0.take k2) ∧ Below w.heap.size w wr ∧ wr.cell? ⟨w.heap.size, 2, none⟩ = some (.slice A' n' c')) (fun i _ => n' - (intOf i).toNat)
      case atStart => exact ⟨0, D, Nat.zero_le _, rfl, by simpa using hown, hsh'.out, HB.out, hc2⟩
      case round =>
    
        obtain ⟨k2, D, hk, rfl, hown, hsh, hbw, hc2⟩ := hrel
        have HB := Lib.hid hbw
        have hwsz := hbw.size
        have hblt : w.heap.size + 1 < wr.heap.size := hown.lt
        clear hbw
        by_cases hlt : k2 < n'
        · have hkl : k2 < i0.length := by omega
          obtain ⟨blk, off, rfl, hblk, hx⟩ := HA1.out.2 (by omega)
          have hxx := (hx k2 hkl).below HB.out hblk
          have hok := Hi.out i0[k2] (List.getElem_mem hkl)
          have HTK := Lib.hid (List.take_succ_eq_append_getElem hkl)
          clear hx
          obtain ⟨x, hxe⟩ : ∃ x, i0[k2] = x := ⟨_, rfl⟩
          rw [hxe] at hxx hok HTK
          clear hxe
          have ML := fun wx => Lib.hid (millionths_fit (w := wx) (mov_hi hok t0 t1))
          have mbd := millis_bd (mov_hi hok t0 t1)
          obtain ⟨s, r, m, g, lo, hi⟩ := x
          obtain ⟨c0, c1, c2, c3, c4, c5⟩ := hxx
          obtain ⟨s0, s1, r0, r1, m0, m1, g0, g1, l0, l1, h0, h1⟩ := hok
          simp only at c0 c1 c2 c3 c4 c5 ML mbd s0 s1 r0 r1 m0 m1 g0 g1 l0 l1 h0 h1
          obtain ⟨mv, hmv⟩ : ∃ mv, millis (s + hi) r m t = mv := ⟨_, rfl⟩
          rw [hmv] at ML mbd
          have HMV : Hid (mv = hiM ⟨s, r, m, g, lo, hi⟩ t) := Lib.hid hmv.symm
          obtain ⟨sv, hsv⟩ : ∃ sv, (share t o (i0.take k2) g) = sv := ⟨_, rfl⟩
          have HSV := Lib.hid hsv.symm
          have HAT : Hid (D.atKey (intL g) (.lit (.int .i64 0)) = .lit (.int .i64 sv)) := Lib.hid (by rw [hsh.at_ g, hsv])
          have sbd : -20000000000000 ≤ sv ∧ sv ≤ 20000000000000 := by
            rw [← hsv]
            exact share_bd (fun y hy => Ho.out y (by first | exact hy | exact List.mem_of_mem_take hy)) (fun y hy => Hi.out y (by first | exact hy | exact List.mem_of_mem_take hy | cases hy)) t0 t1 (by first | omega | (rw [List.length_take]; omega)) (by first | omega | (rw [List.length_take]; omega) | simp)
          clear hmv hsv
          have hw1 : IntKind.i64.wrap (s + hi) = s + hi := by rw [IntKind.wrap_i64]; omega
          have hw2 : IntKind.i64.wrap (sv - mv) = sv - mv := by rw [IntKind.wrap_i64]; omega
          have HSH := Lib.hid (hsh.inner ⟨s, r, m, g, lo, hi⟩ (v := sv - mv) (by rw [HSV.out, HMV.out]))
          unfold mdV at ML
          clear hsh
          go_upto_region 10 with fail
          have hown1 : (wr.alloc (.cells #[.int .i64 s, .int .i64 r, .int .i64 m, .int .i64 g, .int .i64 lo, .int .i64 hi] 44)).ownsMap Try.prog 3 (plainElem Try.prog 3) (w.heap.size + 1) (k + k2) D := hown.alloc _
          have d0 : (wr.alloc (.cells #[.int .i64 s, .int .i64 r, .int .i64 m, .int .i64 g, .int .i64 lo, .int .i64 hi] 44)).cell? ⟨wr.heap.size, 0, none⟩ = some (.int .i64 s) := by rw [World.cell?_alloc_new]; rfl
          have d1 : (wr.alloc (.cells #[.int .i64 s, .int .i64 r, .int .i64 m, .int .i64 g, .int .i64 lo, .int .i64 hi] 44)).cell? ⟨wr.heap.size, 1, none⟩ = some (.int .i64 r) := by rw [World.cell?_alloc_new]; rfl
          have d2 : (wr.alloc (.cells #[.int .i64 s, .int .i64 r, .int .i64 m, .int .i64 g, .int .i64 lo, .int .i64 hi] 44)).cell? ⟨wr.heap.size, 2, none⟩ = some (.int .i64 m) := by rw [World.cell?_alloc_new]; rfl
          have d3 : (wr.alloc (.cells #[.int .i64 s, .int .i64 r, .int .i64 m, .int .i64 g, .int .i64 lo, .int .i64 hi] 44)).cell? ⟨wr.heap.size, 3, none⟩ = some (.int .i64 g) := by rw [World.cell?_alloc_new]; rfl
          have d4 : (wr.alloc (.cells #[.int .i64 s, .int .i64 r, .int .i64 m, .int .i64 g, .int .i64 lo, .int .i64 hi] 44)).cell? ⟨wr.heap.size, 4, none⟩ = some (.int .i64 lo) := by rw [World.cell?_alloc_new]; rfl
          have d5 : (wr.alloc (.cells #[.int .i64 s, .int .i64 r, .int .i64 m, .int .i64 g, .int .i64 lo, .int .i64 hi] 44)).cell? ⟨wr.heap.size, 5, none⟩ = some (.int .i64 hi) := by rw [World.cell?_alloc_new]; rfl
          have dq : (wr.alloc (.cells #[.int .i64 s, .int .i64 r, .int .i64 m, .int .i64 g, .int .i64 lo, .int .i64 hi] 44)).cell? ⟨qb, 2, none⟩ = some (.int .i64 t) := by rw [((Below.refl wr.heap.size wr).alloc (Nat.le_refl _) _).cell (p := ⟨qb, 2, none⟩) (by show qb < _; omega)]; exact (HB.out.cell (p := ⟨qb, 2, none⟩) hqb).trans HQ.out
          have dc : (wr.alloc (.cells #[.int .i64 s, .int .i64 r, .int .i64 m, .int .i64 g, .int .i64 lo, .int .i64 hi] 44)).cell? ⟨w.heap.size, 2, none⟩ = some (.slice (some ⟨blk, off, none⟩) n' c') := by rw [((Below.refl wr.heap.size wr).alloc (Nat.le_refl _) _).cell (p := ⟨w.heap.size, 2, none⟩) (by show w.heap.size < _; omega)]; exact hc2
          have HB1 : Hid (Below w.heap.size w (wr.alloc (.cells #[.int .i64 s, .int .i64 r, .int .i64 m, .int .i64 g, .int .i64 lo, .int .i64 hi] 44))) := Lib.hid (HB.out.alloc (by omega) _)
          have hsz1 : wr.heap.size < (wr.alloc (.cells #[.int .i64 s, .int .i64 r, .int .i64 m, .int .i64 g, .int .i64 lo, .int .i64 hi] 44)).heap.size := by simp
          generalize (wr.alloc (.cells #[.int .i64 s, .int .i64 r, .int .i64 m, .int .i64 g, .int .i64 lo, .int .i64 hi] 44)) = W1 at hown1 d0 d1 d2 d3 d4 d5 dq dc HB1 hsz1 ⊢
          have hl1 := look_int hown1.drew (by omega) HAT.out
          clear c0 c1 c2 c3 c4 c5 hc2 hown HB
          go_region_held3 (fun wx => wx.cell? ⟨qb, 2, none⟩ = some (.int .i64 t) ∧ wx.cell? ⟨wr.heap.size, 0, none⟩ = some (.int .i64 s) ∧ wx.cell? ⟨wr.heap.size, 3, none⟩ = some (.int .i64 g) ∧ wx.cell? ⟨wr.heap.size, 4, none⟩ = some (.int .i64 lo) ∧ wx.cell? ⟨wr.heap.size, 5, none⟩ = some (.int .i64 hi) ∧ wx.cell? ⟨wr.heap.size, 0 + 1, none⟩ = some (.int .i64 r) ∧ wx.cell? ⟨wr.heap.size, 0 + 2, none⟩ = some (.int .i64 m) ∧ wx.cell? ⟨wr.heap.size, 0 + 3, none⟩ = some (.int .i64 g) ∧ wx.cell? ⟨wr.heap.size, 0 + 4, none⟩ = some (.int .i64 lo) ∧ wx.cell? ⟨wr.heap.size, 0 + 5, none⟩ = some (.int .i64 hi)) ((first | assumption | (refine ⟨?_, ?_, ?_, ?_, ?_, ?_, ?_, ?_, ?_, ?_⟩ <;> assumption) | (exact kept_hi (by assumption) hb5) | (exact keptg_hi (by assumption) hgrow6 (by omega) (by omega)))) (first | (go_at_call 99; refine Calls.mono (moist_hi (And.left (by assumption))) ?_; rintro e w4 ⟨rfl, rfl⟩) | (go_at_call 62; refine Calls.mono (ML _).out ?_; rintro e w5 ⟨rfl, hb5⟩; have hown5 := World.ownsMap.kept hown1.drew (below_grown hb5 none) (by simp); have hl5 := look_int hown5 (by omega) HAT.out; obtain ⟨w6, hrun6, hown6, hgrow6⟩ := upd_int (g := g) (S := sv - mv) hown5 (by unfold maxLen; omega) (by omega) (by omega)))
          all_goals
            go_wp2
            go_roundw
            case rel =>
              refine ⟨k2 + 1, _, by omega, by go_num, hown6, by rw [HTK.out]; exact HSH.out, ?_, ?_⟩
              · exact ((HB1.out.drew).trans (hb5.mono (by have := HB1.out.size; simp; omega))).grown hgrow6 (by have := hb5.size; simp at this; omega) (fun j hj => by cases hj; omega)
              · rw [hgrow6.cell_far ⟨w.heap.size, 2, none⟩ (by show w.heap.size < _; have := hb5.size; simp at this; omega) (by simp), hb5.cell (p := ⟨w.heap.size, 2, none⟩) (by show w.heap.size < _; simp; omega)]; exact dc
            case measure => simp [intOf]; omega
    
        · have hk2' : k2 = n' := by omega
          have hsh2 : Hid (SharesOf D (fun _ => t) o i0) := Lib.hid (by rw [List.take_of_length_le (by omega)] at hsh; exact hsh)
          clear hsh
          subst hk2'
          go_wp2
          go_ret
          exact ⟨_, rfl, hown.mono (by omega), hsh2.out, HB.out⟩
end Go.Proofs.Ytffmaoalnilkkaa
