/- Walks over the fits: likely stacks, the reference's check of a stack. -/
import Derived.Test.YtcjhodlimpgegaaGS
import Derived.Test.YtcjhodlimpgegaaGR
namespace Go.Proofs.Ytcjhodlimpgegaa
open Go.RowKit Go.Maps

def lkCode (l : List Md) (lim : Int) : Int := bif decide (madesCode l = 0) then (bif allIn 0 600000 [lim] then 0 else 2) else madesCode l
def lkV (l : List Md) (lim : Int) : Bool := bif decide (lkCode l lim = 0) then decide (sumSq l ≤ lim * lim) else false
set_option maxHeartbeats 4000000 in
set_option maxRecDepth 20000 in
theorem likely_any {A : Option Addr} {n c : Nat} {l : List Md} {lim cd : Int} (hc : lkCode l lim = cd) (hn : n ≤ 1000000) (w : World) (hA : MdRow w A n l) :
    Calls Try.prog 33 #[.slice A n c, .int .i64 lim] w fun e w' => e = .returned (.tuple #[.bool (lkV l lim), .int .i64 cd]) ∧ Below w.heap.size w w' := by
  have HMD := Lib.hid (fun wx (hb : Below w.heap.size w wx) => hA.below hb)
  have CL := Lib.hid (fun wx (hb : Below w.heap.size w wx) (e : TypeId) lb (hlb : lb = wx.heap.size) => fit1 (c := c) wx e (HMD.out wx hb) hn hlb 1)
  have hB1 : Hid (∀ o, Below w.heap.size w (w.alloc o)) := Lib.hid (fun o => (Below.refl _ _).alloc (Nat.le_refl _) _)
  have HV : Hid (lkV l lim = bif decide (cd = 0) then decide (sumSq l ≤ lim * lim) else false) := Lib.hid (by unfold lkV; rw [hc])
  obtain ⟨v, hv⟩ : ∃ v, lkV l lim = v := ⟨_, rfl⟩
  rw [hv] at HV ⊢
  clear hv
  unfold lkCode at hc
  by_cases h0 : madesCode l = 0
  · obtain ⟨h20, hok⟩ := madesCode_ok h0
    rw [h0] at hc CL
    simp only [decide_true, cond_true] at hc
    cases hi : allIn 0 600000 [lim]
    · rw [hi] at hc
      simp only [cond_false] at hc
      subst hc
      have X := Lib.hid hi
      have HW : Hid (v = false) := Lib.hid (by rw [HV.out]; rfl)
      clear hi hA h0 HV
      go_enter Try.func33, Try.ntmps33
      go_wp2_with (first | (go_at_call 53; refine Calls.mono (CL.out w (Below.refl _ _) _ _ rfl) ?_; rintro e w2 ⟨rfl, hb2⟩; have hs2 := hb2.size) | (go_at_call 54; (with_reducible refine (withinOne_fit X.out _ _ (by simp)).mono ?_); rintro e w3 ⟨rfl, hb3⟩))
      go_ret2
      exact ⟨by rw [HW.out]; rfl, hb2.trans (hb3.mono hs2)⟩
    · rw [hi] at hc
      simp only [cond_true] at hc
      subst hc
      have X := Lib.hid hi
      have l01 := allIn_one.1 hi
      have HW : Hid (decide (sumSq l ≤ lim * lim) = v) := Lib.hid (by rw [HV.out]; rfl)
      have hlm : 0 ≤ lim * lim ∧ lim * lim ≤ 360000000000 := ⟨Int.mul_nonneg l01.1 l01.1, by have := Int.mul_le_mul l01.2 l01.2 l01.1 (by omega : (0 : Int) ≤ 600000); omega⟩
      have hwl : wrap64 (lim * lim) = lim * lim := w64 (by omega)
      have hwl2 : IntKind.i64.wrap (lim * lim) = lim * lim := by rw [IntKind.wrap_i64]; omega
      have hln := hA.1
      have HOK := Lib.hid hok
      have HSB := Lib.hid (fun k => (sums_bd (l := l.take k) (fun x hx => hok x (List.mem_of_mem_take hx)) (by rw [List.length_take]; omega)).2.2)
      have HR := Lib.hid hA
      clear hi hA h0 HV hok
      go_enter Try.func33, Try.ntmps33
      go_wp2_with (first | (go_at_call 53; refine Calls.mono (CL.out w (Below.refl _ _) _ _ rfl) ?_; rintro e w2 ⟨rfl, hb2⟩; have hs2 := hb2.size) | (go_at_call 54; (with_reducible refine (withinOne_fit X.out _ _ (by simp)).mono ?_); rintro e w3 ⟨rfl, hb3⟩))
      have HB3 := Lib.hid (hb2.trans (hb3.mono hs2))
      clear hb2 hb3 hs2
      go_loopw [7, 22] (fun s i wr => ∃ k : Nat, k ≤ n ∧ i = .int .i64 k ∧ s = .int .i64 (sumSq (l.take k)) ∧ Hid (Below w.heap.size w wr)) (fun _ i _ => n - (intOf i).toNat)
      case atStart => exact ⟨0, Nat.zero_le _, rfl, rfl, HB3⟩
      case round =>
        obtain ⟨k, hk, rfl, rfl, HB⟩ := hrel
        by_cases hlt : k < n
        · have hkl : k < l.length := by omega
          obtain ⟨blk, off, rfl, hblk, hx⟩ := HR.out.2 (by omega)
          have hxx := (hx k hkl).below HB.out hblk
          have hok := md_bd (HOK.out l[k] (List.getElem_mem hkl))
          have H1 := Lib.hid (sumL_take_succ (fun x : Md => (x.lo + x.hi) * (x.lo + x.hi)) l hkl)
          have hbd := HSB.out k
          clear hx
          obtain ⟨x, hxe⟩ : ∃ x, l[k] = x := ⟨_, rfl⟩
          rw [hxe] at hxx H1 hok
          clear hxe
          obtain ⟨s0, r0', m0, g0', l0, h0⟩ := x
          obtain ⟨x0, x1, x2, x3, x4, x5⟩ := hxx
          simp only at x0 x1 x2 x3 x4 x5 H1 hok
          change Hid (sumSq (l.take (k + 1)) = sumSq (l.take k) + (l0 + h0) * (l0 + h0)) at H1
          obtain ⟨a, ha⟩ : ∃ a, sumSq (l.take k) = a := ⟨_, rfl⟩
          rw [ha] at H1 hbd ⊢
          clear ha
          obtain ⟨-, -, ⟨k1, k2⟩, ⟨k3, k4⟩⟩ := hok
          have hw1 : wrap64 (l0 + h0) = l0 + h0 := w64 (by omega)
          have hw1' : IntKind.i64.wrap (l0 + h0) = l0 + h0 := by rw [IntKind.wrap_i64]; omega
          obtain ⟨y, hy⟩ : ∃ y, l0 + h0 = y := ⟨_, rfl⟩
          rw [hy] at hw1 hw1' H1 k1 k2 k3 k4
          have hw2 : wrap64 (y * y) = y * y := w64 (by omega)
          have hw2' : IntKind.i64.wrap (y * y) = y * y := by rw [IntKind.wrap_i64]; omega
          obtain ⟨z, hz⟩ : ∃ z, y * y = z := ⟨_, rfl⟩
          rw [hz] at hw2 hw2' H1 k3 k4
          have hw3 : wrap64 (a + z) = a + z := w64 (by omega)
          have hw3' : IntKind.i64.wrap (a + z) = a + z := by rw [IntKind.wrap_i64]; omega
          have hsz := HB.out.size
          go_wp2
          go_roundw
          case rel => exact ⟨k + 1, by omega, by go_num, by rw [H1.out], Lib.hid (HB.out.alloc hsz _)⟩
          case measure => simp [intOf]; omega
        · have hk' : k = n := by omega
          have hfull : l.take k = l := List.take_of_length_le (by omega)
          rw [hfull]
          subst hk'
          go_wp2
          go_ret2
          exact ⟨by rw [← HW.out]; rfl, HB.out⟩
  · rw [decide_eq_false h0] at hc
    simp only [cond_false] at hc
    rw [hc] at CL h0
    have hcb : (cd == 0) = false := beq_eq_false_iff_ne.2 h0
    have hcb' : (cd != 0) = true := bne_iff_ne.2 h0
    have HW : Hid (v = false) := Lib.hid (by rw [HV.out, decide_eq_false h0]; rfl)
    clear hA hc HV
    go_enter Try.func33, Try.ntmps33
    go_wp2_with (first | (go_at_call 53; refine Calls.mono (CL.out w (Below.refl _ _) _ _ rfl) ?_; rintro e w2 ⟨rfl, hb2⟩; have hs2 := hb2.size))
    go_ret2
    exact ⟨by rw [HW.out]; rfl, hb2⟩
theorem madesCode_len {l : List Md} : madesCode l = bif decide (20 < l.length) then 8 else bif l.all madeB then 0 else 2 := rfl
set_option maxHeartbeats 1000000 in
theorem rstack_any {A : Option Addr} {n c : Nat} {l : List Md} {cd : Int} (hc : madesCode l = cd) (hn : n ≤ 1000000) (w : World) (hA : MdRow w A n l) :
    Calls Try.prog 34 #[.slice A n c] w fun e w' => e = .returned (.int .i64 cd) ∧ Below w.heap.size w w' := by
  have hln := hA.1
  rw [madesCode_len, hln] at hc
  have CL := fun v (hv : l.all madeB = v) => Lib.hid (rlist_any (c := c) hv hn w hA)
  by_cases h20 : 20 < n
  · rw [decide_eq_true h20] at hc
    simp only [cond_true] at hc
    subst hc
    have hd : decide (20 < (n : Int)) = true := decide_eq_true (by omega)
    clear hA CL
    go_enter Try.func34, Try.ntmps34
    go_wp2
    go_ret
    exact ⟨rfl, Below.refl _ _⟩
  · rw [decide_eq_false h20] at hc
    simp only [cond_false] at hc
    obtain ⟨v, hv⟩ : ∃ v, l.all madeB = v := ⟨_, rfl⟩
    have C1 := CL v hv
    rw [hv] at hc
    rw [hc] at C1
    have hd : decide (20 < (n : Int)) = false := decide_eq_false (by omega)
    clear hA CL hc hv
    go_enter Try.func34, Try.ntmps34
    go_wp2_with (go_at_call 51; refine Calls.mono C1.out ?_; rintro e w2 ⟨rfl, hb2⟩)
    go_ret
    exact ⟨rfl, hb2⟩
end Go.Proofs.Ytcjhodlimpgegaa
