/- Walks over frames: bays, stiffness, push. -/
import Derived.Test.YtablphoicidlkaaST
namespace Go.Proofs.Ytablphoicidlkaa
open Go.RowKit

def baysL (h0 : Int) : List By → Int
  | [] => 0
  | x :: r => bif bayE x == 0 then (bif x.h == h0 then baysL h0 r else 10) else bayE x
theorem baysL_cons (h0 : Int) (x : By) (r : List By) : baysL h0 (x :: r) = bif bayE x == 0 then (bif x.h == h0 then baysL h0 r else 10) else bayE x := rfl
def headH : List By → Int
  | [] => 0
  | x :: _ => x.h
def baysE (l : List By) : Int := bif decide (l.length < 1) || decide (12 < l.length) then 10 else baysL (headH l) l
structure BaysOk (l : List By) : Prop where
  n0 : 1 ≤ l.length
  n1 : l.length ≤ 12
  ok : ∀ x ∈ l, BayOk x ∧ x.h = headH l
theorem baysL_ok {h0 : Int} : ∀ {l : List By}, baysL h0 l = 0 ↔ ∀ x ∈ l, BayOk x ∧ x.h = h0
  | [] => by simp [baysL]
  | x :: r => by
    unfold baysL
    by_cases h : bayE x = 0
    · rw [h]
      simp only [beq_self_eq_true, cond_true]
      by_cases hh : x.h = h0
      · rw [show (x.h == h0) = true from by simpa using hh, cond_true, baysL_ok (l := r)]
        simp [bayE_ok.1 h, hh]
      · rw [show (x.h == h0) = false from by simpa using hh, cond_false]
        simp [hh]
    · rw [show (bayE x == 0) = false from by simpa using h, cond_false]
      constructor
      · intro h'; exact absurd h' h
      · intro h'; exact absurd (bayE_ok.2 (h' x (List.mem_cons_self ..)).1) h
theorem baysE_ok {l : List By} : baysE l = 0 ↔ BaysOk l := by
  unfold baysE
  by_cases h1 : l.length < 1
  · rw [decide_eq_true h1]
    simp only [Bool.true_or, cond_true]
    exact ⟨(fun h => by cases h), fun h => by have := h.n0; omega⟩
  · by_cases h2 : 12 < l.length
    · rw [decide_eq_true h2]
      simp only [Bool.or_true, cond_true]
      exact ⟨(fun h => by cases h), fun h => by have := h.n1; omega⟩
    · rw [decide_eq_false h1, decide_eq_false h2]
      simp only [Bool.or_self, cond_false]
      rw [baysL_ok]
      exact ⟨fun h => ⟨by omega, by omega, h⟩, fun h => h.ok⟩
set_option maxHeartbeats 8000000 in
set_option maxRecDepth 20000 in
theorem checkBays_any {A : Option Addr} {n c : Nat} {l : List By} (w : World) (h : BayRow w A n l) (hn : n ≤ maxLen) :
    Calls Try.prog 67 #[.slice A n c] w fun e w' => e = .returned (.int .i64 (baysE l)) ∧ Below w.heap.size w w' := by
  have HR := Lib.hid h
  have hle : l.length ≤ n := by have := h.1; omega
  have hge : n ≤ l.length := by have := h.1; omega
  have CB := Lib.hid (fun (x : By) A n c wx (hr : IntRow wx A n x.js) (hn : n ≤ maxLen) => checkBay_any (x := x) (c := c) wx hr hn)
  clear h
  unfold maxLen at hn
  unfold byV at CB
  by_cases h1 : n < 1
  · have d1 : decide (n < 1) = true := decide_eq_true h1
    have d2 : decide ((n : Int) < 1) = true := decide_eq_true (by omega)
    go_enter Try.func67, Try.ntmps67
    go_wp2
    go_ret
    exact ⟨ret_int (by unfold baysE; rw [decide_eq_true (by omega : l.length < 1)]; rfl), Below.refl _ _⟩
  · by_cases h2 : 12 < n
    · have d1 : decide (n < 1) = false := decide_eq_false h1
      have d2 : decide ((n : Int) < 1) = false := decide_eq_false (by omega)
      have d3 : decide (12 < n) = true := decide_eq_true h2
      have d4 : decide ((12 : Int) < (n : Int)) = true := decide_eq_true (by omega)
      go_enter Try.func67, Try.ntmps67
      go_wp2
      go_ret
      exact ⟨ret_int (by unfold baysE; rw [decide_eq_true (by omega : 12 < l.length), Bool.or_true]; rfl), Below.refl _ _⟩
    · have d1 : decide (n < 1) = false := decide_eq_false h1
      have d2 : decide ((n : Int) < 1) = false := decide_eq_false (by omega)
      have d3 : decide (12 < n) = false := decide_eq_false h2
      have d4 : decide ((12 : Int) < (n : Int)) = false := decide_eq_false (by omega)
      have HE : Hid (baysE l = baysL (headH l) l) := Lib.hid (by unfold baysE; rw [decide_eq_false (by omega : ¬ l.length < 1), decide_eq_false (by omega : ¬ 12 < l.length)]; rfl)
      have hpos : 0 < l.length := by omega
      have HH : Hid (headH l = l[0].h) := Lib.hid (by
        cases l with
        | nil => simp at hpos
        | cons x r => rfl)
      obtain ⟨blk, off, rfl, hblk, hx⟩ := HR.out.2 (by omega)
      have HX := Lib.hid hx
      have hz0 := (hx 0 hpos).1.1
      rw [show off + 0 * 5 = off by omega, ← HH.out] at hz0
      have HZ := Lib.hid hz0
      clear hx HR hz0
      go_enter Try.func67, Try.ntmps67
      go_wp2
      go_loopw [16] (fun i wr => ∃ k : Nat, k ≤ n ∧ i = .int .i64 k ∧ baysL (headH l) l = baysL (headH l) (l.drop k) ∧ Below w.heap.size w wr) (fun i _ => n - (intOf i).toNat)
      case atStart => exact ⟨0, Nat.zero_le _, rfl, by rw [List.drop_zero], Below.refl _ _⟩
      case round =>
        obtain ⟨k, hk, rfl, hf, hbw⟩ := hrel
        have HF := Lib.hid hf
        have HB := Lib.hid hbw
        clear hf
        by_cases hlt : k < n
        · have hkl : k < l.length := by omega
          obtain ⟨⟨c0, c1, c2, c3⟩, A, m, cc, c4, hjr, hm⟩ := BayAt.below (HX.out k hkl) hbw hblk
          have hz0 := ((bcell hbw).1 _ _ hblk).trans HZ.out
          have hsz := hbw.size
          have hbl : blk < wr.heap.size := by omega
          have HD := Lib.hid (List.drop_eq_getElem_cons hkl)
          have HJ := Lib.hid (fun (wx : World) (hb : Below wr.heap.size wr wx) => hjr.below hb)
          have HM := Lib.hid hm
          clear hjr hm hbw
          obtain ⟨x, hxe⟩ : ∃ x, l[k] = x := ⟨_, rfl⟩
          rw [hxe] at c0 c1 c2 c3 HJ HD
          clear hxe
          have CX := Lib.hid (fun wx (hb : Below wr.heap.size wr wx) => CB.out x A m cc wx (HJ.out wx hb) HM.out)
          obtain ⟨be, hbe⟩ : ∃ be, bayE x = be := ⟨_, rfl⟩
          rw [hbe] at CX
          have HBE := Lib.hid hbe
          obtain ⟨h0, hh0⟩ : ∃ h0, headH l = h0 := ⟨_, rfl⟩
          rw [hh0] at hz0 HF
          have HH0 := Lib.hid hh0
          clear hbe hh0
          have HBA : Hid (Below wr.heap.size wr (wr.alloc (.cells #[.int .i64 x.h, .int .i64 x.w, .int .i64 x.t, .int .i64 x.g, .slice A m cc] 113))) := Lib.hid ((Below.refl _ _).alloc (Nat.le_refl _) _)
          obtain ⟨xh, hxh⟩ : ∃ y, x.h = y := ⟨_, rfl⟩
          have HXH := Lib.hid hxh
          rw [hxh] at c0 CX HBA
          clear hxh
          by_cases hb0 : be = 0
          · subst hb0
            go_upto_region 9 with (go_at_call 128; (refine Calls.mono (CX.out _ HBA.out) ?_); rintro e w2 ⟨rfl, hb2⟩)
            have hz2 := hb2.size
            simp at hz2
            have hy0 : w2.cell? ⟨blk, off, none⟩ = some (.int .i64 h0) := ((bcell hb2).1 _ _ (by simp; omega)).trans ((World.cell?_alloc_lt _ _ _ hbl).trans hz0)
            have hy1 : w2.cell? ⟨wr.heap.size, 0, none⟩ = some (.int .i64 xh) := ((bcell hb2).1 _ _ (by simp)).trans (by simp [go_sem])
            have HB2 := Lib.hid (HB.out.trans ((HBA.out.trans (hb2.mono HBA.out.size)).mono HB.out.size))
            have hn0 : (0 : Int) < (n : Int) := by omega
            have hn1 : 0 < n := by omega
            clear hb2
            by_cases hh : xh = h0
            · have e1 : (xh != h0) = false := by simpa using hh
              have e2 : (xh == h0) = true := by simpa using hh
              have E2 := Lib.hid e2
              go_quiet (fail)
              go_wp2
              go_roundw
              case rel => exact ⟨k + 1, by omega, by go_num, by rw [HH0.out, HF.out, HD.out]; rw [baysL_cons, HBE.out, HXH.out, E2.out]; rfl, below_drewN HB2.out _⟩
              case measure => simp [intOf]; omega
            · have e1 : (xh != h0) = true := by simpa using hh
              have e2 : (xh == h0) = false := by simpa using hh
              have E2 := Lib.hid e2
              go_quiet (fail)
              go_wp2
              go_ret
              exact ⟨ret_int (by rw [HE.out, HH0.out, HF.out, HD.out]; rw [baysL_cons, HBE.out, HXH.out, E2.out]; rfl), below_drewN HB2.out _⟩
          · have e1 : (be == 0) = false := by simpa using hb0
            have e2 : (be != 0) = true := by simpa using hb0
            have E1 := Lib.hid e1
            go_wp2_with (go_at_call 128; (refine Calls.mono (CX.out _ HBA.out) ?_); rintro e w2 ⟨rfl, hb2⟩; have HB2 := Lib.hid (HB.out.trans ((HBA.out.trans (hb2.mono HBA.out.size)).mono HB.out.size)); clear hb2)
            go_ret
            exact ⟨ret_int (by rw [HE.out, HH0.out, HF.out, HD.out]; rw [baysL_cons, HBE.out, E1.out]; rfl), HB2.out⟩
        · go_wp2
          go_ret
          exact ⟨ret_int (by rw [HE.out, HF.out, List.drop_of_length_le (by omega)]; rfl), HB.out⟩
end Go.Proofs.Ytablphoicidlkaa
