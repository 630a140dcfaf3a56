/- Walks over the timber seat: tables. -/
import Derived.Test.YtnjbhidncicfiaaW9
import Derived.Test.YtnjbhidncicfiaaMT
import Derived.Test.YtnjbhidncicfiaaO1
import Derived.Handy
namespace Go.Proofs.Ytnjbhidncicfiaa
open Go.RowKit

def KnAt (w : World) (blk off : Nat) (k : Kn) : Prop := w.cell? ⟨blk, off, none⟩ = some (.int .i64 k.1) ∧ w.cell? ⟨blk, off + 1, none⟩ = some (.int .i64 k.2)
theorem KnAt.below {w w' : World} {B blk off : Nat} {k : Kn} (h : KnAt w blk off k) (hb : Below B w w') (hlt : blk < B) : KnAt w' blk off k :=
  ⟨(hb.cell (p := ⟨blk, off, none⟩) hlt).trans h.1, (hb.cell (p := ⟨blk, off + 1, none⟩) hlt).trans h.2⟩
abbrev KnRow (w : World) (A : Option Addr) (n : Nat) (ks : List Kn) : Prop := RowOf (KnAt w) 2 A n ks w.heap.size
theorem KnRow.below {w w' : World} {A : Option Addr} {n : Nat} {ks : List Kn} (h : KnRow w A n ks) (hb : Below w.heap.size w w') : KnRow w' A n ks :=
  RowOf.keep h hb.size (fun _ _ _ hlt hx => KnAt.below hx hb hlt)

theorem within_oneb {lo hi x : Int} {v : Bool} (hv : allIn lo hi [x] = v) (w : World) (e : TypeId) {blk : Nat} (hblk : blk = w.heap.size) :
    Calls Try.prog 79 #[.int .i64 lo, .int .i64 hi, .slice (some ⟨blk, 0, none⟩) 1 1] (w.alloc (.cells #[.int .i64 x] e)) fun e' w' => e' = .returned (.bool v) ∧ Below w.heap.size w w' := by
  subst hblk; exact within_one hv w e

set_option maxHeartbeats 2000000 in
theorem checkTable_any {A : Option Addr} {n cp : Nat} {ks : List Kn} {c : Int} (hc : tabCode ks = c) (w : World) (hr : KnRow w A n ks) (hn : n ≤ maxLen) :
    Calls Try.prog 101 #[.slice A n cp] w fun e w' => e = .returned (.int .i64 c) ∧ Below w.heap.size w w' := by
  obtain ⟨hl, hrow⟩ := hr
  have hn' : n ≤ 9223372036854775807 := hn
  by_cases h0 : n = 0
  · have HC : Hid (c = 12) := Lib.hid (by rw [← hc]; unfold tabCode; rw [decide_eq_true (by omega)]; rfl)
    clear hc hrow hl
    subst h0
    go_enter Try.func101, Try.ntmps101
    go_wp2
    go_ret
    exact ⟨ret_int HC.out.symm, Below.refl _ _⟩
  · by_cases h50 : 50 < n
    · have HC : Hid (c = 8) := Lib.hid (by rw [← hc]; unfold tabCode; rw [decide_eq_false (by omega), decide_eq_true (by omega)]; rfl)
      clear hc hrow hl
      go_enter Try.func101, Try.ntmps101
      go_wp2
      go_ret
      exact ⟨ret_int HC.out.symm, Below.refl _ _⟩
    · obtain ⟨blk, off, rfl, hblk, hx⟩ := hrow (by omega)
      have HX := Lib.hid hx
      have HC : Hid (tabFrom (lastAt ks 0) (ks.drop 0) = c) := Lib.hid (by rw [← hc]; unfold tabCode; rw [decide_eq_false (by omega), decide_eq_false (by omega)]; rfl)
      have hz : ((n : Int) == 0) = false := by rw [beq_eq_false_iff_ne]; omega
      have hz5 : decide (50 < (n : Int)) = false := decide_eq_false (by omega)
      clear hc hx hrow
      go_enter Try.func101, Try.ntmps101
      go_wp2
      go_loopw [3, 16] (fun last i wr => ∃ k : Nat, k ≤ n ∧ tabFrom (lastAt ks k) (ks.drop k) = c ∧ last = .int .i64 (lastAt ks k) ∧ i = .int .i64 k ∧ Below w.heap.size w wr) (fun _ i _ => n - (intOf i).toNat)
      case atStart => exact ⟨0, Nat.zero_le _, HC.out, rfl, rfl, Below.refl _ _⟩
      case round =>
        obtain ⟨k, hk, ht, rfl, rfl, hbw⟩ := hrel
        have HT := Lib.hid ht
        have HB := Lib.hid hbw
        obtain ⟨last, hlast⟩ : ∃ x, lastAt ks k = x := ⟨_, rfl⟩
        rw [hlast]
        have HL := Lib.hid hlast
        clear ht hlast
        by_cases hlt : k < n
        · have hkl : k < ks.length := by omega
          obtain ⟨c1, c2⟩ := (HX.out k hkl).below hbw hblk
          have HS := Lib.hid (tab_step hkl)
          rw [HL.out] at HS
          obtain ⟨a, ha⟩ : ∃ x, ks[k].1 = x := ⟨_, rfl⟩
          obtain ⟨v, hv⟩ : ∃ x, ks[k].2 = x := ⟨_, rfl⟩
          rw [ha] at c1 HS
          rw [hv] at c2 HS
          have HA := Lib.hid ((lastAt_succ hkl).trans ha)
          clear ha hv hbw
          cases h1 : inB 0 1000 a
          · have X1 := Lib.hid ((allIn_one 0 1000 a).trans h1)
            have HV : Hid (c = 2) := Lib.hid (by rw [← HT.out, HL.out, HS.out, h1]; rfl)
            clear h1
            go_wp2_with (go_at_call 79; (with_reducible refine (within_oneb X1.out _ _ (by simp)).mono ?_); rintro e w1 ⟨rfl, hb1⟩; have hs1 : wr.heap.size < w1.heap.size := (by have := hb1.size; (try simp at this); omega); obtain ⟨hc1, hf1⟩ := bcell hb1)
            go_ret
            exact ⟨ret_int HV.out.symm, HB.out.trans ((((Below.refl wr.heap.size wr).alloc (Nat.le_refl _) _).trans (hb1.mono (by first | omega | (simp; omega) | simp))).mono HB.out.size)⟩
          · have X1 := Lib.hid ((allIn_one 0 1000 a).trans h1)
            cases h2 : inB 0 400 v
            · have X2 := Lib.hid ((allIn_one 0 400 v).trans h2)
              have HV : Hid (c = 2) := Lib.hid (by rw [← HT.out, HL.out, HS.out, h1, h2]; rfl)
              clear h1 h2
              go_wp2_with (first | (go_at_call 79; (with_reducible refine (within_oneb X1.out _ _ (by simp)).mono ?_); rintro e w1 ⟨rfl, hb1⟩; have hs1 : wr.heap.size < w1.heap.size := (by have := hb1.size; (try simp at this); omega); obtain ⟨hc1, hf1⟩ := bcell hb1) | (go_at_call 79; (with_reducible refine (within_oneb X2.out _ _ (by simp)).mono ?_); rintro e w2 ⟨rfl, hb2⟩; have hs2 : wr.heap.size < w2.heap.size := (by have := hb2.size; (try simp at this); omega); obtain ⟨hc2, hf2⟩ := bcell hb2))
              go_ret
              exact ⟨ret_int HV.out.symm, HB.out.trans (((((Below.refl wr.heap.size wr).alloc (Nat.le_refl _) _).trans (hb1.mono (by first | omega | (simp; omega) | simp))).trans (hb2.mono (by omega))).mono HB.out.size)⟩
            · have X2 := Lib.hid ((allIn_one 0 400 v).trans h2)
              by_cases h3 : a ≤ last
              · have HV : Hid (c = 9) := Lib.hid (by rw [← HT.out, HL.out, HS.out, h1, h2, decide_eq_true h3]; rfl)
                clear h1 h2
                go_wp2_with (first | (go_at_call 79; (with_reducible refine (within_oneb X1.out _ _ (by simp)).mono ?_); rintro e w1 ⟨rfl, hb1⟩; have hs1 : wr.heap.size < w1.heap.size := (by have := hb1.size; (try simp at this); omega); obtain ⟨hc1, hf1⟩ := bcell hb1) | (go_at_call 79; (with_reducible refine (within_oneb X2.out _ _ (by simp)).mono ?_); rintro e w2 ⟨rfl, hb2⟩; have hs2 : wr.heap.size < w2.heap.size := (by have := hb2.size; (try simp at this); omega); obtain ⟨hc2, hf2⟩ := bcell hb2))
                go_ret
                exact ⟨ret_int HV.out.symm, HB.out.trans (((((Below.refl wr.heap.size wr).alloc (Nat.le_refl _) _).trans (hb1.mono (by first | omega | (simp; omega) | simp))).trans (hb2.mono (by omega))).mono HB.out.size)⟩
              · have HV : Hid (tabFrom (lastAt ks (k + 1)) (ks.drop (k + 1)) = c) := Lib.hid (by rw [← HT.out, HL.out, HS.out, h1, h2, decide_eq_false h3]; rfl)
                clear h1 h2
                go_wp2_with (first | (go_at_call 79; (with_reducible refine (within_oneb X1.out _ _ (by simp)).mono ?_); rintro e w1 ⟨rfl, hb1⟩; have hs1 : wr.heap.size < w1.heap.size := (by have := hb1.size; (try simp at this); omega); obtain ⟨hc1, hf1⟩ := bcell hb1) | (go_at_call 79; (with_reducible refine (within_oneb X2.out _ _ (by simp)).mono ?_); rintro e w2 ⟨rfl, hb2⟩; have hs2 : wr.heap.size < w2.heap.size := (by have := hb2.size; (try simp at this); omega); obtain ⟨hc2, hf2⟩ := bcell hb2))
                go_roundw
                case rel =>
                  exact ⟨k + 1, by omega, HV.out, by rw [HA.out], by go_num, HB.out.trans (((((Below.refl wr.heap.size wr).alloc (Nat.le_refl _) _).trans (hb1.mono (by first | omega | (simp; omega) | simp))).trans (hb2.mono (by omega))).mono HB.out.size)⟩
                case measure => simp [intOf]; omega
        · have hk' : k = n := by omega
          have HV : Hid (c = 0) := Lib.hid (by rw [← HT.out, tab_end (by omega)])
          subst hk'
          go_wp2
          go_ret
          exact ⟨ret_int HV.out.symm, HB.out⟩
end Go.Proofs.Ytnjbhidncicfiaa
