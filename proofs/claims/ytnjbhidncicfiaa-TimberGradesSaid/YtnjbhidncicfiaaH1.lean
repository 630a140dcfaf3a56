/- Walks over the timber seat: lists of grades, the program's check. -/
import Derived.Test.YtnjbhidncicfiaaMG
import Derived.Test.YtnjbhidncicfiaaT1
import Derived.Test.YtnjbhidncicfiaaN2
namespace Go.Proofs.Ytnjbhidncicfiaa
open Go.RowKit

def GrAt (w : World) (blk off : Nat) (g : Gr) : Prop :=
  w.cell? ⟨blk, off, none⟩ = some (.string g.nm) ∧ w.cell? ⟨blk, off + 1, none⟩ = some (.int .i64 g.mo) ∧ w.cell? ⟨blk, off + 2, none⟩ = some (.int .i64 g.sh) ∧ w.cell? ⟨blk, off + 3, none⟩ = some (.int .i64 g.cl) ∧ g.nm.size ≤ maxLen
theorem GrAt.below {w w' : World} {B blk off : Nat} {g : Gr} (h : GrAt w blk off g) (hb : Below B w w') (hlt : blk < B) : GrAt w' blk off g := by
  obtain ⟨h0, h1, h2, h3, h4⟩ := h
  have k : ∀ o, w'.cell? ⟨blk, o, none⟩ = w.cell? ⟨blk, o, none⟩ := fun o => hb.cell (p := ⟨blk, o, none⟩) hlt
  exact ⟨by rw [k, h0], by rw [k, h1], by rw [k, h2], by rw [k, h3], h4⟩
abbrev GrRow (w : World) (A : Option Addr) (n : Nat) (l : List Gr) : Prop := RowOf (GrAt w) 4 A n l w.heap.size
theorem GrRow.below {w w' : World} {A : Option Addr} {n : Nat} {l : List Gr} (h : GrRow w A n l) (hb : Below w.heap.size w w') : GrRow w' A n l :=
  RowOf.keep h hb.size (fun _ _ _ hlt hx => GrAt.below hx hb hlt)

set_option maxHeartbeats 4000000 in
theorem checkGrades_any {A : Option Addr} {n cp : Nat} {l : List Gr} {c : Int} (hc : grsCode l = c) (w : World) (hr : GrRow w A n l) (hn : n ≤ maxLen) :
    Calls Try.prog 98 #[.slice A n cp] w fun e w' => e = .returned (.int .i64 c) ∧ Below w.heap.size w w' := by
  obtain ⟨hl, hrow⟩ := hr
  have hn' : n ≤ 9223372036854775807 := hn
  by_cases h20 : 20 < n
  · have HC : Hid (c = 8) := Lib.hid (by rw [← hc]; unfold grsCode; rw [decide_eq_true (by omega)]; rfl)
    clear hc hrow hl
    go_enter Try.func98, Try.ntmps98
    go_wp2
    go_ret
    exact ⟨ret_int HC.out.symm, Below.refl _ _⟩
  · have HROW := Lib.hid hrow
    have HC : Hid (grsFrom (l.drop 0) = c) := Lib.hid (by rw [← hc]; unfold grsCode; rw [decide_eq_false (by omega)]; rfl)
    have hz5 : decide (20 < (n : Int)) = false := decide_eq_false (by omega)
    clear hc hrow
    go_enter Try.func98, Try.ntmps98
    go_wp2
    go_loopw [10] (fun i wr => ∃ k : Nat, k ≤ n ∧ grsFrom (l.drop k) = c ∧ i = .int .i64 k ∧ Below w.heap.size w wr) (fun i _ => n - (intOf i).toNat)
    case atStart => exact ⟨0, Nat.zero_le _, HC.out, rfl, Below.refl _ _⟩
    case round =>
      obtain ⟨k, hk, ht, rfl, hbw⟩ := hrel
      have HT := Lib.hid ht
      have HB := Lib.hid hbw
      clear ht
      by_cases hlt : k < n
      · have hkl : k < l.length := by omega
        obtain ⟨blk, off, rfl, hblk, hx⟩ := HROW.out (by omega)
        obtain ⟨c0, c1, c2, c3, hsz⟩ := (hx k hkl).below hbw hblk
        have HS := Lib.hid (grs_step hkl)
        obtain ⟨⟨nm, mo, sh, cl⟩, hg⟩ : ∃ g, l[k] = g := ⟨_, rfl⟩
        rw [hg] at c0 c1 c2 c3 HS hsz
        simp only at c0 c1 c2 c3 HS hsz
        have hbr : blk < wr.heap.size := Nat.lt_of_lt_of_le hblk hbw.size
        clear hg hx hbw
        cases h0 : nameB nm
        · have NM := fun wx => Lib.hid (isName_any (w := wx) h0 hsz)
          have HV : Hid (c = 4) := Lib.hid (by rw [← HT.out, HS.out, h0]; rfl)
          clear h0
          go_wp2_with (first | (go_at_call 113; (refine Calls.mono (NM _).out ?_); rintro e w' ⟨rfl, rfl⟩))
          go_ret
          exact ⟨ret_int HV.out.symm, HB.out.trans (((Below.refl wr.heap.size wr).alloc (Nat.le_refl _) _).mono HB.out.size)⟩
        · have NM := fun wx => Lib.hid (isName_any (w := wx) h0 hsz)
          cases h1 : inB 0 60 mo
          · have X1 := Lib.hid ((allIn_one 0 60 mo).trans h1)
            have HV : Hid (c = 2) := Lib.hid (by rw [← HT.out, HS.out, h0, h1]; rfl)
            clear h0 h1
            go_wp2_with (first | (go_at_call 113; (refine Calls.mono (NM _).out ?_); rintro e w' ⟨rfl, rfl⟩) | (go_at_call 79; (with_reducible refine (within_oneb X1.out _ _ (by simp)).mono ?_); rintro e w1 ⟨rfl, hb1⟩; have hs1 : wr.heap.size < w1.heap.size := (by have := hb1.size; (try simp at this); omega); obtain ⟨hc1, hf1⟩ := bcell hb1))
            go_ret
            exact ⟨ret_int HV.out.symm, HB.out.trans ((((Below.refl wr.heap.size wr).alloc (Nat.le_refl _) _).trans (hb1.mono (by first | omega | (simp; omega) | simp))).mono HB.out.size)⟩
          · have X1 := Lib.hid ((allIn_one 0 60 mo).trans h1)
            cases h2 : inB 0 1000 sh
            · have X2 := Lib.hid ((allIn_one 0 1000 sh).trans h2)
              have HV : Hid (c = 2) := Lib.hid (by rw [← HT.out, HS.out, h0, h1, h2]; rfl)
              clear h0 h1 h2
              go_wp2_with (first | (go_at_call 113; (refine Calls.mono (NM _).out ?_); rintro e w' ⟨rfl, rfl⟩) | (go_at_call 79; (with_reducible refine (within_oneb X1.out _ _ (by simp)).mono ?_); rintro e w1 ⟨rfl, hb1⟩; have hs1 : wr.heap.size < w1.heap.size := (by have := hb1.size; (try simp at this); omega); obtain ⟨hc1, hf1⟩ := bcell hb1) | (go_at_call 79; (with_reducible refine (within_oneb X2.out _ _ (by simp)).mono ?_); rintro e w2 ⟨rfl, hb2⟩; have hs2 : wr.heap.size < w2.heap.size := (by have := hb2.size; (try simp at this); omega); obtain ⟨hc2, hf2⟩ := bcell hb2))
              go_ret
              exact ⟨ret_int HV.out.symm, HB.out.trans (((((Below.refl wr.heap.size wr).alloc (Nat.le_refl _) _).trans (hb1.mono (by first | omega | (simp; omega) | simp))).trans (hb2.mono (by first | omega | (simp; omega) | simp))).mono HB.out.size)⟩
            · have X2 := Lib.hid ((allIn_one 0 1000 sh).trans h2)
              cases h3 : inB 0 600000 cl
              · have X3 := Lib.hid ((allIn_one 0 600000 cl).trans h3)
                have HV : Hid (c = 2) := Lib.hid (by rw [← HT.out, HS.out, h0, h1, h2, h3]; rfl)
                clear h0 h1 h2 h3
                go_wp2_with (first | (go_at_call 113; (refine Calls.mono (NM _).out ?_); rintro e w' ⟨rfl, rfl⟩) | (go_at_call 79; (with_reducible refine (within_oneb X1.out _ _ (by simp)).mono ?_); rintro e w1 ⟨rfl, hb1⟩; have hs1 : wr.heap.size < w1.heap.size := (by have := hb1.size; (try simp at this); omega); obtain ⟨hc1, hf1⟩ := bcell hb1) | (go_at_call 79; (with_reducible refine (within_oneb X2.out _ _ (by simp)).mono ?_); rintro e w2 ⟨rfl, hb2⟩; have hs2 : wr.heap.size < w2.heap.size := (by have := hb2.size; (try simp at this); omega); obtain ⟨hc2, hf2⟩ := bcell hb2) | (go_at_call 79; (with_reducible refine (within_oneb X3.out _ _ (by simp)).mono ?_); rintro e w3 ⟨rfl, hb3⟩; have hs3 : wr.heap.size < w3.heap.size := (by have := hb3.size; (try simp at this); omega); obtain ⟨hc3, hf3⟩ := bcell hb3))
                go_ret
                exact ⟨ret_int HV.out.symm, HB.out.trans ((((((Below.refl wr.heap.size wr).alloc (Nat.le_refl _) _).trans (hb1.mono (by first | omega | (simp; omega) | simp))).trans (hb2.mono (by first | omega | (simp; omega) | simp))).trans (hb3.mono (by first | omega | (simp; omega) | simp))).mono HB.out.size)⟩
              · have X3 := Lib.hid ((allIn_one 0 600000 cl).trans h3)
                have HV : Hid (grsFrom (l.drop (k + 1)) = c) := Lib.hid (by rw [← HT.out, HS.out, h0, h1, h2, h3]; rfl)
                clear h0 h1 h2 h3
                go_wp2_with (first | (go_at_call 113; (refine Calls.mono (NM _).out ?_); rintro e w' ⟨rfl, rfl⟩) | (go_at_call 79; (with_reducible refine (within_oneb X1.out _ _ (by simp)).mono ?_); rintro e w1 ⟨rfl, hb1⟩; have hs1 : wr.heap.size < w1.heap.size := (by have := hb1.size; (try simp at this); omega); obtain ⟨hc1, hf1⟩ := bcell hb1) | (go_at_call 79; (with_reducible refine (within_oneb X2.out _ _ (by simp)).mono ?_); rintro e w2 ⟨rfl, hb2⟩; have hs2 : wr.heap.size < w2.heap.size := (by have := hb2.size; (try simp at this); omega); obtain ⟨hc2, hf2⟩ := bcell hb2) | (go_at_call 79; (with_reducible refine (within_oneb X3.out _ _ (by simp)).mono ?_); rintro e w3 ⟨rfl, hb3⟩; have hs3 : wr.heap.size < w3.heap.size := (by have := hb3.size; (try simp at this); omega); obtain ⟨hc3, hf3⟩ := bcell hb3))
                go_roundw
                case rel => exact ⟨k + 1, by omega, HV.out, by go_num, HB.out.trans ((((((Below.refl wr.heap.size wr).alloc (Nat.le_refl _) _).trans (hb1.mono (by first | omega | (simp; omega) | simp))).trans (hb2.mono (by first | omega | (simp; omega) | simp))).trans (hb3.mono (by first | omega | (simp; omega) | simp))).mono HB.out.size)⟩
                case measure => simp [intOf]; omega
      · have hk' : k = n := by omega
        have HV : Hid (c = 0) := Lib.hid (by rw [← HT.out, grs_end (by omega)])
        subst hk'
        go_wp2
        go_ret
        exact ⟨ret_int HV.out.symm, HB.out⟩
end Go.Proofs.Ytnjbhidncicfiaa
