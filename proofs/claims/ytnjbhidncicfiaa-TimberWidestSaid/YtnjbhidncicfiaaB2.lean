/- Walks over the timber seat: a board by itself. -/
import Derived.Test.YtnjbhidncicfiaaB1
namespace Go.Proofs.Ytnjbhidncicfiaa
open Go.RowKit

def RcAt (w : World) (blk off : Nat) (r : Rc) : Prop :=
  w.cell? ⟨blk, off, none⟩ = some (.int .i64 r.x1) ∧ w.cell? ⟨blk, off + 1, none⟩ = some (.int .i64 r.y1) ∧ w.cell? ⟨blk, off + 2, none⟩ = some (.int .i64 r.x2) ∧ w.cell? ⟨blk, off + 3, none⟩ = some (.int .i64 r.y2)
theorem RcAt.below {w w' : World} {B blk off : Nat} {r : Rc} (h : RcAt w blk off r) (hb : Below B w w') (hlt : blk < B) : RcAt w' blk off r := by
  obtain ⟨h0, h1, h2, h3⟩ := h
  have k : ∀ o, w'.cell? ⟨blk, o, none⟩ = w.cell? ⟨blk, o, none⟩ := fun o => hb.cell (p := ⟨blk, o, none⟩) hlt
  exact ⟨by rw [k, h0], by rw [k, h1], by rw [k, h2], by rw [k, h3]⟩
abbrev RcRow (w : World) (D : Option Addr) (n : Nat) (ds : List Rc) : Prop := RowOf (RcAt w) 4 D n ds w.heap.size
theorem RcRow.below {w w' : World} {D : Option Addr} {n : Nat} {ds : List Rc} (h : RcRow w D n ds) (hb : Below w.heap.size w w') : RcRow w' D n ds :=
  RowOf.keep h hb.size (fun _ _ _ hlt hx => RcAt.below hx hb hlt)
/-- The error of a board, in the program's order. -/
theorem bdCode_eq (nm sp : ByteArray) (ln wd th cu mo : Int) (ds : List Rc) : bdCode ⟨nm, sp, ln, wd, th, cu, mo, ds⟩ = bif nameB nm then (bif nameB sp then (bif allIn 1 600000 [ln] then (bif allIn 1 100000 [wd] then (bif allIn 1 20000 [th] then (bif allIn 0 1 [cu] then (bif allIn 0 400 [mo] then (bif decide (60 < ds.length) then 8 else rcsFrom ⟨nm, sp, ln, wd, th, cu, mo, ds⟩ ds) else 2) else 2) else 2) else 2) else 2) else 4) else 4 := by
  unfold bdCode bdRange
  cases nameB nm <;> cases nameB sp <;> cases allIn 1 600000 [ln] <;> cases allIn 1 100000 [wd] <;> cases allIn 1 20000 [th] <;> cases allIn 0 1 [cu] <;> cases allIn 0 400 [mo] <;> rfl
set_option maxHeartbeats 4000000 in
theorem boardAlone_any {nm sp : ByteArray} {ln wd th cu mo : Int} {D : Option Addr} {dn dc : Nat} {ds : List Rc} {c : Int} (hc : bdCode ⟨nm, sp, ln, wd, th, cu, mo, ds⟩ = c) (hn1 : nm.size ≤ maxLen) (hn2 : sp.size ≤ maxLen) (hdn : dn ≤ maxLen) (w : World) (hr : RcRow w D dn ds) :
    Calls Try.prog 88 #[.agg #[.string nm, .string sp, .int .i64 ln, .int .i64 wd, .int .i64 th, .int .i64 cu, .int .i64 mo, .slice D dn dc]] w fun e w' => e = .returned (.int .i64 c) ∧ Below w.heap.size w w' := by
  have HR := Lib.hid hr
  have hdl := hr.1
  have hdn' : dn ≤ 9223372036854775807 := hdn
  have HC := Lib.hid ((bdCode_eq nm sp ln wd th cu mo ds).symm.trans hc)
  clear hc hr
  cases g1 : nameB nm
  · have NM1 := fun wx => Lib.hid (isName_any (w := wx) g1 hn1)
    have G1 := Lib.hid g1; clear g1
    go_enter Try.func88, Try.ntmps88
    go_wp2_with (first | (go_at_call 113; (first | (with_reducible refine Calls.mono (NM1 _).out ?_)); rintro e w' ⟨rfl, rfl⟩))
    go_ret
    exact ⟨ret_int (by rw [← HC.out, G1.out]; rfl), ((Below.refl _ _).alloc (Nat.le_refl _) _)⟩
  · have NM1 := fun wx => Lib.hid (isName_any (w := wx) g1 hn1)
    have G1 := Lib.hid g1; clear g1
    cases g2 : nameB sp
    · have NM2 := fun wx => Lib.hid (isName_any (w := wx) g2 hn2)
      have G2 := Lib.hid g2; clear g2
      go_enter Try.func88, Try.ntmps88
      go_wp2_with (first | (go_at_call 113; (first | (with_reducible refine Calls.mono (NM1 _).out ?_) | (with_reducible refine Calls.mono (NM2 _).out ?_)); rintro e w' ⟨rfl, rfl⟩))
      go_ret
      exact ⟨ret_int (by rw [← HC.out, G1.out, G2.out]; rfl), ((Below.refl _ _).alloc (Nat.le_refl _) _)⟩
    · have NM2 := fun wx => Lib.hid (isName_any (w := wx) g2 hn2)
      have G2 := Lib.hid g2; clear g2
      cases h1 : allIn 1 600000 [ln]
      · have X1 := Lib.hid h1; clear h1
        go_enter Try.func88, Try.ntmps88
        go_wp2_with (first | (go_at_call 113; (first | (with_reducible refine Calls.mono (NM1 _).out ?_) | (with_reducible refine Calls.mono (NM2 _).out ?_)); rintro e w' ⟨rfl, rfl⟩) | (go_at_call 79; (with_reducible refine (within_oneb X1.out _ _ (by first | rfl | simp)).mono ?_); rintro e w1 ⟨rfl, hb1⟩; have hs1 : w.heap.size < w1.heap.size := (by have := hb1.size; (try simp at this); omega); obtain ⟨hc1, hf1⟩ := bcell hb1))
        go_ret
        exact ⟨ret_int (by rw [← HC.out, G1.out, G2.out, X1.out]; rfl), (((Below.refl _ _).alloc (Nat.le_refl _) _).trans (hb1.mono (by first | omega | (simp; omega) | simp)))⟩
      · have X1 := Lib.hid h1; clear h1
        cases h2 : allIn 1 100000 [wd]
        · have X2 := Lib.hid h2; clear h2
          go_enter Try.func88, Try.ntmps88
          go_wp2_with (first | (go_at_call 113; (first | (with_reducible refine Calls.mono (NM1 _).out ?_) | (with_reducible refine Calls.mono (NM2 _).out ?_)); rintro e w' ⟨rfl, rfl⟩) | (go_at_call 79; (with_reducible refine (within_oneb X1.out _ _ (by first | rfl | simp)).mono ?_); rintro e w1 ⟨rfl, hb1⟩; have hs1 : w.heap.size < w1.heap.size := (by have := hb1.size; (try simp at this); omega); obtain ⟨hc1, hf1⟩ := bcell hb1) | (go_at_call 79; (with_reducible refine (within_oneb X2.out _ _ (by first | rfl | simp)).mono ?_); rintro e w2 ⟨rfl, hb2⟩; have hs2 : w.heap.size < w2.heap.size := (by have := hb2.size; (try simp at this); omega); obtain ⟨hc2, hf2⟩ := bcell hb2))
          go_ret
          exact ⟨ret_int (by rw [← HC.out, G1.out, G2.out, X1.out, X2.out]; rfl), ((((Below.refl _ _).alloc (Nat.le_refl _) _).trans (hb1.mono (by first | omega | (simp; omega) | simp))).trans (hb2.mono (by first | omega | (simp; omega) | simp)))⟩
        · have X2 := Lib.hid h2; clear h2
          cases h3 : allIn 1 20000 [th]
          · have X3 := Lib.hid h3; clear h3
            go_enter Try.func88, Try.ntmps88
            go_wp2_with (first | (go_at_call 113; (first | (with_reducible refine Calls.mono (NM1 _).out ?_) | (with_reducible refine Calls.mono (NM2 _).out ?_)); rintro e w' ⟨rfl, rfl⟩) | (go_at_call 79; (with_reducible refine (within_oneb X1.out _ _ (by first | rfl | simp)).mono ?_); rintro e w1 ⟨rfl, hb1⟩; have hs1 : w.heap.size < w1.heap.size := (by have := hb1.size; (try simp at this); omega); obtain ⟨hc1, hf1⟩ := bcell hb1) | (go_at_call 79; (with_reducible refine (within_oneb X2.out _ _ (by first | rfl | simp)).mono ?_); rintro e w2 ⟨rfl, hb2⟩; have hs2 : w.heap.size < w2.heap.size := (by have := hb2.size; (try simp at this); omega); obtain ⟨hc2, hf2⟩ := bcell hb2) | (go_at_call 79; (with_reducible refine (within_oneb X3.out _ _ (by first | rfl | simp)).mono ?_); rintro e w3 ⟨rfl, hb3⟩; have hs3 : w.heap.size < w3.heap.size := (by have := hb3.size; (try simp at this); omega); obtain ⟨hc3, hf3⟩ := bcell hb3))
            go_ret
            exact ⟨ret_int (by rw [← HC.out, G1.out, G2.out, X1.out, X2.out, X3.out]; rfl), (((((Below.refl _ _).alloc (Nat.le_refl _) _).trans (hb1.mono (by first | omega | (simp; omega) | simp))).trans (hb2.mono (by first | omega | (simp; omega) | simp))).trans (hb3.mono (by first | omega | (simp; omega) | simp)))⟩
          · have X3 := Lib.hid h3; clear h3
            cases h4 : allIn 0 1 [cu]
            · have X4 := Lib.hid h4; clear h4
              go_enter Try.func88, Try.ntmps88
              go_wp2_with (first | (go_at_call 113; (first | (with_reducible refine Calls.mono (NM1 _).out ?_) | (with_reducible refine Calls.mono (NM2 _).out ?_)); rintro e w' ⟨rfl, rfl⟩) | (go_at_call 79; (with_reducible refine (within_oneb X1.out _ _ (by first | rfl | simp)).mono ?_); rintro e w1 ⟨rfl, hb1⟩; have hs1 : w.heap.size < w1.heap.size := (by have := hb1.size; (try simp at this); omega); obtain ⟨hc1, hf1⟩ := bcell hb1) | (go_at_call 79; (with_reducible refine (within_oneb X2.out _ _ (by first | rfl | simp)).mono ?_); rintro e w2 ⟨rfl, hb2⟩; have hs2 : w.heap.size < w2.heap.size := (by have := hb2.size; (try simp at this); omega); obtain ⟨hc2, hf2⟩ := bcell hb2) | (go_at_call 79; (with_reducible refine (within_oneb X3.out _ _ (by first | rfl | simp)).mono ?_); rintro e w3 ⟨rfl, hb3⟩; have hs3 : w.heap.size < w3.heap.size := (by have := hb3.size; (try simp at this); omega); obtain ⟨hc3, hf3⟩ := bcell hb3) | (go_at_call 79; (with_reducible refine (within_oneb X4.out _ _ (by first | rfl | simp)).mono ?_); rintro e w4 ⟨rfl, hb4⟩; have hs4 : w.heap.size < w4.heap.size := (by have := hb4.size; (try simp at this); omega); obtain ⟨hc4, hf4⟩ := bcell hb4))
              go_ret
              exact ⟨ret_int (by rw [← HC.out, G1.out, G2.out, X1.out, X2.out, X3.out, X4.out]; rfl), ((((((Below.refl _ _).alloc (Nat.le_refl _) _).trans (hb1.mono (by first | omega | (simp; omega) | simp))).trans (hb2.mono (by first | omega | (simp; omega) | simp))).trans (hb3.mono (by first | omega | (simp; omega) | simp))).trans (hb4.mono (by first | omega | (simp; omega) | simp)))⟩
            · have X4 := Lib.hid h4; clear h4
              cases h5 : allIn 0 400 [mo]
              · have X5 := Lib.hid h5; clear h5
                go_enter Try.func88, Try.ntmps88
                go_wp2_with (first | (go_at_call 113; (first | (with_reducible refine Calls.mono (NM1 _).out ?_) | (with_reducible refine Calls.mono (NM2 _).out ?_)); rintro e w' ⟨rfl, rfl⟩) | (go_at_call 79; (with_reducible refine (within_oneb X1.out _ _ (by first | rfl | simp)).mono ?_); rintro e w1 ⟨rfl, hb1⟩; have hs1 : w.heap.size < w1.heap.size := (by have := hb1.size; (try simp at this); omega); obtain ⟨hc1, hf1⟩ := bcell hb1) | (go_at_call 79; (with_reducible refine (within_oneb X2.out _ _ (by first | rfl | simp)).mono ?_); rintro e w2 ⟨rfl, hb2⟩; have hs2 : w.heap.size < w2.heap.size := (by have := hb2.size; (try simp at this); omega); obtain ⟨hc2, hf2⟩ := bcell hb2) | (go_at_call 79; (with_reducible refine (within_oneb X3.out _ _ (by first | rfl | simp)).mono ?_); rintro e w3 ⟨rfl, hb3⟩; have hs3 : w.heap.size < w3.heap.size := (by have := hb3.size; (try simp at this); omega); obtain ⟨hc3, hf3⟩ := bcell hb3) | (go_at_call 79; (with_reducible refine (within_oneb X4.out _ _ (by first | rfl | simp)).mono ?_); rintro e w4 ⟨rfl, hb4⟩; have hs4 : w.heap.size < w4.heap.size := (by have := hb4.size; (try simp at this); omega); obtain ⟨hc4, hf4⟩ := bcell hb4) | (go_at_call 79; (with_reducible refine (within_oneb X5.out _ _ (by first | rfl | simp)).mono ?_); rintro e w5 ⟨rfl, hb5⟩; have hs5 : w.heap.size < w5.heap.size := (by have := hb5.size; (try simp at this); omega); obtain ⟨hc5, hf5⟩ := bcell hb5))
                go_ret
                exact ⟨ret_int (by rw [← HC.out, G1.out, G2.out, X1.out, X2.out, X3.out, X4.out, X5.out]; rfl), (((((((Below.refl _ _).alloc (Nat.le_refl _) _).trans (hb1.mono (by first | omega | (simp; omega) | simp))).trans (hb2.mono (by first | omega | (simp; omega) | simp))).trans (hb3.mono (by first | omega | (simp; omega) | simp))).trans (hb4.mono (by first | omega | (simp; omega) | simp))).trans (hb5.mono (by first | omega | (simp; omega) | simp)))⟩
              · have X5 := Lib.hid h5; clear h5
                by_cases h60 : 60 < dn
                · have hd : decide (60 < (dn : Int)) = true := decide_eq_true (by omega)
                  have HV : Hid (8 = c) := Lib.hid (by rw [← HC.out, G1.out, G2.out, X1.out, X2.out, X3.out, X4.out, X5.out, decide_eq_true (show 60 < ds.length by omega)]; rfl)
                  go_enter Try.func88, Try.ntmps88
                  go_wp2_with (first | (go_at_call 113; (first | (with_reducible refine Calls.mono (NM1 _).out ?_) | (with_reducible refine Calls.mono (NM2 _).out ?_)); rintro e w' ⟨rfl, rfl⟩) | (go_at_call 79; (with_reducible refine (within_oneb X1.out _ _ (by first | rfl | simp)).mono ?_); rintro e w1 ⟨rfl, hb1⟩; have hs1 : w.heap.size < w1.heap.size := (by have := hb1.size; (try simp at this); omega); obtain ⟨hc1, hf1⟩ := bcell hb1) | (go_at_call 79; (with_reducible refine (within_oneb X2.out _ _ (by first | rfl | simp)).mono ?_); rintro e w2 ⟨rfl, hb2⟩; have hs2 : w.heap.size < w2.heap.size := (by have := hb2.size; (try simp at this); omega); obtain ⟨hc2, hf2⟩ := bcell hb2) | (go_at_call 79; (with_reducible refine (within_oneb X3.out _ _ (by first | rfl | simp)).mono ?_); rintro e w3 ⟨rfl, hb3⟩; have hs3 : w.heap.size < w3.heap.size := (by have := hb3.size; (try simp at this); omega); obtain ⟨hc3, hf3⟩ := bcell hb3) | (go_at_call 79; (with_reducible refine (within_oneb X4.out _ _ (by first | rfl | simp)).mono ?_); rintro e w4 ⟨rfl, hb4⟩; have hs4 : w.heap.size < w4.heap.size := (by have := hb4.size; (try simp at this); omega); obtain ⟨hc4, hf4⟩ := bcell hb4) | (go_at_call 79; (with_reducible refine (within_oneb X5.out _ _ (by first | rfl | simp)).mono ?_); rintro e w5 ⟨rfl, hb5⟩; have hs5 : w.heap.size < w5.heap.size := (by have := hb5.size; (try simp at this); omega); obtain ⟨hc5, hf5⟩ := bcell hb5))
                  go_ret
                  exact ⟨ret_int HV.out, (((((((Below.refl _ _).alloc (Nat.le_refl _) _).trans (hb1.mono (by first | omega | (simp; omega) | simp))).trans (hb2.mono (by first | omega | (simp; omega) | simp))).trans (hb3.mono (by first | omega | (simp; omega) | simp))).trans (hb4.mono (by first | omega | (simp; omega) | simp))).trans (hb5.mono (by first | omega | (simp; omega) | simp)))⟩
                · have hd : decide (60 < (dn : Int)) = false := decide_eq_false (by omega)
                  have HV : Hid (rcsFrom ⟨nm, sp, ln, wd, th, cu, mo, ds⟩ (ds.drop 0) = c) := Lib.hid (by rw [← HC.out, G1.out, G2.out, X1.out, X2.out, X3.out, X4.out, X5.out, decide_eq_false (show ¬ 60 < ds.length by omega)]; rfl)
                  go_enter Try.func88, Try.ntmps88
                  go_wp2_with (first | (go_at_call 113; (first | (with_reducible refine Calls.mono (NM1 _).out ?_) | (with_reducible refine Calls.mono (NM2 _).out ?_)); rintro e w' ⟨rfl, rfl⟩) | (go_at_call 79; (with_reducible refine (within_oneb X1.out _ _ (by first | rfl | simp)).mono ?_); rintro e w1 ⟨rfl, hb1⟩; have hs1 : w.heap.size < w1.heap.size := (by have := hb1.size; (try simp at this); omega); obtain ⟨hc1, hf1⟩ := bcell hb1) | (go_at_call 79; (with_reducible refine (within_oneb X2.out _ _ (by first | rfl | simp)).mono ?_); rintro e w2 ⟨rfl, hb2⟩; have hs2 : w.heap.size < w2.heap.size := (by have := hb2.size; (try simp at this); omega); obtain ⟨hc2, hf2⟩ := bcell hb2) | (go_at_call 79; (with_reducible refine (within_oneb X3.out _ _ (by first | rfl | simp)).mono ?_); rintro e w3 ⟨rfl, hb3⟩; have hs3 : w.heap.size < w3.heap.size := (by have := hb3.size; (try simp at this); omega); obtain ⟨hc3, hf3⟩ := bcell hb3) | (go_at_call 79; (with_reducible refine (within_oneb X4.out _ _ (by first | rfl | simp)).mono ?_); rintro e w4 ⟨rfl, hb4⟩; have hs4 : w.heap.size < w4.heap.size := (by have := hb4.size; (try simp at this); omega); obtain ⟨hc4, hf4⟩ := bcell hb4) | (go_at_call 79; (with_reducible refine (within_oneb X5.out _ _ (by first | rfl | simp)).mono ?_); rintro e w5 ⟨rfl, hb5⟩; have hs5 : w.heap.size < w5.heap.size := (by have := hb5.size; (try simp at this); omega); obtain ⟨hc5, hf5⟩ := bcell hb5))
                  have hB := (((((((Below.refl w.heap.size w).alloc (Nat.le_refl _) (.cells #[.string nm, .string sp, .int .i64 ln, .int .i64 wd, .int .i64 th, .int .i64 cu, .int .i64 mo, .slice D dn dc] 34)).trans (hb1.mono (by first | omega | (simp; omega) | simp))).trans (hb2.mono (by first | omega | (simp; omega) | simp))).trans (hb3.mono (by first | omega | (simp; omega) | simp))).trans (hb4.mono (by first | omega | (simp; omega) | simp))).trans (hb5.mono (by first | omega | (simp; omega) | simp)))
                  have hI : Below (w.heap.size + 1) (w.alloc (.cells #[.string nm, .string sp, .int .i64 ln, .int .i64 wd, .int .i64 th, .int .i64 cu, .int .i64 mo, .slice D dn dc] 34)) w5 := ((((((Below.refl (w.heap.size + 1) (w.alloc (.cells #[.string nm, .string sp, .int .i64 ln, .int .i64 wd, .int .i64 th, .int .i64 cu, .int .i64 mo, .slice D dn dc] 34))).trans (hb1.mono (by first | omega | (simp; omega) | simp))).trans (hb2.mono (by first | omega | (simp; omega) | simp))).trans (hb3.mono (by first | omega | (simp; omega) | simp))).trans (hb4.mono (by first | omega | (simp; omega) | simp))).trans (hb5.mono (by first | omega | (simp; omega) | simp)))
                  have HB0 := Lib.hid hB
                  have HI0 := Lib.hid hI
                  clear hB hI hb1 hb2 hb3 hb4 hb5 hs1 hs2 hs3 hs4 hc1 hc2 hc3 hc4 hc5 hf1 hf2 hf3 hf4 hf5
                  go_loopw [49] (fun i wr => ∃ k : Nat, k ≤ dn ∧ rcsFrom ⟨nm, sp, ln, wd, th, cu, mo, ds⟩ (ds.drop k) = c ∧ i = .int .i64 k ∧ Below w.heap.size w wr ∧ Below (w.heap.size + 1) (w.alloc (.cells #[.string nm, .string sp, .int .i64 ln, .int .i64 wd, .int .i64 th, .int .i64 cu, .int .i64 mo, .slice D dn dc] 34)) wr) (fun i _ => dn - (intOf i).toNat)
                  case atStart => exact ⟨0, Nat.zero_le _, HV.out, rfl, HB0.out, HI0.out⟩
                  case round =>
                    obtain ⟨k, hk, ht, rfl, hbw, hiw⟩ := hrel
                    have HT := Lib.hid ht
                    have HB := Lib.hid hbw
                    have HI := Lib.hid hiw
                    clear ht
                    by_cases hlt : k < dn
                    · have hkl : k < ds.length := by omega
                      obtain ⟨blk, off, rfl, hblk, hx⟩ := HR.out.2 (by omega)
                      have hxx := (hx k hkl).below hbw hblk
                      have HS := Lib.hid (rcs_step (b := ⟨nm, sp, ln, wd, th, cu, mo, ds⟩) hkl)
                      clear hx
                      obtain ⟨r, hr⟩ : ∃ r, ds[k] = r := ⟨_, rfl⟩
                      rw [hr] at hxx HS
                      clear hr
                      obtain ⟨x1, y1, x2, y2⟩ := r
                      obtain ⟨c0, c1, c2, c3⟩ := hxx
                      simp only at c0 c1 c2 c3
                      have hbr : blk < wr.heap.size := Nat.lt_of_lt_of_le hblk hbw.size
                      have hwr : w.heap.size < wr.heap.size := by have := hiw.size; (try simp at this); omega
                      have q : ∀ o, wr.cell? ⟨w.heap.size, o, none⟩ = _ := fun o => hiw.cell (p := ⟨w.heap.size, o, none⟩) (by simp)
                      have q0 := q 0; have q1 := q 1; have q2 := q 2; have q3 := q 3; have q4 := q 4; have q5 := q 5; have q6 := q 6; have q7 := q 7
                      simp [go_sem] at q0 q1 q2 q3 q4 q5 q6 q7
                      obtain ⟨rc, hrc⟩ : ∃ rc, rcK ln wd x1 y1 x2 y2 = rc := ⟨_, rfl⟩
                      have CR := fun wx => Lib.hid (checkRect_any (nm := nm) (sp := sp) (th := th) (cu := cu) (mo := mo) (D := some ⟨blk, off, none⟩) (dn := dn) (dc := dc) (w := wx) hrc)
                      have HS2 : Hid (c = bif decide (rc = 0) then rcsFrom ⟨nm, sp, ln, wd, th, cu, mo, ds⟩ (ds.drop (k + 1)) else rc) := Lib.hid (by rw [← HT.out, HS.out, rcK_eq, ← hrc])
                      clear q hbw hiw hrc
                      by_cases hz : rc = 0
                      · have HV2 : Hid (rcsFrom ⟨nm, sp, ln, wd, th, cu, mo, ds⟩ (ds.drop (k + 1)) = c) := Lib.hid (by rw [HS2.out, decide_eq_true hz]; rfl)
                        subst hz
                        go_wp2_with (go_at_call 90; (refine Calls.mono (CR _).out ?_); rintro e w6 ⟨rfl, hb6⟩; have hBW : Below wr.heap.size wr w6 := (((Below.refl wr.heap.size wr).alloc (Nat.le_refl _) _).trans (hb6.mono (by first | omega | simp))))
                        go_roundw
                        case rel => exact ⟨k + 1, by omega, HV2.out, by go_num, HB.out.trans (hBW.mono HB.out.size), HI.out.trans (hBW.mono (by omega))⟩
                        case measure => simp [intOf]; omega
                      · have HV2 : Hid (c = rc) := Lib.hid (by rw [HS2.out, decide_eq_false hz]; rfl)
                        have hzb : (rc == 0) = false := beq_eq_false_iff_ne.2 hz
                        go_wp2_with (go_at_call 90; (refine Calls.mono (CR _).out ?_); rintro e w6 ⟨rfl, hb6⟩; have hBW : Below wr.heap.size wr w6 := (((Below.refl wr.heap.size wr).alloc (Nat.le_refl _) _).trans (hb6.mono (by first | omega | simp))))
                        go_ret
                        exact ⟨ret_int HV2.out.symm, HB.out.trans (hBW.mono HB.out.size)⟩
                    · have HV2 : Hid (c = 0) := Lib.hid (by rw [← HT.out, rcs_end (by omega)])
                      have hk' : k = dn := by omega
                      subst hk'
                      go_wp2
                      go_ret
                      exact ⟨ret_int HV2.out.symm, HB.out⟩
end Go.Proofs.Ytnjbhidncicfiaa
