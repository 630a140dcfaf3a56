/- Walks over the timber seat: the boards of which a blank can be cut, the program's; the law TimberFitting. -/
import Derived.Test.YtnjbhidncicfiaaJ3
import Derived.Test.YtnjbhidncicfiaaB9
import Derived.Test.YtnjbhidncicfiaaAwake
namespace Go.Proofs.Ytnjbhidncicfiaa
open Go.RowKit

theorem own_base {w : World} {b b' ty sz n : Nat} {v : Value} {xs : List Value} (h : w.ownsRow b ty sz v n xs) (hb : b' ≤ b) : w.ownsRow b' ty sz v n xs :=
  ⟨h.1, h.2.imp id fun ⟨g, cap, cur, h1, h2, h3⟩ => ⟨g, cap, cur, h1, Nat.le_trans hb h2, h3⟩⟩
set_option maxHeartbeats 2000000 in
theorem fitting_err {A S : Option Addr} {n cp sn sc : Nat} {l : List Sp} {bs : List Bd} {kn ks : ByteArray} {kl kw kt kc : Int} {c : Int} (hc : stCode l bs = c) (hz : c ≠ 0) (hn : n ≤ maxLen) (hsn : sn ≤ maxLen) (_hn1 : kn.size ≤ maxLen) (_hn2 : ks.size ≤ maxLen) (w : World) (hl : SpRow w A n l) (hs : BdRow w S sn bs) :
    Calls Try.prog 68 #[.slice A n cp, .slice S sn sc, .agg #[.string kn, .string ks, .int .i64 kl, .int .i64 kw, .int .i64 kt, .int .i64 kc]] w fun e w' => e = .returned (.tuple #[.slice none 0 0, .int .i64 c]) ∧ Below w.heap.size w w' := by
  have hBL : Below w.heap.size w (w.alloc (.cells #[.string kn, .string ks, .int .i64 kl, .int .i64 kw, .int .i64 kt, .int .i64 kc] 116)) := (Below.refl _ _).alloc (Nat.le_refl _) _
  have hl1 := SpRow.below hl hBL
  have hs1' := BdRow.below hs hBL
  have CS := fun wx hbx => Lib.hid (checkStock_any (cp := cp) (sc := sc) hc wx (SpRow.below hl1 hbx) hn (BdRow.below hs1' hbx) hsn)
  have hzb : (c == 0) = false := beq_eq_false_iff_ne.2 hz
  clear hc hl hs hl1 hs1'
  go_enter Try.func68, Try.ntmps68
  go_wp2_with (go_at_call 28; (refine Calls.mono (CS _ (Below.refl (w.alloc (.cells #[.string kn, .string ks, .int .i64 kl, .int .i64 kw, .int .i64 kt, .int .i64 kc] 116)).heap.size (w.alloc (.cells #[.string kn, .string ks, .int .i64 kl, .int .i64 kw, .int .i64 kt, .int .i64 kc] 116)))).out ?_); rintro e w1 ⟨rfl, hb1⟩; have hB1 : Below (w.alloc (.cells #[.string kn, .string ks, .int .i64 kl, .int .i64 kw, .int .i64 kt, .int .i64 kc] 116)).heap.size (w.alloc (.cells #[.string kn, .string ks, .int .i64 kl, .int .i64 kw, .int .i64 kt, .int .i64 kc] 116)) w1 := hb1; have hs1 : w.heap.size < w1.heap.size := (by have := hB1.size; (try simp at this); omega); obtain ⟨hc1, hf1⟩ := bcell hb1)
  go_ret2
  exact ⟨rfl, hBL.trans (hB1.mono (by simp))⟩
set_option maxHeartbeats 2000000 in
theorem fitting_blank {A S : Option Addr} {n cp sn sc : Nat} {l : List Sp} {bs : List Bd} {kn ks : ByteArray} {kl kw kt kc : Int} {c : Int} (hc : stCode l bs = 0) (hk : bkCode ⟨kn, ks, kl, kw, kt, kc⟩ = c) (hz : c ≠ 0) (hn : n ≤ maxLen) (hsn : sn ≤ maxLen) (hn1 : kn.size ≤ maxLen) (hn2 : ks.size ≤ maxLen) (w : World) (hl : SpRow w A n l) (hs : BdRow w S sn bs) :
    Calls Try.prog 68 #[.slice A n cp, .slice S sn sc, .agg #[.string kn, .string ks, .int .i64 kl, .int .i64 kw, .int .i64 kt, .int .i64 kc]] w fun e w' => e = .returned (.tuple #[.slice none 0 0, .int .i64 c]) ∧ Below w.heap.size w w' := by
  have hBL : Below w.heap.size w (w.alloc (.cells #[.string kn, .string ks, .int .i64 kl, .int .i64 kw, .int .i64 kt, .int .i64 kc] 116)) := (Below.refl _ _).alloc (Nat.le_refl _) _
  have hl1 := SpRow.below hl hBL
  have hs1' := BdRow.below hs hBL
  have CS := fun wx hbx => Lib.hid (checkStock_any (cp := cp) (sc := sc) hc wx (SpRow.below hl1 hbx) hn (BdRow.below hs1' hbx) hsn)
  have CB := fun wx (_ : Below (w.alloc (.cells #[.string kn, .string ks, .int .i64 kl, .int .i64 kw, .int .i64 kt, .int .i64 kc] 116)).heap.size (w.alloc (.cells #[.string kn, .string ks, .int .i64 kl, .int .i64 kw, .int .i64 kt, .int .i64 kc] 116)) wx) => Lib.hid (checkBlank_any hk hn1 hn2 wx)
  have hzb : (c == 0) = false := beq_eq_false_iff_ne.2 hz
  clear hc hl hs hl1 hs1' hk
  go_enter Try.func68, Try.ntmps68
  go_wp2_with (first | (go_at_call 28; (refine Calls.mono (CS _ (Below.refl (w.alloc (.cells #[.string kn, .string ks, .int .i64 kl, .int .i64 kw, .int .i64 kt, .int .i64 kc] 116)).heap.size (w.alloc (.cells #[.string kn, .string ks, .int .i64 kl, .int .i64 kw, .int .i64 kt, .int .i64 kc] 116)))).out ?_); rintro e w1 ⟨rfl, hb1⟩; have hB1 : Below (w.alloc (.cells #[.string kn, .string ks, .int .i64 kl, .int .i64 kw, .int .i64 kt, .int .i64 kc] 116)).heap.size (w.alloc (.cells #[.string kn, .string ks, .int .i64 kl, .int .i64 kw, .int .i64 kt, .int .i64 kc] 116)) w1 := hb1; have hs1 : w.heap.size < w1.heap.size := (by have := hB1.size; (try simp at this); omega); obtain ⟨hc1, hf1⟩ := bcell hb1) | (go_at_call 110; (refine Calls.mono (CB _ hB1).out ?_); rintro e w2 ⟨rfl, hb2⟩; have hB2 : Below (w.alloc (.cells #[.string kn, .string ks, .int .i64 kl, .int .i64 kw, .int .i64 kt, .int .i64 kc] 116)).heap.size (w.alloc (.cells #[.string kn, .string ks, .int .i64 kl, .int .i64 kw, .int .i64 kt, .int .i64 kc] 116)) w2 := hB1.trans (hb2.mono hB1.size); have hs2 : w.heap.size < w2.heap.size := (by have := hB2.size; (try simp at this); omega); obtain ⟨hc2, hf2⟩ := bcell hb2))
  go_ret2
  exact ⟨rfl, hBL.trans (hB2.mono (by simp))⟩
set_option maxHeartbeats 4000000 in
theorem fitting_ok {A S : Option Addr} {n cp sn sc : Nat} {l : List Sp} {bs : List Bd} {kn ks : ByteArray} {kl kw kt kc : Int} (hc : stCode l bs = 0) (hk : bkCode ⟨kn, ks, kl, kw, kt, kc⟩ = 0) (hn : n ≤ maxLen) (hsn : sn ≤ maxLen) (hn1 : kn.size ≤ maxLen) (hn2 : ks.size ≤ maxLen) (w : World) (hl : SpRow w A n l) (hs : BdRow w S sn bs) :
    Calls Try.prog 68 #[.slice A n cp, .slice S sn sc, .agg #[.string kn, .string ks, .int .i64 kl, .int .i64 kw, .int .i64 kt, .int .i64 kc]] w fun e w' => ∃ r : Value, e = .returned (.tuple #[r, .int .i64 0]) ∧ w'.ownsRow w.heap.size 3 1 r (fitL ⟨kn, ks, kl, kw, kt, kc⟩ bs sn).length (intCells (fitL ⟨kn, ks, kl, kw, kt, kc⟩ bs sn)) ∧ Below w.heap.size w w' := by
  have hBL : Below w.heap.size w (w.alloc (.cells #[.string kn, .string ks, .int .i64 kl, .int .i64 kw, .int .i64 kt, .int .i64 kc] 116)) := (Below.refl _ _).alloc (Nat.le_refl _) _
  have hl1 := SpRow.below hl hBL
  have hs1' := BdRow.below hs hBL
  have CS := fun wx hbx => Lib.hid (checkStock_any (cp := cp) (sc := sc) hc wx (SpRow.below hl1 hbx) hn (BdRow.below hs1' hbx) hsn)
  have CB := fun wx (_ : Below (w.alloc (.cells #[.string kn, .string ks, .int .i64 kl, .int .i64 kw, .int .i64 kt, .int .i64 kc] 116)).heap.size (w.alloc (.cells #[.string kn, .string ks, .int .i64 kl, .int .i64 kw, .int .i64 kt, .int .i64 kc] 116)) wx) => Lib.hid (checkBlank_any hk hn1 hn2 wx)
  have hbk := bk_ok hk
  have hst := st_boards hc
  have hkk : BkAt (w.alloc (.cells #[.string kn, .string ks, .int .i64 kl, .int .i64 kw, .int .i64 kt, .int .i64 kc] 116)) w.heap.size ⟨kn, ks, kl, kw, kt, kc⟩ := by refine ⟨?_, ?_, ?_, ?_, ?_, ?_⟩ <;> simp [go_sem]
  have CH := fun wx (hbx : Below (w.alloc (.cells #[.string kn, .string ks, .int .i64 kl, .int .i64 kw, .int .i64 kt, .int .i64 kc] 116)).heap.size (w.alloc (.cells #[.string kn, .string ks, .int .i64 kl, .int .i64 kw, .int .i64 kt, .int .i64 kc] 116)) wx) => Lib.hid (choose_any (sc := sc) (bb := w.heap.size) (fun b hb => bdOk_of (hst.2 b hb)) hst.1 hbk.1.1 wx (BdRow.below hs1' hbx) (hkk.below hbx (by simp)) (by have := hbx.size; simp at this; omega))
  clear hc hl hs hl1 hs1' hk hbk hst hkk
  go_enter Try.func68, Try.ntmps68
  go_wp2_with (first | (go_at_call 28; (refine Calls.mono (CS _ (Below.refl (w.alloc (.cells #[.string kn, .string ks, .int .i64 kl, .int .i64 kw, .int .i64 kt, .int .i64 kc] 116)).heap.size (w.alloc (.cells #[.string kn, .string ks, .int .i64 kl, .int .i64 kw, .int .i64 kt, .int .i64 kc] 116)))).out ?_); rintro e w1 ⟨rfl, hb1⟩; have hB1 : Below (w.alloc (.cells #[.string kn, .string ks, .int .i64 kl, .int .i64 kw, .int .i64 kt, .int .i64 kc] 116)).heap.size (w.alloc (.cells #[.string kn, .string ks, .int .i64 kl, .int .i64 kw, .int .i64 kt, .int .i64 kc] 116)) w1 := hb1; have hs1 : w.heap.size < w1.heap.size := (by have := hB1.size; (try simp at this); omega); obtain ⟨hc1, hf1⟩ := bcell hb1) | (go_at_call 110; (refine Calls.mono (CB _ hB1).out ?_); rintro e w2 ⟨rfl, hb2⟩; have hB2 : Below (w.alloc (.cells #[.string kn, .string ks, .int .i64 kl, .int .i64 kw, .int .i64 kt, .int .i64 kc] 116)).heap.size (w.alloc (.cells #[.string kn, .string ks, .int .i64 kl, .int .i64 kw, .int .i64 kt, .int .i64 kc] 116)) w2 := hB1.trans (hb2.mono hB1.size); have hs2 : w.heap.size < w2.heap.size := (by have := hB2.size; (try simp at this); omega); obtain ⟨hc2, hf2⟩ := bcell hb2) | (go_at_call 111; (refine Calls.mono (CH _ hB2).out ?_); rintro e w3 ⟨r, rfl, hown, hb3⟩))
  go_ret2
  exact ⟨r, rfl, own_base hown (by omega), hBL.trans ((hB2.trans (hb3.mono hB2.size)).mono (by simp))⟩

set_option maxHeartbeats 4000000 in
set_option maxRecDepth 20000 in
theorem lfit_short {A S : Option Addr} {n cp sn sc : Nat} {l : List Sp} {bs : List Bd} {kn ks : ByteArray} {kl kw kt kc : Int} (hsh : shortB l = false) (hn : n ≤ maxLen) (_hsn : sn ≤ maxLen) (hn1 : kn.size ≤ maxLen) (hn2 : ks.size ≤ maxLen) (_hcp : n ≤ cp) (w : World) (hl : SpRow w A n l) (hs : BdRow w S sn bs) :
    Calls Try.prog 17 #[.slice A n cp, .slice S sn sc, .agg #[.string kn, .string ks, .int .i64 kl, .int .i64 kw, .int .i64 kt, .int .i64 kc]] w fun e w' => e = .returned (.bool true) ∧ Below w.heap.size w w' := by
  have hkn1 : kn.size ≤ 9223372036854775807 := hn1
  have hkn2 : ks.size ≤ 9223372036854775807 := hn2
  have hBL : Below w.heap.size w (w.alloc (.cells #[.string kn, .string ks, .int .i64 kl, .int .i64 kw, .int .i64 kt, .int .i64 kc] 116)) := (Below.refl _ _).alloc (Nat.le_refl _) _
  have hl1 := SpRow.below hl hBL
  have hs1' := BdRow.below hs hBL
  have SH := fun wx hbx => Lib.hid (short_any (cp := cp) hsh wx (SpRow.below hl1 hbx) hn)
  clear hsh hl hs hl1 hs1'
  go_enter Try.func17, Try.ntmps17
  go_wp2_with (first | (go_at_call 18; refine (awake_any _).mono ?_; rintro e w1 ⟨rfl, hb1⟩; have hB1 : Below (w.alloc (.cells #[.string kn, .string ks, .int .i64 kl, .int .i64 kw, .int .i64 kt, .int .i64 kc] 116)).heap.size (w.alloc (.cells #[.string kn, .string ks, .int .i64 kl, .int .i64 kw, .int .i64 kt, .int .i64 kc] 116)) w1 := hb1; have hs1 : w.heap.size < w1.heap.size := (by have := hB1.size; (try simp at this); omega); obtain ⟨hc1, hf1⟩ := bcell hb1) | (go_at_call 19; (refine Calls.mono (SH _ hB1).out ?_); rintro e _ ⟨rfl, rfl⟩))
  go_ret
  exact ⟨rfl, hBL.trans (hB1.mono (by simp))⟩
set_option maxHeartbeats 4000000 in
set_option maxRecDepth 20000 in
theorem lfit_few {A S : Option Addr} {n cp sn sc : Nat} {l : List Sp} {bs : List Bd} {kn ks : ByteArray} {kl kw kt kc : Int} (hsh : shortB l = true) (hfe : fewB bs = false) (hn : n ≤ maxLen) (hsn : sn ≤ maxLen) (hn1 : kn.size ≤ maxLen) (hn2 : ks.size ≤ maxLen) (_hcp : n ≤ cp) (w : World) (hl : SpRow w A n l) (hs : BdRow w S sn bs) :
    Calls Try.prog 17 #[.slice A n cp, .slice S sn sc, .agg #[.string kn, .string ks, .int .i64 kl, .int .i64 kw, .int .i64 kt, .int .i64 kc]] w fun e w' => e = .returned (.bool true) ∧ Below w.heap.size w w' := by
  have hkn1 : kn.size ≤ 9223372036854775807 := hn1
  have hkn2 : ks.size ≤ 9223372036854775807 := hn2
  have hBL : Below w.heap.size w (w.alloc (.cells #[.string kn, .string ks, .int .i64 kl, .int .i64 kw, .int .i64 kt, .int .i64 kc] 116)) := (Below.refl _ _).alloc (Nat.le_refl _) _
  have hl1 := SpRow.below hl hBL
  have hs1' := BdRow.below hs hBL
  have SH := fun wx hbx => Lib.hid (short_any (cp := cp) hsh wx (SpRow.below hl1 hbx) hn)
  have FE := fun wx hbx => Lib.hid (few_any (sc := sc) hfe wx (BdRow.below hs1' hbx) hsn)
  clear hsh hfe hl hs hl1 hs1'
  go_enter Try.func17, Try.ntmps17
  go_wp2_with (first | (go_at_call 18; refine (awake_any _).mono ?_; rintro e w1 ⟨rfl, hb1⟩; have hB1 : Below (w.alloc (.cells #[.string kn, .string ks, .int .i64 kl, .int .i64 kw, .int .i64 kt, .int .i64 kc] 116)).heap.size (w.alloc (.cells #[.string kn, .string ks, .int .i64 kl, .int .i64 kw, .int .i64 kt, .int .i64 kc] 116)) w1 := hb1; have hs1 : w.heap.size < w1.heap.size := (by have := hB1.size; (try simp at this); omega); obtain ⟨hc1, hf1⟩ := bcell hb1) | (go_at_call 19; (refine Calls.mono (SH _ hB1).out ?_); rintro e _ ⟨rfl, rfl⟩) | (go_at_call 25; (refine Calls.mono (FE _ hB1).out ?_); rintro e w2 ⟨rfl, hb2⟩; have hB2 : Below (w.alloc (.cells #[.string kn, .string ks, .int .i64 kl, .int .i64 kw, .int .i64 kt, .int .i64 kc] 116)).heap.size (w.alloc (.cells #[.string kn, .string ks, .int .i64 kl, .int .i64 kw, .int .i64 kt, .int .i64 kc] 116)) w2 := hB1.trans (hb2.mono hB1.size); have hs2 : w.heap.size < w2.heap.size := (by have := hB2.size; (try simp at this); omega); obtain ⟨hc2, hf2⟩ := bcell hb2))
  go_ret
  exact ⟨rfl, hBL.trans (hB2.mono (by simp))⟩
set_option maxHeartbeats 4000000 in
set_option maxRecDepth 20000 in
theorem lfit_long1 {A S : Option Addr} {n cp sn sc : Nat} {l : List Sp} {bs : List Bd} {kn ks : ByteArray} {kl kw kt kc : Int} (hsh : shortB l = true) (hfe : fewB bs = true) (h30 : 30 < kn.size) (hn : n ≤ maxLen) (hsn : sn ≤ maxLen) (hn1 : kn.size ≤ maxLen) (hn2 : ks.size ≤ maxLen) (_hcp : n ≤ cp) (w : World) (hl : SpRow w A n l) (hs : BdRow w S sn bs) :
    Calls Try.prog 17 #[.slice A n cp, .slice S sn sc, .agg #[.string kn, .string ks, .int .i64 kl, .int .i64 kw, .int .i64 kt, .int .i64 kc]] w fun e w' => e = .returned (.bool true) ∧ Below w.heap.size w w' := by
  have hkn1 : kn.size ≤ 9223372036854775807 := hn1
  have hkn2 : ks.size ≤ 9223372036854775807 := hn2
  have hBL : Below w.heap.size w (w.alloc (.cells #[.string kn, .string ks, .int .i64 kl, .int .i64 kw, .int .i64 kt, .int .i64 kc] 116)) := (Below.refl _ _).alloc (Nat.le_refl _) _
  have hl1 := SpRow.below hl hBL
  have hs1' := BdRow.below hs hBL
  have SH := fun wx hbx => Lib.hid (short_any (cp := cp) hsh wx (SpRow.below hl1 hbx) hn)
  have FE := fun wx hbx => Lib.hid (few_any (sc := sc) hfe wx (BdRow.below hs1' hbx) hsn)
  clear hsh hfe hl hs hl1 hs1'
  go_enter Try.func17, Try.ntmps17
  go_wp2_with (first | (go_at_call 18; refine (awake_any _).mono ?_; rintro e w1 ⟨rfl, hb1⟩; have hB1 : Below (w.alloc (.cells #[.string kn, .string ks, .int .i64 kl, .int .i64 kw, .int .i64 kt, .int .i64 kc] 116)).heap.size (w.alloc (.cells #[.string kn, .string ks, .int .i64 kl, .int .i64 kw, .int .i64 kt, .int .i64 kc] 116)) w1 := hb1; have hs1 : w.heap.size < w1.heap.size := (by have := hB1.size; (try simp at this); omega); obtain ⟨hc1, hf1⟩ := bcell hb1) | (go_at_call 19; (refine Calls.mono (SH _ hB1).out ?_); rintro e _ ⟨rfl, rfl⟩) | (go_at_call 25; (refine Calls.mono (FE _ hB1).out ?_); rintro e w2 ⟨rfl, hb2⟩; have hB2 : Below (w.alloc (.cells #[.string kn, .string ks, .int .i64 kl, .int .i64 kw, .int .i64 kt, .int .i64 kc] 116)).heap.size (w.alloc (.cells #[.string kn, .string ks, .int .i64 kl, .int .i64 kw, .int .i64 kt, .int .i64 kc] 116)) w2 := hB1.trans (hb2.mono hB1.size); have hs2 : w.heap.size < w2.heap.size := (by have := hB2.size; (try simp at this); omega); obtain ⟨hc2, hf2⟩ := bcell hb2))
  go_ret
  exact ⟨rfl, hBL.trans (hB2.mono (by simp))⟩
set_option maxHeartbeats 4000000 in
set_option maxRecDepth 20000 in
theorem lfit_long2 {A S : Option Addr} {n cp sn sc : Nat} {l : List Sp} {bs : List Bd} {kn ks : ByteArray} {kl kw kt kc : Int} (hsh : shortB l = true) (hfe : fewB bs = true) (h30 : ¬ 30 < kn.size) (h31 : 30 < ks.size) (hn : n ≤ maxLen) (hsn : sn ≤ maxLen) (hn1 : kn.size ≤ maxLen) (hn2 : ks.size ≤ maxLen) (_hcp : n ≤ cp) (w : World) (hl : SpRow w A n l) (hs : BdRow w S sn bs) :
    Calls Try.prog 17 #[.slice A n cp, .slice S sn sc, .agg #[.string kn, .string ks, .int .i64 kl, .int .i64 kw, .int .i64 kt, .int .i64 kc]] w fun e w' => e = .returned (.bool true) ∧ Below w.heap.size w w' := by
  have hkn1 : kn.size ≤ 9223372036854775807 := hn1
  have hkn2 : ks.size ≤ 9223372036854775807 := hn2
  have hBL : Below w.heap.size w (w.alloc (.cells #[.string kn, .string ks, .int .i64 kl, .int .i64 kw, .int .i64 kt, .int .i64 kc] 116)) := (Below.refl _ _).alloc (Nat.le_refl _) _
  have hl1 := SpRow.below hl hBL
  have hs1' := BdRow.below hs hBL
  have SH := fun wx hbx => Lib.hid (short_any (cp := cp) hsh wx (SpRow.below hl1 hbx) hn)
  have FE := fun wx hbx => Lib.hid (few_any (sc := sc) hfe wx (BdRow.below hs1' hbx) hsn)
  clear hsh hfe hl hs hl1 hs1'
  go_enter Try.func17, Try.ntmps17
  go_wp2_with (first | (go_at_call 18; refine (awake_any _).mono ?_; rintro e w1 ⟨rfl, hb1⟩; have hB1 : Below (w.alloc (.cells #[.string kn, .string ks, .int .i64 kl, .int .i64 kw, .int .i64 kt, .int .i64 kc] 116)).heap.size (w.alloc (.cells #[.string kn, .string ks, .int .i64 kl, .int .i64 kw, .int .i64 kt, .int .i64 kc] 116)) w1 := hb1; have hs1 : w.heap.size < w1.heap.size := (by have := hB1.size; (try simp at this); omega); obtain ⟨hc1, hf1⟩ := bcell hb1) | (go_at_call 19; (refine Calls.mono (SH _ hB1).out ?_); rintro e _ ⟨rfl, rfl⟩) | (go_at_call 25; (refine Calls.mono (FE _ hB1).out ?_); rintro e w2 ⟨rfl, hb2⟩; have hB2 : Below (w.alloc (.cells #[.string kn, .string ks, .int .i64 kl, .int .i64 kw, .int .i64 kt, .int .i64 kc] 116)).heap.size (w.alloc (.cells #[.string kn, .string ks, .int .i64 kl, .int .i64 kw, .int .i64 kt, .int .i64 kc] 116)) w2 := hB1.trans (hb2.mono hB1.size); have hs2 : w.heap.size < w2.heap.size := (by have := hB2.size; (try simp at this); omega); obtain ⟨hc2, hf2⟩ := bcell hb2))
  go_ret
  exact ⟨rfl, hBL.trans (hB2.mono (by simp))⟩
set_option maxHeartbeats 4000000 in
set_option maxRecDepth 20000 in
theorem lfit_stock {A S : Option Addr} {n cp sn sc : Nat} {l : List Sp} {bs : List Bd} {kn ks : ByteArray} {kl kw kt kc : Int} (hsh : shortB l = true) (hfe : fewB bs = true) (h30 : ¬ 30 < kn.size) (h31 : ¬ 30 < ks.size) {c : Int} (hc : stCode l bs = c) (hz : c ≠ 0) (hn : n ≤ maxLen) (hsn : sn ≤ maxLen) (hn1 : kn.size ≤ maxLen) (hn2 : ks.size ≤ maxLen) (hcp : n ≤ cp) (w : World) (hl : SpRow w A n l) (hs : BdRow w S sn bs) :
    Calls Try.prog 17 #[.slice A n cp, .slice S sn sc, .agg #[.string kn, .string ks, .int .i64 kl, .int .i64 kw, .int .i64 kt, .int .i64 kc]] w fun e w' => e = .returned (.bool true) ∧ Below w.heap.size w w' := by
  have hkn1 : kn.size ≤ 9223372036854775807 := hn1
  have hkn2 : ks.size ≤ 9223372036854775807 := hn2
  have hBL : Below w.heap.size w (w.alloc (.cells #[.string kn, .string ks, .int .i64 kl, .int .i64 kw, .int .i64 kt, .int .i64 kc] 116)) := (Below.refl _ _).alloc (Nat.le_refl _) _
  have hl1 := SpRow.below hl hBL
  have hs1' := BdRow.below hs hBL
  have SH := fun wx hbx => Lib.hid (short_any (cp := cp) hsh wx (SpRow.below hl1 hbx) hn)
  have FE := fun wx hbx => Lib.hid (few_any (sc := sc) hfe wx (BdRow.below hs1' hbx) hsn)
  have FI := fun wx hbx => Lib.hid (fitting_err (cp := cp) (sc := sc) (kn := kn) (ks := ks) (kl := kl) (kw := kw) (kt := kt) (kc := kc) hc hz hn hsn hn1 hn2 wx (SpRow.below hl1 hbx) (BdRow.below hs1' hbx))
  have RS := fun wx hbx => Lib.hid (rcheckStock_any (cp := cp) (sc := sc) hc wx (SpRow.below hl1 hbx) hn hcp (BdRow.below hs1' hbx) hsn)
  have hzb : (c == 0) = false := beq_eq_false_iff_ne.2 hz
  clear hsh hfe hl hs hl1 hs1' hc
  go_enter Try.func17, Try.ntmps17
  go_wp2_with (first | (go_at_call 18; refine (awake_any _).mono ?_; rintro e w1 ⟨rfl, hb1⟩; have hB1 : Below (w.alloc (.cells #[.string kn, .string ks, .int .i64 kl, .int .i64 kw, .int .i64 kt, .int .i64 kc] 116)).heap.size (w.alloc (.cells #[.string kn, .string ks, .int .i64 kl, .int .i64 kw, .int .i64 kt, .int .i64 kc] 116)) w1 := hb1; have hs1 : w.heap.size < w1.heap.size := (by have := hB1.size; (try simp at this); omega); obtain ⟨hc1, hf1⟩ := bcell hb1) | (go_at_call 19; (refine Calls.mono (SH _ hB1).out ?_); rintro e _ ⟨rfl, rfl⟩) | (go_at_call 25; (refine Calls.mono (FE _ hB1).out ?_); rintro e w2 ⟨rfl, hb2⟩; have hB2 : Below (w.alloc (.cells #[.string kn, .string ks, .int .i64 kl, .int .i64 kw, .int .i64 kt, .int .i64 kc] 116)).heap.size (w.alloc (.cells #[.string kn, .string ks, .int .i64 kl, .int .i64 kw, .int .i64 kt, .int .i64 kc] 116)) w2 := hB1.trans (hb2.mono hB1.size); have hs2 : w.heap.size < w2.heap.size := (by have := hB2.size; (try simp at this); omega); obtain ⟨hc2, hf2⟩ := bcell hb2) | (go_at_call 68; (refine Calls.mono (FI _ hB2).out ?_); rintro e w3 ⟨rfl, hb3⟩; have hB3 : Below (w.alloc (.cells #[.string kn, .string ks, .int .i64 kl, .int .i64 kw, .int .i64 kt, .int .i64 kc] 116)).heap.size (w.alloc (.cells #[.string kn, .string ks, .int .i64 kl, .int .i64 kw, .int .i64 kt, .int .i64 kc] 116)) w3 := hB2.trans (hb3.mono hB2.size); have hs3 : w.heap.size < w3.heap.size := (by have := hB3.size; (try simp at this); omega); obtain ⟨hc3, hf3⟩ := bcell hb3) | (go_at_call 29; (refine Calls.mono (RS _ hB3).out ?_); rintro e w4 ⟨rfl, hb4⟩; have hB4 : Below (w.alloc (.cells #[.string kn, .string ks, .int .i64 kl, .int .i64 kw, .int .i64 kt, .int .i64 kc] 116)).heap.size (w.alloc (.cells #[.string kn, .string ks, .int .i64 kl, .int .i64 kw, .int .i64 kt, .int .i64 kc] 116)) w4 := hB3.trans (hb4.mono hB3.size); have hs4 : w.heap.size < w4.heap.size := (by have := hB4.size; (try simp at this); omega); obtain ⟨hc4, hf4⟩ := bcell hb4))
  go_ret
  exact ⟨rfl, hBL.trans (hB4.mono (by simp))⟩
set_option maxHeartbeats 4000000 in
set_option maxRecDepth 20000 in
theorem lfit_blank {A S : Option Addr} {n cp sn sc : Nat} {l : List Sp} {bs : List Bd} {kn ks : ByteArray} {kl kw kt kc : Int} (hsh : shortB l = true) (hfe : fewB bs = true) (h30 : ¬ 30 < kn.size) (h31 : ¬ 30 < ks.size) {c : Int} (hc : stCode l bs = 0) (hk : bkCode ⟨kn, ks, kl, kw, kt, kc⟩ = c) (hz : c ≠ 0) (hn : n ≤ maxLen) (hsn : sn ≤ maxLen) (hn1 : kn.size ≤ maxLen) (hn2 : ks.size ≤ maxLen) (hcp : n ≤ cp) (w : World) (hl : SpRow w A n l) (hs : BdRow w S sn bs) :
    Calls Try.prog 17 #[.slice A n cp, .slice S sn sc, .agg #[.string kn, .string ks, .int .i64 kl, .int .i64 kw, .int .i64 kt, .int .i64 kc]] w fun e w' => e = .returned (.bool true) ∧ Below w.heap.size w w' := by
  have hkn1 : kn.size ≤ 9223372036854775807 := hn1
  have hkn2 : ks.size ≤ 9223372036854775807 := hn2
  have hBL : Below w.heap.size w (w.alloc (.cells #[.string kn, .string ks, .int .i64 kl, .int .i64 kw, .int .i64 kt, .int .i64 kc] 116)) := (Below.refl _ _).alloc (Nat.le_refl _) _
  have hl1 := SpRow.below hl hBL
  have hs1' := BdRow.below hs hBL
  have SH := fun wx hbx => Lib.hid (short_any (cp := cp) hsh wx (SpRow.below hl1 hbx) hn)
  have FE := fun wx hbx => Lib.hid (few_any (sc := sc) hfe wx (BdRow.below hs1' hbx) hsn)
  have FI := fun wx hbx => Lib.hid (fitting_blank (cp := cp) (sc := sc) hc hk hz hn hsn hn1 hn2 wx (SpRow.below hl1 hbx) (BdRow.below hs1' hbx))
  have RS := fun wx hbx => Lib.hid (rcheckStock_any (cp := cp) (sc := sc) hc wx (SpRow.below hl1 hbx) hn hcp (BdRow.below hs1' hbx) hsn)
  have RB := fun wx (_ : Below (w.alloc (.cells #[.string kn, .string ks, .int .i64 kl, .int .i64 kw, .int .i64 kt, .int .i64 kc] 116)).heap.size (w.alloc (.cells #[.string kn, .string ks, .int .i64 kl, .int .i64 kw, .int .i64 kt, .int .i64 kc] 116)) wx) => Lib.hid (rblank_any hk hn1 hn2 wx)
  have hzb : (c == 0) = false := beq_eq_false_iff_ne.2 hz
  clear hsh hfe hl hs hl1 hs1' hc hk
  go_enter Try.func17, Try.ntmps17
  go_wp2_with (first | (go_at_call 18; refine (awake_any _).mono ?_; rintro e w1 ⟨rfl, hb1⟩; have hB1 : Below (w.alloc (.cells #[.string kn, .string ks, .int .i64 kl, .int .i64 kw, .int .i64 kt, .int .i64 kc] 116)).heap.size (w.alloc (.cells #[.string kn, .string ks, .int .i64 kl, .int .i64 kw, .int .i64 kt, .int .i64 kc] 116)) w1 := hb1; have hs1 : w.heap.size < w1.heap.size := (by have := hB1.size; (try simp at this); omega); obtain ⟨hc1, hf1⟩ := bcell hb1) | (go_at_call 19; (refine Calls.mono (SH _ hB1).out ?_); rintro e _ ⟨rfl, rfl⟩) | (go_at_call 25; (refine Calls.mono (FE _ hB1).out ?_); rintro e w2 ⟨rfl, hb2⟩; have hB2 : Below (w.alloc (.cells #[.string kn, .string ks, .int .i64 kl, .int .i64 kw, .int .i64 kt, .int .i64 kc] 116)).heap.size (w.alloc (.cells #[.string kn, .string ks, .int .i64 kl, .int .i64 kw, .int .i64 kt, .int .i64 kc] 116)) w2 := hB1.trans (hb2.mono hB1.size); have hs2 : w.heap.size < w2.heap.size := (by have := hB2.size; (try simp at this); omega); obtain ⟨hc2, hf2⟩ := bcell hb2) | (go_at_call 68; (refine Calls.mono (FI _ hB2).out ?_); rintro e w3 ⟨rfl, hb3⟩; have hB3 : Below (w.alloc (.cells #[.string kn, .string ks, .int .i64 kl, .int .i64 kw, .int .i64 kt, .int .i64 kc] 116)).heap.size (w.alloc (.cells #[.string kn, .string ks, .int .i64 kl, .int .i64 kw, .int .i64 kt, .int .i64 kc] 116)) w3 := hB2.trans (hb3.mono hB2.size); have hs3 : w.heap.size < w3.heap.size := (by have := hB3.size; (try simp at this); omega); obtain ⟨hc3, hf3⟩ := bcell hb3) | (go_at_call 29; (refine Calls.mono (RS _ hB3).out ?_); rintro e w4 ⟨rfl, hb4⟩; have hB4 : Below (w.alloc (.cells #[.string kn, .string ks, .int .i64 kl, .int .i64 kw, .int .i64 kt, .int .i64 kc] 116)).heap.size (w.alloc (.cells #[.string kn, .string ks, .int .i64 kl, .int .i64 kw, .int .i64 kt, .int .i64 kc] 116)) w4 := hB3.trans (hb4.mono hB3.size); have hs4 : w.heap.size < w4.heap.size := (by have := hB4.size; (try simp at this); omega); obtain ⟨hc4, hf4⟩ := bcell hb4) | (go_at_call 69; (refine Calls.mono (RB _ hB4).out ?_); rintro e w5 ⟨rfl, hb5⟩; have hB5 : Below (w.alloc (.cells #[.string kn, .string ks, .int .i64 kl, .int .i64 kw, .int .i64 kt, .int .i64 kc] 116)).heap.size (w.alloc (.cells #[.string kn, .string ks, .int .i64 kl, .int .i64 kw, .int .i64 kt, .int .i64 kc] 116)) w5 := hB4.trans (hb5.mono hB4.size); have hs5 : w.heap.size < w5.heap.size := (by have := hB5.size; (try simp at this); omega); obtain ⟨hc5, hf5⟩ := bcell hb5))
  go_ret
  exact ⟨rfl, hBL.trans (hB5.mono (by simp))⟩
set_option maxHeartbeats 4000000 in
set_option maxRecDepth 20000 in
theorem lfit_ok {A S : Option Addr} {n cp sn sc : Nat} {l : List Sp} {bs : List Bd} {kn ks : ByteArray} {kl kw kt kc : Int} (hsh : shortB l = true) (hfe : fewB bs = true) (h30 : ¬ 30 < kn.size) (h31 : ¬ 30 < ks.size) (hc : stCode l bs = 0) (hk : bkCode ⟨kn, ks, kl, kw, kt, kc⟩ = 0) (hn : n ≤ maxLen) (hsn : sn ≤ maxLen) (hn1 : kn.size ≤ maxLen) (hn2 : ks.size ≤ maxLen) (hcp : n ≤ cp) (w : World) (hl : SpRow w A n l) (hs : BdRow w S sn bs) :
    Calls Try.prog 17 #[.slice A n cp, .slice S sn sc, .agg #[.string kn, .string ks, .int .i64 kl, .int .i64 kw, .int .i64 kt, .int .i64 kc]] w fun e w' => e = .returned (.bool true) ∧ Below w.heap.size w w' := by
  have hkn1 : kn.size ≤ 9223372036854775807 := hn1
  have hkn2 : ks.size ≤ 9223372036854775807 := hn2
  have hBL : Below w.heap.size w (w.alloc (.cells #[.string kn, .string ks, .int .i64 kl, .int .i64 kw, .int .i64 kt, .int .i64 kc] 116)) := (Below.refl _ _).alloc (Nat.le_refl _) _
  have hl1 := SpRow.below hl hBL
  have hs1' := BdRow.below hs hBL
  have SH := fun wx hbx => Lib.hid (short_any (cp := cp) hsh wx (SpRow.below hl1 hbx) hn)
  have FE := fun wx hbx => Lib.hid (few_any (sc := sc) hfe wx (BdRow.below hs1' hbx) hsn)
  have FI := fun wx hbx => Lib.hid (fitting_ok (cp := cp) (sc := sc) hc hk hn hsn hn1 hn2 wx (SpRow.below hl1 hbx) (BdRow.below hs1' hbx))
  have RS := fun wx hbx => Lib.hid (rcheckStock_any (cp := cp) (sc := sc) hc wx (SpRow.below hl1 hbx) hn hcp (BdRow.below hs1' hbx) hsn)
  have RB := fun wx (_ : Below (w.alloc (.cells #[.string kn, .string ks, .int .i64 kl, .int .i64 kw, .int .i64 kt, .int .i64 kc] 116)).heap.size (w.alloc (.cells #[.string kn, .string ks, .int .i64 kl, .int .i64 kw, .int .i64 kt, .int .i64 kc] 116)) wx) => Lib.hid (rblank_any hk hn1 hn2 wx)
  have hbk := bk_ok hk
  have hst := st_boards hc
  have RF := fun wx hbx => Lib.hid (rfits_any (sc := sc) (kn := kn) (ks := ks) (kl := kl) (kw := kw) (kt := kt) (kc := kc) (fun b hb => bdOk_of (hst.2 b hb)) hst.1 hbk.1.1 hbk.2.1.1 wx (BdRow.below hs1' hbx))
  clear hsh hfe hl hs hl1 hs1' hc hk hbk hst
  go_enter Try.func17, Try.ntmps17
  go_wp2_with (first | (go_at_call 18; refine (awake_any _).mono ?_; rintro e w1 ⟨rfl, hb1⟩; have hB1 : Below (w.alloc (.cells #[.string kn, .string ks, .int .i64 kl, .int .i64 kw, .int .i64 kt, .int .i64 kc] 116)).heap.size (w.alloc (.cells #[.string kn, .string ks, .int .i64 kl, .int .i64 kw, .int .i64 kt, .int .i64 kc] 116)) w1 := hb1; have hs1 : w.heap.size < w1.heap.size := (by have := hB1.size; (try simp at this); omega); obtain ⟨hc1, hf1⟩ := bcell hb1) | (go_at_call 19; (refine Calls.mono (SH _ hB1).out ?_); rintro e _ ⟨rfl, rfl⟩) | (go_at_call 25; (refine Calls.mono (FE _ hB1).out ?_); rintro e w2 ⟨rfl, hb2⟩; have hB2 : Below (w.alloc (.cells #[.string kn, .string ks, .int .i64 kl, .int .i64 kw, .int .i64 kt, .int .i64 kc] 116)).heap.size (w.alloc (.cells #[.string kn, .string ks, .int .i64 kl, .int .i64 kw, .int .i64 kt, .int .i64 kc] 116)) w2 := hB1.trans (hb2.mono hB1.size); have hs2 : w.heap.size < w2.heap.size := (by have := hB2.size; (try simp at this); omega); obtain ⟨hc2, hf2⟩ := bcell hb2) | (go_at_call 68; (refine Calls.mono (FI _ hB2).out ?_); rintro e w3 ⟨r1, rfl, ho3, hb3⟩; have hB3 : Below (w.alloc (.cells #[.string kn, .string ks, .int .i64 kl, .int .i64 kw, .int .i64 kt, .int .i64 kc] 116)).heap.size (w.alloc (.cells #[.string kn, .string ks, .int .i64 kl, .int .i64 kw, .int .i64 kt, .int .i64 kc] 116)) w3 := hB2.trans (hb3.mono hB2.size); have hs3 : w.heap.size < w3.heap.size := (by have := hB3.size; (try simp at this); omega); obtain ⟨hc3, hf3⟩ := bcell hb3) | (go_at_call 29; (refine Calls.mono (RS _ hB3).out ?_); rintro e w4 ⟨rfl, hb4⟩; have hB4 : Below (w.alloc (.cells #[.string kn, .string ks, .int .i64 kl, .int .i64 kw, .int .i64 kt, .int .i64 kc] 116)).heap.size (w.alloc (.cells #[.string kn, .string ks, .int .i64 kl, .int .i64 kw, .int .i64 kt, .int .i64 kc] 116)) w4 := hB3.trans (hb4.mono hB3.size); have hs4 : w.heap.size < w4.heap.size := (by have := hB4.size; (try simp at this); omega); obtain ⟨hc4, hf4⟩ := bcell hb4) | (go_at_call 69; (refine Calls.mono (RB _ hB4).out ?_); rintro e w5 ⟨rfl, hb5⟩; have hB5 : Below (w.alloc (.cells #[.string kn, .string ks, .int .i64 kl, .int .i64 kw, .int .i64 kt, .int .i64 kc] 116)).heap.size (w.alloc (.cells #[.string kn, .string ks, .int .i64 kl, .int .i64 kw, .int .i64 kt, .int .i64 kc] 116)) w5 := hB4.trans (hb5.mono hB4.size); have hs5 : w.heap.size < w5.heap.size := (by have := hB5.size; (try simp at this); omega); obtain ⟨hc5, hf5⟩ := bcell hb5) | (go_at_call 71; (refine Calls.mono (RF _ hB5).out ?_); rintro e w6 ⟨r2, rfl, ho6, hb6⟩; have hB6 : Below (w.alloc (.cells #[.string kn, .string ks, .int .i64 kl, .int .i64 kw, .int .i64 kt, .int .i64 kc] 116)).heap.size (w.alloc (.cells #[.string kn, .string ks, .int .i64 kl, .int .i64 kw, .int .i64 kt, .int .i64 kc] 116)) w6 := hB5.trans (hb6.mono hB5.size); have ho4 := own_kept ho3 hb4; have ho5 := own_kept ho4 hb5; have ho7 := own_kept ho5 hb6) | (go_at_call 70; refine (ints_any _ ho7 ho6).mono ?_; rintro e _ ⟨rfl, q7, rfl⟩))
  go_ret
  exact ⟨rfl, hBL.trans ((below_drewN hB6 q7).mono (by simp))⟩
theorem fitting_law (A : Option Addr) (n cp : Nat) (l : List Sp) (S : Option Addr) (sn sc : Nat) (bs : List Bd) (kn ks : ByteArray) (kl kw kt kc : Int) (hn : n ≤ maxLen ∧ n ≤ cp) (hsn : sn ≤ maxLen ∧ sn ≤ sc) (hk : kn.size ≤ maxLen ∧ ks.size ≤ maxLen) (w : World) (hl : SpRow w A n l) (hs : BdRow w S sn bs) :
    Calls Try.prog 17 #[.slice A n cp, .slice S sn sc, .agg #[.string kn, .string ks, .int .i64 kl, .int .i64 kw, .int .i64 kt, .int .i64 kc]] w fun e w' => e = .returned (.bool true) ∧ Below w.heap.size w w' := by
  cases hsh : shortB l
  · exact lfit_short hsh hn.1 hsn.1 hk.1 hk.2 hn.2 w hl hs
  cases hfe : fewB bs
  · exact lfit_few hsh hfe hn.1 hsn.1 hk.1 hk.2 hn.2 w hl hs
  by_cases h30 : 30 < kn.size
  · exact lfit_long1 hsh hfe h30 hn.1 hsn.1 hk.1 hk.2 hn.2 w hl hs
  by_cases h31 : 30 < ks.size
  · exact lfit_long2 hsh hfe h30 h31 hn.1 hsn.1 hk.1 hk.2 hn.2 w hl hs
  by_cases hc : stCode l bs = 0
  · by_cases hkc : bkCode ⟨kn, ks, kl, kw, kt, kc⟩ = 0
    · exact lfit_ok hsh hfe h30 h31 hc hkc hn.1 hsn.1 hk.1 hk.2 hn.2 w hl hs
    · exact lfit_blank hsh hfe h30 h31 hc rfl hkc hn.1 hsn.1 hk.1 hk.2 hn.2 w hl hs
  · exact lfit_stock hsh hfe h30 h31 rfl hc hn.1 hsn.1 hk.1 hk.2 hn.2 w hl hs
end Go.Proofs.Ytnjbhidncicfiaa
