/- Walks over the timber seat: the species of a board. -/
import Derived.Test.YtnjbhidncicfiaaB3
import Derived.Test.YtnjbhidncicfiaaS6
namespace Go.Proofs.Ytnjbhidncicfiaa
open Go.RowKit Go.Maps

def ofCode (c : Int) (v : Bool) : Int := bif decide (c = 0) then (bif v then 0 else 6) else c
theorem ofCode_bd (l : List Sp) (b : Bd) : bdOf l b = ofCode (bdCode b) (!decide (findFrom 0 b.sp l = -1)) := by
  unfold bdOf ofCode
  cases decide (findFrom 0 b.sp l = -1) <;> rfl
set_option maxHeartbeats 1000000 in
theorem boardOf_any {nm sp : ByteArray} {ln wd th cu mo : Int} {D : Option Addr} {dn dc : Nat} {ds : List Rc} {mb n : Nat} {M : DataW Unit} {v : Bool} {c : Int} (hc : ofCode (bdCode ⟨nm, sp, ln, wd, th, cu, mo, ds⟩) v = c) (hn1 : nm.size ≤ maxLen) (hn2 : sp.size ≤ maxLen) (hdn : dn ≤ maxLen) (w : World) (hr : RcRow w D dn ds) (hown : w.ownsMap Try.prog 9 (plainElem Try.prog 3) mb n M) (hh : Maps.has M (keyL sp) = v) :
    Calls Try.prog 77 #[.map (some mb), .agg #[.string nm, .string sp, .int .i64 ln, .int .i64 wd, .int .i64 th, .int .i64 cu, .int .i64 mo, .slice D dn dc]] w fun e w' => e = .returned (.int .i64 c) ∧ Below w.heap.size w w' := by
  have hr1 : RcRow (w.alloc (.cells #[.string nm, .string sp, .int .i64 ln, .int .i64 wd, .int .i64 th, .int .i64 cu, .int .i64 mo, .slice D dn dc] 34)) D dn ds := RcRow.below hr ((Below.refl _ _).alloc (Nat.le_refl _) _)
  have hown1 := hown.alloc (.cells #[.string nm, .string sp, .int .i64 ln, .int .i64 wd, .int .i64 th, .int .i64 cu, .int .i64 mo, .slice D dn dc] 34)
  by_cases h0 : bdCode ⟨nm, sp, ln, wd, th, cu, mo, ds⟩ = 0
  · have BA := Lib.hid (boardAlone_any (dc := dc) h0 hn1 hn2 hdn _ hr1)
    have HC : Hid ((bif v then (0 : Int) else 6) = c) := Lib.hid (by rw [← hc, h0]; rfl)
    clear hr hr1 hown hc h0
    cases v
    all_goals
      have HV := Lib.hid HC.out
      go_enter Try.func77, Try.ntmps77
      go_wp2_with (go_at_call 88; (refine Calls.mono BA.out ?_); rintro e w1 ⟨rfl, hb1⟩; have hs1 : w.heap.size < w1.heap.size := (by have := hb1.size; (try simp at this); omega); obtain ⟨hc1, hf1⟩ := bcell hb1; obtain ⟨x, hlook, hatx⟩ := look_names (hown1.kept (below_grown hb1 none) (by simp)) hn2 hh)
      go_ret
      exact ⟨ret_int HC.out, ((Below.refl _ _).alloc (Nat.le_refl _) _).trans (hb1.mono (by simp))⟩
  · obtain ⟨y, hy⟩ : ∃ y, bdCode ⟨nm, sp, ln, wd, th, cu, mo, ds⟩ = y := ⟨_, rfl⟩
    have BA := Lib.hid (boardAlone_any (dc := dc) hy hn1 hn2 hdn _ hr1)
    rw [hy] at h0 hc
    have HC : Hid (y = c) := Lib.hid (by rw [← hc]; unfold ofCode; rw [decide_eq_false h0]; rfl)
    have hyb : (y == 0) = false := beq_eq_false_iff_ne.2 h0
    clear hr hr1 hown hown1 hc h0 hy
    go_enter Try.func77, Try.ntmps77
    go_wp2_with (go_at_call 88; (refine Calls.mono BA.out ?_); rintro e w1 ⟨rfl, hb1⟩)
    go_ret
    exact ⟨ret_int HC.out, ((Below.refl _ _).alloc (Nat.le_refl _) _).trans (hb1.mono (by simp))⟩
/-- The zero species. -/
def zeroSp : Value := .agg #[.string ⟨#[]⟩, .int .i64 0, .int .i64 0, .int .i64 0, .int .i64 0, .int .i64 0, .int .i64 0]
theorem chkBoard_split (l : List Sp) (b : Bd) : chkBoard l b = bif decide (spsCode l = 0) then bdOf l b else spsCode l := rfl
set_option maxHeartbeats 4000000 in
set_option maxRecDepth 20000 in
theorem speciesOf_list {nm sp : ByteArray} {ln wd th cu mo : Int} {D : Option Addr} {dn dc : Nat} {_ds : List Rc} {A : Option Addr} {n cp : Nat} {l : List Sp} {c : Int} (hc : spsCode l = c) (hne : c ≠ 0) (w : World) (hl : SpRow w A n l) (hn : n ≤ maxLen) :
    Calls Try.prog 76 #[.slice A n cp, .agg #[.string nm, .string sp, .int .i64 ln, .int .i64 wd, .int .i64 th, .int .i64 cu, .int .i64 mo, .slice D dn dc]] w fun e w' => e = .returned (.tuple #[.agg #[.string ⟨#[]⟩, .int .i64 0, .int .i64 0, .int .i64 0, .int .i64 0, .int .i64 0, .int .i64 0], .int .i64 c]) ∧ Below w.heap.size w w' := by
  have hl1 : SpRow ((w.alloc (.cells #[.string nm, .string sp, .int .i64 ln, .int .i64 wd, .int .i64 th, .int .i64 cu, .int .i64 mo, .slice D dn dc] 34)).alloc (.cells #[.string ⟨#[]⟩, .int .i64 0, .int .i64 0, .int .i64 0, .int .i64 0, .int .i64 0, .int .i64 0] 44)) A n l := SpRow.below hl (((Below.refl _ _).alloc (Nat.le_refl _) _).alloc (by simp) _)
  have B := Lib.hid (byName_err (cp := cp) hc hne _ hl1 hn)
  have hb0 : (c == 0) = false := beq_eq_false_iff_ne.2 hne
  clear hc hl hl1
  go_enter Try.func76, Try.ntmps76
  go_wp2_with (go_at_call 74; (refine Calls.mono B.out ?_); rintro e w1 ⟨rfl, hb1⟩; have hs1 : w.heap.size + 1 < w1.heap.size := (by have := hb1.size; (try simp at this); omega); have ht1 : w.heap.size < w1.heap.size := (by omega); obtain ⟨hc1, hf1⟩ := bcell hb1)
  refine bodyPost_ret (v := .tuple #[.agg #[.string ⟨#[]⟩, .int .i64 0, .int .i64 0, .int .i64 0, .int .i64 0, .int .i64 0, .int .i64 0], .int .i64 c]) (by simp [results, Try.results76, go_sem, hc1]) rfl ⟨rfl, ?_⟩
  repeat (refine Below.setCell ?_ (by simp) _)
  exact (((Below.refl _ _).alloc (Nat.le_refl _) _).alloc (by simp) _).trans (hb1.mono (by simp; omega))
set_option maxHeartbeats 4000000 in
set_option maxRecDepth 20000 in
theorem speciesOf_board {nm sp : ByteArray} {ln wd th cu mo : Int} {D : Option Addr} {dn dc : Nat} {ds : List Rc} {A : Option Addr} {n cp : Nat} {l : List Sp} {c : Int} (hs0 : spsCode l = 0) (hc : bdOf l ⟨nm, sp, ln, wd, th, cu, mo, ds⟩ = c) (hne : c ≠ 0) (hn1 : nm.size ≤ maxLen) (hn2 : sp.size ≤ maxLen) (hdn : dn ≤ maxLen) (w : World) (hr : RcRow w D dn ds) (hl : SpRow w A n l) (hn : n ≤ maxLen) :
    Calls Try.prog 76 #[.slice A n cp, .agg #[.string nm, .string sp, .int .i64 ln, .int .i64 wd, .int .i64 th, .int .i64 cu, .int .i64 mo, .slice D dn dc]] w fun e w' => e = .returned (.tuple #[.agg #[.string ⟨#[]⟩, .int .i64 0, .int .i64 0, .int .i64 0, .int .i64 0, .int .i64 0, .int .i64 0], .int .i64 c]) ∧ Below w.heap.size w w' := by
  have hBL : Below w.heap.size w ((w.alloc (.cells #[.string nm, .string sp, .int .i64 ln, .int .i64 wd, .int .i64 th, .int .i64 cu, .int .i64 mo, .slice D dn dc] 34)).alloc (.cells #[.string ⟨#[]⟩, .int .i64 0, .int .i64 0, .int .i64 0, .int .i64 0, .int .i64 0, .int .i64 0] 44)) := ((Below.refl _ _).alloc (Nat.le_refl _) _).alloc (by simp) _
  have B := Lib.hid (byName_ok (cp := cp) hs0 _ (SpRow.below hl hBL) hn)
  have hr1 := RcRow.below hr hBL
  have htk : l.take n = l := List.take_of_length_le (by have := hl.1; omega)
  have hof := (ofCode_bd l ⟨nm, sp, ln, wd, th, cu, mo, ds⟩).symm.trans hc
  have hb0 : (c == 0) = false := beq_eq_false_iff_ne.2 hne
  have BO := fun wx hb mb M hown hh => Lib.hid (boardOf_any (dc := dc) (n := n) (mb := mb) (M := M) (c := c) hof hn1 hn2 hdn wx (RcRow.below hr1 hb) hown hh)
  clear hs0 hc hl hr hr1 hof hBL
  go_enter Try.func76, Try.ntmps76
  go_wp2_with (first | (go_at_call 74; (refine Calls.mono B.out ?_); rintro e w1 ⟨mb, rfl, ⟨M, hown, hnm⟩, hb1⟩; have hs1 : w.heap.size + 1 < w1.heap.size := (by have := hb1.size; (try simp at this); omega); have ht1 : w.heap.size < w1.heap.size := (by omega); obtain ⟨hc1, hf1⟩ := bcell hb1; have hhas := (hnm.has sp).trans (by rw [htk])) | (go_at_call 77; (refine Calls.mono (BO _ hb1 mb M hown hhas).out ?_); rintro e w2 ⟨rfl, hb2⟩; have hs2 : w.heap.size + 1 < w2.heap.size := (by have := hb2.size; omega); have ht2 : w.heap.size < w2.heap.size := (by omega); obtain ⟨hc2, hf2⟩ := bcell hb2))
  refine bodyPost_ret (v := .tuple #[.agg #[.string ⟨#[]⟩, .int .i64 0, .int .i64 0, .int .i64 0, .int .i64 0, .int .i64 0, .int .i64 0], .int .i64 c]) (by simp [results, Try.results76, go_sem, hc1, hc2, hs1]) rfl ⟨rfl, ?_⟩
  repeat (refine Below.setCell ?_ (by simp) _)
  exact ((((Below.refl _ _).alloc (Nat.le_refl _) _).alloc (by simp) _).trans (hb1.mono (by simp; omega))).trans (hb2.mono (by omega))
theorem find_lt {l : List Sp} {nm : ByteArray} (h : findFrom 0 nm l ≠ -1) : ∃ j : Nat, j < l.length ∧ findFrom 0 nm l = j := by
  rcases find_ge l 0 nm with h1 | h1
  · exact absurd h1 h
  · exact ⟨(findFrom 0 nm l).toNat, by omega, by omega⟩
set_option maxRecDepth 20000 in
theorem look_num {w : World} {b n : Nat} {M : DataW Unit} {nm : ByteArray} {j : Int} (hown : w.ownsMap Try.prog 9 (plainElem Try.prog 3) b n M) (hsz : nm.size ≤ maxLen) (hj : M.atKey (keyL nm) (.lit (.int .i64 0)) = .lit (.int .i64 j)) :
    (Instr.lookup 126 (.map (some b)) (.string nm) false).run Try.prog w = .ok (.int .i64 j) w := by
  obtain ⟨c, hrun, hat, -⟩ := hown.lookup_int lawS Try.underlying126 Try.underlying3 (zero3 w) (WideMaps.keyOf_string_mk Try.underlying9 hsz)
  have e := hat.symm.trans hj
  injection e with e
  injection e with _ e
  rw [hrun, e]
/-- A species, as a value. -/
def spV (s : Sp) : Value := .agg #[.string s.nm, .int .i64 s.al, .int .i64 s.ac, .int .i64 s.ra, .int .i64 s.de, .int .i64 s.st, .int .i64 s.sr]
set_option maxHeartbeats 4000000 in
set_option maxRecDepth 20000 in
theorem speciesOf_ok {nm sp : ByteArray} {ln wd th cu mo : Int} {D : Option Addr} {dn dc : Nat} {ds : List Rc} {A : Option Addr} {n cp j : Nat} {l : List Sp} {s : Sp} (hs0 : spsCode l = 0) (hc : bdOf l ⟨nm, sp, ln, wd, th, cu, mo, ds⟩ = 0) (hj : findFrom 0 sp l = j) (hjn : j < n) (hsj : l[j]? = some s) (hn1 : nm.size ≤ maxLen) (hn2 : sp.size ≤ maxLen) (hdn : dn ≤ maxLen) (w : World) (hr : RcRow w D dn ds) (hl : SpRow w A n l) (hn : n ≤ maxLen) :
    Calls Try.prog 76 #[.slice A n cp, .agg #[.string nm, .string sp, .int .i64 ln, .int .i64 wd, .int .i64 th, .int .i64 cu, .int .i64 mo, .slice D dn dc]] w fun e w' => e = .returned (.tuple #[spV s, .int .i64 0]) ∧ Below w.heap.size w w' := by
  have hBL : Below w.heap.size w ((w.alloc (.cells #[.string nm, .string sp, .int .i64 ln, .int .i64 wd, .int .i64 th, .int .i64 cu, .int .i64 mo, .slice D dn dc] 34)).alloc (.cells #[.string ⟨#[]⟩, .int .i64 0, .int .i64 0, .int .i64 0, .int .i64 0, .int .i64 0, .int .i64 0] 44)) := ((Below.refl _ _).alloc (Nat.le_refl _) _).alloc (by simp) _
  have B := Lib.hid (byName_ok (cp := cp) hs0 _ (SpRow.below hl hBL) hn)
  have hr1 := RcRow.below hr hBL
  have htk : l.take n = l := List.take_of_length_le (by have := hl.1; omega)
  have hof := (ofCode_bd l ⟨nm, sp, ln, wd, th, cu, mo, ds⟩).symm.trans hc
  have BO := fun wx hb mb M hown hh => Lib.hid (boardOf_any (dc := dc) (n := n) (mb := mb) (M := M) (c := 0) hof hn1 hn2 hdn wx (RcRow.below hr1 hb) hown hh)
  obtain ⟨hll, hrow⟩ := hl
  obtain ⟨blk, off, rfl, hblk, hx⟩ := hrow (by omega)
  have hjl : j < l.length := by omega
  have hsp := hx j hjl
  rw [List.getElem?_eq_getElem hjl] at hsj
  injection hsj with hsj
  rw [hsj] at hsp
  obtain ⟨snm, al, ac, ra, de, st, sr⟩ := s
  obtain ⟨g0, g1, g2, g3, g4, g5, g6, -⟩ := hsp
  simp only at g0 g1 g2 g3 g4 g5 g6
  have hn' : n ≤ 9223372036854775807 := hn
  have hjn' : (j : Int) < (n : Int) := by omega
  have hne : findFrom 0 sp l ≠ -1 := by rw [hj]; omega
  have HJ := Lib.hid hj
  unfold spV
  clear hs0 hc hrow hr hr1 hof hx hsj hj hll
  go_enter Try.func76, Try.ntmps76
  go_wp2_with (first | (go_at_call 74; (refine Calls.mono B.out ?_); rintro e w1 ⟨mb, rfl, ⟨M, hown, hnm⟩, hb1⟩; have hs1 : w.heap.size + 1 < w1.heap.size := (by have := hb1.size; (try simp at this); omega); have ht1 : w.heap.size < w1.heap.size := (by omega); obtain ⟨hc1, hf1⟩ := bcell hb1; have hhas := (hnm.has sp).trans (by rw [htk]); have hat := (hnm.at_ sp (by rw [htk]; exact hne)).trans (by rw [htk, HJ.out])) | (go_at_call 77; (refine Calls.mono (BO _ hb1 mb M hown hhas).out ?_); rintro e w2 ⟨rfl, hb2⟩; have hs2 : w.heap.size + 1 < w2.heap.size := (by have := hb2.size; omega); have ht2 : w.heap.size < w2.heap.size := (by omega); obtain ⟨hc2, hf2⟩ := bcell hb2; have hlk := look_num (hown.kept (below_grown hb2 none) (by simp)) hn2 hat; have hBW := (hBL.trans (hb1.mono hBL.size)).trans (hb2.mono (by omega)); have kk : ∀ o, w2.cell? ⟨blk, o, none⟩ = w.cell? ⟨blk, o, none⟩ := (fun o => hBW.cell (p := ⟨blk, o, none⟩) hblk); have z0 := (kk _).trans g0; have z1 := (kk _).trans g1; have z2 := (kk _).trans g2; have z3 := (kk _).trans g3; have z4 := (kk _).trans g4; have z5 := (kk _).trans g5; have z6 := (kk _).trans g6; clear kk))
  refine bodyPost_ret (v := .tuple #[.agg #[.string snm, .int .i64 al, .int .i64 ac, .int .i64 ra, .int .i64 de, .int .i64 st, .int .i64 sr], .int .i64 0]) (by simp [results, Try.results76, go_sem, hc1, hc2, hs1]) rfl ⟨rfl, ?_⟩
  repeat (refine Below.setCell ?_ (by simp) _)
  exact hBW
end Go.Proofs.Ytnjbhidncicfiaa
