/- Walks over the timber seat: Clear. -/
import Derived.Test.YtnjbhidncicfiaaE4
namespace Go.Proofs.Ytnjbhidncicfiaa
open Go.Shelf Go.RowKit Go.Lib Go.Sort

set_option maxHeartbeats 4000000 in
set_option maxRecDepth 20000 in
theorem clearOf_any {nm sp : ByteArray} {ln wd th cu mo : Int} {D : Option Addr} {dn dc : Nat} {ds : List Rc} (hb : BdOk ⟨nm, sp, ln, wd, th, cu, mo, ds⟩) (w : World) (hd : RcRow w D dn ds) :
    Calls Try.prog 96 #[.agg #[.string nm, .string sp, .int .i64 ln, .int .i64 wd, .int .i64 th, .int .i64 cu, .int .i64 mo, .slice D dn dc]] w fun e w' => ∃ (r : Value) (cl : List Iv), e = .returned r ∧ IsClear ⟨nm, sp, ln, wd, th, cu, mo, ds⟩ cl ∧ w'.ownsRow w.heap.size 50 2 r cl.length (ivCells cl) ∧ Below w.heap.size w w' := by
  have hdl := hd.1
  have hdn := hb.dn
  simp only at hdn
  have hdn' : dn ≤ 60 := by omega
  obtain ⟨i0, hi, hz0, hz1, hz2⟩ := info_parts info50
  have HD := Lib.hid hd
  have HBD := Lib.hid hb
  have OP := fun base n v (xs : List Iv) wx hown hn hle hbase => Lib.hid (openings_any (en := ln) (base := base) (n := n) (v := v) (xs := xs) wx hown hn hle hbase)
  clear hd hb
  go_enter Try.func96, Try.ntmps96
  go_wp2
  go_loopw [3, 9] (fun v i wr => ∃ k : Nat, k ≤ dn ∧ i = .int .i64 k ∧ wr.ownsRow (w.heap.size + 1) 50 2 v k (ivCells ((ds.take k).map fun d => (d.x1, d.x2))) ∧ Below (w.heap.size + 1) (w.alloc (.cells #[.string nm, .string sp, .int .i64 ln, .int .i64 wd, .int .i64 th, .int .i64 cu, .int .i64 mo, .slice D dn dc] 34)) wr) (fun _ i _ => dn - (intOf i).toNat)
  case atStart => exact ⟨0, Nat.zero_le _, rfl, ⟨rfl, .inl ⟨rfl, rfl⟩⟩, Below.refl _ _⟩
  case round =>
    obtain ⟨k, hk, rfl, hov, hbw⟩ := hrel
    have HB := Lib.hid hbw
    have HBW := Lib.hid (show Below w.heap.size w wr from ((Below.refl w.heap.size w).alloc (Nat.le_refl _) _).trans (hbw.mono (by omega)))
    have kB : ∀ o, wr.cell? ⟨w.heap.size, o, none⟩ = _ := fun o => hbw.cell (p := ⟨w.heap.size, o, none⟩) (by simp)
    have q2 := kB 2; have q7 := kB 7
    simp [go_sem] at q2 q7
    have hsz := hbw.size
    simp at hsz
    clear kB hbw
    by_cases hlt : k < dn
    · have hkl : k < ds.length := by omega
      obtain ⟨bk, of, rfl, hbk, hx⟩ := HD.out.2 (by omega)
      have hxx := (hx k hkl).below HBW.out hbk
      have HT := Lib.hid (taken_succ hkl)
      clear hx
      obtain ⟨d, hdd⟩ : ∃ d, ds[k] = d := ⟨_, rfl⟩
      rw [hdd] at hxx HT
      clear hdd
      obtain ⟨a1, b1, a2, b2⟩ := d
      obtain ⟨c0, c1, c2, c3⟩ := hxx
      simp only at c0 c1 c2 c3 HT
      go_wp2_with (at_builtin; refine wpList_append_own_at _ rfl _ _ 84 rfl (w.heap.size + 1) 50 i0 (.agg #[.int .i64 0, .int .i64 0]) 2 16 Try.underlying84 hi hz0 hz1 hz2 rfl (by decide) _ _ _ rfl ((hov.alloc _).alloc _) ⟨wr.heap.size + 1, 0, none⟩ 1 1 [.int .i64 a1, .int .i64 a2] rfl rfl (cell_two_new _ _ _ _ (by simp)) (two_oneCell _ _) (by unfold maxLen; omega) (by omega) (by simp; omega) ?_; intro v3 w3 hown3 hgrow3 hnil3 hloc3)
      go_roundw
      case rel =>
        refine ⟨k + 1, by omega, by go_num, ?_, ?_⟩
        · rw [HT.out, ivCells_snoc]; exact hown3
        · exact (((HB.out.alloc hsz _).alloc (by simp; omega) _)).grown hgrow3 (by simp; omega) (fun j hj => own_ge hov j hj)
      case measure => simp [intOf]; omega
    · have hk' : k = dn := by omega
      have hall : ds.take k = ds := List.take_of_length_le (by omega)
      rw [hall] at hov
      subst hk'
      go_wp2_with (go_at_call 119; (refine Calls.mono (OP (w.heap.size + 1) k _ _ _ hov (by simp [hdl]) (by omega) (by omega)).out ?_); rintro e w3 ⟨r, m, ys, rfl, hp, hs, hm, hown3, hg3⟩)
      go_ret
      refine ⟨r, opn 0 (ys ++ [(ln, ln)]), rfl, clear_prog HBD.out hp hs, ?_, ?_⟩
      · rw [hm] at hown3
        exact ⟨hown3.1, hown3.2.imp id fun ⟨g, cap, cur, h1, h2, h3⟩ => ⟨g, cap, cur, h1, by omega, h3⟩⟩
      · exact HBW.out.grown hg3 HBW.out.size (fun j hj => by have := own_ge hov j hj; omega)
set_option maxHeartbeats 1000000 in
theorem clear_err {nm sp : ByteArray} {ln wd th cu mo : Int} {D : Option Addr} {dn dc : Nat} {ds : List Rc} {c : Int} (hc : bdCode ⟨nm, sp, ln, wd, th, cu, mo, ds⟩ = c) (hz : c ≠ 0) (hn1 : nm.size ≤ maxLen) (hn2 : sp.size ≤ maxLen) (hdn : dn ≤ maxLen) (w : World) (hd : RcRow w D dn ds) :
    Calls Try.prog 51 #[.agg #[.string nm, .string sp, .int .i64 ln, .int .i64 wd, .int .i64 th, .int .i64 cu, .int .i64 mo, .slice D dn dc]] w fun e w' => e = .returned (.tuple #[.slice none 0 0, .int .i64 c]) ∧ Below w.heap.size w w' := by
  have hBL : Below w.heap.size w (w.alloc (.cells #[.string nm, .string sp, .int .i64 ln, .int .i64 wd, .int .i64 th, .int .i64 cu, .int .i64 mo, .slice D dn dc] 34)) := (Below.refl _ _).alloc (Nat.le_refl _) _
  have BA := Lib.hid (boardAlone_any (dc := dc) hc hn1 hn2 hdn _ (RcRow.below hd hBL))
  have hzb : (c == 0) = false := beq_eq_false_iff_ne.2 hz
  clear hc hd
  go_enter Try.func51, Try.ntmps51
  go_wp2_with (go_at_call 88; (refine Calls.mono BA.out ?_); rintro e w1 ⟨rfl, hb1⟩)
  go_ret2
  exact ⟨rfl, hBL.trans (hb1.mono (by simp))⟩
set_option maxHeartbeats 1000000 in
theorem clear_ok {nm sp : ByteArray} {ln wd th cu mo : Int} {D : Option Addr} {dn dc : Nat} {ds : List Rc} (hc : bdCode ⟨nm, sp, ln, wd, th, cu, mo, ds⟩ = 0) (hn1 : nm.size ≤ maxLen) (hn2 : sp.size ≤ maxLen) (hdn : dn ≤ maxLen) (w : World) (hd : RcRow w D dn ds) :
    Calls Try.prog 51 #[.agg #[.string nm, .string sp, .int .i64 ln, .int .i64 wd, .int .i64 th, .int .i64 cu, .int .i64 mo, .slice D dn dc]] w fun e w' => ∃ (r : Value) (cl : List Iv), e = .returned (.tuple #[r, .int .i64 0]) ∧ IsClear ⟨nm, sp, ln, wd, th, cu, mo, ds⟩ cl ∧ w'.ownsRow w.heap.size 50 2 r cl.length (ivCells cl) ∧ Below w.heap.size w w' := by
  have hBL : Below w.heap.size w (w.alloc (.cells #[.string nm, .string sp, .int .i64 ln, .int .i64 wd, .int .i64 th, .int .i64 cu, .int .i64 mo, .slice D dn dc] 34)) := (Below.refl _ _).alloc (Nat.le_refl _) _
  have hd1 := RcRow.below hd hBL
  have BA := Lib.hid (boardAlone_any (dc := dc) hc hn1 hn2 hdn _ hd1)
  have CL := fun wx hb => Lib.hid (clearOf_any (dc := dc) (bdOk_of hc) wx (RcRow.below hd1 hb))
  clear hc hd hd1
  go_enter Try.func51, Try.ntmps51
  go_wp2_with (first | (go_at_call 88; (refine Calls.mono BA.out ?_); rintro e w1 ⟨rfl, hb1⟩; have hs1 : w.heap.size < w1.heap.size := (by have := hb1.size; (try simp at this); omega); obtain ⟨hc1, hf1⟩ := bcell hb1) | (go_at_call 96; (refine Calls.mono (CL _ hb1).out ?_); rintro e w2 ⟨r, cl, rfl, hcl, hown, hb2⟩))
  go_ret2
  exact ⟨r, cl, rfl, hcl, ⟨hown.1, hown.2.imp id fun ⟨g, cap, cur, h1, h2, h3⟩ => ⟨g, cap, cur, h1, by omega, h3⟩⟩, (hBL.trans (hb1.mono (by simp))).trans (hb2.mono (by omega))⟩
end Go.Proofs.Ytnjbhidncicfiaa
