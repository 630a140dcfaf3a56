/- Walks over the timber seat: the whole function Widest; the law TimberWidest. -/
import Derived.Test.YtnjbhidncicfiaaG1
import Derived.Test.YtnjbhidncicfiaaF6
import Derived.Test.YtnjbhidncicfiaaZ1
namespace Go.Proofs.Ytnjbhidncicfiaa
open Go.RowKit

theorem r_facts {nm sp : ByteArray} {ln wd th cu mo : Int} {D : Option Addr} {dn dc : Nat} {w W : World} (hb : Below (w.heap.size + 2) ((w.alloc (.cells #[.string nm, .string sp, .int .i64 ln, .int .i64 wd, .int .i64 th, .int .i64 cu, .int .i64 mo, .slice D dn dc] 34)).alloc (.cells #[.int .i64 0, .int .i64 0, .int .i64 0, .int .i64 0] 75)) W) : (W.cell? ⟨w.heap.size + 1, 0, none⟩ = some (.int .i64 0) ∧ W.cell? ⟨w.heap.size + 1, 1, none⟩ = some (.int .i64 0) ∧ W.cell? ⟨w.heap.size + 1, 2, none⟩ = some (.int .i64 0) ∧ W.cell? ⟨w.heap.size + 1, 3, none⟩ = some (.int .i64 0)) ∧ (W.frozen? ⟨w.heap.size + 1, 0, none⟩ = false ∧ W.frozen? ⟨w.heap.size + 1, 1, none⟩ = false ∧ W.frozen? ⟨w.heap.size + 1, 2, none⟩ = false ∧ W.frozen? ⟨w.heap.size + 1, 3, none⟩ = false) ∧ (W.cell? ⟨w.heap.size, 0, none⟩ = some (.string nm) ∧ W.cell? ⟨w.heap.size, 1, none⟩ = some (.string sp) ∧ W.cell? ⟨w.heap.size, 2, none⟩ = some (.int .i64 ln) ∧ W.cell? ⟨w.heap.size, 3, none⟩ = some (.int .i64 wd) ∧ W.cell? ⟨w.heap.size, 4, none⟩ = some (.int .i64 th) ∧ W.cell? ⟨w.heap.size, 5, none⟩ = some (.int .i64 cu) ∧ W.cell? ⟨w.heap.size, 6, none⟩ = some (.int .i64 mo) ∧ W.cell? ⟨w.heap.size, 7, none⟩ = some (.slice D dn dc)) := by
  have k1 : ∀ o, W.cell? ⟨w.heap.size + 1, o, none⟩ = _ := fun o => hb.cell (p := ⟨w.heap.size + 1, o, none⟩) (by simp)
  have k2 : ∀ o, W.frozen? ⟨w.heap.size + 1, o, none⟩ = _ := fun o => hb.frozen (p := ⟨w.heap.size + 1, o, none⟩) (by simp)
  have k3 : ∀ o, W.cell? ⟨w.heap.size, o, none⟩ = _ := fun o => hb.cell (p := ⟨w.heap.size, o, none⟩) (by simp)
  refine ⟨⟨?_, ?_, ?_, ?_⟩, ⟨?_, ?_, ?_, ?_⟩, ⟨?_, ?_, ?_, ?_, ?_, ?_, ?_, ?_⟩⟩
  all_goals first | (rw [k1]; simp [go_sem]) | (rw [k2]; simp [go_sem]) | (rw [k3]; simp [go_sem])
set_option maxHeartbeats 1000000 in
theorem wideErr_any {nm sp : ByteArray} {ln wd th cu mo : Int} {D : Option Addr} {dn dc : Nat} {ds : List Rc} {q : Int} {c : Int} (hc : bdCode ⟨nm, sp, ln, wd, th, cu, mo, ds⟩ = c) (hz : c ≠ 0) (hn1 : nm.size ≤ maxLen) (hn2 : sp.size ≤ maxLen) (hdn : dn ≤ maxLen) (w : World) (hd : RcRow w D dn ds) :
    Calls Try.prog 53 #[.agg #[.string nm, .string sp, .int .i64 ln, .int .i64 wd, .int .i64 th, .int .i64 cu, .int .i64 mo, .slice D dn dc], .int .i64 q] w fun e w' => e = .returned (.tuple #[.agg #[.int .i64 0, .int .i64 0, .int .i64 0, .int .i64 0], .int .i64 c]) ∧ Below w.heap.size w w' := by
  have hBL : Below w.heap.size w ((w.alloc (.cells #[.string nm, .string sp, .int .i64 ln, .int .i64 wd, .int .i64 th, .int .i64 cu, .int .i64 mo, .slice D dn dc] 34)).alloc (.cells #[.int .i64 0, .int .i64 0, .int .i64 0, .int .i64 0] 75)) := ((Below.refl _ _).alloc (Nat.le_refl _) _).alloc (by simp) _
  have BA := Lib.hid (boardAlone_any (dc := dc) hc hn1 hn2 hdn _ (RcRow.below hd hBL))
  have hzb : (c == 0) = false := beq_eq_false_iff_ne.2 hz
  clear hc hd
  go_enter Try.func53, Try.ntmps53
  go_wp2_with (go_at_call 88; (refine Calls.mono BA.out ?_); rintro e w1 ⟨rfl, hb1⟩; have hs1 : w.heap.size + 1 < w1.heap.size := (by have := hb1.size; (try simp at this); omega); have ht1 : w.heap.size < w1.heap.size := (by omega); rw [w0_size] at hb1; obtain ⟨⟨qc0, qc1, qc2, qc3⟩, ⟨qf0, qf1, qf2, qf3⟩, ⟨qb0, qb1, qb2, qb3, qb4, qb5, qb6, qb7⟩⟩ := r_facts hb1)
  refine bodyPost_ret (v := .tuple #[.agg #[.int .i64 0, .int .i64 0, .int .i64 0, .int .i64 0], .int .i64 c]) (by simp [results, Try.results53, go_sem, qc0, qc1, qc2, qc3]) rfl ⟨rfl, ?_⟩
  repeat (refine Below.setCell ?_ (by simp) _)
  exact hBL.trans (hb1.mono (by omega))
set_option maxHeartbeats 1000000 in
theorem wideRange_any {nm sp : ByteArray} {ln wd th cu mo : Int} {D : Option Addr} {dn dc : Nat} {ds : List Rc} {q : Int} (hc : bdCode ⟨nm, sp, ln, wd, th, cu, mo, ds⟩ = 0) (hq : inB 1 ln q = false) (hn1 : nm.size ≤ maxLen) (hn2 : sp.size ≤ maxLen) (hdn : dn ≤ maxLen) (w : World) (hd : RcRow w D dn ds) :
    Calls Try.prog 53 #[.agg #[.string nm, .string sp, .int .i64 ln, .int .i64 wd, .int .i64 th, .int .i64 cu, .int .i64 mo, .slice D dn dc], .int .i64 q] w fun e w' => e = .returned (.tuple #[.agg #[.int .i64 0, .int .i64 0, .int .i64 0, .int .i64 0], .int .i64 2]) ∧ Below w.heap.size w w' := by
  have hBL : Below w.heap.size w ((w.alloc (.cells #[.string nm, .string sp, .int .i64 ln, .int .i64 wd, .int .i64 th, .int .i64 cu, .int .i64 mo, .slice D dn dc] 34)).alloc (.cells #[.int .i64 0, .int .i64 0, .int .i64 0, .int .i64 0] 75)) := ((Below.refl _ _).alloc (Nat.le_refl _) _).alloc (by simp) _
  have BA := Lib.hid (boardAlone_any (dc := dc) hc hn1 hn2 hdn _ (RcRow.below hd hBL))
  have X := Lib.hid ((allIn_one 1 ln q).trans hq)
  clear hc hd hq
  go_enter Try.func53, Try.ntmps53
  go_wp2_with (first | (go_at_call 88; (refine Calls.mono BA.out ?_); rintro e w1 ⟨rfl, hb1⟩; have hs1 : w.heap.size + 1 < w1.heap.size := (by have := hb1.size; (try simp at this); omega); have ht1 : w.heap.size < w1.heap.size := (by omega); rw [w0_size] at hb1; obtain ⟨⟨qc0, qc1, qc2, qc3⟩, ⟨qf0, qf1, qf2, qf3⟩, ⟨qb0, qb1, qb2, qb3, qb4, qb5, qb6, qb7⟩⟩ := r_facts hb1) | (go_at_call 79; (with_reducible refine (within_oneb X.out _ _ (by simp)).mono ?_); rintro e w2 ⟨rfl, hb2⟩; have hs2 : w.heap.size + 1 < w2.heap.size := (by have := hb2.size; (try simp at this); omega); have ht2 : w.heap.size < w2.heap.size := (by omega); obtain ⟨hc2, hf2⟩ := bcell hb2))
  refine bodyPost_ret (v := .tuple #[.agg #[.int .i64 0, .int .i64 0, .int .i64 0, .int .i64 0], .int .i64 2]) (by simp [results, Try.results53, go_sem, hc2, qc0, qc1, qc2, qc3, hs1, ht1]) rfl ⟨rfl, ?_⟩
  repeat (refine Below.setCell ?_ (by simp) _)
  exact (hBL.trans (hb1.mono (by omega))).trans (hb2.mono (by omega))
set_option maxHeartbeats 2000000 in
theorem wideNone_any {nm sp : ByteArray} {ln wd th cu mo : Int} {D : Option Addr} {dn dc : Nat} {ds : List Rc} {q : Int} (hc : bdCode ⟨nm, sp, ln, wd, th, cu, mo, ds⟩ = 0) (hq : inB 1 ln q = true) (hq0 : 1 ≤ q) (hq1 : q ≤ ln) (hr : (widR ⟨nm, sp, ln, wd, th, cu, mo, ds⟩ q) = zeroR) (hn1 : nm.size ≤ maxLen) (hn2 : sp.size ≤ maxLen) (hdn : dn ≤ maxLen) (w : World) (hd : RcRow w D dn ds) :
    Calls Try.prog 53 #[.agg #[.string nm, .string sp, .int .i64 ln, .int .i64 wd, .int .i64 th, .int .i64 cu, .int .i64 mo, .slice D dn dc], .int .i64 q] w fun e w' => e = .returned (.tuple #[.agg #[.int .i64 0, .int .i64 0, .int .i64 0, .int .i64 0], .int .i64 12]) ∧ Below w.heap.size w w' := by
  have hBL : Below w.heap.size w ((w.alloc (.cells #[.string nm, .string sp, .int .i64 ln, .int .i64 wd, .int .i64 th, .int .i64 cu, .int .i64 mo, .slice D dn dc] 34)).alloc (.cells #[.int .i64 0, .int .i64 0, .int .i64 0, .int .i64 0] 75)) := ((Below.refl _ _).alloc (Nat.le_refl _) _).alloc (by simp) _
  have hd1 := RcRow.below hd hBL
  have BA := Lib.hid (boardAlone_any (dc := dc) hc hn1 hn2 hdn _ hd1)
  have X := Lib.hid ((allIn_one 1 ln q).trans hq)
  have WI := fun wx (hbx : Below (w.heap.size + 2) ((w.alloc (.cells #[.string nm, .string sp, .int .i64 ln, .int .i64 wd, .int .i64 th, .int .i64 cu, .int .i64 mo, .slice D dn dc] 34)).alloc (.cells #[.int .i64 0, .int .i64 0, .int .i64 0, .int .i64 0] 75)) wx) => Lib.hid (widest_any (dc := dc) (bdOk_of hc) hq0 hq1 wx (RcRow.below hd1 (by rw [w0_size]; exact hbx)))
  rw [hr] at WI
  simp only [zeroR] at WI
  clear hc hd hd1 hq hr
  go_enter Try.func53, Try.ntmps53
  go_wp2_with (first | (go_at_call 88; (refine Calls.mono BA.out ?_); rintro e w1 ⟨rfl, hb1⟩; have hs1 : w.heap.size + 1 < w1.heap.size := (by have := hb1.size; (try simp at this); omega); have ht1 : w.heap.size < w1.heap.size := (by omega); rw [w0_size] at hb1; obtain ⟨⟨qc0, qc1, qc2, qc3⟩, ⟨qf0, qf1, qf2, qf3⟩, ⟨qb0, qb1, qb2, qb3, qb4, qb5, qb6, qb7⟩⟩ := r_facts hb1) | (go_at_call 79; (with_reducible refine (within_oneb X.out _ _ (by simp)).mono ?_); rintro e w2 ⟨rfl, hb2⟩; have hs2 : w.heap.size + 1 < w2.heap.size := (by have := hb2.size; (try simp at this); omega); have ht2 : w.heap.size < w2.heap.size := (by omega); obtain ⟨hc2, hf2⟩ := bcell hb2) | (go_at_call 97; (refine Calls.mono (WI _ (hb1.trans (hb2.mono (by omega)))).out ?_); rintro e w3 ⟨rfl, hb3⟩; have hs3 : w.heap.size + 1 < w3.heap.size := (by have := hb3.size; (try simp at this); omega); have ht3 : w.heap.size < w3.heap.size := (by omega); obtain ⟨hc3, hf3⟩ := bcell hb3))
  refine bodyPost_ret (v := .tuple #[.agg #[.int .i64 0, .int .i64 0, .int .i64 0, .int .i64 0], .int .i64 12]) (by simp [results, Try.results53, go_sem, hc2, hc3, qc0, qc1, qc2, qc3, hs1, hs2, hs3, ht1, ht2, ht3]) rfl ⟨rfl, ?_⟩
  repeat (first | (refine Below.setCell ?_ (by simp) _) | (refine Below.alloc ?_ (by simp [World.setCell]; omega) _))
  exact hBL.trans (((hb1.trans (hb2.mono (by omega))).trans (hb3.mono (by omega))).mono (by omega))
set_option maxHeartbeats 2000000 in
theorem wideOk_any {nm sp : ByteArray} {ln wd th cu mo : Int} {D : Option Addr} {dn dc : Nat} {ds : List Rc} {q : Int} {x1 y1 x2 y2 : Int} (hc : bdCode ⟨nm, sp, ln, wd, th, cu, mo, ds⟩ = 0) (hq : inB 1 ln q = true) (hq0 : 1 ≤ q) (hq1 : q ≤ ln) (hr : (widR ⟨nm, sp, ln, wd, th, cu, mo, ds⟩ q) = ⟨x1, y1, x2, y2⟩) (hp : y1 < y2) (hn1 : nm.size ≤ maxLen) (hn2 : sp.size ≤ maxLen) (hdn : dn ≤ maxLen) (w : World) (hd : RcRow w D dn ds) :
    Calls Try.prog 53 #[.agg #[.string nm, .string sp, .int .i64 ln, .int .i64 wd, .int .i64 th, .int .i64 cu, .int .i64 mo, .slice D dn dc], .int .i64 q] w fun e w' => e = .returned (.tuple #[.agg #[.int .i64 x1, .int .i64 y1, .int .i64 x2, .int .i64 y2], .int .i64 0]) ∧ Below w.heap.size w w' := by
  have hBL : Below w.heap.size w ((w.alloc (.cells #[.string nm, .string sp, .int .i64 ln, .int .i64 wd, .int .i64 th, .int .i64 cu, .int .i64 mo, .slice D dn dc] 34)).alloc (.cells #[.int .i64 0, .int .i64 0, .int .i64 0, .int .i64 0] 75)) := ((Below.refl _ _).alloc (Nat.le_refl _) _).alloc (by simp) _
  have hd1 := RcRow.below hd hBL
  have BA := Lib.hid (boardAlone_any (dc := dc) hc hn1 hn2 hdn _ hd1)
  have X := Lib.hid ((allIn_one 1 ln q).trans hq)
  have WI := fun wx (hbx : Below (w.heap.size + 2) ((w.alloc (.cells #[.string nm, .string sp, .int .i64 ln, .int .i64 wd, .int .i64 th, .int .i64 cu, .int .i64 mo, .slice D dn dc] 34)).alloc (.cells #[.int .i64 0, .int .i64 0, .int .i64 0, .int .i64 0] 75)) wx) => Lib.hid (widest_any (dc := dc) (bdOk_of hc) hq0 hq1 wx (RcRow.below hd1 (by rw [w0_size]; exact hbx)))
  rw [hr] at WI
  simp only at WI
  clear hc hd hd1 hq hr
  go_enter Try.func53, Try.ntmps53
  go_wp2_with (first | (go_at_call 88; (refine Calls.mono BA.out ?_); rintro e w1 ⟨rfl, hb1⟩; have hs1 : w.heap.size + 1 < w1.heap.size := (by have := hb1.size; (try simp at this); omega); have ht1 : w.heap.size < w1.heap.size := (by omega); rw [w0_size] at hb1; obtain ⟨⟨qc0, qc1, qc2, qc3⟩, ⟨qf0, qf1, qf2, qf3⟩, ⟨qb0, qb1, qb2, qb3, qb4, qb5, qb6, qb7⟩⟩ := r_facts hb1) | (go_at_call 79; (with_reducible refine (within_oneb X.out _ _ (by simp)).mono ?_); rintro e w2 ⟨rfl, hb2⟩; have hs2 : w.heap.size + 1 < w2.heap.size := (by have := hb2.size; (try simp at this); omega); have ht2 : w.heap.size < w2.heap.size := (by omega); obtain ⟨hc2, hf2⟩ := bcell hb2) | (go_at_call 97; (refine Calls.mono (WI _ (hb1.trans (hb2.mono (by omega)))).out ?_); rintro e w3 ⟨rfl, hb3⟩; have hs3 : w.heap.size + 1 < w3.heap.size := (by have := hb3.size; (try simp at this); omega); have ht3 : w.heap.size < w3.heap.size := (by omega); obtain ⟨hc3, hf3⟩ := bcell hb3))
  all_goals first | (exfalso; omega) | skip
  all_goals
    refine bodyPost_ret (v := .tuple #[.agg #[.int .i64 x1, .int .i64 y1, .int .i64 x2, .int .i64 y2], .int .i64 0]) (by simp [results, Try.results53, go_sem, hc2, hc3, qc0, qc1, qc2, qc3, hs1, hs2, hs3, ht1, ht2, ht3, *]) rfl ⟨rfl, ?_⟩
    repeat (first | (refine Below.setCell ?_ (by simp) _) | (refine Below.alloc ?_ (by simp [World.setCell]; omega) _))
    exact hBL.trans (((hb1.trans (hb2.mono (by omega))).trans (hb3.mono (by omega))).mono (by omega))
end Go.Proofs.Ytnjbhidncicfiaa
