/- Walks over the timber seat: sizes of boards. -/
import Derived.Test.YtnjbhidncicfiaaB6
import Derived.Test.YtnjbhidncicfiaaS3
import Derived.Deep.Cut
namespace Go.Proofs.Ytnjbhidncicfiaa
open Go.RowKit Go.Maps

theorem z_facts {nm sp : ByteArray} {ln wd th cu mo : Int} {D : Option Addr} {dn dc : Nat} {w W : World} (hb : Below (w.heap.size + 2) ((w.alloc (.cells #[.string nm, .string sp, .int .i64 ln, .int .i64 wd, .int .i64 th, .int .i64 cu, .int .i64 mo, .slice D dn dc] 34)).alloc (.cells #[.int .i64 0, .int .i64 0, .int .i64 0, .int .i64 0, .int .i64 0, .int .i64 0] 68)) W) : (W.cell? ⟨w.heap.size + 1, 0, none⟩ = some (.int .i64 0) ∧ W.cell? ⟨w.heap.size + 1, 1, none⟩ = some (.int .i64 0) ∧ W.cell? ⟨w.heap.size + 1, 2, none⟩ = some (.int .i64 0) ∧ W.cell? ⟨w.heap.size + 1, 3, none⟩ = some (.int .i64 0) ∧ W.cell? ⟨w.heap.size + 1, 4, none⟩ = some (.int .i64 0) ∧ W.cell? ⟨w.heap.size + 1, 5, none⟩ = some (.int .i64 0)) ∧ (W.frozen? ⟨w.heap.size + 1, 0, none⟩ = false ∧ W.frozen? ⟨w.heap.size + 1, 1, none⟩ = false ∧ W.frozen? ⟨w.heap.size + 1, 2, none⟩ = false ∧ W.frozen? ⟨w.heap.size + 1, 3, none⟩ = false ∧ W.frozen? ⟨w.heap.size + 1, 4, none⟩ = false ∧ W.frozen? ⟨w.heap.size + 1, 5, none⟩ = false) ∧ (W.cell? ⟨w.heap.size, 0, none⟩ = some (.string nm) ∧ W.cell? ⟨w.heap.size, 1, none⟩ = some (.string sp) ∧ W.cell? ⟨w.heap.size, 2, none⟩ = some (.int .i64 ln) ∧ W.cell? ⟨w.heap.size, 3, none⟩ = some (.int .i64 wd) ∧ W.cell? ⟨w.heap.size, 4, none⟩ = some (.int .i64 th) ∧ W.cell? ⟨w.heap.size, 5, none⟩ = some (.int .i64 cu) ∧ W.cell? ⟨w.heap.size, 6, none⟩ = some (.int .i64 mo) ∧ W.cell? ⟨w.heap.size, 7, none⟩ = some (.slice D dn dc)) := by
  have k1 : ∀ o, W.cell? ⟨w.heap.size + 1, o, none⟩ = _ := fun o => hb.cell (p := ⟨w.heap.size + 1, o, none⟩) (by simp)
  have k2 : ∀ o, W.frozen? ⟨w.heap.size + 1, o, none⟩ = _ := fun o => hb.frozen (p := ⟨w.heap.size + 1, o, none⟩) (by simp)
  have k3 : ∀ o, W.cell? ⟨w.heap.size, o, none⟩ = _ := fun o => hb.cell (p := ⟨w.heap.size, o, none⟩) (by simp)
  refine ⟨⟨?_, ?_, ?_, ?_, ?_, ?_⟩, ⟨?_, ?_, ?_, ?_, ?_, ?_⟩, ⟨?_, ?_, ?_, ?_, ?_, ?_, ?_, ?_⟩⟩
  all_goals first | (rw [k1]; simp [go_sem]) | (rw [k2]; simp [go_sem]) | (rw [k3]; simp [go_sem])
theorem w0_size {w : World} {o1 o2 : Obj} : ((w.alloc o1).alloc o2).heap.size = w.heap.size + 2 := by simp
set_option maxHeartbeats 1000000 in
set_option maxRecDepth 20000 in
theorem sizes_err {nm sp : ByteArray} {ln wd th cu mo : Int} {D : Option Addr} {dn dc : Nat} {ds : List Rc} {A : Option Addr} {n cp : Nat} {l : List Sp} {c q : Int} (hc : chkBoard l ⟨nm, sp, ln, wd, th, cu, mo, ds⟩ = c) (hz : c ≠ 0) (hn1 : nm.size ≤ maxLen) (hn2 : sp.size ≤ maxLen) (hdn : dn ≤ maxLen) (w : World) (hr : RcRow w D dn ds) (hl : SpRow w A n l) (hn : n ≤ maxLen) :
    Calls Try.prog 40 #[.slice A n cp, .agg #[.string nm, .string sp, .int .i64 ln, .int .i64 wd, .int .i64 th, .int .i64 cu, .int .i64 mo, .slice D dn dc], .int .i64 q] w fun e w' => e = .returned (.tuple #[.agg #[.int .i64 0, .int .i64 0, .int .i64 0, .int .i64 0, .int .i64 0, .int .i64 0], .int .i64 c]) ∧ Below w.heap.size w w' := by
  have hBL : Below w.heap.size w ((w.alloc (.cells #[.string nm, .string sp, .int .i64 ln, .int .i64 wd, .int .i64 th, .int .i64 cu, .int .i64 mo, .slice D dn dc] 34)).alloc (.cells #[.int .i64 0, .int .i64 0, .int .i64 0, .int .i64 0, .int .i64 0, .int .i64 0] 68)) := ((Below.refl _ _).alloc (Nat.le_refl _) _).alloc (by simp) _
  have hr1 := RcRow.below hr hBL
  have hl1 := SpRow.below hl hBL
  have hzb : (c == 0) = false := beq_eq_false_iff_ne.2 hz
  by_cases hs0 : spsCode l = 0
  · rw [chk_board hs0] at hc
    have S := Lib.hid (speciesOf_board (cp := cp) (dc := dc) hs0 hc hz hn1 hn2 hdn _ hr1 hl1 hn)
    clear hs0 hc hr hl hr1 hl1
    go_enter Try.func40, Try.ntmps40
    go_upto_region 3 with (go_at_call 76; (refine Calls.mono S.out ?_); rintro e w1 ⟨rfl, hb1⟩; rw [w0_size] at hb1)
    generalize hW : w1.alloc _ = W2
    have hb2 : Below (w.heap.size + 2) ((w.alloc (.cells #[.string nm, .string sp, .int .i64 ln, .int .i64 wd, .int .i64 th, .int .i64 cu, .int .i64 mo, .slice D dn dc] 34)).alloc (.cells #[.int .i64 0, .int .i64 0, .int .i64 0, .int .i64 0, .int .i64 0, .int .i64 0] 68)) W2 := hW ▸ hb1.alloc (by have := hb1.size; (try simp at this); omega) _
    have hs1 : w.heap.size + 1 < W2.heap.size := by have := hb2.size; (try simp at this); omega
    have ht1 : w.heap.size < W2.heap.size := by omega
    obtain ⟨⟨qc0, qc1, qc2, qc3, qc4, qc5⟩, ⟨qf0, qf1, qf2, qf3, qf4, qf5⟩, ⟨qb0, qb1, qb2, qb3, qb4, qb5, qb6, qb7⟩⟩ := z_facts hb2
    clear hW hb1
    go_wp2
    refine bodyPost_ret (v := .tuple #[.agg #[.int .i64 0, .int .i64 0, .int .i64 0, .int .i64 0, .int .i64 0, .int .i64 0], .int .i64 c]) (by simp [results, Try.results40, go_sem, qc0, qc1, qc2, qc3, qc4, qc5, hs1, ht1]) rfl ⟨rfl, ?_⟩
    repeat (refine Below.setCell ?_ (by simp) _)
    exact hBL.trans (hb2.mono (by omega))
  · rw [chk_list hs0] at hc
    have S := Lib.hid (speciesOf_list (nm := nm) (sp := sp) (ln := ln) (wd := wd) (th := th) (cu := cu) (mo := mo) (D := D) (dn := dn) (dc := dc) (_ds := ds) (cp := cp) hc hz _ hl1 hn)
    clear hs0 hc hr hl hr1 hl1
    go_enter Try.func40, Try.ntmps40
    go_upto_region 3 with (go_at_call 76; (refine Calls.mono S.out ?_); rintro e w1 ⟨rfl, hb1⟩; rw [w0_size] at hb1)
    generalize hW : w1.alloc _ = W2
    have hb2 : Below (w.heap.size + 2) ((w.alloc (.cells #[.string nm, .string sp, .int .i64 ln, .int .i64 wd, .int .i64 th, .int .i64 cu, .int .i64 mo, .slice D dn dc] 34)).alloc (.cells #[.int .i64 0, .int .i64 0, .int .i64 0, .int .i64 0, .int .i64 0, .int .i64 0] 68)) W2 := hW ▸ hb1.alloc (by have := hb1.size; (try simp at this); omega) _
    have hs1 : w.heap.size + 1 < W2.heap.size := by have := hb2.size; (try simp at this); omega
    have ht1 : w.heap.size < W2.heap.size := by omega
    obtain ⟨⟨qc0, qc1, qc2, qc3, qc4, qc5⟩, ⟨qf0, qf1, qf2, qf3, qf4, qf5⟩, ⟨qb0, qb1, qb2, qb3, qb4, qb5, qb6, qb7⟩⟩ := z_facts hb2
    clear hW hb1
    go_wp2
    refine bodyPost_ret (v := .tuple #[.agg #[.int .i64 0, .int .i64 0, .int .i64 0, .int .i64 0, .int .i64 0, .int .i64 0], .int .i64 c]) (by simp [results, Try.results40, go_sem, qc0, qc1, qc2, qc3, qc4, qc5, hs1, ht1]) rfl ⟨rfl, ?_⟩
    repeat (refine Below.setCell ?_ (by simp) _)
    exact hBL.trans (hb2.mono (by omega))
set_option maxHeartbeats 1000000 in
set_option maxRecDepth 20000 in
theorem sizes_range {nm sp : ByteArray} {ln wd th cu mo : Int} {D : Option Addr} {dn dc : Nat} {ds : List Rc} {A : Option Addr} {n cp : Nat} {l : List Sp} {q : Int} (hc : chkBoard l ⟨nm, sp, ln, wd, th, cu, mo, ds⟩ = 0) (hq : inB 0 400 q = false) (hn1 : nm.size ≤ maxLen) (hn2 : sp.size ≤ maxLen) (hdn : dn ≤ maxLen) (w : World) (hr : RcRow w D dn ds) (hl : SpRow w A n l) (hn : n ≤ maxLen) :
    Calls Try.prog 40 #[.slice A n cp, .agg #[.string nm, .string sp, .int .i64 ln, .int .i64 wd, .int .i64 th, .int .i64 cu, .int .i64 mo, .slice D dn dc], .int .i64 q] w fun e w' => e = .returned (.tuple #[.agg #[.int .i64 0, .int .i64 0, .int .i64 0, .int .i64 0, .int .i64 0, .int .i64 0], .int .i64 2]) ∧ Below w.heap.size w w' := by
  have hBL : Below w.heap.size w ((w.alloc (.cells #[.string nm, .string sp, .int .i64 ln, .int .i64 wd, .int .i64 th, .int .i64 cu, .int .i64 mo, .slice D dn dc] 34)).alloc (.cells #[.int .i64 0, .int .i64 0, .int .i64 0, .int .i64 0, .int .i64 0, .int .i64 0] 68)) := ((Below.refl _ _).alloc (Nat.le_refl _) _).alloc (by simp) _
  have hr1 := RcRow.below hr hBL
  have hl1 := SpRow.below hl hBL
  have hll := hl.1
  obtain ⟨hs0, hb0, j, s, hjl, hj, hsj⟩ := chk_sp hc
  simp only at hj
  have S := Lib.hid (speciesOf_ok (cp := cp) (dc := dc) hs0 hb0 hj (by omega) hsj hn1 hn2 hdn _ hr1 hl1 hn)
  obtain ⟨snm, al, ac, ra, de, st, sr⟩ := s
  unfold spV at S
  simp only at S
  have X := Lib.hid ((allIn_one 0 400 q).trans hq)
  clear hs0 hb0 hc hr hl hr1 hl1 hj hsj hq hll hjl
  go_enter Try.func40, Try.ntmps40
  go_wp2_with (first | (go_at_call 76; (refine Calls.mono S.out ?_); rintro e w1 ⟨rfl, hb1⟩; rw [w0_size] at hb1; have hs1 : w.heap.size + 1 < w1.heap.size := (by have := hb1.size; (try simp at this); omega); have ht1 : w.heap.size < w1.heap.size := (by omega); obtain ⟨⟨qc0, qc1, qc2, qc3, qc4, qc5⟩, ⟨qf0, qf1, qf2, qf3, qf4, qf5⟩, ⟨qb0, qb1, qb2, qb3, qb4, qb5, qb6, qb7⟩⟩ := z_facts hb1) | (go_at_call 79; (with_reducible refine (within_oneb X.out _ _ (by simp)).mono ?_); rintro e w2 ⟨rfl, hb2⟩; have hs2 : w.heap.size + 1 < w2.heap.size := (by have := hb2.size; (try simp at this); omega); have ht2 : w.heap.size < w2.heap.size := (by omega); obtain ⟨hc2, hf2⟩ := bcell hb2))
  refine bodyPost_ret (v := .tuple #[.agg #[.int .i64 0, .int .i64 0, .int .i64 0, .int .i64 0, .int .i64 0, .int .i64 0], .int .i64 2]) (by simp [results, Try.results40, go_sem, hc2, qc0, qc1, qc2, qc3, qc4, qc5, hs1, ht1]) rfl ⟨rfl, ?_⟩
  repeat (refine Below.setCell ?_ (by simp) _)
  exact ((hBL.trans (hb1.mono (by omega))).alloc (by omega) _).trans (hb2.mono (by simp; omega))
end Go.Proofs.Ytnjbhidncicfiaa
