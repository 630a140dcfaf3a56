/- Walks over the timber seat: the grade of a board, the program's. -/
import Derived.Test.YtnjbhidncicfiaaH3
import Derived.Test.YtnjbhidncicfiaaEC
import Derived.Test.YtnjbhidncicfiaaF4
namespace Go.Proofs.Ytnjbhidncicfiaa
open Go.RowKit

theorem others_cell {w w' : World} {lb : Nat} (h : w.grownBy w' (some lb)) {b : Nat} (o : Nat) (hb : b < w.heap.size) (hne : b ≠ lb) : w'.cell? ⟨b, o, none⟩ = w.cell? ⟨b, o, none⟩ := by
  unfold World.cell?
  rw [show w'.heap[b]? = w.heap[b]? from h.block b hb (fun e => hne (Option.some.inj e))]
theorem others_trans {a w w' : World} {row : Option Nat} (h : a.grownBy w row) (k : w.grownBy w' row) : a.grownBy w' row :=
  ⟨k.os.trans h.os, k.tape.trans h.tape, k.output.trans h.output, Nat.le_trans h.size k.size, fun i hi hne => (k.block i (Nat.lt_of_lt_of_le hi h.size) hne).trans (h.block i hi hne)⟩
theorem others_set (w : World) (b i : Nat) (v : Value) : w.grownBy (w.setCell ⟨b, i, none⟩ v) (some b) :=
  ⟨rfl, rfl, rfl, by simp [World.setCell], fun k _ hk => Below.heap_setCell _ _ _ _ (fun e => hk (by simp [e]))⟩
theorem others_put {w0 w : World} {lb : Nat} (h : w0.grownBy w (some lb)) (u : Value) (o : Obj) : w0.grownBy ((w.setCell ⟨lb, 0, none⟩ u).alloc o) (some lb) := by
  have h1 : w.grownBy (w.setCell ⟨lb, 0, none⟩ u) (some lb) := others_set w lb 0 u
  exact others_trans h (others_trans h1 (World.grownBy_alloc _ o _))
theorem put_alloc {w : World} {lb : Nat} {v u : Value} {o : Obj} (h : w.cell? ⟨lb, 0, none⟩ = some v) (hf : w.frozen? ⟨lb, 0, none⟩ = false) (hlt : lb < w.heap.size) :
    ((w.setCell ⟨lb, 0, none⟩ u).alloc o).cell? ⟨lb, 0, none⟩ = some u ∧ ((w.setCell ⟨lb, 0, none⟩ u).alloc o).frozen? ⟨lb, 0, none⟩ = false := by
  have hb : Below (w.setCell ⟨lb, 0, none⟩ u).heap.size (w.setCell ⟨lb, 0, none⟩ u) ((w.setCell ⟨lb, 0, none⟩ u).alloc o) := (Below.refl _ _).alloc (Nat.le_refl _) _
  have hs : lb < (w.setCell ⟨lb, 0, none⟩ u).heap.size := by simpa using hlt
  refine ⟨(hb.cell (p := ⟨lb, 0, none⟩) hs).trans ?_, (hb.frozen (p := ⟨lb, 0, none⟩) hs).trans ?_⟩
  · simp [go_sem, h]
  · simpa [go_sem] using hf
theorem ask_new {wr w5 : World} {bb lb : Nat} {ln wd cov lo : Int} {D : Option Addr} {dn dc : Nat} (q2 : wr.cell? ⟨bb, 2, none⟩ = some (.int .i64 ln)) (q3 : wr.cell? ⟨bb, 3, none⟩ = some (.int .i64 wd)) (q7 : wr.cell? ⟨bb, 7, none⟩ = some (.slice D dn dc)) (t0 : wr.cell? ⟨lb, 0, none⟩ = some (.int .i64 lo)) (hb : Below wr.heap.size wr w5) (h1 : bb < wr.heap.size) (h2 : lb < wr.heap.size) :
    AskAt (w5.alloc (.cells #[.int .i64 (cov * 1000)] 3)) bb w5.heap.size lb ln wd cov lo D dn dc := by
  have hb' : Below wr.heap.size wr (w5.alloc (.cells #[.int .i64 (cov * 1000)] 3)) := hb.alloc hb.size _
  have hs := hb.size
  have k : ∀ b o, b < wr.heap.size → (w5.alloc (.cells #[.int .i64 (cov * 1000)] 3)).cell? ⟨b, o, none⟩ = wr.cell? ⟨b, o, none⟩ := fun b o h => hb'.cell (p := ⟨b, o, none⟩) h
  exact ⟨by rw [k _ _ h1, q2], by rw [k _ _ h1, q3], by rw [k _ _ h1, q7], by simp [go_sem], by rw [k _ _ h2, t0], by simp; omega, by simp, by simp; omega⟩
def gradeT (r : Int) : Value := bif decide (r < 0) then .tuple #[.int .i64 0, .int .i64 12] else .tuple #[.int .i64 r, .int .i64 0]

set_option maxHeartbeats 1000000 in
theorem gradeOf_err {nm sp : ByteArray} {ln wd th cu mo : Int} {D : Option Addr} {dn dc : Nat} {ds : List Rc} {A : Option Addr} {n cp : Nat} {_l : List Gr} {c : Int} (hc : bdCode ⟨nm, sp, ln, wd, th, cu, mo, ds⟩ = c) (hz : c ≠ 0) (hn1 : nm.size ≤ maxLen) (hn2 : sp.size ≤ maxLen) (hdn : dn ≤ maxLen) (w : World) (hd : RcRow w D dn ds) :
    Calls Try.prog 55 #[.agg #[.string nm, .string sp, .int .i64 ln, .int .i64 wd, .int .i64 th, .int .i64 cu, .int .i64 mo, .slice D dn dc], .slice A n cp] w fun e w' => e = .returned (.tuple #[.int .i64 0, .int .i64 c]) ∧ Below w.heap.size w w' := by
  have hBL : Below w.heap.size w (w.alloc (.cells #[.string nm, .string sp, .int .i64 ln, .int .i64 wd, .int .i64 th, .int .i64 cu, .int .i64 mo, .slice D dn dc] 34)) := (Below.refl _ _).alloc (Nat.le_refl _) _
  have BA := Lib.hid (boardAlone_any (dc := dc) hc hn1 hn2 hdn _ (RcRow.below hd hBL))
  have hzb : (c == 0) = false := beq_eq_false_iff_ne.2 hz
  clear hc hd
  go_enter Try.func55, Try.ntmps55
  go_wp2_with (go_at_call 88; (refine Calls.mono BA.out ?_); rintro e w1 ⟨rfl, hb1⟩)
  go_ret2
  exact ⟨rfl, hBL.trans (hb1.mono (by simp))⟩
set_option maxHeartbeats 1000000 in
theorem gradeOf_list {nm sp : ByteArray} {ln wd th cu mo : Int} {D : Option Addr} {dn dc : Nat} {ds : List Rc} {A : Option Addr} {n cp : Nat} {l : List Gr} {c : Int} (hc : bdCode ⟨nm, sp, ln, wd, th, cu, mo, ds⟩ = 0) (hg : grsCode l = c) (hz : c ≠ 0) (hn1 : nm.size ≤ maxLen) (hn2 : sp.size ≤ maxLen) (hdn : dn ≤ maxLen) (hn : n ≤ maxLen) (w : World) (hd : RcRow w D dn ds) (hl : GrRow w A n l) :
    Calls Try.prog 55 #[.agg #[.string nm, .string sp, .int .i64 ln, .int .i64 wd, .int .i64 th, .int .i64 cu, .int .i64 mo, .slice D dn dc], .slice A n cp] w fun e w' => e = .returned (.tuple #[.int .i64 0, .int .i64 c]) ∧ Below w.heap.size w w' := by
  have hBL : Below w.heap.size w (w.alloc (.cells #[.string nm, .string sp, .int .i64 ln, .int .i64 wd, .int .i64 th, .int .i64 cu, .int .i64 mo, .slice D dn dc] 34)) := (Below.refl _ _).alloc (Nat.le_refl _) _
  have BA := Lib.hid (boardAlone_any (dc := dc) hc hn1 hn2 hdn _ (RcRow.below hd hBL))
  have CG := fun wx hbx => Lib.hid (checkGrades_any (cp := cp) hg wx (GrRow.below (GrRow.below hl hBL) hbx) hn)
  have hzb : (c == 0) = false := beq_eq_false_iff_ne.2 hz
  clear hc hd hl hg
  go_enter Try.func55, Try.ntmps55
  go_wp2_with (first | (go_at_call 88; (refine Calls.mono BA.out ?_); rintro e w1 ⟨rfl, hb1⟩; have hB1 : Below (w.alloc (.cells #[.string nm, .string sp, .int .i64 ln, .int .i64 wd, .int .i64 th, .int .i64 cu, .int .i64 mo, .slice D dn dc] 34)).heap.size (w.alloc (.cells #[.string nm, .string sp, .int .i64 ln, .int .i64 wd, .int .i64 th, .int .i64 cu, .int .i64 mo, .slice D dn dc] 34)) w1 := hb1; have hs1 : w.heap.size < w1.heap.size := (by have := hB1.size; (try simp at this); omega); obtain ⟨hc1, hf1⟩ := bcell hb1) | (go_at_call 98; (refine Calls.mono (CG _ hB1).out ?_); rintro e w2 ⟨rfl, hb2⟩; have hB2 : Below (w.alloc (.cells #[.string nm, .string sp, .int .i64 ln, .int .i64 wd, .int .i64 th, .int .i64 cu, .int .i64 mo, .slice D dn dc] 34)).heap.size (w.alloc (.cells #[.string nm, .string sp, .int .i64 ln, .int .i64 wd, .int .i64 th, .int .i64 cu, .int .i64 mo, .slice D dn dc] 34)) w2 := hB1.trans (hb2.mono hB1.size); have hs2 : w.heap.size < w2.heap.size := (by have := hB2.size; (try simp at this); omega); obtain ⟨hc2, hf2⟩ := bcell hb2))
  go_ret2
  exact ⟨rfl, hBL.trans (hB2.mono (by simp))⟩
set_option maxHeartbeats 8000000 in
set_option maxRecDepth 20000 in
theorem gradeOf_ok {nm sp : ByteArray} {ln wd th cu mo : Int} {D : Option Addr} {dn dc : Nat} {ds : List Rc} {A : Option Addr} {n cp : Nat} {l : List Gr} {r : Int} {cl : List Iv} (hc : bdCode ⟨nm, sp, ln, wd, th, cu, mo, ds⟩ = 0) (hg : grsCode l = 0) (hcl : IsClear ⟨nm, sp, ln, wd, th, cu, mo, ds⟩ cl) (hr : gradeB ⟨nm, sp, ln, wd, th, cu, mo, ds⟩ cl l = r) (hn1 : nm.size ≤ maxLen) (hn2 : sp.size ≤ maxLen) (hdn : dn ≤ maxLen) (hn : n ≤ maxLen) (w : World) (hd : RcRow w D dn ds) (hl : GrRow w A n l) :
    Calls Try.prog 55 #[.agg #[.string nm, .string sp, .int .i64 ln, .int .i64 wd, .int .i64 th, .int .i64 cu, .int .i64 mo, .slice D dn dc], .slice A n cp] w fun e w' => e = .returned (gradeT r) ∧ Below w.heap.size w w' := by
  have hb := bdOk_of hc
  have hdl := hd.1
  have hBL : Below w.heap.size w (w.alloc (.cells #[.string nm, .string sp, .int .i64 ln, .int .i64 wd, .int .i64 th, .int .i64 cu, .int .i64 mo, .slice D dn dc] 34)) := (Below.refl _ _).alloc (Nat.le_refl _) _
  have hd1 := RcRow.below hd hBL
  have hl1 := GrRow.below hl hBL
  have BA := Lib.hid (boardAlone_any (dc := dc) hc hn1 hn2 hdn _ hd1)
  have CG := fun wx hbx => Lib.hid (checkGrades_any (cp := cp) hg wx (GrRow.below hl1 hbx) hn)
  have CL := fun wx hbx => Lib.hid (clearOf_any (dc := dc) hb wx (RcRow.below hd1 hbx))
  have DF := fun wx hbx => Lib.hid (defective_any (dc := dc) hb wx (RcRow.below hd1 hbx))
  have HCL := Lib.hid hcl
  have HBL := Lib.hid hBL
  have HL1 := Lib.hid hl1
  have HIN := fun k => Lib.hid (longest_in hb hcl k)
  have HE := fun p hp => Lib.hid (clear_in hcl (p := p) hp)
  have hcov : 0 ≤ covered ⟨nm, sp, ln, wd, th, cu, mo, ds⟩ ∧ covered ⟨nm, sp, ln, wd, th, cu, mo, ds⟩ ≤ 60000000000 := covered_bounds hb (by have := hb.l0; omega) (Int.le_refl _)
  obtain ⟨cov, hcv⟩ : ∃ x, covered ⟨nm, sp, ln, wd, th, cu, mo, ds⟩ = x := ⟨_, rfl⟩
  have IX := fun (lo : Int) (hlo : longest cl = lo) (bb sb lb : Nat) (wx : World) hbx hA => Lib.hid (grIndex_any (cp := cp) (l := l) (ln := ln) (wd := wd) (cov := cov) (lo := lo) (bb := bb) (sb := sb) (lb := lb) (D := D) (dn := dn) (dc := dc) (r := r) (by rw [← hr, ← hlo, ← hcv, ← hdl]; rfl) (fun g hgm => ((grs_each (grs_ok hg).2 g hgm).2.1)) hdn ⟨by have := hb.l0; simp only at this; omega, hb.l1⟩ ⟨by have := hb.w0; simp only at this; omega, hb.w1⟩ hn wx (GrRow.below hl1 hbx) hA)
  rw [hcv] at hcov DF
  obtain ⟨hcv0, hcv1⟩ := hcov
  have hll := hb.l1
  simp only at hll
  clear hd hd1 hl hl1 hBL hb hg hc hcl hr hcv hdl
  go_enter Try.func55, Try.ntmps55
  go_wp2_with (first | (go_at_call 88; (refine Calls.mono BA.out ?_); rintro e w1 ⟨rfl, hb1⟩; have hB1 : Below (w.alloc (.cells #[.string nm, .string sp, .int .i64 ln, .int .i64 wd, .int .i64 th, .int .i64 cu, .int .i64 mo, .slice D dn dc] 34)).heap.size (w.alloc (.cells #[.string nm, .string sp, .int .i64 ln, .int .i64 wd, .int .i64 th, .int .i64 cu, .int .i64 mo, .slice D dn dc] 34)) w1 := hb1; have hs1 : w.heap.size < w1.heap.size := (by have := hB1.size; (try simp at this); omega); obtain ⟨hc1, hf1⟩ := bcell hb1) | (go_at_call 98; (refine Calls.mono (CG _ hB1).out ?_); rintro e w2 ⟨rfl, hb2⟩; have hB2 : Below (w.alloc (.cells #[.string nm, .string sp, .int .i64 ln, .int .i64 wd, .int .i64 th, .int .i64 cu, .int .i64 mo, .slice D dn dc] 34)).heap.size (w.alloc (.cells #[.string nm, .string sp, .int .i64 ln, .int .i64 wd, .int .i64 th, .int .i64 cu, .int .i64 mo, .slice D dn dc] 34)) w2 := hB1.trans (hb2.mono hB1.size); have hs2 : w.heap.size < w2.heap.size := (by have := hB2.size; (try simp at this); omega); obtain ⟨hc2, hf2⟩ := bcell hb2) | (go_at_call 96; (refine Calls.mono (CL _ (hB2.alloc hB2.size _)).out ?_); rintro e w4 ⟨rv, cl', rfl, hcl', hown, hb4⟩; have ecl := clear_unique HCL.out hcl'; subst ecl; obtain ⟨pp, cap4, rfl, hmx⟩ := own_sl hown; have hB4 : Below (w.alloc (.cells #[.string nm, .string sp, .int .i64 ln, .int .i64 wd, .int .i64 th, .int .i64 cu, .int .i64 mo, .slice D dn dc] 34)).heap.size (w.alloc (.cells #[.string nm, .string sp, .int .i64 ln, .int .i64 wd, .int .i64 th, .int .i64 cu, .int .i64 mo, .slice D dn dc] 34)) w4 := (hB2.alloc hB2.size _).trans (hb4.mono (by simp; have := hB2.size; (try simp at this); omega)); have hs4 : w.heap.size < w4.heap.size := (by have := hB4.size; (try simp at this); omega)))
  have HO := Lib.hid hown
  have HB4 := Lib.hid hB4
  have K4 : ∀ o, w4.cell? ⟨w.heap.size, o, none⟩ = _ := fun o => hB4.cell (p := ⟨w.heap.size, o, none⟩) (by simp)
  have q0 := K4 0; have q1 := K4 1; have q2 := K4 2; have q3 := K4 3; have q4 := K4 4; have q5 := K4 5; have q6 := K4 6; have q7 := K4 7
  simp [go_sem] at q0 q1 q2 q3 q4 q5 q6 q7
  have HQ := Lib.hid (And.intro q0 (And.intro q1 (And.intro q2 (And.intro q3 (And.intro q4 (And.intro q5 (And.intro q6 q7)))))))
  have hlb : w2.heap.size < w4.heap.size := by have := hb4.size; simp at this; omega
  have m0 : w4.cell? ⟨w2.heap.size, 0, none⟩ = some (.int .i64 0) := (hb4.cell (p := ⟨w2.heap.size, 0, none⟩) (by simp)).trans (by simp [go_sem])
  have m1 : w4.frozen? ⟨w2.heap.size, 0, none⟩ = false := (hb4.frozen (p := ⟨w2.heap.size, 0, none⟩) (by simp)).trans (by simp [go_sem])
  have HBASE : Hid (∀ g, Value.ownBlock (.slice pp cl.length cap4) = some g → w2.heap.size < g) := Lib.hid (fun g hg => by have := own_ge hown g hg; simp at this; omega)
  have hs2' : w.heap.size < w2.heap.size := hs2
  have hlb0 : (w.alloc (.cells #[.string nm, .string sp, .int .i64 ln, .int .i64 wd, .int .i64 th, .int .i64 cu, .int .i64 mo, .slice D dn dc] 34)).heap.size ≤ w2.heap.size := hB2.size
  obtain ⟨m, hm⟩ : ∃ m, cl.length = m := ⟨_, rfl⟩
  rw [hm] at HO HBASE hmx ⊢
  have hm1 : m ≤ cl.length := by omega
  have hm2 : cl.length ≤ m := by omega
  have HM := Lib.hid hm
  have hmm : m ≤ 9223372036854775807 := hmx
  obtain ⟨lb, hlbe⟩ : ∃ lb, w2.heap.size = lb := ⟨_, rfl⟩
  rw [hlbe] at m0 m1 HBASE hlb hs2' hlb0 ⊢
  clear hm q0 q1 q2 q3 q4 q5 q6 q7 K4 hown hcl' hb1 hc1 hf1 hb2 hc2 hf2 hb4 hB1 hB2 hB4 hs1 hs2 BA CG CL hlbe
  go_loopw [27] (fun i wr => ∃ k : Nat, k ≤ m ∧ i = .int .i64 k ∧ wr.cell? ⟨lb, 0, none⟩ = some (.int .i64 (longest (cl.take k))) ∧ wr.frozen? ⟨lb, 0, none⟩ = false ∧ w4.grownBy wr (some lb)) (fun i _ => m - (intOf i).toNat)
  case atStart => exact ⟨0, Nat.zero_le _, rfl, m0, m1, World.grownBy.refl _ _⟩
  case round =>
    obtain ⟨k, hk, rfl, t0, t1, hg⟩ := hrel
    have HG := Lib.hid hg
    have hsz := hg.size
    have hlr : lb < wr.heap.size := by omega
    have hLI := (HIN k).out
    by_cases hlt : k < m
    · have hkl : k < cl.length := by omega
      have HT := Lib.hid (longest_take hkl)
      have hp := (HE _ (List.getElem_mem hkl)).out
      obtain ⟨g1, cap1, e1, -, hg1, -, -, c0, c1, -⟩ := own_cell HO.out HM.out.symm hkl
      injection e1 with e11 _ e13
      subst e11 e13
      have hgl : lb < g1 := HBASE.out g1 rfl
      rw [Nat.zero_add] at c0 c1
      have d0 := (others_cell hg (k * 2) hg1 (by omega)).trans c0
      have d1 := (others_cell hg (k * 2 + 1) hg1 (by omega)).trans c1
      obtain ⟨⟨x, y⟩, hxy⟩ : ∃ p, cl[k] = p := ⟨_, rfl⟩
      rw [hxy] at d0 d1 HT hp
      simp only at d0 d1 HT hp hLI
      obtain ⟨mx, hmxe⟩ : ∃ x, longest (cl.take k) = x := ⟨_, rfl⟩
      rw [hmxe] at t0 HT hLI
      obtain ⟨hp0, hp1, hp2⟩ := hp
      obtain ⟨hL0, hL1⟩ := hLI
      clear hxy c0 c1 hg hmxe m0 m1
      go_wp2
      all_goals
          go_roundw
          case rel => exact ⟨k + 1, by omega, by go_num, by rw [HT.out]; exact (put_alloc t0 t1 hlr).1, (put_alloc t0 t1 hlr).2, others_put HG.out _ _⟩
          case measure => first | (simp [intOf]; done) | (simp [intOf]; omega)
    · have hk' : k = m := by omega
      have hall : cl.take k = cl := List.take_of_length_le (by omega)
      rw [hall] at t0 hLI
      obtain ⟨lo, hlo⟩ : ∃ x, longest cl = x := ⟨_, rfl⟩
      rw [hlo] at t0 hLI
      have HBR := Lib.hid (HB4.out.grown hg (Nat.le_trans HB4.out.size (Nat.le_refl _)) (fun j hj => by injection hj with hj; omega))
      have HT1 := Lib.hid t1
      have kR : ∀ o, wr.cell? ⟨w.heap.size, o, none⟩ = w4.cell? ⟨w.heap.size, o, none⟩ := fun o => others_cell hg o hs4 (by omega)
      have q0 := (kR 0).trans HQ.out.1; have q1 := (kR 1).trans HQ.out.2.1; have q2 := (kR 2).trans HQ.out.2.2.1; have q3 := (kR 3).trans HQ.out.2.2.2.1; have q4 := (kR 4).trans HQ.out.2.2.2.2.1; have q5 := (kR 5).trans HQ.out.2.2.2.2.2.1; have q6 := (kR 6).trans HQ.out.2.2.2.2.2.2.1; have q7 := (kR 7).trans HQ.out.2.2.2.2.2.2.2
      have hbr : w.heap.size < wr.heap.size := by omega
      have HIX := IX lo hlo w.heap.size
      clear hg hall hlo t1 kR m0 m1 HCL HIN HE
      subst hk'
      by_cases hneg : r < 0
      all_goals
        go_wp2_with (first | (go_at_call 89; (refine Calls.mono (DF _ HBR.out).out ?_); rintro e w5 ⟨rfl, hb5⟩; have hB5 := HBR.out.trans (hb5.mono HBR.out.size); have hs5 : w.heap.size < w5.heap.size := (by have := hb5.size; omega); have hlb5 : lb < w5.heap.size := (by have := hb5.size; omega); have hA5 := ask_new (cov := cov) q2 q3 q7 t0 hb5 hbr hlr; obtain ⟨hc5, hf5⟩ := bcell hb5) | (go_at_call 100; (refine Calls.mono (HIX w5.heap.size lb _ (hB5.alloc hB5.size _) hA5).out ?_); (rintro e w6 ⟨rfl, hb6⟩)))
      all_goals
        go_ret2
        refine ⟨?_, HBL.out.trans (((hB5.alloc hB5.size _).trans (hb6.mono (by simp; have := hB5.size; (try simp at this); omega))).mono (by simp))⟩
        unfold gradeT
        first | (rw [decide_eq_true hneg]; rfl) | (rw [decide_eq_false (by omega)]; rfl)
end Go.Proofs.Ytnjbhidncicfiaa
