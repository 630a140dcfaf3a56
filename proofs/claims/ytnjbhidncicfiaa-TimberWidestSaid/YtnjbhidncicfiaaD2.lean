/- Walks over the timber seat: Area and Sound. -/
import Derived.Test.YtnjbhidncicfiaaD1
import Derived.Test.YtnjbhidncicfiaaS3
namespace Go.Proofs.Ytnjbhidncicfiaa
open Go.RowKit

def soundT (c e : Int) (v : Bool) : Value := if c = 0 then (if e = 0 then .tuple #[.bool v, .int .i64 0] else .tuple #[.bool false, .int .i64 e]) else .tuple #[.bool false, .int .i64 c]
set_option maxHeartbeats 2000000 in
set_option maxRecDepth 20000 in
theorem sound_any {nm sp : ByteArray} {ln wd th cu mo : Int} {D : Option Addr} {dn dc : Nat} {ds : List Rc} {x1 y1 x2 y2 c e0 : Int} {v : Bool} (hc : bdCode ⟨nm, sp, ln, wd, th, cu, mo, ds⟩ = c) (he : rcK ln wd x1 y1 x2 y2 = e0) (hv : soundB ⟨nm, sp, ln, wd, th, cu, mo, ds⟩ ⟨x1, y1, x2, y2⟩ = v) (hn1 : nm.size ≤ maxLen) (hn2 : sp.size ≤ maxLen) (hdn : dn ≤ maxLen) (w : World) (hd : RcRow w D dn ds) :
    Calls Try.prog 44 #[.agg #[.string nm, .string sp, .int .i64 ln, .int .i64 wd, .int .i64 th, .int .i64 cu, .int .i64 mo, .slice D dn dc], .agg #[.int .i64 x1, .int .i64 y1, .int .i64 x2, .int .i64 y2]] w fun e w' => e = .returned (soundT c e0 v) ∧ Below w.heap.size w w' := by
  have hBL : Below w.heap.size w ((w.alloc (.cells #[.string nm, .string sp, .int .i64 ln, .int .i64 wd, .int .i64 th, .int .i64 cu, .int .i64 mo, .slice D dn dc] 34)).alloc (.cells #[.int .i64 x1, .int .i64 y1, .int .i64 x2, .int .i64 y2] 75)) := ((Below.refl _ _).alloc (Nat.le_refl _) _).alloc (by simp) _
  have hd1 := RcRow.below hd hBL
  have BA := Lib.hid (boardAlone_any (dc := dc) hc hn1 hn2 hdn _ hd1)
  have CR := fun wx => Lib.hid (checkRect_any (nm := nm) (sp := sp) (th := th) (cu := cu) (mo := mo) (D := D) (dn := dn) (dc := dc) (w := wx) he)
  have hany : (ds.any fun d => overB d ⟨x1, y1, x2, y2⟩) = !v := by rw [← hv]; unfold soundB; simp
  have CF := fun wx blk off hb hr hlt => Lib.hid (rcContains_any (dc := dc) (blk := blk) (off := off) hany wx (RcRow.below hd1 hb) hdn hr hlt)
  by_cases h0 : c = 0
  · subst h0
    by_cases h1 : e0 = 0
    · subst h1
      have HT : Hid (soundT 0 0 v = .tuple #[.bool v, .int .i64 0]) := Lib.hid rfl
      clear hc he hv hd hd1 hany
      go_enter Try.func44, Try.ntmps44
      go_wp2_with (first | (go_at_call 88; (refine Calls.mono BA.out ?_); rintro e w1 ⟨rfl, hb1⟩; have hs1 : w.heap.size + 1 < w1.heap.size := (by have := hb1.size; (try simp at this); omega); have ht1 : w.heap.size < w1.heap.size := (by omega); obtain ⟨hc1, hf1⟩ := bcell hb1) | (go_at_call 90; (refine Calls.mono (CR _).out ?_); rintro e w2 ⟨rfl, hb2⟩; have hs2 : w.heap.size + 1 < w2.heap.size := (by have := hb2.size; omega); have ht2 : w.heap.size < w2.heap.size := (by omega); have hb12 := hb1.trans (hb2.mono hb1.size); have kR : ∀ o, w2.cell? ⟨w.heap.size + 1, o, none⟩ = _ := (fun o => hb12.cell (p := ⟨w.heap.size + 1, o, none⟩) (by simp)); have r0 := kR 0; have r1 := kR 1; have r2 := kR 2; have r3 := kR 3; simp [go_sem] at r0 r1 r2 r3; clear kR; obtain ⟨hc2, hf2⟩ := bcell hb2) | (go_at_call 92; (refine Calls.mono (CF _ _ _ hb12 ⟨r0, r1, r2, r3⟩ hs2).out ?_); rintro e w3 ⟨rfl, hb3⟩))
      go_ret2
      exact ⟨ret_v (by rw [HT.out]; simp), (hBL.trans (hb12.mono (by simp; omega))).trans (hb3.mono (by omega))⟩
    · have HT : Hid (soundT 0 e0 v = .tuple #[.bool false, .int .i64 e0]) := Lib.hid (by unfold soundT; rw [if_pos rfl, if_neg h1])
      have hz : (e0 == 0) = false := beq_eq_false_iff_ne.2 h1
      clear hc he hv hd hd1 hany CF
      go_enter Try.func44, Try.ntmps44
      go_wp2_with (first | (go_at_call 88; (refine Calls.mono BA.out ?_); rintro e w1 ⟨rfl, hb1⟩; have hs1 : w.heap.size + 1 < w1.heap.size := (by have := hb1.size; (try simp at this); omega); have ht1 : w.heap.size < w1.heap.size := (by omega); obtain ⟨hc1, hf1⟩ := bcell hb1) | (go_at_call 90; (refine Calls.mono (CR _).out ?_); rintro e w2 ⟨rfl, hb2⟩))
      go_ret2
      exact ⟨ret_v HT.out.symm, (hBL.trans (hb1.mono (by simp; omega))).trans (hb2.mono (by omega))⟩
  · have HT : Hid (soundT c e0 v = .tuple #[.bool false, .int .i64 c]) := Lib.hid (by unfold soundT; rw [if_neg h0])
    have hz : (c == 0) = false := beq_eq_false_iff_ne.2 h0
    clear hc he hv hd hd1 hany CF
    go_enter Try.func44, Try.ntmps44
    go_wp2_with (go_at_call 88; (refine Calls.mono BA.out ?_); rintro e w1 ⟨rfl, hb1⟩)
    go_ret2
    exact ⟨ret_v HT.out.symm, hBL.trans (hb1.mono (by simp; omega))⟩
/-- The area. -/
def areaT (c ln wd : Int) : Value := if c = 0 then .tuple #[.int .i64 (wrap64 (ln * wd)), .int .i64 0] else .tuple #[.int .i64 0, .int .i64 c]
set_option maxHeartbeats 1000000 in
theorem area_any {nm sp : ByteArray} {ln wd th cu mo : Int} {D : Option Addr} {dn dc : Nat} {ds : List Rc} {c : Int} (hc : bdCode ⟨nm, sp, ln, wd, th, cu, mo, ds⟩ = c) (hn1 : nm.size ≤ maxLen) (hn2 : sp.size ≤ maxLen) (hdn : dn ≤ maxLen) (w : World) (hd : RcRow w D dn ds) :
    Calls Try.prog 42 #[.agg #[.string nm, .string sp, .int .i64 ln, .int .i64 wd, .int .i64 th, .int .i64 cu, .int .i64 mo, .slice D dn dc]] w fun e w' => e = .returned (areaT c ln wd) ∧ Below w.heap.size w w' := by
  have hBL : Below w.heap.size w (w.alloc (.cells #[.string nm, .string sp, .int .i64 ln, .int .i64 wd, .int .i64 th, .int .i64 cu, .int .i64 mo, .slice D dn dc] 34)) := (Below.refl _ _).alloc (Nat.le_refl _) _
  have BA := Lib.hid (boardAlone_any (dc := dc) hc hn1 hn2 hdn _ (RcRow.below hd hBL))
  by_cases h0 : c = 0
  · subst h0
    have HT : Hid (areaT 0 ln wd = .tuple #[.int .i64 (wrap64 (ln * wd)), .int .i64 0]) := Lib.hid rfl
    clear hc hd
    go_enter Try.func42, Try.ntmps42
    go_wp2_with (go_at_call 88; (refine Calls.mono BA.out ?_); rintro e w1 ⟨rfl, hb1⟩; have hs1 : w.heap.size < w1.heap.size := (by have := hb1.size; (try simp at this); omega); obtain ⟨hc1, hf1⟩ := bcell hb1)
    go_ret2
    exact ⟨ret_v (by rw [HT.out]; rfl), hBL.trans (hb1.mono (by simp))⟩
  · have HT : Hid (areaT c ln wd = .tuple #[.int .i64 0, .int .i64 c]) := Lib.hid (if_neg h0)
    have hz : (c == 0) = false := beq_eq_false_iff_ne.2 h0
    clear hc hd
    go_enter Try.func42, Try.ntmps42
    go_wp2_with (go_at_call 88; (refine Calls.mono BA.out ?_); rintro e w1 ⟨rfl, hb1⟩)
    go_ret2
    exact ⟨ret_v HT.out.symm, hBL.trans (hb1.mono (by simp))⟩
end Go.Proofs.Ytnjbhidncicfiaa
