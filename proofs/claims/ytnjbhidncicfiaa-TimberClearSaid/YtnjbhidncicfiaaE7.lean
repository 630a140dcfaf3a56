/- Walks over the timber seat: the reference's lines of a board. -/
import Derived.Test.YtnjbhidncicfiaaE5
import Derived.Test.YtnjbhidncicfiaaE6
namespace Go.Proofs.Ytnjbhidncicfiaa
open Go.RowKit

theorem insS_len {a : Int} : ∀ {l : List Int}, 0 < (insS a l).length ∧ (insS a l).length ≤ l.length + 1
  | [] => by unfold insS; simp
  | z :: r => by
    have h := insS_len (a := a) (l := r)
    unfold insS
    by_cases e : z = a
    · rw [if_pos e]; simp
    · rw [if_neg e]
      by_cases f : z < a
      · rw [if_pos f]; simp; omega
      · rw [if_neg f]; simp
def lnF (f g : Rc → Int) (ds : List Rc) (l : List Int) : List Int := ds.foldl (fun l d => insS (g d) (insS (f d) l)) l
theorem lnF_len {f g : Rc → Int} : ∀ {ds : List Rc} {l : List Int}, 0 < l.length → 0 < (lnF f g ds l).length ∧ (lnF f g ds l).length ≤ l.length + 2 * ds.length
  | [], l, h => ⟨h, by simp [lnF]⟩
  | d :: r, l, h => by
    have h1 := insS_len (a := f d) (l := l)
    have h2 := insS_len (a := g d) (l := insS (f d) l)
    have h3 := lnF_len (f := f) (g := g) (ds := r) (l := insS (g d) (insS (f d) l)) h2.1
    refine ⟨h3.1, Nat.le_trans h3.2 ?_⟩
    simp
    omega
theorem lnF_asc {f g : Rc → Int} {ds : List Rc} {l : List Int} (h : Asc l) : Asc (lnF f g ds l) := (fold_lines ds l h).1
theorem lnF_take {f g : Rc → Int} {ds : List Rc} {l : List Int} {k : Nat} (h : k < ds.length) : lnF f g (ds.take (k + 1)) l = insS (g ds[k]) (insS (f ds[k]) (lnF f g (ds.take k) l)) := by
  unfold lnF
  rw [List.take_succ_eq_append_getElem h, List.foldl_append]
  rfl
theorem own_new1 (w : World) (x : Int) : (w.alloc (.cells #[.int .i64 x] 3)).ownsRow w.heap.size 3 1 (.slice (some ⟨w.heap.size, 0, none⟩) 1 1) 1 (intCells [x]) :=
  ⟨rfl, .inr ⟨w.heap.size, 1, #[.int .i64 x], rfl, Nat.le_refl _, by show (w.heap.push _)[w.heap.size]? = _; simp, Nat.le_refl _, by decide, rfl, rfl⟩⟩
set_option maxHeartbeats 4000000 in
set_option maxRecDepth 20000 in
theorem lines_x {nm sp : ByteArray} {ln wd th cu mo : Int} {D : Option Addr} {dn dc : Nat} {ds : List Rc} (hb : BdOk ⟨nm, sp, ln, wd, th, cu, mo, ds⟩) (w : World) (hd : RcRow w D dn ds) :
    Calls Try.prog 94 #[.agg #[.string nm, .string sp, .int .i64 ln, .int .i64 wd, .int .i64 th, .int .i64 cu, .int .i64 mo, .slice D dn dc], .bool false] w fun e w' => ∃ r : Value, e = .returned r ∧ w'.ownsRow w.heap.size 3 1 r (xLines ⟨nm, sp, ln, wd, th, cu, mo, ds⟩).length (intCells (xLines ⟨nm, sp, ln, wd, th, cu, mo, ds⟩)) ∧ Below w.heap.size w w' := by
  have hdl := hd.1
  have hdn := hb.dn
  simp only at hdn
  have hdn' : dn ≤ 60 := by omega
  have HD := Lib.hid hd
  have h0 := insS_len (a := ln) (l := [0])
  have hl0 : (insS ln [0]).length ≤ 2 := by have := h0.2; simpa using this
  have ha0 := Lib.hid (insS_asc (n := ln) (asc_one 0))
  have hX : Hid (xLines ⟨nm, sp, ln, wd, th, cu, mo, ds⟩ = lnF (fun d => d.x1) (fun d => d.x2) ds (insS ln [0])) := Lib.hid rfl
  clear hd hb
  obtain ⟨L0, hL0⟩ : ∃ L0, insS ln [0] = L0 := ⟨_, rfl⟩
  rw [hL0] at h0 hl0 ha0 hX
  have h00 := h0.1
  have HL0 := Lib.hid hL0
  clear h0 hL0
  go_enter Try.func94, Try.ntmps94
  go_wp2_with (go_at_call 122; refine Calls.mono (sortedWith_any (base := w.heap.size + 1) (zs := [0]) (a := ln) _ (by simpa using own_new1 (w.alloc (.cells #[.string nm, .string sp, .int .i64 ln, .int .i64 wd, .int .i64 th, .int .i64 cu, .int .i64 mo, .slice D dn dc] 34)) 0) rfl (by decide) (by decide) (asc_one 0) (by simp)) ?_; rintro e w1 ⟨r1, rfl, hown1, hb1⟩; rw [HL0.out] at hown1)
  have HB1 : Hid (Below (w.heap.size + 1) (w.alloc (.cells #[.string nm, .string sp, .int .i64 ln, .int .i64 wd, .int .i64 th, .int .i64 cu, .int .i64 mo, .slice D dn dc] 34)) w1) := Lib.hid (((Below.refl _ _).alloc (by simp) _).trans (hb1.mono (by simp)))
  have HO1 := Lib.hid hown1
  clear hown1 hb1
  go_loopw [5, 6] (fun ov i wr => ∃ k : Nat, k ≤ dn ∧ i = .int .i64 k ∧ wr.ownsRow (w.heap.size + 1) 3 1 ov (lnF (fun d => d.x1) (fun d => d.x2) (ds.take k) L0).length (intCells (lnF (fun d => d.x1) (fun d => d.x2) (ds.take k) L0)) ∧ Below (w.heap.size + 1) (w.alloc (.cells #[.string nm, .string sp, .int .i64 ln, .int .i64 wd, .int .i64 th, .int .i64 cu, .int .i64 mo, .slice D dn dc] 34)) wr) (fun _ i _ => dn - (intOf i).toNat)
  case atStart => exact ⟨0, Nat.zero_le _, rfl, HO1.out, HB1.out⟩
  case round =>
    obtain ⟨k, hk, rfl, hov, hbw⟩ := hrel
    have HB := Lib.hid hbw
    have HBW := Lib.hid (show Below w.heap.size w wr from ((Below.refl w.heap.size w).alloc (Nat.le_refl _) _).trans (hbw.mono (by omega)))
    have kB : ∀ o, wr.cell? ⟨w.heap.size, o, none⟩ = _ := fun o => hbw.cell (p := ⟨w.heap.size, o, none⟩) (by simp)
    have q7 := kB 7
    simp [go_sem] at q7
    have hsz := hbw.size
    simp at hsz
    clear kB hbw
    have hll := lnF_len (f := fun d => d.x1) (g := fun d => d.x2) (ds := ds.take k) (l := L0) h00
    rw [List.length_take] at hll
    have HAS := Lib.hid (lnF_asc (f := fun d => d.x1) (g := fun d => d.x2) (ds := ds.take k) ha0.out)
    have HOV := Lib.hid hov
    by_cases hlt : k < dn
    · have hkl : k < ds.length := by omega
      obtain ⟨bk, of, rfl, hbk, hx⟩ := HD.out.2 (by omega)
      have hxx := (hx k hkl).below HBW.out hbk
      have HT := Lib.hid (lnF_take (f := fun d => d.x1) (g := fun d => d.x2) (l := L0) hkl)
      clear hx hov
      obtain ⟨lt, hlt2⟩ : ∃ lt, lnF (fun d => d.x1) (fun d => d.x2) (ds.take k) L0 = lt := ⟨_, rfl⟩
      rw [hlt2] at hll HAS HOV HT
      clear hlt2
      obtain ⟨d, hdd⟩ : ∃ d, ds[k] = d := ⟨_, rfl⟩
      rw [hdd] at hxx HT
      clear hdd
      obtain ⟨a1, b1, a2, b2⟩ := d
      obtain ⟨c0, c1, c2, c3⟩ := hxx
      simp only at c0 c1 c2 c3 HT
      have hl1 := insS_len (a := a1) (l := lt)
      have hlt1 : lt.length ≤ 122 := by omega
      have hlt0 := hll.1
      have HAS1 := Lib.hid (insS_asc (n := a1) HAS.out)
      clear hll
      go_wp2
      go_region_with (first | (go_at_call 122; have hown1' := hown1; refine Calls.mono (sortedWith_any (base := w.heap.size + 1) (zs := insS a1 lt) (a := a2) _ hown1 rfl hl1.1 (by omega) HAS1.out (by have := hb1.size; simp at this; omega)) ?_; rintro e w2 ⟨r2, rfl, hown2, hb2⟩) | (go_at_call 122; refine Calls.mono (sortedWith_any (base := w.heap.size + 1) (zs := lt) (a := a1) _ (HOV.out.alloc _) rfl (by omega) (by omega) HAS.out (by simp; omega)) ?_; rintro e w1 ⟨r1, rfl, hown1, hb1⟩; have y2 := (hb1.cell (p := ⟨wr.heap.size, 2, none⟩) (by simp)).trans (show _ = some (Value.int .i64 a2) by simp [go_sem])))
      all_goals
        go_wp2
        go_roundw
        case rel =>
          refine ⟨k + 1, by omega, by go_num, ?_, ?_⟩
          · rw [HT.out]; exact hown2
          · exact ((HB.out.alloc hsz _).drew.trans (hb1.mono (show w.heap.size + 1 ≤ _ by simp; omega))).trans (hb2.mono (show w.heap.size + 1 ≤ _ by have := hb1.size; simp at this; omega))
        case measure => first | (simp [intOf]; done) | (simp [intOf]; omega)
    · have hk' : k = dn := by omega
      have hall : ds.take k = ds := List.take_of_length_le (by omega)
      rw [hall] at hov
      subst hk'
      go_wp2
      go_ret
      refine ⟨_, rfl, ?_, HBW.out⟩
      rw [hX.out]
      exact ⟨hov.1, hov.2.imp id fun ⟨g, cap, cur, h1, h2, h3⟩ => ⟨g, cap, cur, h1, by omega, h3⟩⟩
end Go.Proofs.Ytnjbhidncicfiaa
