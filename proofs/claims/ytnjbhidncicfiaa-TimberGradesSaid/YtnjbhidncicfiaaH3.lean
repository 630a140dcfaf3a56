/- Walks over the timber seat: the grade of a board, the program's question and its search. -/
import Derived.Test.YtnjbhidncicfiaaH1
namespace Go.Proofs.Ytnjbhidncicfiaa
open Go.RowKit

theorem mul_in {a b x y : Int} (h0 : 0 ≤ a) (h1 : a ≤ x) (h2 : 0 ≤ b) (h3 : b ≤ y) : 0 ≤ a * b ∧ a * b ≤ x * y :=
  ⟨Int.mul_nonneg h0 h2, Int.mul_le_mul h1 h3 h2 (by omega)⟩
/-- What the question looks at: the board's sides and defects, the share, the longest clear length. -/
def AskAt (w : World) (bb sb lb : Nat) (ln wd cov lo : Int) (D : Option Addr) (dn dc : Nat) : Prop :=
  w.cell? ⟨bb, 2, none⟩ = some (.int .i64 ln) ∧ w.cell? ⟨bb, 3, none⟩ = some (.int .i64 wd) ∧ w.cell? ⟨bb, 7, none⟩ = some (.slice D dn dc) ∧ w.cell? ⟨sb, 0, none⟩ = some (.int .i64 (cov * 1000)) ∧ w.cell? ⟨lb, 0, none⟩ = some (.int .i64 lo) ∧ bb < w.heap.size ∧ sb < w.heap.size ∧ lb < w.heap.size
theorem AskAt.below {w w' : World} {bb sb lb : Nat} {ln wd cov lo : Int} {D : Option Addr} {dn dc : Nat} (h : AskAt w bb sb lb ln wd cov lo D dn dc) (hb : Below w.heap.size w w') : AskAt w' bb sb lb ln wd cov lo D dn dc := by
  obtain ⟨h0, h1, h2, h3, h4, h5, h6, h7⟩ := h
  have hs := hb.size
  have k : ∀ b o, b < w.heap.size → w'.cell? ⟨b, o, none⟩ = w.cell? ⟨b, o, none⟩ := fun b o hlt => hb.cell (p := ⟨b, o, none⟩) hlt
  exact ⟨by rw [k _ _ h5, h0], by rw [k _ _ h5, h1], by rw [k _ _ h5, h2], by rw [k _ _ h6, h3], by rw [k _ _ h7, h4], by omega, by omega, by omega⟩

set_option maxHeartbeats 2000000 in
theorem has_any {nm : ByteArray} {mo sh cl ln wd cov lo : Int} {bb sb lb : Nat} {D : Option Addr} {dn dc : Nat} {v : Bool} (hv : hasG dn cov ln wd lo ⟨nm, mo, sh, cl⟩ = v) (hdn : dn ≤ maxLen) (hs : 0 ≤ sh ∧ sh ≤ 1000) (hl : 0 ≤ ln ∧ ln ≤ 600000) (hw : 0 ≤ wd ∧ wd ≤ 100000) (w : World) (h : AskAt w bb sb lb ln wd cov lo D dn dc) :
    Calls Try.prog 99 #[.agg #[.string nm, .int .i64 mo, .int .i64 sh, .int .i64 cl], .pointer (some ⟨bb, 0, none⟩), .pointer (some ⟨sb, 0, none⟩), .pointer (some ⟨lb, 0, none⟩)] w fun e w' => e = .returned (.bool v) ∧ Below w.heap.size w w' := by
  have HV := Lib.hid hv
  have hdn' : dn ≤ 9223372036854775807 := hdn
  obtain ⟨c0, c1, c2, c3, c4, b0, b1, b2⟩ := h
  have hm1 := mul_in hs.1 hs.2 hl.1 hl.2
  have hm2 := mul_in hm1.1 hm1.2 hw.1 hw.2
  obtain ⟨x, hx⟩ : ∃ x, sh * ln = x := ⟨_, rfl⟩
  obtain ⟨y, hy⟩ : ∃ y, x * wd = y := ⟨_, rfl⟩
  obtain ⟨hs0, hs1⟩ := hs
  obtain ⟨hl0, hl1⟩ := hl
  obtain ⟨hw0, hw1⟩ := hw
  rw [hx] at hm1 hm2
  rw [hy] at hm2
  obtain ⟨hm0, hm1⟩ := hm1
  obtain ⟨hm2, hm3⟩ := hm2
  have hw1x : wrap64 (sh * ln) = x := by rw [hx]; exact IntWalk.wrap64_in _ (by omega)
  have hw2x : wrap64 (x * wd) = y := by rw [hy]; exact IntWalk.wrap64_in _ (by omega)
  have HXY := Lib.hid (And.intro hx hy)
  clear hv hx hy
  obtain ⟨sv, hsv⟩ : ∃ s, cov * 1000 = s := ⟨_, rfl⟩
  rw [hsv] at c3
  have HSV := Lib.hid hsv
  clear hsv
  by_cases h1 : (dn : Int) ≤ mo
  · by_cases h2 : sv ≤ y
    · by_cases h3 : cl ≤ lo
      all_goals
        go_enter Try.func99, Try.ntmps99
        go_wp2
        go_ret
        refine ⟨ret_bool ?_, (Below.refl _ _).alloc (Nat.le_refl _) _⟩
        rw [← HV.out]; unfold hasG; simp only; rw [HSV.out, HXY.out.1, HXY.out.2]; first | (simp [h1, h2, h3]; done) | (simp [h1, h2, h3]; omega)
    · go_enter Try.func99, Try.ntmps99
      go_wp2
      go_ret
      refine ⟨ret_bool ?_, (Below.refl _ _).alloc (Nat.le_refl _) _⟩
      rw [← HV.out]; unfold hasG; simp only; rw [HSV.out, HXY.out.1, HXY.out.2]; first | (simp [h1]; done) | (simp [h1]; omega)
  · go_enter Try.func99, Try.ntmps99
    go_wp2
    go_ret
    refine ⟨ret_bool ?_, (Below.refl _ _).alloc (Nat.le_refl _) _⟩
    rw [← HV.out]; unfold hasG; first | (simp; done) | (simp; omega)

set_option maxHeartbeats 2000000 in
set_option maxRecDepth 20000 in
theorem grIndex_any {l : List Gr} {A : Option Addr} {n cp : Nat} {ln wd cov lo : Int} {bb sb lb : Nat} {D : Option Addr} {dn dc : Nat} {r : Int} (hr : gradeFrom (hasG dn cov ln wd lo) 0 l = r) (hg : ∀ g ∈ l, 0 ≤ g.sh ∧ g.sh ≤ 1000) (hdn : dn ≤ maxLen) (hl : 0 ≤ ln ∧ ln ≤ 600000) (hw : 0 ≤ wd ∧ wd ≤ 100000) (hn : n ≤ maxLen) (w : World) (hl' : GrRow w A n l) (h : AskAt w bb sb lb ln wd cov lo D dn dc) :
    Calls Try.prog 100 #[.slice A n cp, .func (.func 99) #[] #[.pointer (some ⟨bb, 0, none⟩), .pointer (some ⟨sb, 0, none⟩), .pointer (some ⟨lb, 0, none⟩)]] w fun e w' => e = .returned (.int .i64 r) ∧ Below w.heap.size w w' := by
  have hll := hl'.1
  have hn' : n ≤ 9223372036854775807 := hn
  have HD := Lib.hid hl'
  have HA := Lib.hid h
  have HG := Lib.hid hg
  have HLW := Lib.hid (And.intro hl hw)
  have HR : Hid (gradeFrom (hasG dn cov ln wd lo) 0 (l.drop 0) = r) := Lib.hid hr
  clear hl' h hg hl hw hr
  go_enter Try.func100, Try.ntmps100
  go_wp2
  go_loopw [8] (fun i wr => ∃ k : Nat, k ≤ n ∧ gradeFrom (hasG dn cov ln wd lo) k (l.drop k) = r ∧ i = .int .i64 k ∧ Below w.heap.size w wr) (fun i _ => n - (intOf i).toNat)
  case atStart => exact ⟨0, Nat.zero_le _, HR.out, rfl, Below.refl _ _⟩
  case round =>
    obtain ⟨k, hk, ht, rfl, hbw⟩ := hrel
    have HT := Lib.hid ht
    have HB := Lib.hid hbw
    clear ht
    by_cases hlt2 : k < n
    · have hkl : k < l.length := by omega
      obtain ⟨bk, of, rfl, hbk, hx⟩ := HD.out.2 (by omega)
      obtain ⟨c0, c1, c2, c3, hsz⟩ := (hx k hkl).below hbw hbk
      have HS := Lib.hid (grade_step (p := hasG dn cov ln wd lo) hkl)
      have hgk := HG.out _ (List.getElem_mem hkl)
      clear hx
      obtain ⟨g, hgg⟩ : ∃ g, l[k] = g := ⟨_, rfl⟩
      rw [hgg] at c0 c1 c2 c3 hsz HS hgk
      clear hgg
      obtain ⟨nm, mo, sh, cl⟩ := g
      simp only at c0 c1 c2 c3 hsz hgk
      cases ho : hasG dn cov ln wd lo ⟨nm, mo, sh, cl⟩
      · have DI := fun wx hb => Lib.hid (has_any ho hdn hgk HLW.out.1 HLW.out.2 wx (HA.out.below (HB.out.trans (Below.mono hb HB.out.size))))
        have HV : Hid (gradeFrom (hasG dn cov ln wd lo) (k + 1) (l.drop (k + 1)) = r) := Lib.hid (by rw [← HT.out, HS.out, ho]; rfl)
        clear ho hbw hgk
        go_wp2_with (go_at_call 99; (refine Calls.mono (DI _ (Below.refl _ _)).out ?_); rintro e w1 ⟨rfl, hb1⟩)
        go_roundw
        case rel => exact ⟨k + 1, by omega, HV.out, by go_num, HB.out.trans (hb1.mono HB.out.size)⟩
        case measure => simp [intOf]; omega
      · have DI := fun wx hb => Lib.hid (has_any ho hdn hgk HLW.out.1 HLW.out.2 wx (HA.out.below (HB.out.trans (Below.mono hb HB.out.size))))
        have HV : Hid (r = k) := Lib.hid (by rw [← HT.out, HS.out, ho]; rfl)
        clear ho hbw hgk
        go_wp2_with (go_at_call 99; (refine Calls.mono (DI _ (Below.refl _ _)).out ?_); rintro e w1 ⟨rfl, hb1⟩)
        go_ret
        exact ⟨ret_int HV.out.symm, HB.out.trans (hb1.mono HB.out.size)⟩
    · have hk' : k = n := by omega
      have HV : Hid (r = -1) := Lib.hid (by rw [← HT.out, grade_end (by omega)])
      go_wp2
      go_ret
      exact ⟨ret_int HV.out.symm, HB.out⟩
end Go.Proofs.Ytnjbhidncicfiaa
