/- Ranges of moments: the steps of the reference's sums. -/
import Derived.BigRegion
import Derived.Test.YtablphoicidlkaaMGH
import Derived.Test.YtablphoicidlkaaSM
import Derived.Test.YtablphoicidlkaaCD
import Derived.Test.YtablphoicidlkaaRJ
import Derived.Test.YtablphoicidlkaaRL
import Derived.Test.YtablphoicidlkaaRM
namespace Go.Proofs.Ytablphoicidlkaa
open Go.RowKit

theorem mom_take {b : Bm} {x : Int} {l : List Pt} {k : Nat} (h : k < l.length) : mom b (l.take (k + 1)) 0 x = mom b (l.take k) 0 x + mom b [l[k]] 0 x := by
  rw [mom_lin, mom_lin b (l.take k), sumL_take_succ _ _ h, mom_one]
  omega
theorem mom_end {b : Bm} {x S : Int} {l : List Pt} : mom b l 0 x + mom b [] S x = mom b l S x := by
  rw [mom_lin, mom_lin b l S, mom_nil]
  omega
theorem bif_at {l m : List Pt} {k : Nat} : ∀ (c : Bool) (h : k < l.length) (h' : k < m.length) (hA : k < (bif c then m else l).length), (bif c then m else l)[k] = bif c then m[k] else l[k]
  | true, _, _, _ => rfl
  | false, _, _, _ => rfl
theorem rgA_at {b : Bm} {l m : List Pt} {k : Nat} (h : k < l.length) (h' : k < m.length) (hA : k < (rgA b l m).length) : (rgA b l m)[k] = rgA b l[k] m[k] := bif_at (b.e == 1) h h' hA
theorem rgZ_at {b : Bm} {l m : List Pt} {k : Nat} (h : k < l.length) (h' : k < m.length) (hA : k < (rgZ b l m).length) : (rgZ b l m)[k] = rgZ b l[k] m[k] := bif_at (b.e == 1) h' h hA
theorem rgA_len {b : Bm} {l m : List Pt} (h : l.length = m.length) : (rgA b l m).length = l.length := by
  unfold rgA
  cases b.e == 1
  · rfl
  · exact h.symm
theorem rgZ_len {b : Bm} {l m : List Pt} (h : l.length = m.length) : (rgZ b l m).length = l.length := by
  unfold rgZ
  cases b.e == 1
  · exact h.symm
  · rfl
theorem rgA_ok {b : Bm} {l m : List Pt} {S T : Int} (h : WtOk b.s l S) (h' : WtOk b.s m T) : WtOk b.s (rgA b l m) (rgA b S T) := by
  unfold rgA
  cases b.e == 1
  · exact h
  · exact h'
theorem rgZ_ok {b : Bm} {l m : List Pt} {S T : Int} (h : WtOk b.s l S) (h' : WtOk b.s m T) : WtOk b.s (rgZ b l m) (rgZ b S T) := by
  unfold rgZ
  cases b.e == 1
  · exact h'
  · exact h
theorem wt_take {s : Int} {l : List Pt} {S : Int} (h : WtOk s l S) (k : Nat) : WtOk s (l.take k) 0 :=
  ⟨by rw [List.length_take]; have := h.len; omega, fun p hp => h.pt p (List.mem_of_mem_take hp), by decide, by decide⟩
theorem wt_one {s : Int} {l : List Pt} {S : Int} (h : WtOk s l S) {k : Nat} (hk : k < l.length) : WtOk s [l[k]] 0 :=
  ⟨by simp, fun p hp => by simp at hp; subst hp; exact h.pt _ (List.getElem_mem hk), by decide, by decide⟩
theorem wt_nil {s : Int} {l : List Pt} {S : Int} (h : WtOk s l S) : WtOk s [] S := ⟨by simp, (fun p hp => by cases hp), h.S0, h.S1⟩
theorem under_at {l m : List Pt} (h : plB l m = true) (g : wtB l m = false) {k : Nat} (hk : k < l.length) (hk' : k < m.length) : (l[k]).a = (m[k]).a ∧ (l[k]).n ≤ (m[k]).n := by
  refine ⟨(plB_iff.1 h).2 k hk hk', ?_⟩
  rcases Int.lt_or_le (m[k]).n (l[k]).n with e | e
  · rw [wtB_at hk hk' e] at g; cases g
  · exact e
/-- What a round of the reference's loop adds. -/
theorem rg_step {b : Bm} {l m : List Pt} {S T x : Int} (h0 : 0 ≤ x) (h1 : x ≤ b.s) (hl : WtOk b.s l S) (he : btwE l m S T = 0) {k : Nat} (hk : k < l.length) (hk' : k < m.length) :
    mom b ((rgA b l m).take (k + 1)) 0 x = mom b ((rgA b l m).take k) 0 x + min (mom b [l[k]] 0 x) (mom b [m[k]] 0 x) ∧
    mom b ((rgZ b l m).take (k + 1)) 0 x = mom b ((rgZ b l m).take k) 0 x + max (mom b [l[k]] 0 x) (mom b [m[k]] 0 x) := by
  obtain ⟨g1, -, g3⟩ := btwE_ok he
  have hll := (plB_iff.1 g1).1
  obtain ⟨u1, u2⟩ := under_at g1 g3 hk hk'
  obtain ⟨k1, k2⟩ := one_min h0 h1 (hl.pt _ (List.getElem_mem hk)) u1 u2
  have a1 : k < (rgA b l m).length := by rw [rgA_len hll]; exact hk
  have a2 : k < (rgZ b l m).length := by rw [rgZ_len hll]; exact hk
  rw [mom_take a1, mom_take a2, rgA_at hk hk' a1, rgZ_at hk hk' a2, k1, k2]
  exact ⟨rfl, rfl⟩
theorem rg_end {b : Bm} {l m : List Pt} {S T x : Int} (h0 : 0 ≤ x) (h1 : x ≤ b.s) (he : btwE l m S T = 0) :
    mom b ((rgA b l m).take l.length) 0 x + min (mom b [] S x) (mom b [] T x) = rgA b (mom b l S x) (mom b m T x) ∧
    mom b ((rgZ b l m).take l.length) 0 x + max (mom b [] S x) (mom b [] T x) = rgZ b (mom b l S x) (mom b m T x) := by
  obtain ⟨g1, g2, g3⟩ := btwE_ok he
  have hll := (plB_iff.1 g1).1
  obtain ⟨k1, k2⟩ := spread_min (b := b) h0 h1 g2
  rw [k1, k2, List.take_of_length_le (by rw [rgA_len hll]; exact Nat.le_refl _), List.take_of_length_le (by rw [rgZ_len hll]; exact Nat.le_refl _)]
  unfold rgA rgZ
  cases b.e == 1 <;> exact ⟨mom_end, mom_end⟩
end Go.Proofs.Ytablphoicidlkaa
namespace Go.Proofs.Ytablphoicidlkaa
open Go.RowKit

def XE (S : Int) (y0 y1 : Value) (_ : World) : Prop := y0 = .slice none 0 0 ∧ y1 = .int .i64 S
/-- What the reference's loop has summed up. -/
def loF (b : Bm) (l m : List Pt) (S T x : Int) (k : Nat) : Int := bif decide (k ≤ l.length) then mom b ((rgA b l m).take k) 0 x else rgA b (mom b l S x) (mom b m T x)
def hiF (b : Bm) (l m : List Pt) (S T x : Int) (k : Nat) : Int := bif decide (k ≤ l.length) then mom b ((rgZ b l m).take k) 0 x else rgZ b (mom b l S x) (mom b m T x)
theorem mom_none {b : Bm} {x : Int} : mom b [] 0 x = 0 := by rw [mom_nil]; omega
theorem F_zero {b : Bm} {l m : List Pt} {S T x : Int} : loF b l m S T x 0 = 0 ∧ hiF b l m S T x 0 = 0 := by
  unfold loF hiF
  rw [decide_eq_true (Nat.zero_le _)]
  exact ⟨mom_none, mom_none⟩
theorem F_step {b : Bm} {l m : List Pt} {S T x : Int} (h0 : 0 ≤ x) (h1 : x ≤ b.s) (hl : WtOk b.s l S) (he : btwE l m S T = 0) {k : Nat} (hk : k < l.length) (hk' : k < m.length) :
    loF b l m S T x (k + 1) = loF b l m S T x k + min (mom b [l[k]] 0 x) (mom b [m[k]] 0 x) ∧ hiF b l m S T x (k + 1) = hiF b l m S T x k + max (mom b [l[k]] 0 x) (mom b [m[k]] 0 x) := by
  unfold loF hiF
  rw [decide_eq_true (show k + 1 ≤ l.length by omega), decide_eq_true (show k ≤ l.length by omega)]
  exact rg_step h0 h1 hl he hk hk'
theorem F_end {b : Bm} {l m : List Pt} {S T x : Int} (h0 : 0 ≤ x) (h1 : x ≤ b.s) (he : btwE l m S T = 0) :
    loF b l m S T x (l.length + 1) = loF b l m S T x l.length + min (mom b [] S x) (mom b [] T x) ∧ hiF b l m S T x (l.length + 1) = hiF b l m S T x l.length + max (mom b [] S x) (mom b [] T x) := by
  unfold loF hiF
  rw [decide_eq_false (show ¬ l.length + 1 ≤ l.length by omega), decide_eq_true (Nat.le_refl _)]
  have := rg_end (S := S) (T := T) h0 h1 he
  exact ⟨this.1.symm, this.2.symm⟩
theorem F_last {b : Bm} {l m : List Pt} {S T x : Int} : loF b l m S T x (l.length + 1) = rgA b (mom b l S x) (mom b m T x) ∧ hiF b l m S T x (l.length + 1) = rgZ b (mom b l S x) (mom b m T x) := by
  unfold loF hiF
  rw [decide_eq_false (show ¬ l.length + 1 ≤ l.length by omega)]
  exact ⟨rfl, rfl⟩
theorem F_bd {b : Bm} {l m : List Pt} {S T x : Int} (hb : BmOk b) (h0 : 0 ≤ x) (h1 : x ≤ b.s) (hl : WtOk b.s l S) (hm : WtOk b.s m T) (k : Nat) : (loF b l m S T x k).natAbs ≤ 9000000000000000000 ∧ (hiF b l m S T x k).natAbs ≤ 9000000000000000000 := by
  unfold loF hiF
  cases decide (k ≤ l.length)
  · unfold rgA rgZ
    cases b.e == 1
    · exact ⟨mom_bd9 hb hl h0 h1, mom_bd9 hb hm h0 h1⟩
    · exact ⟨mom_bd9 hb hm h0 h1, mom_bd9 hb hl h0 h1⟩
  · exact ⟨mom_bd9 hb (wt_take (rgA_ok hl hm) k) h0 h1, mom_bd9 hb (wt_take (rgZ_ok hl hm) k) h0 h1⟩
theorem row_at {w : World} {blk off k : Nat} {l : List Pt} {n : Nat} (h : PtRow w (some ⟨blk, off, none⟩) n l) (hk : k < l.length) : PtRow w (some ⟨blk, off + k * 2, none⟩) 1 [l[k]] := by
  obtain ⟨hl, hr⟩ := h
  obtain ⟨b2, o2, e, hlt, hc⟩ := hr (by omega)
  cases e
  refine ⟨rfl, fun _ => ⟨blk, off + k * 2, rfl, hlt, fun j hj => ?_⟩⟩
  obtain rfl : j = 0 := by simp at hj; omega
  have := hc k hk
  simpa using this
theorem wsum {a m r : Int} (h : r = a + m) (hb : r.natAbs ≤ 9000000000000000000) : Value.int .i64 (wrap64 (a + m)) = .int .i64 r := by rw [w64 (by omega), h]
theorem row_none {w : World} : PtRow w none 0 [] := ⟨rfl, fun h => absurd h (by decide)⟩
set_option maxHeartbeats 16000000 in
set_option maxRecDepth 20000 in
theorem rMomentRange_any {b : Bm} {A A' : Option Addr} {n c c' : Nat} {S T x : Int} {l m : List Pt} (hb : BmOk b) (hl : WtOk b.s l S) (hm : WtOk b.s m T) (x0 : 0 ≤ x) (x1 : x ≤ b.s) (he : btwE l m S T = 0) (hc : n ≤ c) (hc' : n ≤ c') (hcm : c ≤ maxLen) (hcm' : c' ≤ maxLen) (w : World) (R : PtRow w A n l) (R' : PtRow w A' n m) :
    Calls Try.prog 49 #[bmV b, buV A n c S, buV A' n c' T, .int .i64 x] w fun e w' => e = .returned (.tuple #[frV (rgA b (mom b l S x) (mom b m T x)) (2 * b.s), frV (rgZ b (mom b l S x) (mom b m T x)) (2 * b.s)]) ∧ Below w.heap.size w w' := by
  have ll : l.length = n := R.1
  have lm : m.length = n := R'.1
  have n8 : n ≤ 8 := by have := hl.len; omega
  have hll := Lib.hid ll
  have hlm := Lib.hid lm
  have HR := Lib.hid R
  have HR' := Lib.hid R'
  have MO := Lib.hid (fun k (hk : k < l.length) wx A1 c1 (r : PtRow wx A1 1 [l[k]]) => rmoment_any (c := c1) hb (wt_one hl hk) x0 x1 wx r)
  have MO' := Lib.hid (fun k (hk : k < m.length) wx A1 c1 (r : PtRow wx A1 1 [m[k]]) => rmoment_any (c := c1) hb (wt_one hm hk) x0 x1 wx r)
  have MN := Lib.hid (fun wx => rmoment_any (c := 0) hb (wt_nil hl) x0 x1 wx row_none)
  have MN' := Lib.hid (fun wx => rmoment_any (c := 0) hb (wt_nil hm) x0 x1 wx row_none)
  have FS := Lib.hid (fun k (hk : k < l.length) (hk' : k < m.length) => F_step (T := T) x0 x1 hl he hk hk')
  have FE := Lib.hid (F_end (S := S) (T := T) x0 x1 he)
  rw [ll] at FE
  have FL := F_last (b := b) (l := l) (m := m) (S := S) (T := T) (x := x)
  rw [ll] at FL
  have F0 := F_zero (b := b) (l := l) (m := m) (S := S) (T := T) (x := x)
  have FB := Lib.hid (fun k => F_bd (S := S) (T := T) hb x0 x1 hl hm k)
  have hs0 := hb.s0; have hs1 := hb.s1
  rw [← FL.1, ← FL.2]
  have LA := Lib.hid (fun wx => lowest_any (n := loF b l m S T x (n + 1)) (d := 2 * b.s) (by have := (FB.out (n + 1)).1; omega) (by omega) (by omega) wx)
  have LZ := Lib.hid (fun wx => lowest_any (n := hiF b l m S T x (n + 1)) (d := 2 * b.s) (by have := (FB.out (n + 1)).2; omega) (by omega) (by omega) wx)
  clear R R' ll lm hl hm he hb FL
  obtain ⟨s, ww, t, en⟩ := b
  unfold bmV buV at *
  simp only at MO MO' MN MN' LA LZ hs0 hs1 x1 ⊢
  obtain ⟨LO, hLO⟩ : ∃ g : Nat → Int, loF ⟨s, ww, t, en⟩ l m S T x = g := ⟨_, rfl⟩
  obtain ⟨HI, hHI⟩ : ∃ g : Nat → Int, hiF ⟨s, ww, t, en⟩ l m S T x = g := ⟨_, rfl⟩
  rw [hLO] at FS FE F0 FB LA ⊢
  rw [hHI] at FS FE F0 FB LZ ⊢
  clear hLO hHI
  have HF0 := Lib.hid F0
  clear F0
  unfold maxLen at hcm hcm'
  go_enter Try.func49, Try.ntmps49
  go_upto_region 1 with fail
  obtain ⟨w0, hw0⟩ : ∃ w0, (((((w.alloc (.cells #[.int .i64 s, .int .i64 ww, .int .i64 t, .int .i64 en] 23)).alloc (.cells #[.slice A n c, .int .i64 S] 26)).alloc (.cells #[.slice A' n c', .int .i64 T] 26)).alloc (.cells #[.int .i64 0, .int .i64 0] 30)).alloc (.cells #[.int .i64 0, .int .i64 0] 30)) = w0 := ⟨_, rfl⟩
  have HB0 : Hid (Below w.heap.size w w0) := Lib.hid (by rw [← hw0]; exact ((((((Below.refl _ _).alloc (Nat.le_refl _) _).alloc (by simp; try omega) _).alloc (by simp; try omega) _).alloc (by simp; try omega) _).alloc (by simp; try omega) _))
  have HC := Lib.hid (fun wx (hb : Below w0.heap.size w0 wx) => (show wx.cell? ⟨w.heap.size, 0, none⟩ = some (.int .i64 s) ∧ wx.cell? ⟨w.heap.size, 1, none⟩ = some (.int .i64 ww) ∧ wx.cell? ⟨w.heap.size, 2, none⟩ = some (.int .i64 t) ∧ wx.cell? ⟨w.heap.size, 3, none⟩ = some (.int .i64 en) ∧ wx.cell? ⟨w.heap.size + 1, 0, none⟩ = some (.slice A n c) ∧ wx.cell? ⟨w.heap.size + 1, 1, none⟩ = some (.int .i64 S) ∧ wx.cell? ⟨w.heap.size + 2, 0, none⟩ = some (.slice A' n c') ∧ wx.cell? ⟨w.heap.size + 2, 1, none⟩ = some (.int .i64 T) ∧ wx.cell? ⟨w.heap.size + 3, 0, none⟩ = some (.int .i64 0) ∧ wx.cell? ⟨w.heap.size + 3, 1, none⟩ = some (.int .i64 0) ∧ wx.cell? ⟨w.heap.size + 4, 0, none⟩ = some (.int .i64 0) ∧ wx.cell? ⟨w.heap.size + 4, 1, none⟩ = some (.int .i64 0) ∧ wx.frozen? ⟨w.heap.size + 3, 0, none⟩ = false ∧ wx.frozen? ⟨w.heap.size + 3, 1, none⟩ = false ∧ wx.frozen? ⟨w.heap.size + 4, 0, none⟩ = false ∧ wx.frozen? ⟨w.heap.size + 4, 1, none⟩ = false from by
    subst hw0
    obtain ⟨k, kf⟩ := bcell hb
    exact ⟨(k _ _ (by simp; try omega)).trans (by simp [go_sem]), (k _ _ (by simp; try omega)).trans (by simp [go_sem]), (k _ _ (by simp; try omega)).trans (by simp [go_sem]), (k _ _ (by simp; try omega)).trans (by simp [go_sem]), (k _ _ (by simp; try omega)).trans (by simp [go_sem]), (k _ _ (by simp; try omega)).trans (by simp [go_sem]), (k _ _ (by simp; try omega)).trans (by simp [go_sem]), (k _ _ (by simp; try omega)).trans (by simp [go_sem]), (k _ _ (by simp; try omega)).trans (by simp [go_sem]), (k _ _ (by simp; try omega)).trans (by simp [go_sem]), (k _ _ (by simp; try omega)).trans (by simp [go_sem]), (k _ _ (by simp; try omega)).trans (by simp [go_sem]), (kf _ _ (by simp; try omega)).trans (by simp [go_sem]), (kf _ _ (by simp; try omega)).trans (by simp [go_sem]), (kf _ _ (by simp; try omega)).trans (by simp [go_sem]), (kf _ _ (by simp; try omega)).trans (by simp [go_sem])⟩))
  rw [hw0]
  clear hw0
  have HZ0 := Lib.hid (Below.refl w0.heap.size w0)
  go_wp2
  go_loopw [10, 11, 12] (fun lo hi i wr => ∃ k : Nat, k ≤ n + 1 ∧ i = .int .i64 k ∧ lo = .int .i64 (LO k) ∧ hi = .int .i64 (HI k) ∧ Below w0.heap.size w0 wr) (fun _ _ i _ => n + 1 - (intOf i).toNat)
  case atStart => exact ⟨0, Nat.zero_le _, rfl, by rw [HF0.out.1], by rw [HF0.out.2], HZ0.out⟩
  case round =>
    obtain ⟨k, hk, rfl, rfl, rfl, hbw⟩ := hrel
    have HB := Lib.hid hbw
    have HBW := Lib.hid (HB0.out.trans (hbw.mono HB0.out.size))
    clear hbw HF0
    obtain ⟨c0, c1, c2, c3, c4, c5, c6, c7, c8, c9, c10, c11, z3_0, z3_1, z4_0, z4_1⟩ := HC.out wr HB.out
    by_cases hlt : k ≤ n
    · have hki : (k : Int) ≤ (n : Int) := by omega
      have GE : ∀ {n : Nat}, wr.heap.size ≤ n → w0.heap.size ≤ n := fun h => Nat.le_trans HB.out.size h
      have HC2 := Lib.hid (fun wy (hy : Below wr.heap.size wr wy) => HC.out wy (HB.out.trans (hy.mono HB.out.size)))
      have fb := FB.out (k + 1)
      go_upto_region 5 with fail
      clear c0 c1 c2 c3 c4 c5 c6 c7 c8 c9 c10 c11 z3_0 z3_1 z4_0 z4_1
      refine wp_region_ptrsG (t := 26) (z0 := .slice none 0 0) (z1 := .int .i64 0) [24, 25, 26, 27, 28, 29, 13, 14, 15, 16] [⟨6, 8, XE S⟩, ⟨7, 9, XE T⟩] [rEq (.pointer (some ⟨w.heap.size + 1, 1, none⟩)), rEq (.int .i64 S), rEq (.agg #[.slice none 0 0, .int .i64 S]), rEq (.pointer (some ⟨w.heap.size + 2, 1, none⟩)), rEq (.int .i64 T), rEq (.agg #[.slice none 0 0, .int .i64 T]), (rAny), (rAny), (rAny), (rAny)] [6, 7, 8, 9] (by kernel_rfl) (by kernel_rfl) (by decide) rfl ?_ ?_ ?_ ?_ ?_ ?_ ?_ ?_ ?_
      · refine ⟨fun i h1 h2 => ?_, fun q hq => ?_, fun q hq q' hq' h => ?_, fun q hq o ho => ?_, fun q hq => ?_⟩
        · have h3 : i = 8 ∨ i = 9 := by
            revert h2
            revert h1
            revert i
            decide +kernel
          rcases h3 with rfl | rfl
          · exact ⟨⟨6, 8, XE S⟩, by simp, rfl⟩
          · exact ⟨⟨7, 9, XE T⟩, by simp, rfl⟩
        · simp only [List.mem_cons, List.not_mem_nil, or_false] at hq
          rcases hq with rfl | rfl
          · exact ⟨by kernel_rfl, by kernel_rfl, (show 6 < _ by decide +kernel)⟩
          · exact ⟨by kernel_rfl, by kernel_rfl, (show 7 < _ by decide +kernel)⟩
        · simp only [List.mem_cons, List.not_mem_nil, or_false] at hq
          simp only [List.mem_cons, List.not_mem_nil, or_false] at hq'
          rcases hq with rfl | rfl <;> rcases hq' with rfl | rfl <;> first | rfl | (exfalso; revert h; simp)
        · simp only [List.mem_cons, List.not_mem_nil, or_false] at hq
          rcases hq with rfl | rfl
          · dsimp only at ho
            have ho2 : _ = o := Option.some.inj ho
            subst ho2
            show 6 ∈ depsOf _
            decide
          · dsimp only at ho
            have ho2 : _ = o := Option.some.inj ho
            subst ho2
            show 7 ∈ depsOf _
            decide
        · simp only [List.mem_cons, List.not_mem_nil, or_false] at hq
          rcases hq with rfl | rfl <;> exact ⟨rfl, rfl⟩
      · intro i he
        have he' : i = 6 ∨ i = 7 ∨ i = 8 ∨ i = 9 := by simpa using he
        rcases he' with rfl | rfl | rfl | rfl
        · exact ⟨⟨6, 8, XE S⟩, by simp, .inl rfl⟩
        · exact ⟨⟨7, 9, XE T⟩, by simp, .inl rfl⟩
        · exact ⟨⟨6, 8, XE S⟩, by simp, .inr rfl⟩
        · exact ⟨⟨7, 9, XE T⟩, by simp, .inr rfl⟩
      · intro j v w1' b x0 x1 hle hz h
        match j, h with
        | 0, h => exact h
        | 1, h => exact h
        | 2, h => exact h
        | 3, h => exact h
        | 4, h => exact h
        | 5, h => exact h
        | 6, h => exact trivial
        | 7, h => exact trivial
        | 8, h => exact trivial
        | 9, h => exact trivial
        | _ + 10, _ => exact trivial
      · intro q hq
        simp only [List.mem_cons, List.not_mem_nil, or_false] at hq
        rcases hq with rfl | rfl
        · exact fun y0 y1 w1 w2 hb h => h
        · exact fun y0 y1 w1 w2 hb h => h
      · intro q hq
        simp only [List.mem_cons, List.not_mem_nil, or_false] at hq
        rcases hq with rfl | rfl
        · exact fun y0 y1 w1 pb x0 x1 hz h => h
        · exact fun y0 y1 w1 pb x0 x1 hz h => h
      · refine ⟨?_, ?_, ?_, ?_, ?_, ?_, ?_, ?_, ?_, ?_, trivial⟩
        · intro _ ac wx hf hb hd -- 0
          have f5 : ac.tmps[5]?.getD undef = .pointer (some ⟨w.heap.size + 1, 0, none⟩) := by rw [← Array.getD_eq_getD_getElem?]; exact hf.same 5 (by decide)
          exact rstep_eq (by simp [execOp, Act.eval, f5, go_sem]) rfl
        · intro _ ac wx hf hb hd -- 1
          have d0 : ac.tmps[24]?.getD undef = .pointer (some ⟨w.heap.size + 1, 1, none⟩) := by rw [← Array.getD_eq_getD_getElem?]; exact hd 0 (by decide)
          obtain ⟨c0, c1, c2, c3, c4, c5, c6, c7, c8, c9, c10, c11, z3_0, z3_1, z4_0, z4_1⟩ := HC2.out wx hb
          exact rstep_eq (by simp [execOp, Act.eval, d0, c5, go_sem]) rfl
        · intro _ ac wx hf hb hd -- 2
          have d1 : ac.tmps[25]?.getD undef = .int .i64 S := by rw [← Array.getD_eq_getD_getElem?]; exact hd 1 (by decide)
          exact rstep_eq (by simp [execOp, Act.eval, d1, go_sem]) rfl
        · intro _ ac wx hf hb hd -- 3
          have f6 : ac.tmps[6]?.getD undef = .pointer (some ⟨w.heap.size + 2, 0, none⟩) := by rw [← Array.getD_eq_getD_getElem?]; exact hf.same 6 (by decide)
          exact rstep_eq (by simp [execOp, Act.eval, f6, go_sem]) rfl
        · intro _ ac wx hf hb hd -- 4
          have d3 : ac.tmps[27]?.getD undef = .pointer (some ⟨w.heap.size + 2, 1, none⟩) := by rw [← Array.getD_eq_getD_getElem?]; exact hd 3 (by decide)
          obtain ⟨c0, c1, c2, c3, c4, c5, c6, c7, c8, c9, c10, c11, z3_0, z3_1, z4_0, z4_1⟩ := HC2.out wx hb
          exact rstep_eq (by simp [execOp, Act.eval, d3, c7, go_sem]) rfl
        · intro _ ac wx hf hb hd -- 5
          have d4 : ac.tmps[28]?.getD undef = .int .i64 T := by rw [← Array.getD_eq_getD_getElem?]; exact hd 4 (by decide)
          exact rstep_eq (by simp [execOp, Act.eval, d4, go_sem]) rfl
        · intro h; cases h
        · intro h; cases h
        · intro h; cases h
        · intro h; cases h
      · intro q hq o ac wx ho
        simp only [List.mem_cons, List.not_mem_nil, or_false] at hq
        rcases hq with rfl | rfl <;> (cases ho; simp [execOp, go_sem])
      · intro q hq o ac wx bb ho hf hp z0 z1 y0 y1 hd
        simp only [List.mem_cons, List.not_mem_nil, or_false] at hq
        rcases hq with rfl | rfl
        · dsimp only at ho
          have ho2 : _ = o := Option.some.inj ho
          subst ho2
          clear ho
          have dp : ac.tmps[13]?.getD undef = .pointer (some ⟨bb, 0, none⟩) := by rw [← Array.getD_eq_getD_getElem?]; exact hp
          have dv : ac.tmps[26]?.getD undef = .agg #[.slice none 0 0, .int .i64 S] := by rw [← Array.getD_eq_getD_getElem?]; exact hd 2 (by decide)
          simp [Oper.wp, Oper.upon, execOp, Act.eval, go_sem, dp, dv, z0, z1, y0, y1]
          exact ⟨_, _, rfl, rfl, rfl⟩
        · dsimp only at ho
          have ho2 : _ = o := Option.some.inj ho
          subst ho2
          clear ho
          have dp : ac.tmps[14]?.getD undef = .pointer (some ⟨bb, 0, none⟩) := by rw [← Array.getD_eq_getD_getElem?]; exact hp
          have dv : ac.tmps[29]?.getD undef = .agg #[.slice none 0 0, .int .i64 T] := by rw [← Array.getD_eq_getD_getElem?]; exact hd 5 (by decide)
          simp [Oper.wp, Oper.upon, execOp, Act.eval, go_sem, dp, dv, z0, z1, y0, y1]
          exact ⟨_, _, rfl, rfl, rfl⟩
      rintro ⟨⟨ll⟩, df⟩ w4 hf hbw4 hall ⟨blkf, hq1, hq2⟩
      have hdf : df = [] := hf.defers
      subst hdf
      have hsz : ll.length = 77 := hf.size
      obtain ⟨x0, ll0, rfl, hsz0⟩ := cons_of hsz
      obtain ⟨x1, ll1, rfl, hsz1⟩ := cons_of hsz0
      obtain ⟨x2, ll2, rfl, hsz2⟩ := cons_of hsz1
      obtain ⟨x3, ll3, rfl, hsz3⟩ := cons_of hsz2
      obtain ⟨x4, ll4, rfl, hsz4⟩ := cons_of hsz3
      obtain ⟨x5, ll5, rfl, hsz5⟩ := cons_of hsz4
      obtain ⟨x6, ll6, rfl, hsz6⟩ := cons_of hsz5
      obtain ⟨x7, ll7, rfl, hsz7⟩ := cons_of hsz6
      obtain ⟨x8, ll8, rfl, hsz8⟩ := cons_of hsz7
      obtain ⟨x9, ll9, rfl, hsz9⟩ := cons_of hsz8
      obtain ⟨x10, ll10, rfl, hsz10⟩ := cons_of hsz9
      obtain ⟨x11, ll11, rfl, hsz11⟩ := cons_of hsz10
      obtain ⟨x12, ll12, rfl, hsz12⟩ := cons_of hsz11
      obtain ⟨x13, ll13, rfl, hsz13⟩ := cons_of hsz12
      obtain ⟨x14, ll14, rfl, hsz14⟩ := cons_of hsz13
      obtain ⟨x15, ll15, rfl, hsz15⟩ := cons_of hsz14
      obtain ⟨x16, ll16, rfl, hsz16⟩ := cons_of hsz15
      obtain ⟨x17, ll17, rfl, hsz17⟩ := cons_of hsz16
      obtain ⟨x18, ll18, rfl, hsz18⟩ := cons_of hsz17
      obtain ⟨x19, ll19, rfl, hsz19⟩ := cons_of hsz18
      obtain ⟨x20, ll20, rfl, hsz20⟩ := cons_of hsz19
      obtain ⟨x21, ll21, rfl, hsz21⟩ := cons_of hsz20
      obtain ⟨x22, ll22, rfl, hsz22⟩ := cons_of hsz21
      obtain ⟨x23, ll23, rfl, hsz23⟩ := cons_of hsz22
      obtain ⟨x24, ll24, rfl, hsz24⟩ := cons_of hsz23
      obtain ⟨x25, ll25, rfl, hsz25⟩ := cons_of hsz24
      obtain ⟨x26, ll26, rfl, hsz26⟩ := cons_of hsz25
      obtain ⟨x27, ll27, rfl, hsz27⟩ := cons_of hsz26
      obtain ⟨x28, ll28, rfl, hsz28⟩ := cons_of hsz27
      obtain ⟨x29, ll29, rfl, hsz29⟩ := cons_of hsz28
      obtain ⟨x30, ll30, rfl, hsz30⟩ := cons_of hsz29
      obtain ⟨x31, ll31, rfl, hsz31⟩ := cons_of hsz30
      obtain ⟨x32, ll32, rfl, hsz32⟩ := cons_of hsz31
      obtain ⟨x33, ll33, rfl, hsz33⟩ := cons_of hsz32
      obtain ⟨x34, ll34, rfl, hsz34⟩ := cons_of hsz33
      obtain ⟨x35, ll35, rfl, hsz35⟩ := cons_of hsz34
      obtain ⟨x36, ll36, rfl, hsz36⟩ := cons_of hsz35
      obtain ⟨x37, ll37, rfl, hsz37⟩ := cons_of hsz36
      obtain ⟨x38, ll38, rfl, hsz38⟩ := cons_of hsz37
      obtain ⟨x39, ll39, rfl, hsz39⟩ := cons_of hsz38
      obtain ⟨x40, ll40, rfl, hsz40⟩ := cons_of hsz39
      obtain ⟨x41, ll41, rfl, hsz41⟩ := cons_of hsz40
      obtain ⟨x42, ll42, rfl, hsz42⟩ := cons_of hsz41
      obtain ⟨x43, ll43, rfl, hsz43⟩ := cons_of hsz42
      obtain ⟨x44, ll44, rfl, hsz44⟩ := cons_of hsz43
      obtain ⟨x45, ll45, rfl, hsz45⟩ := cons_of hsz44
      obtain ⟨x46, ll46, rfl, hsz46⟩ := cons_of hsz45
      obtain ⟨x47, ll47, rfl, hsz47⟩ := cons_of hsz46
      obtain ⟨x48, ll48, rfl, hsz48⟩ := cons_of hsz47
      obtain ⟨x49, ll49, rfl, hsz49⟩ := cons_of hsz48
      obtain ⟨x50, ll50, rfl, hsz50⟩ := cons_of hsz49
      obtain ⟨x51, ll51, rfl, hsz51⟩ := cons_of hsz50
      obtain ⟨x52, ll52, rfl, hsz52⟩ := cons_of hsz51
      obtain ⟨x53, ll53, rfl, hsz53⟩ := cons_of hsz52
      obtain ⟨x54, ll54, rfl, hsz54⟩ := cons_of hsz53
      obtain ⟨x55, ll55, rfl, hsz55⟩ := cons_of hsz54
      obtain ⟨x56, ll56, rfl, hsz56⟩ := cons_of hsz55
      obtain ⟨x57, ll57, rfl, hsz57⟩ := cons_of hsz56
      obtain ⟨x58, ll58, rfl, hsz58⟩ := cons_of hsz57
      obtain ⟨x59, ll59, rfl, hsz59⟩ := cons_of hsz58
      obtain ⟨x60, ll60, rfl, hsz60⟩ := cons_of hsz59
      obtain ⟨x61, ll61, rfl, hsz61⟩ := cons_of hsz60
      obtain ⟨x62, ll62, rfl, hsz62⟩ := cons_of hsz61
      obtain ⟨x63, ll63, rfl, hsz63⟩ := cons_of hsz62
      obtain ⟨x64, ll64, rfl, hsz64⟩ := cons_of hsz63
      obtain ⟨x65, ll65, rfl, hsz65⟩ := cons_of hsz64
      obtain ⟨x66, ll66, rfl, hsz66⟩ := cons_of hsz65
      obtain ⟨x67, ll67, rfl, hsz67⟩ := cons_of hsz66
      obtain ⟨x68, ll68, rfl, hsz68⟩ := cons_of hsz67
      obtain ⟨x69, ll69, rfl, hsz69⟩ := cons_of hsz68
      obtain ⟨x70, ll70, rfl, hsz70⟩ := cons_of hsz69
      obtain ⟨x71, ll71, rfl, hsz71⟩ := cons_of hsz70
      obtain ⟨x72, ll72, rfl, hsz72⟩ := cons_of hsz71
      obtain ⟨x73, ll73, rfl, hsz73⟩ := cons_of hsz72
      obtain ⟨x74, ll74, rfl, hsz74⟩ := cons_of hsz73
      obtain ⟨x75, ll75, rfl, hsz75⟩ := cons_of hsz74
      obtain ⟨x76, ll76, rfl, hsz76⟩ := cons_of hsz75
      obtain rfl := List.eq_nil_of_length_eq_zero hsz76
      obtain rfl : x0 = .agg #[.int .i64 s, .int .i64 ww, .int .i64 t, .int .i64 en] := hf.same 0 (by decide)
      obtain rfl : x1 = .agg #[.slice A n c, .int .i64 S] := hf.same 1 (by decide)
      obtain rfl : x2 = .agg #[.slice A' n c', .int .i64 T] := hf.same 2 (by decide)
      obtain rfl : x3 = .int .i64 x := hf.same 3 (by decide)
      obtain rfl : x4 = .pointer (some ⟨w.heap.size, 0, none⟩) := hf.same 4 (by decide)
      obtain rfl : x5 = .pointer (some ⟨w.heap.size + 1, 0, none⟩) := hf.same 5 (by decide)
      obtain rfl : x6 = .pointer (some ⟨w.heap.size + 2, 0, none⟩) := hf.same 6 (by decide)
      obtain rfl : x7 = undef := hf.same 7 (by decide)
      obtain rfl : x8 = .pointer (some ⟨w.heap.size + 3, 0, none⟩) := hf.same 8 (by decide)
      obtain rfl : x9 = .pointer (some ⟨w.heap.size + 4, 0, none⟩) := hf.same 9 (by decide)
      obtain rfl : x10 = .int .i64 (LO k) := hf.same 10 (by decide)
      obtain rfl : x11 = .int .i64 (HI k) := hf.same 11 (by decide)
      obtain rfl : x12 = .int .i64 (k : Int) := hf.same 12 (by decide)
      obtain rfl : x24 = .pointer (some ⟨w.heap.size + 1, 1, none⟩) := hall 0 24 rfl
      obtain rfl : x25 = .int .i64 S := hall 1 25 rfl
      obtain rfl : x26 = .agg #[.slice none 0 0, .int .i64 S] := hall 2 26 rfl
      obtain rfl : x27 = .pointer (some ⟨w.heap.size + 2, 1, none⟩) := hall 3 27 rfl
      obtain rfl : x28 = .int .i64 T := hall 4 28 rfl
      obtain rfl : x29 = .agg #[.slice none 0 0, .int .i64 T] := hall 5 29 rfl
      obtain rfl : x67 = undef := hf.same 67 (by decide)
      obtain rfl : x68 = undef := hf.same 68 (by decide)
      obtain rfl : x69 = undef := hf.same 69 (by decide)
      obtain rfl : x70 = undef := hf.same 70 (by decide)
      obtain rfl : x71 = undef := hf.same 71 (by decide)
      obtain rfl : x72 = undef := hf.same 72 (by decide)
      obtain rfl : x73 = undef := hf.same 73 (by decide)
      obtain rfl : x74 = undef := hf.same 74 (by decide)
      obtain rfl : x75 = undef := hf.same 75 (by decide)
      obtain rfl : x76 = undef := hf.same 76 (by decide)
      obtain ⟨pP, hxP, plP, psP, c0P, c1P, paP, pcP, pxP⟩ : ∃ blk, x13 = .pointer (some ⟨blk, 0, none⟩) ∧ w0.heap.size ≤ blk ∧ blk < w4.heap.size ∧ ∃ y0 y1, w4.cell? ⟨blk, 0, none⟩ = some y0 ∧ w4.cell? ⟨blk, 1, none⟩ = some y1 ∧ XE S y0 y1 w4 := by
        obtain ⟨g0, g1, g2, -, -, y0, y1, g5, g6, -, g8⟩ := hq1 ⟨6, 8, XE S⟩ (by simp) rfl
        exact ⟨blkf 6, g0, GE g1, g2, y0, y1, g5, g6, g8 rfl⟩
      subst hxP
      obtain ⟨pQ, hxQ, plQ, psQ, c0Q, c1Q, paQ, pcQ, pxQ⟩ : ∃ blk, x14 = .pointer (some ⟨blk, 0, none⟩) ∧ w0.heap.size ≤ blk ∧ blk < w4.heap.size ∧ ∃ y0 y1, w4.cell? ⟨blk, 0, none⟩ = some y0 ∧ w4.cell? ⟨blk, 1, none⟩ = some y1 ∧ XE T y0 y1 w4 := by
        obtain ⟨g0, g1, g2, -, -, y0, y1, g5, g6, -, g8⟩ := hq1 ⟨7, 9, XE T⟩ (by simp) rfl
        exact ⟨blkf 7, g0, GE g1, g2, y0, y1, g5, g6, g8 rfl⟩
      subst hxQ
      have hne : pP ≠ pQ := by
        obtain ⟨g0, -⟩ := hq1 ⟨6, 8, XE S⟩ (by simp) rfl
        obtain ⟨g1, -⟩ := hq1 ⟨7, 9, XE T⟩ (by simp) rfl
        have e0 : Value.pointer (some ⟨pP, 0, none⟩) = .pointer (some ⟨blkf 6, 0, none⟩) := g0
        have e1 : Value.pointer (some ⟨pQ, 0, none⟩) = .pointer (some ⟨blkf 7, 0, none⟩) := g1
        simp at e0 e1
        rw [e0, e1]
        exact hq2 ⟨6, 8, XE S⟩ (by simp) ⟨7, 9, XE T⟩ (by simp) (show (6 : Nat) ≠ 7 by decide) rfl rfl
      have hfP : w4.frozen? ⟨pP, 0, none⟩ = false ∧ w4.frozen? ⟨pP, 1, none⟩ = false := by
        obtain ⟨g0, -, -, g3, g4, -⟩ := hq1 ⟨6, 8, XE S⟩ (by simp) rfl
        have e0 : Value.pointer (some ⟨pP, 0, none⟩) = .pointer (some ⟨blkf 6, 0, none⟩) := g0
        simp at e0
        rw [e0]
        exact ⟨g3, g4⟩
      have hfQ : w4.frozen? ⟨pQ, 0, none⟩ = false ∧ w4.frozen? ⟨pQ, 1, none⟩ = false := by
        obtain ⟨g0, -, -, g3, g4, -⟩ := hq1 ⟨7, 9, XE T⟩ (by simp) rfl
        have e0 : Value.pointer (some ⟨pQ, 0, none⟩) = .pointer (some ⟨blkf 7, 0, none⟩) := g0
        simp at e0
        rw [e0]
        exact ⟨g3, g4⟩
      clear hall hf hq1 hq2 blkf
      clear hsz hsz0 hsz1 hsz2 hsz3 hsz4 hsz5 hsz6 hsz7 hsz8 hsz9 hsz10 hsz11 hsz12 hsz13 hsz14 hsz15 hsz16 hsz17 hsz18 hsz19 hsz20 hsz21 hsz22 hsz23 hsz24 hsz25 hsz26 hsz27 hsz28 hsz29 hsz30 hsz31 hsz32 hsz33 hsz34 hsz35 hsz36 hsz37 hsz38 hsz39 hsz40 hsz41 hsz42 hsz43 hsz44 hsz45 hsz46 hsz47 hsz48 hsz49 hsz50 hsz51 hsz52 hsz53 hsz54 hsz55 hsz56 hsz57 hsz58 hsz59 hsz60 hsz61 hsz62 hsz63 hsz64 hsz65 hsz66 hsz67 hsz68 hsz69 hsz70 hsz71 hsz72 hsz73 hsz74 hsz75 hsz76
      obtain ⟨rfl, rfl⟩ := pxP
      obtain ⟨rfl, rfl⟩ := pxQ
      have H4 := Lib.hid (HB.out.trans (hbw4.mono HB.out.size))
      have H4W := Lib.hid (HB0.out.trans (H4.out.mono HB0.out.size))
      have HPW := Lib.hid (And.intro psP psQ)
      have HL4 := Lib.hid (And.intro plP plQ)
      have HP4 := Lib.hid (And.intro paP (And.intro pcP (And.intro paQ pcQ)))
      clear hbw4 HC2 GE plP plQ psP psQ
      obtain ⟨c0, c1, c2, c3, c4, c5, c6, c7, c8, c9, c10, c11, z3_0, z3_1, z4_0, z4_1⟩ := HC.out w4 H4.out
      by_cases hlt2 : k < n
      · have hkl : k < l.length := by have := hll.out; omega
        have hkm : k < m.length := by have := hlm.out; omega
        obtain ⟨blk, off, rfl, hblk, -⟩ := HR.out.2 (by omega)
        obtain ⟨blk', off', rfl, hblk', -⟩ := HR'.out.2 (by omega)
        have hki2 : (k : Int) < (n : Int) := by omega
        have hk64 : IntKind.i64.wrap (k : Int) = k := (by rw [IntKind.wrap_i64]; omega)
        have hk65 : IntKind.i64.wrap ((k : Int) + 1) = (k : Int) + 1 := (by rw [IntKind.wrap_i64]; omega)
        have hk0 : (0 : Int) ≤ (k : Int) := by omega
        have hkc : (k : Int) + 1 ≤ (c : Int) := by omega
        have hkc' : (k : Int) + 1 ≤ (c' : Int) := by omega
        have ly : w.heap.size + 4 < w0.heap.size := by
          obtain ⟨d0, d1, d2, d3, d4, d5, d6, d7, d8, d9, d10, d11, y3_0, y3_1, y4_0, y4_1⟩ := HC.out w0 HZ0.out
          exact World.block_lt_of_cell? w0 _ d11
        obtain ⟨l1, l2⟩ := HL4.out
        have a0 : ¬ pP = w.heap.size := by omega
        have a1 : ¬ pP = w.heap.size + 1 := by omega
        have a2 : ¬ pP = w.heap.size + 2 := by omega
        have b0 : ¬ pQ = w.heap.size := by omega
        have b1 : ¬ pQ = w.heap.size + 1 := by omega
        have b2 : ¬ pQ = w.heap.size + 2 := by omega
        have a0' : ¬ w.heap.size = pP := by omega
        have a1' : ¬ w.heap.size + 1 = pP := by omega
        have a2' : ¬ w.heap.size + 2 = pP := by omega
        have b0' : ¬ w.heap.size = pQ := by omega
        have b1' : ¬ w.heap.size + 1 = pQ := by omega
        have b2' : ¬ w.heap.size + 2 = pQ := by omega
        clear ly l1 l2
        obtain ⟨y0, y1⟩ := hfP
        obtain ⟨y2, y3⟩ := hfQ
        have hne2 : ¬ pQ = pP := fun h => hne h.symm
        go_upto_region 7 with fail
        go_region
        obtain ⟨w5, hw5⟩ : ∃ w5, ((((w4.setCell ⟨pP, 0, none⟩ (.slice (some ⟨blk, off + k * 2, none⟩) 1 (c - k))).setCell ⟨pP, 1, none⟩ (.int .i64 0)).setCell ⟨pQ, 0, none⟩ (.slice (some ⟨blk', off' + k * 2, none⟩) 1 (c' - k))).setCell ⟨pQ, 1, none⟩ (.int .i64 0)).drew = w5 := ⟨_, rfl⟩
        have H5 : Hid (Below w0.heap.size w0 w5) := Lib.hid (by rw [← hw5]; exact ((((H4.out.setCell (p := ⟨pP, 0, none⟩) HL4.out.1 _).setCell (p := ⟨pP, 1, none⟩) HL4.out.1 _).setCell (p := ⟨pQ, 0, none⟩) HL4.out.2 _).setCell (p := ⟨pQ, 1, none⟩) HL4.out.2 _).drew)
        have H5W := Lib.hid (HB0.out.trans (H5.out.mono HB0.out.size))
        have HP5 : Hid (w5.cell? ⟨pP, 0, none⟩ = some (.slice (some ⟨blk, off + k * 2, none⟩) 1 (c - k)) ∧ w5.cell? ⟨pP, 1, none⟩ = some (.int .i64 0) ∧ w5.cell? ⟨pQ, 0, none⟩ = some (.slice (some ⟨blk', off' + k * 2, none⟩) 1 (c' - k)) ∧ w5.cell? ⟨pQ, 1, none⟩ = some (.int .i64 0)) := Lib.hid (by
          rw [← hw5]
          exact ⟨by simp [go_sem, paP, pcP, paQ, pcQ, hne, hne2], by simp [go_sem, paP, pcP, paQ, pcQ, hne, hne2], by simp [go_sem, paP, pcP, paQ, pcQ, hne, hne2], by simp [go_sem, paP, pcP, paQ, pcQ, hne, hne2]⟩)
        have HPW5 : Hid (pP < w5.heap.size ∧ pQ < w5.heap.size) := Lib.hid ⟨World.block_lt_of_cell? w5 _ HP5.out.1, World.block_lt_of_cell? w5 _ HP5.out.2.2.1⟩
        rw [hw5]
        clear hw5
        go_upto_region 8 with fail
        have HC9 := Lib.hid (fun wx (hb : Below w5.heap.size w5 wx) => let h := HC.out wx (H5.out.trans (hb.mono H5.out.size)); let g := bcell hb; And.intro (h.1) (And.intro (h.2.1) (And.intro (h.2.2.1) (And.intro (h.2.2.2.1) (And.intro (h.2.2.2.2.1) (And.intro (h.2.2.2.2.2.1) (And.intro (h.2.2.2.2.2.2.1) (And.intro (h.2.2.2.2.2.2.2.1) (And.intro (h.2.2.2.2.2.2.2.2.1) (And.intro (h.2.2.2.2.2.2.2.2.2.1) (And.intro (h.2.2.2.2.2.2.2.2.2.2.1) (And.intro (h.2.2.2.2.2.2.2.2.2.2.2.1) (And.intro (h.2.2.2.2.2.2.2.2.2.2.2.2.1) (And.intro (h.2.2.2.2.2.2.2.2.2.2.2.2.2.1) (And.intro (h.2.2.2.2.2.2.2.2.2.2.2.2.2.2.1) (And.intro (h.2.2.2.2.2.2.2.2.2.2.2.2.2.2.2) (And.intro ((g.1 _ _ HPW5.out.1).trans HP5.out.1) (And.intro ((g.1 _ _ HPW5.out.1).trans HP5.out.2.1) (And.intro ((g.1 _ _ HPW5.out.2).trans HP5.out.2.2.1) ((g.1 _ _ HPW5.out.2).trans HP5.out.2.2.2))))))))))))))))))))
        clear c0 c1 c2 c3 c4 c5 c6 c7 c8 c9 c10 c11 z3_0 z3_1 z4_0 z4_1 paP pcP paQ pcQ y0 y1 y2 y3 a0 a1 a2 b0 b1 b2 a0' a1' a2' b0' b1' b2' hne hne2 HP4 HPW
        have M1 := Lib.hid (fun wx (hb : Below w5.heap.size w5 wx) => MO.out k hkl wx _ (c - k) (row_at (HR.out.below (H5W.out.trans (hb.mono H5W.out.size))) hkl))
        have M2 := Lib.hid (fun wx (hb : Below w5.heap.size w5 wx) => MO'.out k hkm wx _ (c' - k) (row_at (HR'.out.below (H5W.out.trans (hb.mono H5W.out.size))) hkm))
        have FF := Lib.hid (FS.out k hkl hkm)
        obtain ⟨ms, hms⟩ : ∃ v, mom ⟨s, ww, t, en⟩ [l[k]] 0 x = v := ⟨_, rfl⟩
        obtain ⟨ns, hns⟩ : ∃ v, mom ⟨s, ww, t, en⟩ [m[k]] 0 x = v := ⟨_, rfl⟩
        rw [hms, hns] at FF
        rw [hms] at M1
        rw [hns] at M2
        clear hms hns FE FS MO MO' MN MN'
        refine wp_region_rk [49, 50, 51, 52, 53, 54, 55, 56, 15, 16] [rEq (.agg #[.int .i64 s, .int .i64 ww, .int .i64 t, .int .i64 en]), rEq (.agg #[.slice (some ⟨blk, off + k * 2, none⟩) 1 (c - k), .int .i64 0]), rEq (.int .i64 x), rEq (.int .i64 ms), rEq (.agg #[.int .i64 s, .int .i64 ww, .int .i64 t, .int .i64 en]), rEq (.agg #[.slice (some ⟨blk', off' + k * 2, none⟩) 1 (c' - k), .int .i64 0]), rEq (.int .i64 x), rEq (.int .i64 ns), rEq (.int .i64 ms), rEq (.int .i64 ns)] (by kernel_rfl) (by kernel_rfl) (by decide) rfl ⟨?_, ?_, ?_, ?_, ?_, ?_, ?_, ?_, ?_, ?_, trivial⟩ ?_
        · intro ac wx hf hb hd -- 0
          have f4 : ac.tmps[4]?.getD undef = .pointer (some ⟨w.heap.size, 0, none⟩) := by rw [← Array.getD_eq_getD_getElem?]; exact hf.same 4 (by decide)
          obtain ⟨c0, c1, c2, c3, c4, c5, c6, c7, c8, c9, c10, c11, z3_0, z3_1, z4_0, z4_1, ka, kb, kc, kd⟩ := HC9.out wx hb
          exact rstep_eq (by simp [execOp, Act.eval, f4, c0, c1, c2, c3, go_sem]) rfl
        · intro ac wx hf hb hd -- 1
          have f13 : ac.tmps[13]?.getD undef = .pointer (some ⟨pP, 0, none⟩) := by rw [← Array.getD_eq_getD_getElem?]; exact hf.same 13 (by decide)
          obtain ⟨c0, c1, c2, c3, c4, c5, c6, c7, c8, c9, c10, c11, z3_0, z3_1, z4_0, z4_1, ka, kb, kc, kd⟩ := HC9.out wx hb
          exact rstep_eq (by simp [execOp, Act.eval, f13, ka, kb, go_sem]) rfl
        · intro ac wx hf hb hd -- 2
          have f3 : ac.tmps[3]?.getD undef = .int .i64 x := by rw [← Array.getD_eq_getD_getElem?]; exact hf.same 3 (by decide)
          exact rstep_eq (by simp [execOp, Act.eval, f3, go_sem]) rfl
        · intro ac wx hf hb hd -- 3
          have d0 : ac.tmps[49]?.getD undef = .agg #[.int .i64 s, .int .i64 ww, .int .i64 t, .int .i64 en] := by rw [← Array.getD_eq_getD_getElem?]; exact hd 0 (by decide)
          have d1 : ac.tmps[50]?.getD undef = .agg #[.slice (some ⟨blk, off + k * 2, none⟩) 1 (c - k), .int .i64 0] := by rw [← Array.getD_eq_getD_getElem?]; exact hd 1 (by decide)
          have d2 : ac.tmps[51]?.getD undef = .int .i64 x := by rw [← Array.getD_eq_getD_getElem?]; exact hd 2 (by decide)
          refine rstep_call (f := 101) (args := #[.agg #[.int .i64 s, .int .i64 ww, .int .i64 t, .int .i64 en], .agg #[.slice (some ⟨blk, off + k * 2, none⟩) 1 (c - k), .int .i64 0], .int .i64 x]) (by simp [Act.eval, d0, d1, d2, go_sem]) ?_ rfl
          exact (M1.out wx hb)
        · intro ac wx hf hb hd -- 4
          have f4 : ac.tmps[4]?.getD undef = .pointer (some ⟨w.heap.size, 0, none⟩) := by rw [← Array.getD_eq_getD_getElem?]; exact hf.same 4 (by decide)
          obtain ⟨c0, c1, c2, c3, c4, c5, c6, c7, c8, c9, c10, c11, z3_0, z3_1, z4_0, z4_1, ka, kb, kc, kd⟩ := HC9.out wx hb
          exact rstep_eq (by simp [execOp, Act.eval, f4, c0, c1, c2, c3, go_sem]) rfl
        · intro ac wx hf hb hd -- 5
          have f14 : ac.tmps[14]?.getD undef = .pointer (some ⟨pQ, 0, none⟩) := by rw [← Array.getD_eq_getD_getElem?]; exact hf.same 14 (by decide)
          obtain ⟨c0, c1, c2, c3, c4, c5, c6, c7, c8, c9, c10, c11, z3_0, z3_1, z4_0, z4_1, ka, kb, kc, kd⟩ := HC9.out wx hb
          exact rstep_eq (by simp [execOp, Act.eval, f14, kc, kd, go_sem]) rfl
        · intro ac wx hf hb hd -- 6
          have f3 : ac.tmps[3]?.getD undef = .int .i64 x := by rw [← Array.getD_eq_getD_getElem?]; exact hf.same 3 (by decide)
          exact rstep_eq (by simp [execOp, Act.eval, f3, go_sem]) rfl
        · intro ac wx hf hb hd -- 7
          have d4 : ac.tmps[53]?.getD undef = .agg #[.int .i64 s, .int .i64 ww, .int .i64 t, .int .i64 en] := by rw [← Array.getD_eq_getD_getElem?]; exact hd 4 (by decide)
          have d5 : ac.tmps[54]?.getD undef = .agg #[.slice (some ⟨blk', off' + k * 2, none⟩) 1 (c' - k), .int .i64 0] := by rw [← Array.getD_eq_getD_getElem?]; exact hd 5 (by decide)
          have d6 : ac.tmps[55]?.getD undef = .int .i64 x := by rw [← Array.getD_eq_getD_getElem?]; exact hd 6 (by decide)
          refine rstep_call (f := 101) (args := #[.agg #[.int .i64 s, .int .i64 ww, .int .i64 t, .int .i64 en], .agg #[.slice (some ⟨blk', off' + k * 2, none⟩) 1 (c' - k), .int .i64 0], .int .i64 x]) (by simp [Act.eval, d4, d5, d6, go_sem]) ?_ rfl
          exact (M2.out wx hb)
        · intro ac wx hf hb hd -- 8
          have d3 : ac.tmps[52]?.getD undef = .int .i64 ms := by rw [← Array.getD_eq_getD_getElem?]; exact hd 3 (by decide)
          exact rstep_eq (by simp [execOp, Act.eval, d3, go_sem]) rfl
        · intro ac wx hf hb hd -- 9
          have d7 : ac.tmps[56]?.getD undef = .int .i64 ns := by rw [← Array.getD_eq_getD_getElem?]; exact hd 7 (by decide)
          exact rstep_eq (by simp [execOp, Act.eval, d7, go_sem]) rfl
        rintro ⟨⟨ll⟩, df⟩ wx hf hb hall
        have hdf : df = [] := hf.defers
        subst hdf
        have hsz : ll.length = 77 := hf.size
        obtain ⟨x0, ll0, rfl, hsz0⟩ := cons_of hsz
        obtain ⟨x1, ll1, rfl, hsz1⟩ := cons_of hsz0
        obtain ⟨x2, ll2, rfl, hsz2⟩ := cons_of hsz1
        obtain ⟨x3, ll3, rfl, hsz3⟩ := cons_of hsz2
        obtain ⟨x4, ll4, rfl, hsz4⟩ := cons_of hsz3
        obtain ⟨x5, ll5, rfl, hsz5⟩ := cons_of hsz4
        obtain ⟨x6, ll6, rfl, hsz6⟩ := cons_of hsz5
        obtain ⟨x7, ll7, rfl, hsz7⟩ := cons_of hsz6
        obtain ⟨x8, ll8, rfl, hsz8⟩ := cons_of hsz7
        obtain ⟨x9, ll9, rfl, hsz9⟩ := cons_of hsz8
        obtain ⟨x10, ll10, rfl, hsz10⟩ := cons_of hsz9
        obtain ⟨x11, ll11, rfl, hsz11⟩ := cons_of hsz10
        obtain ⟨x12, ll12, rfl, hsz12⟩ := cons_of hsz11
        obtain ⟨x13, ll13, rfl, hsz13⟩ := cons_of hsz12
        obtain ⟨x14, ll14, rfl, hsz14⟩ := cons_of hsz13
        obtain ⟨x15, ll15, rfl, hsz15⟩ := cons_of hsz14
        obtain ⟨x16, ll16, rfl, hsz16⟩ := cons_of hsz15
        obtain ⟨x17, ll17, rfl, hsz17⟩ := cons_of hsz16
        obtain ⟨x18, ll18, rfl, hsz18⟩ := cons_of hsz17
        obtain ⟨x19, ll19, rfl, hsz19⟩ := cons_of hsz18
        obtain ⟨x20, ll20, rfl, hsz20⟩ := cons_of hsz19
        obtain ⟨x21, ll21, rfl, hsz21⟩ := cons_of hsz20
        obtain ⟨x22, ll22, rfl, hsz22⟩ := cons_of hsz21
        obtain ⟨x23, ll23, rfl, hsz23⟩ := cons_of hsz22
        obtain ⟨x24, ll24, rfl, hsz24⟩ := cons_of hsz23
        obtain ⟨x25, ll25, rfl, hsz25⟩ := cons_of hsz24
        obtain ⟨x26, ll26, rfl, hsz26⟩ := cons_of hsz25
        obtain ⟨x27, ll27, rfl, hsz27⟩ := cons_of hsz26
        obtain ⟨x28, ll28, rfl, hsz28⟩ := cons_of hsz27
        obtain ⟨x29, ll29, rfl, hsz29⟩ := cons_of hsz28
        obtain ⟨x30, ll30, rfl, hsz30⟩ := cons_of hsz29
        obtain ⟨x31, ll31, rfl, hsz31⟩ := cons_of hsz30
        obtain ⟨x32, ll32, rfl, hsz32⟩ := cons_of hsz31
        obtain ⟨x33, ll33, rfl, hsz33⟩ := cons_of hsz32
        obtain ⟨x34, ll34, rfl, hsz34⟩ := cons_of hsz33
        obtain ⟨x35, ll35, rfl, hsz35⟩ := cons_of hsz34
        obtain ⟨x36, ll36, rfl, hsz36⟩ := cons_of hsz35
        obtain ⟨x37, ll37, rfl, hsz37⟩ := cons_of hsz36
        obtain ⟨x38, ll38, rfl, hsz38⟩ := cons_of hsz37
        obtain ⟨x39, ll39, rfl, hsz39⟩ := cons_of hsz38
        obtain ⟨x40, ll40, rfl, hsz40⟩ := cons_of hsz39
        obtain ⟨x41, ll41, rfl, hsz41⟩ := cons_of hsz40
        obtain ⟨x42, ll42, rfl, hsz42⟩ := cons_of hsz41
        obtain ⟨x43, ll43, rfl, hsz43⟩ := cons_of hsz42
        obtain ⟨x44, ll44, rfl, hsz44⟩ := cons_of hsz43
        obtain ⟨x45, ll45, rfl, hsz45⟩ := cons_of hsz44
        obtain ⟨x46, ll46, rfl, hsz46⟩ := cons_of hsz45
        obtain ⟨x47, ll47, rfl, hsz47⟩ := cons_of hsz46
        obtain ⟨x48, ll48, rfl, hsz48⟩ := cons_of hsz47
        obtain ⟨x49, ll49, rfl, hsz49⟩ := cons_of hsz48
        obtain ⟨x50, ll50, rfl, hsz50⟩ := cons_of hsz49
        obtain ⟨x51, ll51, rfl, hsz51⟩ := cons_of hsz50
        obtain ⟨x52, ll52, rfl, hsz52⟩ := cons_of hsz51
        obtain ⟨x53, ll53, rfl, hsz53⟩ := cons_of hsz52
        obtain ⟨x54, ll54, rfl, hsz54⟩ := cons_of hsz53
        obtain ⟨x55, ll55, rfl, hsz55⟩ := cons_of hsz54
        obtain ⟨x56, ll56, rfl, hsz56⟩ := cons_of hsz55
        obtain ⟨x57, ll57, rfl, hsz57⟩ := cons_of hsz56
        obtain ⟨x58, ll58, rfl, hsz58⟩ := cons_of hsz57
        obtain ⟨x59, ll59, rfl, hsz59⟩ := cons_of hsz58
        obtain ⟨x60, ll60, rfl, hsz60⟩ := cons_of hsz59
        obtain ⟨x61, ll61, rfl, hsz61⟩ := cons_of hsz60
        obtain ⟨x62, ll62, rfl, hsz62⟩ := cons_of hsz61
        obtain ⟨x63, ll63, rfl, hsz63⟩ := cons_of hsz62
        obtain ⟨x64, ll64, rfl, hsz64⟩ := cons_of hsz63
        obtain ⟨x65, ll65, rfl, hsz65⟩ := cons_of hsz64
        obtain ⟨x66, ll66, rfl, hsz66⟩ := cons_of hsz65
        obtain ⟨x67, ll67, rfl, hsz67⟩ := cons_of hsz66
        obtain ⟨x68, ll68, rfl, hsz68⟩ := cons_of hsz67
        obtain ⟨x69, ll69, rfl, hsz69⟩ := cons_of hsz68
        obtain ⟨x70, ll70, rfl, hsz70⟩ := cons_of hsz69
        obtain ⟨x71, ll71, rfl, hsz71⟩ := cons_of hsz70
        obtain ⟨x72, ll72, rfl, hsz72⟩ := cons_of hsz71
        obtain ⟨x73, ll73, rfl, hsz73⟩ := cons_of hsz72
        obtain ⟨x74, ll74, rfl, hsz74⟩ := cons_of hsz73
        obtain ⟨x75, ll75, rfl, hsz75⟩ := cons_of hsz74
        obtain ⟨x76, ll76, rfl, hsz76⟩ := cons_of hsz75
        obtain rfl := List.eq_nil_of_length_eq_zero hsz76
        obtain rfl : x0 = .agg #[.int .i64 s, .int .i64 ww, .int .i64 t, .int .i64 en] := hf.same 0 (by decide)
        obtain rfl : x1 = .agg #[.slice (some ⟨blk, off, none⟩) n c, .int .i64 S] := hf.same 1 (by decide)
        obtain rfl : x2 = .agg #[.slice (some ⟨blk', off', none⟩) n c', .int .i64 T] := hf.same 2 (by decide)
        obtain rfl : x3 = .int .i64 x := hf.same 3 (by decide)
        obtain rfl : x4 = .pointer (some ⟨w.heap.size, 0, none⟩) := hf.same 4 (by decide)
        obtain rfl : x5 = .pointer (some ⟨w.heap.size + 1, 0, none⟩) := hf.same 5 (by decide)
        obtain rfl : x6 = .pointer (some ⟨w.heap.size + 2, 0, none⟩) := hf.same 6 (by decide)
        obtain rfl : x7 = undef := hf.same 7 (by decide)
        obtain rfl : x8 = .pointer (some ⟨w.heap.size + 3, 0, none⟩) := hf.same 8 (by decide)
        obtain rfl : x9 = .pointer (some ⟨w.heap.size + 4, 0, none⟩) := hf.same 9 (by decide)
        obtain rfl : x10 = .int .i64 (LO k) := hf.same 10 (by decide)
        obtain rfl : x11 = .int .i64 (HI k) := hf.same 11 (by decide)
        obtain rfl : x12 = .int .i64 (k : Int) := hf.same 12 (by decide)
        obtain rfl : x13 = .pointer (some ⟨pP, 0, none⟩) := hf.same 13 (by decide)
        obtain rfl : x14 = .pointer (some ⟨pQ, 0, none⟩) := hf.same 14 (by decide)
        obtain rfl : x15 = .int .i64 ms := hall 8 15 rfl
        obtain rfl : x16 = .int .i64 ns := hall 9 16 rfl
        obtain rfl : x49 = .agg #[.int .i64 s, .int .i64 ww, .int .i64 t, .int .i64 en] := hall 0 49 rfl
        obtain rfl : x50 = .agg #[.slice (some ⟨blk, off + k * 2, none⟩) 1 (c - k), .int .i64 0] := hall 1 50 rfl
        obtain rfl : x51 = .int .i64 x := hall 2 51 rfl
        obtain rfl : x52 = .int .i64 ms := hall 3 52 rfl
        obtain rfl : x53 = .agg #[.int .i64 s, .int .i64 ww, .int .i64 t, .int .i64 en] := hall 4 53 rfl
        obtain rfl : x54 = .agg #[.slice (some ⟨blk', off' + k * 2, none⟩) 1 (c' - k), .int .i64 0] := hall 5 54 rfl
        obtain rfl : x55 = .int .i64 x := hall 6 55 rfl
        obtain rfl : x56 = .int .i64 ns := hall 7 56 rfl
        obtain rfl : x67 = undef := hf.same 67 (by decide)
        obtain rfl : x68 = undef := hf.same 68 (by decide)
        obtain rfl : x69 = undef := hf.same 69 (by decide)
        obtain rfl : x70 = undef := hf.same 70 (by decide)
        obtain rfl : x71 = undef := hf.same 71 (by decide)
        obtain rfl : x72 = undef := hf.same 72 (by decide)
        obtain rfl : x73 = undef := hf.same 73 (by decide)
        obtain rfl : x74 = undef := hf.same 74 (by decide)
        obtain rfl : x75 = undef := hf.same 75 (by decide)
        obtain rfl : x76 = undef := hf.same 76 (by decide)
        clear hall hf
        clear hsz hsz0 hsz1 hsz2 hsz3 hsz4 hsz5 hsz6 hsz7 hsz8 hsz9 hsz10 hsz11 hsz12 hsz13 hsz14 hsz15 hsz16 hsz17 hsz18 hsz19 hsz20 hsz21 hsz22 hsz23 hsz24 hsz25 hsz26 hsz27 hsz28 hsz29 hsz30 hsz31 hsz32 hsz33 hsz34 hsz35 hsz36 hsz37 hsz38 hsz39 hsz40 hsz41 hsz42 hsz43 hsz44 hsz45 hsz46 hsz47 hsz48 hsz49 hsz50 hsz51 hsz52 hsz53 hsz54 hsz55 hsz56 hsz57 hsz58 hsz59 hsz60 hsz61 hsz62 hsz63 hsz64 hsz65 hsz66 hsz67 hsz68 hsz69 hsz70 hsz71 hsz72 hsz73 hsz74 hsz75 hsz76
        go_wp2
        all_goals (
          refine ⟨⟨_, _, _, ⟨k + 1, by omega, rfl, rfl, rfl, H5.out.trans (hb.mono H5.out.size)⟩, wsum (by have := FF.out.1; omega) fb.1, wsum (by have := FF.out.2; omega) fb.2, by go_num⟩, by simp [intOf]; omega⟩)
      · have hkn : n = k := by omega
        have hnn : ¬ (k : Int) < (n : Int) := by omega
        rw [hkn] at FE
        clear hlt2 hlt
        have HKN := Lib.hid hkn
        clear hkn
        go_upto_region 8 with fail
        have HC8 := Lib.hid (fun wx (hb : Below w4.heap.size w4 wx) => let h := HC.out wx (H4.out.trans (hb.mono H4.out.size)); let g := bcell hb; And.intro (h.1) (And.intro (h.2.1) (And.intro (h.2.2.1) (And.intro (h.2.2.2.1) (And.intro (h.2.2.2.2.1) (And.intro (h.2.2.2.2.2.1) (And.intro (h.2.2.2.2.2.2.1) (And.intro (h.2.2.2.2.2.2.2.1) (And.intro (h.2.2.2.2.2.2.2.2.1) (And.intro (h.2.2.2.2.2.2.2.2.2.1) (And.intro (h.2.2.2.2.2.2.2.2.2.2.1) (And.intro (h.2.2.2.2.2.2.2.2.2.2.2.1) (And.intro (h.2.2.2.2.2.2.2.2.2.2.2.2.1) (And.intro (h.2.2.2.2.2.2.2.2.2.2.2.2.2.1) (And.intro (h.2.2.2.2.2.2.2.2.2.2.2.2.2.2.1) (And.intro (h.2.2.2.2.2.2.2.2.2.2.2.2.2.2.2) (And.intro ((g.1 _ _ HPW.out.1).trans HP4.out.1) (And.intro ((g.1 _ _ HPW.out.1).trans HP4.out.2.1) (And.intro ((g.1 _ _ HPW.out.2).trans HP4.out.2.2.1) ((g.1 _ _ HPW.out.2).trans HP4.out.2.2.2))))))))))))))))))))
        clear c0 c1 c2 c3 c4 c5 c6 c7 c8 c9 c10 c11 z3_0 z3_1 z4_0 z4_1 paP pcP paQ pcQ
        have M1 := Lib.hid (fun wx => MN.out wx)
        have M2 := Lib.hid (fun wx => MN'.out wx)
        obtain ⟨f1, f2⟩ := FE.out
        have FF := Lib.hid (And.intro f1 f2)
        obtain ⟨ms, hms⟩ : ∃ v, mom ⟨s, ww, t, en⟩ [] S x = v := ⟨_, rfl⟩
        obtain ⟨ns, hns⟩ : ∃ v, mom ⟨s, ww, t, en⟩ [] T x = v := ⟨_, rfl⟩
        rw [hms, hns] at FF
        rw [hms] at M1
        rw [hns] at M2
        clear hms hns f1 f2 FE FS MO MO' MN MN'
        refine wp_region_rk [49, 50, 51, 52, 53, 54, 55, 56, 15, 16] [rEq (.agg #[.int .i64 s, .int .i64 ww, .int .i64 t, .int .i64 en]), rEq (.agg #[.slice none 0 0, .int .i64 S]), rEq (.int .i64 x), rEq (.int .i64 ms), rEq (.agg #[.int .i64 s, .int .i64 ww, .int .i64 t, .int .i64 en]), rEq (.agg #[.slice none 0 0, .int .i64 T]), rEq (.int .i64 x), rEq (.int .i64 ns), rEq (.int .i64 ms), rEq (.int .i64 ns)] (by kernel_rfl) (by kernel_rfl) (by decide) rfl ⟨?_, ?_, ?_, ?_, ?_, ?_, ?_, ?_, ?_, ?_, trivial⟩ ?_
        · intro ac wx hf hb hd -- 0
          have f4 : ac.tmps[4]?.getD undef = .pointer (some ⟨w.heap.size, 0, none⟩) := by rw [← Array.getD_eq_getD_getElem?]; exact hf.same 4 (by decide)
          obtain ⟨c0, c1, c2, c3, c4, c5, c6, c7, c8, c9, c10, c11, z3_0, z3_1, z4_0, z4_1, ka, kb, kc, kd⟩ := HC8.out wx hb
          exact rstep_eq (by simp [execOp, Act.eval, f4, c0, c1, c2, c3, go_sem]) rfl
        · intro ac wx hf hb hd -- 1
          have f13 : ac.tmps[13]?.getD undef = .pointer (some ⟨pP, 0, none⟩) := by rw [← Array.getD_eq_getD_getElem?]; exact hf.same 13 (by decide)
          obtain ⟨c0, c1, c2, c3, c4, c5, c6, c7, c8, c9, c10, c11, z3_0, z3_1, z4_0, z4_1, ka, kb, kc, kd⟩ := HC8.out wx hb
          exact rstep_eq (by simp [execOp, Act.eval, f13, ka, kb, go_sem]) rfl
        · intro ac wx hf hb hd -- 2
          have f3 : ac.tmps[3]?.getD undef = .int .i64 x := by rw [← Array.getD_eq_getD_getElem?]; exact hf.same 3 (by decide)
          exact rstep_eq (by simp [execOp, Act.eval, f3, go_sem]) rfl
        · intro ac wx hf hb hd -- 3
          have d0 : ac.tmps[49]?.getD undef = .agg #[.int .i64 s, .int .i64 ww, .int .i64 t, .int .i64 en] := by rw [← Array.getD_eq_getD_getElem?]; exact hd 0 (by decide)
          have d1 : ac.tmps[50]?.getD undef = .agg #[.slice none 0 0, .int .i64 S] := by rw [← Array.getD_eq_getD_getElem?]; exact hd 1 (by decide)
          have d2 : ac.tmps[51]?.getD undef = .int .i64 x := by rw [← Array.getD_eq_getD_getElem?]; exact hd 2 (by decide)
          refine rstep_call (f := 101) (args := #[.agg #[.int .i64 s, .int .i64 ww, .int .i64 t, .int .i64 en], .agg #[.slice none 0 0, .int .i64 S], .int .i64 x]) (by simp [Act.eval, d0, d1, d2, go_sem]) ?_ rfl
          exact (M1.out wx)
        · intro ac wx hf hb hd -- 4
          have f4 : ac.tmps[4]?.getD undef = .pointer (some ⟨w.heap.size, 0, none⟩) := by rw [← Array.getD_eq_getD_getElem?]; exact hf.same 4 (by decide)
          obtain ⟨c0, c1, c2, c3, c4, c5, c6, c7, c8, c9, c10, c11, z3_0, z3_1, z4_0, z4_1, ka, kb, kc, kd⟩ := HC8.out wx hb
          exact rstep_eq (by simp [execOp, Act.eval, f4, c0, c1, c2, c3, go_sem]) rfl
        · intro ac wx hf hb hd -- 5
          have f14 : ac.tmps[14]?.getD undef = .pointer (some ⟨pQ, 0, none⟩) := by rw [← Array.getD_eq_getD_getElem?]; exact hf.same 14 (by decide)
          obtain ⟨c0, c1, c2, c3, c4, c5, c6, c7, c8, c9, c10, c11, z3_0, z3_1, z4_0, z4_1, ka, kb, kc, kd⟩ := HC8.out wx hb
          exact rstep_eq (by simp [execOp, Act.eval, f14, kc, kd, go_sem]) rfl
        · intro ac wx hf hb hd -- 6
          have f3 : ac.tmps[3]?.getD undef = .int .i64 x := by rw [← Array.getD_eq_getD_getElem?]; exact hf.same 3 (by decide)
          exact rstep_eq (by simp [execOp, Act.eval, f3, go_sem]) rfl
        · intro ac wx hf hb hd -- 7
          have d4 : ac.tmps[53]?.getD undef = .agg #[.int .i64 s, .int .i64 ww, .int .i64 t, .int .i64 en] := by rw [← Array.getD_eq_getD_getElem?]; exact hd 4 (by decide)
          have d5 : ac.tmps[54]?.getD undef = .agg #[.slice none 0 0, .int .i64 T] := by rw [← Array.getD_eq_getD_getElem?]; exact hd 5 (by decide)
          have d6 : ac.tmps[55]?.getD undef = .int .i64 x := by rw [← Array.getD_eq_getD_getElem?]; exact hd 6 (by decide)
          refine rstep_call (f := 101) (args := #[.agg #[.int .i64 s, .int .i64 ww, .int .i64 t, .int .i64 en], .agg #[.slice none 0 0, .int .i64 T], .int .i64 x]) (by simp [Act.eval, d4, d5, d6, go_sem]) ?_ rfl
          exact (M2.out wx)
        · intro ac wx hf hb hd -- 8
          have d3 : ac.tmps[52]?.getD undef = .int .i64 ms := by rw [← Array.getD_eq_getD_getElem?]; exact hd 3 (by decide)
          exact rstep_eq (by simp [execOp, Act.eval, d3, go_sem]) rfl
        · intro ac wx hf hb hd -- 9
          have d7 : ac.tmps[56]?.getD undef = .int .i64 ns := by rw [← Array.getD_eq_getD_getElem?]; exact hd 7 (by decide)
          exact rstep_eq (by simp [execOp, Act.eval, d7, go_sem]) rfl
        rintro ⟨⟨ll⟩, df⟩ wx hf hb hall
        have hdf : df = [] := hf.defers
        subst hdf
        have hsz : ll.length = 77 := hf.size
        obtain ⟨x0, ll0, rfl, hsz0⟩ := cons_of hsz
        obtain ⟨x1, ll1, rfl, hsz1⟩ := cons_of hsz0
        obtain ⟨x2, ll2, rfl, hsz2⟩ := cons_of hsz1
        obtain ⟨x3, ll3, rfl, hsz3⟩ := cons_of hsz2
        obtain ⟨x4, ll4, rfl, hsz4⟩ := cons_of hsz3
        obtain ⟨x5, ll5, rfl, hsz5⟩ := cons_of hsz4
        obtain ⟨x6, ll6, rfl, hsz6⟩ := cons_of hsz5
        obtain ⟨x7, ll7, rfl, hsz7⟩ := cons_of hsz6
        obtain ⟨x8, ll8, rfl, hsz8⟩ := cons_of hsz7
        obtain ⟨x9, ll9, rfl, hsz9⟩ := cons_of hsz8
        obtain ⟨x10, ll10, rfl, hsz10⟩ := cons_of hsz9
        obtain ⟨x11, ll11, rfl, hsz11⟩ := cons_of hsz10
        obtain ⟨x12, ll12, rfl, hsz12⟩ := cons_of hsz11
        obtain ⟨x13, ll13, rfl, hsz13⟩ := cons_of hsz12
        obtain ⟨x14, ll14, rfl, hsz14⟩ := cons_of hsz13
        obtain ⟨x15, ll15, rfl, hsz15⟩ := cons_of hsz14
        obtain ⟨x16, ll16, rfl, hsz16⟩ := cons_of hsz15
        obtain ⟨x17, ll17, rfl, hsz17⟩ := cons_of hsz16
        obtain ⟨x18, ll18, rfl, hsz18⟩ := cons_of hsz17
        obtain ⟨x19, ll19, rfl, hsz19⟩ := cons_of hsz18
        obtain ⟨x20, ll20, rfl, hsz20⟩ := cons_of hsz19
        obtain ⟨x21, ll21, rfl, hsz21⟩ := cons_of hsz20
        obtain ⟨x22, ll22, rfl, hsz22⟩ := cons_of hsz21
        obtain ⟨x23, ll23, rfl, hsz23⟩ := cons_of hsz22
        obtain ⟨x24, ll24, rfl, hsz24⟩ := cons_of hsz23
        obtain ⟨x25, ll25, rfl, hsz25⟩ := cons_of hsz24
        obtain ⟨x26, ll26, rfl, hsz26⟩ := cons_of hsz25
        obtain ⟨x27, ll27, rfl, hsz27⟩ := cons_of hsz26
        obtain ⟨x28, ll28, rfl, hsz28⟩ := cons_of hsz27
        obtain ⟨x29, ll29, rfl, hsz29⟩ := cons_of hsz28
        obtain ⟨x30, ll30, rfl, hsz30⟩ := cons_of hsz29
        obtain ⟨x31, ll31, rfl, hsz31⟩ := cons_of hsz30
        obtain ⟨x32, ll32, rfl, hsz32⟩ := cons_of hsz31
        obtain ⟨x33, ll33, rfl, hsz33⟩ := cons_of hsz32
        obtain ⟨x34, ll34, rfl, hsz34⟩ := cons_of hsz33
        obtain ⟨x35, ll35, rfl, hsz35⟩ := cons_of hsz34
        obtain ⟨x36, ll36, rfl, hsz36⟩ := cons_of hsz35
        obtain ⟨x37, ll37, rfl, hsz37⟩ := cons_of hsz36
        obtain ⟨x38, ll38, rfl, hsz38⟩ := cons_of hsz37
        obtain ⟨x39, ll39, rfl, hsz39⟩ := cons_of hsz38
        obtain ⟨x40, ll40, rfl, hsz40⟩ := cons_of hsz39
        obtain ⟨x41, ll41, rfl, hsz41⟩ := cons_of hsz40
        obtain ⟨x42, ll42, rfl, hsz42⟩ := cons_of hsz41
        obtain ⟨x43, ll43, rfl, hsz43⟩ := cons_of hsz42
        obtain ⟨x44, ll44, rfl, hsz44⟩ := cons_of hsz43
        obtain ⟨x45, ll45, rfl, hsz45⟩ := cons_of hsz44
        obtain ⟨x46, ll46, rfl, hsz46⟩ := cons_of hsz45
        obtain ⟨x47, ll47, rfl, hsz47⟩ := cons_of hsz46
        obtain ⟨x48, ll48, rfl, hsz48⟩ := cons_of hsz47
        obtain ⟨x49, ll49, rfl, hsz49⟩ := cons_of hsz48
        obtain ⟨x50, ll50, rfl, hsz50⟩ := cons_of hsz49
        obtain ⟨x51, ll51, rfl, hsz51⟩ := cons_of hsz50
        obtain ⟨x52, ll52, rfl, hsz52⟩ := cons_of hsz51
        obtain ⟨x53, ll53, rfl, hsz53⟩ := cons_of hsz52
        obtain ⟨x54, ll54, rfl, hsz54⟩ := cons_of hsz53
        obtain ⟨x55, ll55, rfl, hsz55⟩ := cons_of hsz54
        obtain ⟨x56, ll56, rfl, hsz56⟩ := cons_of hsz55
        obtain ⟨x57, ll57, rfl, hsz57⟩ := cons_of hsz56
        obtain ⟨x58, ll58, rfl, hsz58⟩ := cons_of hsz57
        obtain ⟨x59, ll59, rfl, hsz59⟩ := cons_of hsz58
        obtain ⟨x60, ll60, rfl, hsz60⟩ := cons_of hsz59
        obtain ⟨x61, ll61, rfl, hsz61⟩ := cons_of hsz60
        obtain ⟨x62, ll62, rfl, hsz62⟩ := cons_of hsz61
        obtain ⟨x63, ll63, rfl, hsz63⟩ := cons_of hsz62
        obtain ⟨x64, ll64, rfl, hsz64⟩ := cons_of hsz63
        obtain ⟨x65, ll65, rfl, hsz65⟩ := cons_of hsz64
        obtain ⟨x66, ll66, rfl, hsz66⟩ := cons_of hsz65
        obtain ⟨x67, ll67, rfl, hsz67⟩ := cons_of hsz66
        obtain ⟨x68, ll68, rfl, hsz68⟩ := cons_of hsz67
        obtain ⟨x69, ll69, rfl, hsz69⟩ := cons_of hsz68
        obtain ⟨x70, ll70, rfl, hsz70⟩ := cons_of hsz69
        obtain ⟨x71, ll71, rfl, hsz71⟩ := cons_of hsz70
        obtain ⟨x72, ll72, rfl, hsz72⟩ := cons_of hsz71
        obtain ⟨x73, ll73, rfl, hsz73⟩ := cons_of hsz72
        obtain ⟨x74, ll74, rfl, hsz74⟩ := cons_of hsz73
        obtain ⟨x75, ll75, rfl, hsz75⟩ := cons_of hsz74
        obtain ⟨x76, ll76, rfl, hsz76⟩ := cons_of hsz75
        obtain rfl := List.eq_nil_of_length_eq_zero hsz76
        obtain rfl : x0 = .agg #[.int .i64 s, .int .i64 ww, .int .i64 t, .int .i64 en] := hf.same 0 (by decide)
        obtain rfl : x1 = .agg #[.slice A n c, .int .i64 S] := hf.same 1 (by decide)
        obtain rfl : x2 = .agg #[.slice A' n c', .int .i64 T] := hf.same 2 (by decide)
        obtain rfl : x3 = .int .i64 x := hf.same 3 (by decide)
        obtain rfl : x4 = .pointer (some ⟨w.heap.size, 0, none⟩) := hf.same 4 (by decide)
        obtain rfl : x5 = .pointer (some ⟨w.heap.size + 1, 0, none⟩) := hf.same 5 (by decide)
        obtain rfl : x6 = .pointer (some ⟨w.heap.size + 2, 0, none⟩) := hf.same 6 (by decide)
        obtain rfl : x7 = undef := hf.same 7 (by decide)
        obtain rfl : x8 = .pointer (some ⟨w.heap.size + 3, 0, none⟩) := hf.same 8 (by decide)
        obtain rfl : x9 = .pointer (some ⟨w.heap.size + 4, 0, none⟩) := hf.same 9 (by decide)
        obtain rfl : x10 = .int .i64 (LO k) := hf.same 10 (by decide)
        obtain rfl : x11 = .int .i64 (HI k) := hf.same 11 (by decide)
        obtain rfl : x12 = .int .i64 (k : Int) := hf.same 12 (by decide)
        obtain rfl : x13 = .pointer (some ⟨pP, 0, none⟩) := hf.same 13 (by decide)
        obtain rfl : x14 = .pointer (some ⟨pQ, 0, none⟩) := hf.same 14 (by decide)
        obtain rfl : x15 = .int .i64 ms := hall 8 15 rfl
        obtain rfl : x16 = .int .i64 ns := hall 9 16 rfl
        obtain rfl : x49 = .agg #[.int .i64 s, .int .i64 ww, .int .i64 t, .int .i64 en] := hall 0 49 rfl
        obtain rfl : x50 = .agg #[.slice none 0 0, .int .i64 S] := hall 1 50 rfl
        obtain rfl : x51 = .int .i64 x := hall 2 51 rfl
        obtain rfl : x52 = .int .i64 ms := hall 3 52 rfl
        obtain rfl : x53 = .agg #[.int .i64 s, .int .i64 ww, .int .i64 t, .int .i64 en] := hall 4 53 rfl
        obtain rfl : x54 = .agg #[.slice none 0 0, .int .i64 T] := hall 5 54 rfl
        obtain rfl : x55 = .int .i64 x := hall 6 55 rfl
        obtain rfl : x56 = .int .i64 ns := hall 7 56 rfl
        obtain rfl : x67 = undef := hf.same 67 (by decide)
        obtain rfl : x68 = undef := hf.same 68 (by decide)
        obtain rfl : x69 = undef := hf.same 69 (by decide)
        obtain rfl : x70 = undef := hf.same 70 (by decide)
        obtain rfl : x71 = undef := hf.same 71 (by decide)
        obtain rfl : x72 = undef := hf.same 72 (by decide)
        obtain rfl : x73 = undef := hf.same 73 (by decide)
        obtain rfl : x74 = undef := hf.same 74 (by decide)
        obtain rfl : x75 = undef := hf.same 75 (by decide)
        obtain rfl : x76 = undef := hf.same 76 (by decide)
        clear hall hf
        clear hsz hsz0 hsz1 hsz2 hsz3 hsz4 hsz5 hsz6 hsz7 hsz8 hsz9 hsz10 hsz11 hsz12 hsz13 hsz14 hsz15 hsz16 hsz17 hsz18 hsz19 hsz20 hsz21 hsz22 hsz23 hsz24 hsz25 hsz26 hsz27 hsz28 hsz29 hsz30 hsz31 hsz32 hsz33 hsz34 hsz35 hsz36 hsz37 hsz38 hsz39 hsz40 hsz41 hsz42 hsz43 hsz44 hsz45 hsz46 hsz47 hsz48 hsz49 hsz50 hsz51 hsz52 hsz53 hsz54 hsz55 hsz56 hsz57 hsz58 hsz59 hsz60 hsz61 hsz62 hsz63 hsz64 hsz65 hsz66 hsz67 hsz68 hsz69 hsz70 hsz71 hsz72 hsz73 hsz74 hsz75 hsz76
        go_wp2
        all_goals (
          refine ⟨⟨_, _, _, ⟨k + 1, by omega, rfl, rfl, rfl, H4.out.trans (hb.mono H4.out.size)⟩, wsum (by have := FF.out.1; omega) fb.1, wsum (by have := FF.out.2; omega) fb.2, by go_num⟩, by simp [intOf]; omega⟩)
    · have hkn : n + 1 = k := by omega
      have hki : ¬ (k : Int) ≤ (n : Int) := by omega
      have HCr := Lib.hid (fun wy (hy : Below wr.heap.size wr wy) => HC.out wy (HB.out.trans (hy.mono HB.out.size)))
      go_upto_region 10 with fail
      clear c0 c1 c2 c3 c4 c5 c6 c7 c8 c9 c10 c11 z3_0 z3_1 z4_0 z4_1 FE FS MO MO' MN MN'
      have LA2 := LA
      have LZ2 := LZ
      rw [hkn] at LA2 LZ2
      have hw2 : wrap64 (2 * s) = 2 * s := w64 (by omega)
      have hw3 : IntKind.i64.wrap (2 * s) = 2 * s := (by rw [IntKind.wrap_i64]; omega)
      obtain ⟨an, han⟩ : ∃ v, lowN (LO k) (2 * s) = v := ⟨_, rfl⟩
      obtain ⟨ad, had⟩ : ∃ v, lowD (LO k) (2 * s) = v := ⟨_, rfl⟩
      obtain ⟨zn, hzn⟩ : ∃ v, lowN (HI k) (2 * s) = v := ⟨_, rfl⟩
      obtain ⟨zd, hzd⟩ : ∃ v, lowD (HI k) (2 * s) = v := ⟨_, rfl⟩
      have S1 : frV (LO k) (2 * s) = .agg #[.int .i64 an, .int .i64 ad] := by unfold frV; rw [han, had]
      have S2 : frV (HI k) (2 * s) = .agg #[.int .i64 zn, .int .i64 zd] := by unfold frV; rw [hzn, hzd]
      rw [S1] at LA2
      rw [S2] at LZ2
      rw [← hkn] at S1 S2
      have HS := Lib.hid (And.intro S1 S2)
      clear S1 S2 han had hzn hzd hkn LA LZ
      refine wp_region_tail [67, 68, 69, 70, 71, 72, 73, 74, 75, 76] [rEq (.int .i64 (LO k)), rEq (.pointer (some ⟨w.heap.size, 0, none⟩)), rEq (.int .i64 s), rEq (.int .i64 (2 * s)), rEq (.agg #[.int .i64 an, .int .i64 ad]), rEq (.int .i64 (HI k)), rEq (.pointer (some ⟨w.heap.size, 0, none⟩)), rEq (.int .i64 s), rEq (.int .i64 (2 * s)), rEq (.agg #[.int .i64 zn, .int .i64 zd])] (by kernel_rfl) (by kernel_rfl) (by decide) (by decide +kernel) ⟨?_, ?_, ?_, ?_, ?_, ?_, ?_, ?_, ?_, ?_, trivial⟩ ?_
      · intro ac wx hf hb hd -- 0
        have f10 : ac.tmps[10]?.getD undef = .int .i64 (LO k) := by rw [← Array.getD_eq_getD_getElem?]; exact hf.same 10 (by decide)
        exact rstep_eq (by simp [execOp, Act.eval, f10, go_sem]) rfl
      · intro ac wx hf hb hd -- 1
        have f4 : ac.tmps[4]?.getD undef = .pointer (some ⟨w.heap.size, 0, none⟩) := by rw [← Array.getD_eq_getD_getElem?]; exact hf.same 4 (by decide)
        exact rstep_eq (by simp [execOp, Act.eval, f4, go_sem]) rfl
      · intro ac wx hf hb hd -- 2
        have d1 : ac.tmps[68]?.getD undef = .pointer (some ⟨w.heap.size, 0, none⟩) := by rw [← Array.getD_eq_getD_getElem?]; exact hd 1 (by decide)
        obtain ⟨c0, c1, c2, c3, c4, c5, c6, c7, c8, c9, c10, c11, z3_0, z3_1, z4_0, z4_1⟩ := HCr.out wx hb
        exact rstep_eq (by simp [execOp, Act.eval, d1, c0, go_sem]) rfl
      · intro ac wx hf hb hd -- 3
        have d2 : ac.tmps[69]?.getD undef = .int .i64 s := by rw [← Array.getD_eq_getD_getElem?]; exact hd 2 (by decide)
        exact rstep_eq (by simp [execOp, Act.eval, d2, hw2, hw3, go_sem]) rfl
      · intro ac wx hf hb hd -- 4
        have d0 : ac.tmps[67]?.getD undef = .int .i64 (LO k) := by rw [← Array.getD_eq_getD_getElem?]; exact hd 0 (by decide)
        have d3 : ac.tmps[70]?.getD undef = .int .i64 (2 * s) := by rw [← Array.getD_eq_getD_getElem?]; exact hd 3 (by decide)
        refine rstep_call (f := 89) (args := #[.int .i64 (LO k), .int .i64 (2 * s)]) (by simp [Act.eval, d0, d3, go_sem]) ?_ rfl
        exact (LA2.out wx)
      · intro ac wx hf hb hd -- 5
        have f11 : ac.tmps[11]?.getD undef = .int .i64 (HI k) := by rw [← Array.getD_eq_getD_getElem?]; exact hf.same 11 (by decide)
        exact rstep_eq (by simp [execOp, Act.eval, f11, go_sem]) rfl
      · intro ac wx hf hb hd -- 6
        have f4 : ac.tmps[4]?.getD undef = .pointer (some ⟨w.heap.size, 0, none⟩) := by rw [← Array.getD_eq_getD_getElem?]; exact hf.same 4 (by decide)
        exact rstep_eq (by simp [execOp, Act.eval, f4, go_sem]) rfl
      · intro ac wx hf hb hd -- 7
        have d6 : ac.tmps[73]?.getD undef = .pointer (some ⟨w.heap.size, 0, none⟩) := by rw [← Array.getD_eq_getD_getElem?]; exact hd 6 (by decide)
        obtain ⟨c0, c1, c2, c3, c4, c5, c6, c7, c8, c9, c10, c11, z3_0, z3_1, z4_0, z4_1⟩ := HCr.out wx hb
        exact rstep_eq (by simp [execOp, Act.eval, d6, c0, go_sem]) rfl
      · intro ac wx hf hb hd -- 8
        have d7 : ac.tmps[74]?.getD undef = .int .i64 s := by rw [← Array.getD_eq_getD_getElem?]; exact hd 7 (by decide)
        exact rstep_eq (by simp [execOp, Act.eval, d7, hw2, hw3, go_sem]) rfl
      · intro ac wx hf hb hd -- 9
        have d5 : ac.tmps[72]?.getD undef = .int .i64 (HI k) := by rw [← Array.getD_eq_getD_getElem?]; exact hd 5 (by decide)
        have d8 : ac.tmps[75]?.getD undef = .int .i64 (2 * s) := by rw [← Array.getD_eq_getD_getElem?]; exact hd 8 (by decide)
        refine rstep_call (f := 89) (args := #[.int .i64 (HI k), .int .i64 (2 * s)]) (by simp [Act.eval, d5, d8, go_sem]) ?_ rfl
        exact (LZ2.out wx)
      rintro ⟨⟨ll⟩, df⟩ w6 hf hbw6 hall
      have hdf : df = [] := hf.defers
      subst hdf
      have hsz : ll.length = 77 := hf.size
      obtain ⟨x0, ll0, rfl, hsz0⟩ := cons_of hsz
      obtain ⟨x1, ll1, rfl, hsz1⟩ := cons_of hsz0
      obtain ⟨x2, ll2, rfl, hsz2⟩ := cons_of hsz1
      obtain ⟨x3, ll3, rfl, hsz3⟩ := cons_of hsz2
      obtain ⟨x4, ll4, rfl, hsz4⟩ := cons_of hsz3
      obtain ⟨x5, ll5, rfl, hsz5⟩ := cons_of hsz4
      obtain ⟨x6, ll6, rfl, hsz6⟩ := cons_of hsz5
      obtain ⟨x7, ll7, rfl, hsz7⟩ := cons_of hsz6
      obtain ⟨x8, ll8, rfl, hsz8⟩ := cons_of hsz7
      obtain ⟨x9, ll9, rfl, hsz9⟩ := cons_of hsz8
      obtain ⟨x10, ll10, rfl, hsz10⟩ := cons_of hsz9
      obtain ⟨x11, ll11, rfl, hsz11⟩ := cons_of hsz10
      obtain ⟨x12, ll12, rfl, hsz12⟩ := cons_of hsz11
      obtain ⟨x13, ll13, rfl, hsz13⟩ := cons_of hsz12
      obtain ⟨x14, ll14, rfl, hsz14⟩ := cons_of hsz13
      obtain ⟨x15, ll15, rfl, hsz15⟩ := cons_of hsz14
      obtain ⟨x16, ll16, rfl, hsz16⟩ := cons_of hsz15
      obtain ⟨x17, ll17, rfl, hsz17⟩ := cons_of hsz16
      obtain ⟨x18, ll18, rfl, hsz18⟩ := cons_of hsz17
      obtain ⟨x19, ll19, rfl, hsz19⟩ := cons_of hsz18
      obtain ⟨x20, ll20, rfl, hsz20⟩ := cons_of hsz19
      obtain ⟨x21, ll21, rfl, hsz21⟩ := cons_of hsz20
      obtain ⟨x22, ll22, rfl, hsz22⟩ := cons_of hsz21
      obtain ⟨x23, ll23, rfl, hsz23⟩ := cons_of hsz22
      obtain ⟨x24, ll24, rfl, hsz24⟩ := cons_of hsz23
      obtain ⟨x25, ll25, rfl, hsz25⟩ := cons_of hsz24
      obtain ⟨x26, ll26, rfl, hsz26⟩ := cons_of hsz25
      obtain ⟨x27, ll27, rfl, hsz27⟩ := cons_of hsz26
      obtain ⟨x28, ll28, rfl, hsz28⟩ := cons_of hsz27
      obtain ⟨x29, ll29, rfl, hsz29⟩ := cons_of hsz28
      obtain ⟨x30, ll30, rfl, hsz30⟩ := cons_of hsz29
      obtain ⟨x31, ll31, rfl, hsz31⟩ := cons_of hsz30
      obtain ⟨x32, ll32, rfl, hsz32⟩ := cons_of hsz31
      obtain ⟨x33, ll33, rfl, hsz33⟩ := cons_of hsz32
      obtain ⟨x34, ll34, rfl, hsz34⟩ := cons_of hsz33
      obtain ⟨x35, ll35, rfl, hsz35⟩ := cons_of hsz34
      obtain ⟨x36, ll36, rfl, hsz36⟩ := cons_of hsz35
      obtain ⟨x37, ll37, rfl, hsz37⟩ := cons_of hsz36
      obtain ⟨x38, ll38, rfl, hsz38⟩ := cons_of hsz37
      obtain ⟨x39, ll39, rfl, hsz39⟩ := cons_of hsz38
      obtain ⟨x40, ll40, rfl, hsz40⟩ := cons_of hsz39
      obtain ⟨x41, ll41, rfl, hsz41⟩ := cons_of hsz40
      obtain ⟨x42, ll42, rfl, hsz42⟩ := cons_of hsz41
      obtain ⟨x43, ll43, rfl, hsz43⟩ := cons_of hsz42
      obtain ⟨x44, ll44, rfl, hsz44⟩ := cons_of hsz43
      obtain ⟨x45, ll45, rfl, hsz45⟩ := cons_of hsz44
      obtain ⟨x46, ll46, rfl, hsz46⟩ := cons_of hsz45
      obtain ⟨x47, ll47, rfl, hsz47⟩ := cons_of hsz46
      obtain ⟨x48, ll48, rfl, hsz48⟩ := cons_of hsz47
      obtain ⟨x49, ll49, rfl, hsz49⟩ := cons_of hsz48
      obtain ⟨x50, ll50, rfl, hsz50⟩ := cons_of hsz49
      obtain ⟨x51, ll51, rfl, hsz51⟩ := cons_of hsz50
      obtain ⟨x52, ll52, rfl, hsz52⟩ := cons_of hsz51
      obtain ⟨x53, ll53, rfl, hsz53⟩ := cons_of hsz52
      obtain ⟨x54, ll54, rfl, hsz54⟩ := cons_of hsz53
      obtain ⟨x55, ll55, rfl, hsz55⟩ := cons_of hsz54
      obtain ⟨x56, ll56, rfl, hsz56⟩ := cons_of hsz55
      obtain ⟨x57, ll57, rfl, hsz57⟩ := cons_of hsz56
      obtain ⟨x58, ll58, rfl, hsz58⟩ := cons_of hsz57
      obtain ⟨x59, ll59, rfl, hsz59⟩ := cons_of hsz58
      obtain ⟨x60, ll60, rfl, hsz60⟩ := cons_of hsz59
      obtain ⟨x61, ll61, rfl, hsz61⟩ := cons_of hsz60
      obtain ⟨x62, ll62, rfl, hsz62⟩ := cons_of hsz61
      obtain ⟨x63, ll63, rfl, hsz63⟩ := cons_of hsz62
      obtain ⟨x64, ll64, rfl, hsz64⟩ := cons_of hsz63
      obtain ⟨x65, ll65, rfl, hsz65⟩ := cons_of hsz64
      obtain ⟨x66, ll66, rfl, hsz66⟩ := cons_of hsz65
      obtain ⟨x67, ll67, rfl, hsz67⟩ := cons_of hsz66
      obtain ⟨x68, ll68, rfl, hsz68⟩ := cons_of hsz67
      obtain ⟨x69, ll69, rfl, hsz69⟩ := cons_of hsz68
      obtain ⟨x70, ll70, rfl, hsz70⟩ := cons_of hsz69
      obtain ⟨x71, ll71, rfl, hsz71⟩ := cons_of hsz70
      obtain ⟨x72, ll72, rfl, hsz72⟩ := cons_of hsz71
      obtain ⟨x73, ll73, rfl, hsz73⟩ := cons_of hsz72
      obtain ⟨x74, ll74, rfl, hsz74⟩ := cons_of hsz73
      obtain ⟨x75, ll75, rfl, hsz75⟩ := cons_of hsz74
      obtain ⟨x76, ll76, rfl, hsz76⟩ := cons_of hsz75
      obtain rfl := List.eq_nil_of_length_eq_zero hsz76
      obtain rfl : x0 = .agg #[.int .i64 s, .int .i64 ww, .int .i64 t, .int .i64 en] := hf.same 0 (by decide)
      obtain rfl : x1 = .agg #[.slice A n c, .int .i64 S] := hf.same 1 (by decide)
      obtain rfl : x2 = .agg #[.slice A' n c', .int .i64 T] := hf.same 2 (by decide)
      obtain rfl : x3 = .int .i64 x := hf.same 3 (by decide)
      obtain rfl : x4 = .pointer (some ⟨w.heap.size, 0, none⟩) := hf.same 4 (by decide)
      obtain rfl : x5 = .pointer (some ⟨w.heap.size + 1, 0, none⟩) := hf.same 5 (by decide)
      obtain rfl : x6 = .pointer (some ⟨w.heap.size + 2, 0, none⟩) := hf.same 6 (by decide)
      obtain rfl : x7 = undef := hf.same 7 (by decide)
      obtain rfl : x8 = .pointer (some ⟨w.heap.size + 3, 0, none⟩) := hf.same 8 (by decide)
      obtain rfl : x9 = .pointer (some ⟨w.heap.size + 4, 0, none⟩) := hf.same 9 (by decide)
      obtain rfl : x10 = .int .i64 (LO k) := hf.same 10 (by decide)
      obtain rfl : x11 = .int .i64 (HI k) := hf.same 11 (by decide)
      obtain rfl : x12 = .int .i64 (k : Int) := hf.same 12 (by decide)
      obtain rfl : x67 = .int .i64 (LO k) := hall 0 67 rfl
      obtain rfl : x68 = .pointer (some ⟨w.heap.size, 0, none⟩) := hall 1 68 rfl
      obtain rfl : x69 = .int .i64 s := hall 2 69 rfl
      obtain rfl : x70 = .int .i64 (2 * s) := hall 3 70 rfl
      obtain rfl : x71 = .agg #[.int .i64 an, .int .i64 ad] := hall 4 71 rfl
      obtain rfl : x72 = .int .i64 (HI k) := hall 5 72 rfl
      obtain rfl : x73 = .pointer (some ⟨w.heap.size, 0, none⟩) := hall 6 73 rfl
      obtain rfl : x74 = .int .i64 s := hall 7 74 rfl
      obtain rfl : x75 = .int .i64 (2 * s) := hall 8 75 rfl
      obtain rfl : x76 = .agg #[.int .i64 zn, .int .i64 zd] := hall 9 76 rfl
      clear hall hf
      clear hsz hsz0 hsz1 hsz2 hsz3 hsz4 hsz5 hsz6 hsz7 hsz8 hsz9 hsz10 hsz11 hsz12 hsz13 hsz14 hsz15 hsz16 hsz17 hsz18 hsz19 hsz20 hsz21 hsz22 hsz23 hsz24 hsz25 hsz26 hsz27 hsz28 hsz29 hsz30 hsz31 hsz32 hsz33 hsz34 hsz35 hsz36 hsz37 hsz38 hsz39 hsz40 hsz41 hsz42 hsz43 hsz44 hsz45 hsz46 hsz47 hsz48 hsz49 hsz50 hsz51 hsz52 hsz53 hsz54 hsz55 hsz56 hsz57 hsz58 hsz59 hsz60 hsz61 hsz62 hsz63 hsz64 hsz65 hsz66 hsz67 hsz68 hsz69 hsz70 hsz71 hsz72 hsz73 hsz74 hsz75 hsz76
      obtain ⟨c0, c1, c2, c3, c4, c5, c6, c7, c8, c9, c10, c11, z3_0, z3_1, z4_0, z4_1⟩ := HCr.out w6 hbw6
      simp [wpSeq_cons, wpSeq_nil, Oper.wp, Oper.upon, execOp, Act.eval, go_sem, c8, c9, c10, c11, z3_0, z3_1, z4_0, z4_1]
      go_wp2
      refine bodyPost_ret (v := .tuple #[.agg #[.int .i64 an, .int .i64 ad], .agg #[.int .i64 zn, .int .i64 zd]]) (by simp [results, Try.results49, go_sem, c8, c9, c10, c11]) rfl ⟨by rw [HS.out.1, HS.out.2], ?_⟩
      exact (((((HBW.out.trans (hbw6.mono HBW.out.size)).setCell (p := ⟨w.heap.size + 3, 0, none⟩) (by simp) _).setCell (p := ⟨w.heap.size + 3, 1, none⟩) (by simp) _).setCell (p := ⟨w.heap.size + 4, 0, none⟩) (by simp) _).setCell (p := ⟨w.heap.size + 4, 1, none⟩) (by simp) _)
end Go.Proofs.Ytablphoicidlkaa
