/- The reference of beams: twice the reactions. -/
import Derived.Test.YtablphoicidlkaaCA
namespace Go.Proofs.Ytablphoicidlkaa
open Go.RowKit

def twR0 (s : Int) (p : Pt) : Int := 2 * p.n * (s - p.a)
def twR1 (s : Int) (p : Pt) : Int := 2 * p.n * s
def twM1 (p : Pt) : Int := -(2 * p.n * p.a)
theorem sumL_scale {α : Type} {f : α → Int} {k : Int} : ∀ {l : List α}, sumL (fun x => f x * k) l = sumL f l * k
  | [] => by show (0 : Int) = 0 * k; rw [Int.zero_mul]
  | x :: r => by
    have b := sumL_scale (f := f) (k := k) (l := r)
    show f x * k + sumL (fun x => f x * k) r = (f x + sumL f r) * k
    rw [b, Int.add_mul]
def twR (b : Bm) (l : List Pt) (S : Int) : Int := bif b.e == 1 then sumL (twR1 b.s) l + 2 * S * b.s else sumL (twR0 b.s) l + S * b.s
def twM (b : Bm) (l : List Pt) (S : Int) : Int := bif b.e == 1 then sumL twM1 l - S * b.s else 0
theorem twR_eq (b : Bm) (l : List Pt) (S : Int) : twR b l S = frR b l S := by
  unfold twR frR spR
  cases h : b.e == 1
  · have e : sumL (ptR b) l = sumL (twR0 b.s) l := sumL_congr fun p _ => by unfold ptR twR0; rw [h]; rfl
    rw [e, cond_false, cond_false]; omega
  · have e : sumL (ptR b) l = sumL (twR1 b.s) l := sumL_congr fun p _ => by unfold ptR twR1; rw [h]; show 2 * b.s * p.n = _; grind
    rw [e, cond_true, cond_true]; grind
theorem twM_eq (b : Bm) (l : List Pt) (S : Int) : twM b l S * b.s = frM b l S := by
  unfold twM frM spM
  cases h : b.e == 1
  · have e : sumL (ptM b) l = sumL (fun _ => (0 : Int)) l := sumL_congr fun p _ => by unfold ptM; rw [h]; rfl
    have z : ∀ l : List Pt, sumL (fun _ => (0 : Int)) l = 0 := by
      intro l
      induction l with
      | nil => rfl
      | cons x r ih => show 0 + sumL (fun _ => (0 : Int)) r = 0; rw [ih]; rfl
    rw [e, z, cond_false, cond_false]; omega
  · have e : sumL (ptM b) l = sumL (fun p => twM1 p * b.s) l := sumL_congr fun p _ => by unfold ptM twM1; rw [h]; show -2 * b.s * p.n * p.a = _; grind
    rw [e, sumL_scale, cond_true, cond_true]; grind
theorem tw_bd {s : Int} {l : List Pt} {S : Int} (s0 : 1 ≤ s) (s1 : s ≤ 2000) (h : WtOk s l S) (k : Nat) : (sumL (twR0 s) (l.take k)).natAbs ≤ 200000000 ∧ (sumL (twR1 s) (l.take k)).natAbs ≤ 200000000 ∧ (sumL twM1 (l.take k)).natAbs ≤ 200000000 := by
  have E1 : Ev s s 2000 := .of (by omega)
  have hl : (l.take k).length ≤ 8 := Nat.le_trans (List.length_take_le' ..) h.len
  have hp : ∀ p ∈ l.take k, Ev p.n p.n 2000 ∧ Ev p.a p.a 2000 := fun p hp => by
    have hq := h.pt p (List.mem_of_mem_take hp)
    exact ⟨.of (by have := hq.n0; have := hq.n1; omega), .of (by have := hq.a0; have := hq.a1; omega)⟩
  have h1 := sumL_bd8 (f := twR0 s) (B := 16000000) hl (fun p q => ev_bd (Ev.mul (Ev.mul (Ev.lit 2) (hp p q).1) (Ev.sub E1 (hp p q).2)) (by decide +kernel))
  have h2 := sumL_bd8 (f := twR1 s) (B := 16000000) hl (fun p q => ev_bd (Ev.mul (Ev.mul (Ev.lit 2) (hp p q).1) E1) (by decide +kernel))
  have h3 := sumL_bd8 (f := twM1) (B := 16000000) hl (fun p q => ev_bd (Ev.neg (Ev.mul (Ev.mul (Ev.lit 2) (hp p q).1) (hp p q).2)) (by decide +kernel))
  omega
set_option maxHeartbeats 8000000 in
set_option maxRecDepth 20000 in
theorem rtwice0_any {s ww t : Int} {A : Option Addr} {n c : Nat} {S : Int} {l : List Pt} (s0 : 1 ≤ s) (s1 : s ≤ 2000) (hl : WtOk s l S) (w : World) (h : PtRow w A n l) :
    Calls Try.prog 98 #[.agg #[.int .i64 s, .int .i64 ww, .int .i64 t, .int .i64 0], buV A n c S] w fun e w' => e = .returned (.tuple #[.int .i64 (sumL (twR0 s) l + S * s), .int .i64 (0)]) ∧ Below w.heap.size w w' := by
  have HR := Lib.hid h
  have hle : l.length ≤ n := by have := h.1; omega
  have hge : n ≤ l.length := by have := h.1; omega
  have HWT := Lib.hid hl
  have hn8 : n ≤ 8 := by have := hl.len; omega
  have HBD := Lib.hid (tw_bd s0 s1 hl)
  have hS0 := hl.S0; have hS1 := hl.S1
  have E1 : Ev s s 2000 := .of (by omega)
  have E3 : Ev S S 20000 := .of (by omega)
  clear h hl
  unfold buV
  go_enter Try.func98, Try.ntmps98
  go_upto_region 1 with fail
  obtain ⟨w0, hw0⟩ : ∃ w0, ((w.alloc (.cells #[.int .i64 s, .int .i64 ww, .int .i64 t, .int .i64 0] 23)).alloc (.cells #[.slice A n c, .int .i64 S] 26)) = w0 := ⟨_, rfl⟩
  have HB0 : Hid (Below w.heap.size w w0) := Lib.hid (by rw [← hw0]; exact (((Below.refl _ _).alloc (Nat.le_refl _) _).alloc (by simp; try omega) _))
  have HC := Lib.hid (fun wx (hb : Below w0.heap.size w0 wx) => (show wx.cell? ⟨w.heap.size, 0, none⟩ = some (.int .i64 s) ∧ wx.cell? ⟨w.heap.size, 1, none⟩ = some (.int .i64 ww) ∧ wx.cell? ⟨w.heap.size, 2, none⟩ = some (.int .i64 t) ∧ wx.cell? ⟨w.heap.size, 3, none⟩ = some (.int .i64 0) ∧ wx.cell? ⟨w.heap.size + 1, 0, none⟩ = some (.slice A n c) ∧ wx.cell? ⟨w.heap.size + 1, 1, none⟩ = some (.int .i64 S) from by
    subst hw0
    obtain ⟨k, kf⟩ := bcell hb
    exact ⟨(k _ _ (by simp; try omega)).trans (by simp [go_sem]), (k _ _ (by simp; try omega)).trans (by simp [go_sem]), (k _ _ (by simp; try omega)).trans (by simp [go_sem]), (k _ _ (by simp; try omega)).trans (by simp [go_sem]), (k _ _ (by simp; try omega)).trans (by simp [go_sem]), (k _ _ (by simp; try omega)).trans (by simp [go_sem])⟩))
  rw [hw0]
  clear hw0
  have HZ0 := Lib.hid (Below.refl w0.heap.size w0)
  obtain ⟨c0, c1, c2, c3, c4, c5⟩ := HC.out w0 HZ0.out
  go_wp2
  go_loopw [6, 7, 8] (fun r m i wr => ∃ k : Nat, k ≤ n ∧ i = .int .i64 k ∧ r = .int .i64 (sumL (twR0 s) (l.take k)) ∧ m = .int .i64 (0) ∧ Below w0.heap.size w0 wr) (fun _ _ i _ => n - (intOf i).toNat)
  case atStart => exact ⟨0, Nat.zero_le _, rfl, rfl, rfl, HZ0.out⟩
  case round =>
    obtain ⟨k, hk, rfl, rfl, rfl, hbw⟩ := hrel
    clear c0 c1 c2 c3 c4 c5
    have HB := Lib.hid hbw
    have HBW := Lib.hid (HB0.out.trans (hbw.mono HB0.out.size))
    obtain ⟨d0, d1, d2, d3, d4, d5⟩ := HC.out wr hbw
    obtain ⟨g1, g2, g3⟩ := HBD.out k
    clear hbw
    by_cases hlt : k < n
    · have hkl : k < l.length := by omega
      obtain ⟨blk, off, rfl, hblk, hx⟩ := HR.out.2 (by omega)
      obtain ⟨hp0, hp1⟩ := (hx k hkl).below HBW.out hblk
      have hpo := HWT.out.pt l[k] (List.getElem_mem hkl)
      have HS := Lib.hid (sumL_take_succ (twR0 s) l hkl)
      have HS2 := Lib.hid (sumL_take_succ twM1 l hkl)
      obtain ⟨p, hpe⟩ : ∃ x, l[k] = x := ⟨_, rfl⟩
      rw [hpe] at hp0 hp1 hpo HS HS2
      clear hx hpe
      obtain ⟨a, v⟩ := p
      obtain ⟨a0, a1, n0, n1⟩ := hpo
      simp only at hp0 hp1 a0 a1 n0 n1
      have hv : twR0 s ⟨a, v⟩ = 2 * v * (s - a) := rfl
      have hv2 : twM1 ⟨a, v⟩ = -(2 * v * a) := rfl
      rw [hv] at HS
      rw [hv2] at HS2
      generalize sumL (twR0 s) (l.take k) = rk at *
      generalize sumL twM1 (l.take k) = mk at *
      have E5 : Ev v v 2000 := .of (by omega)
      have E6 : Ev a a 2000 := .of (by omega)
      have E7 : Ev rk rk 200000000 := .of (by omega)
      have E8 : Ev mk mk 200000000 := .of (by omega)
      have q1 : wrap64 (2 * v) = 2 * v := by (apply Ev.e; repeat' (first | with_reducible assumption | with_reducible apply Ev.wrap | with_reducible apply Ev.mul | with_reducible apply Ev.add | with_reducible apply Ev.sub | with_reducible apply Ev.neg | exact Ev.lit _ | (decide +kernel)))
      have q2 : wrap64 (s - a) = s - a := by (apply Ev.e; repeat' (first | with_reducible assumption | with_reducible apply Ev.wrap | with_reducible apply Ev.mul | with_reducible apply Ev.add | with_reducible apply Ev.sub | with_reducible apply Ev.neg | exact Ev.lit _ | (decide +kernel)))
      have q3 : wrap64 (2 * v * (s - a)) = 2 * v * (s - a) := by (apply Ev.e; repeat' (first | with_reducible assumption | with_reducible apply Ev.wrap | with_reducible apply Ev.mul | with_reducible apply Ev.add | with_reducible apply Ev.sub | with_reducible apply Ev.neg | exact Ev.lit _ | (decide +kernel)))
      have q4 : wrap64 (rk + 2 * v * (s - a)) = rk + 2 * v * (s - a) := by (apply Ev.e; repeat' (first | with_reducible assumption | with_reducible apply Ev.wrap | with_reducible apply Ev.mul | with_reducible apply Ev.add | with_reducible apply Ev.sub | with_reducible apply Ev.neg | exact Ev.lit _ | (decide +kernel)))
      clear E1 E3 E5 E6 E7 E8 g1 g2 g3
      have hl3 : w.heap.size < wr.heap.size := World.block_lt_of_cell? wr _ d0
      have hl4 : w.heap.size + 1 < wr.heap.size := World.block_lt_of_cell? wr _ d4
      go_wp2
      go_quiet (fail)
      go_wp2
      go_roundw
      case rel => exact ⟨k + 1, by omega, by go_num, by rw [HS.out]; first | rfl | exact congrArg (Value.int .i64) q4, rfl, below_drewN HB.out _⟩
      case measure => simp [intOf]; omega
    · obtain rfl : k = n := by omega
      have HT1 : Hid (l.take k = l) := Lib.hid (List.take_of_length_le (by omega))
      rw [HT1.out] at g1 g2 g3 ⊢
      obtain ⟨rk, hrk⟩ : ∃ v, sumL (twR0 s) l = v := ⟨_, rfl⟩
      obtain ⟨mk, hmk⟩ : ∃ v, sumL twM1 l = v := ⟨_, rfl⟩
      have HRK := Lib.hid hrk
      have HMK := Lib.hid hmk
      rw [hrk] at g1 ⊢
      rw [hmk] at g3
      clear hrk hmk
      have E7 : Ev rk rk 200000000 := .of (by omega)
      have E8 : Ev mk mk 200000000 := .of (by omega)
      have q1 : wrap64 (S * s) = S * s := by (apply Ev.e; repeat' (first | with_reducible assumption | with_reducible apply Ev.wrap | with_reducible apply Ev.mul | with_reducible apply Ev.add | with_reducible apply Ev.sub | with_reducible apply Ev.neg | exact Ev.lit _ | (decide +kernel)))
      have q2 : wrap64 (rk + S * s) = rk + S * s := by (apply Ev.e; repeat' (first | with_reducible assumption | with_reducible apply Ev.wrap | with_reducible apply Ev.mul | with_reducible apply Ev.add | with_reducible apply Ev.sub | with_reducible apply Ev.neg | exact Ev.lit _ | (decide +kernel)))
      clear E1 E3 E7 E8 g1 g2 g3
      go_wp2
      refine bodyPost_ret (v := .tuple #[.int .i64 (rk + S * s), .int .i64 (0)]) (by simp [results, Try.results98, go_sem, q2]) rfl ⟨by rw [HRK.out], HBW.out⟩
set_option maxHeartbeats 8000000 in
set_option maxRecDepth 20000 in
theorem rtwice1_any {s ww t : Int} {A : Option Addr} {n c : Nat} {S : Int} {l : List Pt} (s0 : 1 ≤ s) (s1 : s ≤ 2000) (hl : WtOk s l S) (w : World) (h : PtRow w A n l) :
    Calls Try.prog 98 #[.agg #[.int .i64 s, .int .i64 ww, .int .i64 t, .int .i64 1], buV A n c S] w fun e w' => e = .returned (.tuple #[.int .i64 (sumL (twR1 s) l + 2 * S * s), .int .i64 (sumL twM1 l - S * s)]) ∧ Below w.heap.size w w' := by
  have HR := Lib.hid h
  have hle : l.length ≤ n := by have := h.1; omega
  have hge : n ≤ l.length := by have := h.1; omega
  have HWT := Lib.hid hl
  have hn8 : n ≤ 8 := by have := hl.len; omega
  have HBD := Lib.hid (tw_bd s0 s1 hl)
  have hS0 := hl.S0; have hS1 := hl.S1
  have E1 : Ev s s 2000 := .of (by omega)
  have E3 : Ev S S 20000 := .of (by omega)
  clear h hl
  unfold buV
  go_enter Try.func98, Try.ntmps98
  go_upto_region 1 with fail
  obtain ⟨w0, hw0⟩ : ∃ w0, ((w.alloc (.cells #[.int .i64 s, .int .i64 ww, .int .i64 t, .int .i64 1] 23)).alloc (.cells #[.slice A n c, .int .i64 S] 26)) = w0 := ⟨_, rfl⟩
  have HB0 : Hid (Below w.heap.size w w0) := Lib.hid (by rw [← hw0]; exact (((Below.refl _ _).alloc (Nat.le_refl _) _).alloc (by simp; try omega) _))
  have HC := Lib.hid (fun wx (hb : Below w0.heap.size w0 wx) => (show wx.cell? ⟨w.heap.size, 0, none⟩ = some (.int .i64 s) ∧ wx.cell? ⟨w.heap.size, 1, none⟩ = some (.int .i64 ww) ∧ wx.cell? ⟨w.heap.size, 2, none⟩ = some (.int .i64 t) ∧ wx.cell? ⟨w.heap.size, 3, none⟩ = some (.int .i64 1) ∧ wx.cell? ⟨w.heap.size + 1, 0, none⟩ = some (.slice A n c) ∧ wx.cell? ⟨w.heap.size + 1, 1, none⟩ = some (.int .i64 S) from by
    subst hw0
    obtain ⟨k, kf⟩ := bcell hb
    exact ⟨(k _ _ (by simp; try omega)).trans (by simp [go_sem]), (k _ _ (by simp; try omega)).trans (by simp [go_sem]), (k _ _ (by simp; try omega)).trans (by simp [go_sem]), (k _ _ (by simp; try omega)).trans (by simp [go_sem]), (k _ _ (by simp; try omega)).trans (by simp [go_sem]), (k _ _ (by simp; try omega)).trans (by simp [go_sem])⟩))
  rw [hw0]
  clear hw0
  have HZ0 := Lib.hid (Below.refl w0.heap.size w0)
  obtain ⟨c0, c1, c2, c3, c4, c5⟩ := HC.out w0 HZ0.out
  go_wp2
  go_loopw [6, 7, 8] (fun r m i wr => ∃ k : Nat, k ≤ n ∧ i = .int .i64 k ∧ r = .int .i64 (sumL (twR1 s) (l.take k)) ∧ m = .int .i64 (sumL twM1 (l.take k)) ∧ Below w0.heap.size w0 wr) (fun _ _ i _ => n - (intOf i).toNat)
  case atStart => exact ⟨0, Nat.zero_le _, rfl, rfl, rfl, HZ0.out⟩
  case round =>
    obtain ⟨k, hk, rfl, rfl, rfl, hbw⟩ := hrel
    clear c0 c1 c2 c3 c4 c5
    have HB := Lib.hid hbw
    have HBW := Lib.hid (HB0.out.trans (hbw.mono HB0.out.size))
    obtain ⟨d0, d1, d2, d3, d4, d5⟩ := HC.out wr hbw
    obtain ⟨g1, g2, g3⟩ := HBD.out k
    clear hbw
    by_cases hlt : k < n
    · have hkl : k < l.length := by omega
      obtain ⟨blk, off, rfl, hblk, hx⟩ := HR.out.2 (by omega)
      obtain ⟨hp0, hp1⟩ := (hx k hkl).below HBW.out hblk
      have hpo := HWT.out.pt l[k] (List.getElem_mem hkl)
      have HS := Lib.hid (sumL_take_succ (twR1 s) l hkl)
      have HS2 := Lib.hid (sumL_take_succ twM1 l hkl)
      obtain ⟨p, hpe⟩ : ∃ x, l[k] = x := ⟨_, rfl⟩
      rw [hpe] at hp0 hp1 hpo HS HS2
      clear hx hpe
      obtain ⟨a, v⟩ := p
      obtain ⟨a0, a1, n0, n1⟩ := hpo
      simp only at hp0 hp1 a0 a1 n0 n1
      have hv : twR1 s ⟨a, v⟩ = 2 * v * s := rfl
      have hv2 : twM1 ⟨a, v⟩ = -(2 * v * a) := rfl
      rw [hv] at HS
      rw [hv2] at HS2
      generalize sumL (twR1 s) (l.take k) = rk at *
      generalize sumL twM1 (l.take k) = mk at *
      have E5 : Ev v v 2000 := .of (by omega)
      have E6 : Ev a a 2000 := .of (by omega)
      have E7 : Ev rk rk 200000000 := .of (by omega)
      have E8 : Ev mk mk 200000000 := .of (by omega)
      have q1 : wrap64 (2 * v) = 2 * v := by (apply Ev.e; repeat' (first | with_reducible assumption | with_reducible apply Ev.wrap | with_reducible apply Ev.mul | with_reducible apply Ev.add | with_reducible apply Ev.sub | with_reducible apply Ev.neg | exact Ev.lit _ | (decide +kernel)))
      have q2 : wrap64 (2 * v * s) = 2 * v * s := by (apply Ev.e; repeat' (first | with_reducible assumption | with_reducible apply Ev.wrap | with_reducible apply Ev.mul | with_reducible apply Ev.add | with_reducible apply Ev.sub | with_reducible apply Ev.neg | exact Ev.lit _ | (decide +kernel)))
      have q3 : wrap64 (rk + 2 * v * s) = rk + 2 * v * s := by (apply Ev.e; repeat' (first | with_reducible assumption | with_reducible apply Ev.wrap | with_reducible apply Ev.mul | with_reducible apply Ev.add | with_reducible apply Ev.sub | with_reducible apply Ev.neg | exact Ev.lit _ | (decide +kernel)))
      have q4 : wrap64 (2 * v * a) = 2 * v * a := by (apply Ev.e; repeat' (first | with_reducible assumption | with_reducible apply Ev.wrap | with_reducible apply Ev.mul | with_reducible apply Ev.add | with_reducible apply Ev.sub | with_reducible apply Ev.neg | exact Ev.lit _ | (decide +kernel)))
      have q5 : wrap64 (mk - 2 * v * a) = mk - 2 * v * a := by (apply Ev.e; repeat' (first | with_reducible assumption | with_reducible apply Ev.wrap | with_reducible apply Ev.mul | with_reducible apply Ev.add | with_reducible apply Ev.sub | with_reducible apply Ev.neg | exact Ev.lit _ | (decide +kernel)))
      clear E1 E3 E5 E6 E7 E8 g1 g2 g3
      have hl3 : w.heap.size < wr.heap.size := World.block_lt_of_cell? wr _ d0
      have hl4 : w.heap.size + 1 < wr.heap.size := World.block_lt_of_cell? wr _ d4
      go_wp2
      go_quiet (fail)
      go_wp2
      go_roundw
      case rel => exact ⟨k + 1, by omega, by go_num, by rw [HS.out]; first | rfl | exact congrArg (Value.int .i64) q3, by rw [HS2.out]; first | rfl | exact congrArg (Value.int .i64) q5, below_drewN HB.out _⟩
      case measure => simp [intOf]; omega
    · obtain rfl : k = n := by omega
      have HT1 : Hid (l.take k = l) := Lib.hid (List.take_of_length_le (by omega))
      rw [HT1.out] at g1 g2 g3 ⊢
      obtain ⟨rk, hrk⟩ : ∃ v, sumL (twR1 s) l = v := ⟨_, rfl⟩
      obtain ⟨mk, hmk⟩ : ∃ v, sumL twM1 l = v := ⟨_, rfl⟩
      have HRK := Lib.hid hrk
      have HMK := Lib.hid hmk
      rw [hrk] at g2 ⊢
      rw [hmk] at g3 ⊢
      clear hrk hmk
      have E7 : Ev rk rk 200000000 := .of (by omega)
      have E8 : Ev mk mk 200000000 := .of (by omega)
      have q1 : wrap64 (2 * S) = 2 * S := by (apply Ev.e; repeat' (first | with_reducible assumption | with_reducible apply Ev.wrap | with_reducible apply Ev.mul | with_reducible apply Ev.add | with_reducible apply Ev.sub | with_reducible apply Ev.neg | exact Ev.lit _ | (decide +kernel)))
      have q2 : wrap64 (2 * S * s) = 2 * S * s := by (apply Ev.e; repeat' (first | with_reducible assumption | with_reducible apply Ev.wrap | with_reducible apply Ev.mul | with_reducible apply Ev.add | with_reducible apply Ev.sub | with_reducible apply Ev.neg | exact Ev.lit _ | (decide +kernel)))
      have q3 : wrap64 (rk + 2 * S * s) = rk + 2 * S * s := by (apply Ev.e; repeat' (first | with_reducible assumption | with_reducible apply Ev.wrap | with_reducible apply Ev.mul | with_reducible apply Ev.add | with_reducible apply Ev.sub | with_reducible apply Ev.neg | exact Ev.lit _ | (decide +kernel)))
      have q4 : wrap64 (S * s) = S * s := by (apply Ev.e; repeat' (first | with_reducible assumption | with_reducible apply Ev.wrap | with_reducible apply Ev.mul | with_reducible apply Ev.add | with_reducible apply Ev.sub | with_reducible apply Ev.neg | exact Ev.lit _ | (decide +kernel)))
      have q5 : wrap64 (mk - S * s) = mk - S * s := by (apply Ev.e; repeat' (first | with_reducible assumption | with_reducible apply Ev.wrap | with_reducible apply Ev.mul | with_reducible apply Ev.add | with_reducible apply Ev.sub | with_reducible apply Ev.neg | exact Ev.lit _ | (decide +kernel)))
      clear E1 E3 E7 E8 g1 g2 g3
      go_wp2
      go_quiet (fail)
      go_wp2
      refine bodyPost_ret (v := .tuple #[.int .i64 (rk + 2 * S * s), .int .i64 (mk - S * s)]) (by simp [results, Try.results98, go_sem, q3, q5]) rfl ⟨by rw [HRK.out, HMK.out], below_drewN HBW.out _⟩
theorem rtwice_any {b : Bm} {A : Option Addr} {n c : Nat} {S : Int} {l : List Pt} (hb : BmOk b) (hl : WtOk b.s l S) (w : World) (h : PtRow w A n l) :
    Calls Try.prog 98 #[bmV b, buV A n c S] w fun e w' => e = .returned (.tuple #[.int .i64 (frR b l S), .int .i64 (twM b l S)]) ∧ Below w.heap.size w w' := by
  rw [← twR_eq]
  obtain ⟨s, ww, t, en⟩ := b
  obtain ⟨s0, s1, w0, w1, t0, t1, e0⟩ := hb
  simp only at s0 s1 e0 hl
  rcases e0 with rfl | rfl
  · exact rtwice0_any s0 s1 hl w h
  · exact rtwice1_any s0 s1 hl w h
end Go.Proofs.Ytablphoicidlkaa
