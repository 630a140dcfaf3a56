/- Walks over the timber seat: drying. -/
import Derived.Test.YtnjbhidncicfiaaW4
import Derived.Test.YtnjbhidncicfiaaM9
namespace Go.Proofs.Ytnjbhidncicfiaa
open Go.RowKit

theorem chg_alt {d r q : Int} (hq : d.tdiv r = q) : (0 < d → chg d r = max 1 q) ∧ (d < 0 → chg d r = min (-1) q) ∧ (d = 0 → chg d r = 0) := by
  subst hq
  refine ⟨fun h => by unfold chg; rw [if_pos h], fun h => by unfold chg; rw [if_neg (by omega), if_pos h], fun h => by unfold chg; rw [if_neg (by omega), if_neg (by omega)]⟩
theorem tdiv_bd {d r : Int} (h0 : -400 ≤ d) (h1 : d ≤ 400) (hr : 1 ≤ r) : -400 ≤ d.tdiv r ∧ d.tdiv r ≤ 400 := by
  by_cases h : 0 ≤ d
  · have := tdiv_pos h hr; omega
  · have := tdiv_neg (d := d) (by omega) hr; omega
set_option maxHeartbeats 400000 in
theorem change_any {d r c : Int} (hc : chg d r = c) (h0 : -400 ≤ d) (h1 : d ≤ 400) (hr : 1 ≤ r) (hr' : r ≤ 100) (w : World) :
    Calls Try.prog 124 #[.int .i64 d, .int .i64 r] w fun e w' => e = .returned (.int .i64 c) ∧ w = w' := by
  have hne : (r == 0) = false := by simp; omega
  have hq := tdiv_bd h0 h1 hr
  have hsq := tdiv_pos (d := d) (r := r)
  obtain ⟨q, hqe⟩ : ∃ q, d.tdiv r = q := ⟨_, rfl⟩
  have A := Lib.hid (chg_alt hqe)
  have HQ := Lib.hid hqe
  rw [hqe] at hq
  have H0 := Lib.hid h0; have H1 := Lib.hid h1; have B1 := Lib.hid hq.1; have B2 := Lib.hid hq.2
  have HC := Lib.hid hc
  have R0 := Lib.hid hr; have R1 := Lib.hid hr'
  by_cases hp : 0 < d
  · have HE := Lib.hid (A.out.1 hp)
    clear hsq
    go_enter Try.func124, Try.ntmps124
    go_wp2
    all_goals
      go_ret
      exact ⟨ret_int (by rw [← HC.out, HE.out]; omega), rfl⟩
  · by_cases hn : d < 0
    · have HE := Lib.hid (A.out.2.1 hn)
      clear hsq
      go_enter Try.func124, Try.ntmps124
      go_wp2
      all_goals
        go_ret
        exact ⟨ret_int (by rw [← HC.out, HE.out]; omega), rfl⟩
    · have HE := Lib.hid (A.out.2.2 (by omega))
      clear hsq
      go_enter Try.func124, Try.ntmps124
      go_wp2
      all_goals
        go_ret
        exact ⟨ret_int (by rw [← HC.out, HE.out]), rfl⟩
set_option maxHeartbeats 400000 in
theorem day_any {m t r n : Int} (hn : nextM t r m = n) (m0 : 0 ≤ m) (m1 : m ≤ 400) (t0 : 0 ≤ t) (t1 : t ≤ 400) (hr : 1 ≤ r) (hr' : r ≤ 100) (w : World) :
    Calls Try.prog 109 #[.int .i64 m, .int .i64 t, .int .i64 r] w fun e w' => e = .returned (.int .i64 n) ∧ w = w' := by
  have hne : (r == 0) = false := by simp; omega
  have hq := tdiv_bd (d := t - m) (r := r) (by omega) (by omega) hr
  have hp0 := fun h => tdiv_pos (d := t - m) (r := r) h hr
  have hn0 := fun h => tdiv_neg (d := t - m) (r := r) h hr
  obtain ⟨q, hqe⟩ : ∃ q, (t - m).tdiv r = q := ⟨_, rfl⟩
  have A := Lib.hid (chg_alt hqe)
  rw [hqe] at hq hp0 hn0
  have HN : Hid (n = m + chg (t - m) r) := Lib.hid hn.symm
  have P0 := Lib.hid hp0; have N0 := Lib.hid hn0
  have hq1 := hq.1
  have hq2 := hq.2
  have hw : wrap64 (t - m) = t - m := w64 (by omega)
  clear hp0 hn0 hn hq hw
  go_enter Try.func109, Try.ntmps109
  go_wp2
  all_goals
    go_ret
    refine ⟨ret_int ?_, rfl⟩
    have a := A.out
    have p := P0.out
    have nn := N0.out
    rw [HN.out]
    by_cases h1 : 0 < t - m
    · rw [a.1 h1]; have := p (by omega); omega
    · by_cases h2 : t - m < 0
      · rw [a.2.1 h2]; have := nn (by omega); omega
      · rw [a.2.2 (by omega)]; have := p (by omega); omega

/-! ### The checks -/
def dryOk (m t r : Int) : Bool := allIn 0 400 [m, t] && allIn 1 100 [r]
def dryCode (m t r : Int) : Int := bif dryOk m t r then 0 else 2
theorem within_two {lo hi x y : Int} {v : Bool} (hv : allIn lo hi [x, y] = v) (w : World) (e : TypeId) :
    Calls Try.prog 79 #[.int .i64 lo, .int .i64 hi, .slice (some ⟨w.heap.size, 0, none⟩) 2 2] (w.alloc (.cells #[.int .i64 x, .int .i64 y] e)) fun e' w' => e' = .returned (.bool v) ∧ Below w.heap.size w w' :=
  within_new hv 2 2 w e _ rfl rfl (by decide)
set_option maxHeartbeats 400000 in
theorem checkDrying_any {m t r c : Int} (hc : dryCode m t r = c) (w : World) :
    Calls Try.prog 104 #[.int .i64 m, .int .i64 t, .int .i64 r] w fun e w' => e = .returned (.int .i64 c) ∧ Below w.heap.size w w' := by
  have HC := Lib.hid hc
  cases h1 : allIn 0 400 [m, t]
  · have X1 := Lib.hid h1; clear h1 hc
    go_enter Try.func104, Try.ntmps104
    go_wp2_with (go_at_call 79; (with_reducible refine (within_two X1.out _ _).mono ?_); rintro e w1 ⟨rfl, hb1⟩)
    go_ret
    exact ⟨ret_int (by rw [← HC.out]; unfold dryCode dryOk; rw [X1.out]; rfl), hb1⟩
  · have X1 := Lib.hid h1; clear h1 hc
    cases h2 : allIn 1 100 [r]
    all_goals
      have X2 := Lib.hid h2; clear h2
      go_enter Try.func104, Try.ntmps104
      go_wp2_with (go_at_call 79; (with_reducible refine (within_two X1.out _ _).mono ?_); rintro e w1 ⟨rfl, hb1⟩)
      go_wp2_with (go_at_call 79; (with_reducible refine (within_one X2.out _ _).mono ?_); rintro e w2 ⟨rfl, hb2⟩)
      go_ret
      exact ⟨ret_int (by rw [← HC.out]; unfold dryCode dryOk; rw [X1.out, X2.out]; rfl), hb1.trans (hb2.mono hb1.size)⟩
theorem dryOk_eq (m t r : Int) : dryOk m t r = (inB 0 400 m && (inB 0 400 t && inB 1 100 r)) := by
  unfold dryOk allIn inB
  simp only [List.any_cons, List.any_nil, Bool.or_false, Bool.not_or, Bool.and_assoc]
set_option maxHeartbeats 400000 in
theorem dryErr_any {m t r c : Int} (hc : dryCode m t r = c) (w : World) :
    Calls Try.prog 65 #[.int .i64 m, .int .i64 t, .int .i64 r] w fun e w' => e = .returned (.int .i64 c) ∧ w = w' := by
  have HC : Hid ((bif inB 0 400 m && (inB 0 400 t && inB 1 100 r) then (0 : Int) else 2) = c) := Lib.hid (by rw [← hc]; unfold dryCode; rw [dryOk_eq])
  clear hc
  cases h1 : inB 0 400 m <;> cases h2 : inB 0 400 t <;> cases h3 : inB 1 100 r
  all_goals
    have X1 := Lib.hid h1; have X2 := Lib.hid h2; have X3 := Lib.hid h3; clear h1 h2 h3
    go_enter Try.func65, Try.ntmps65
    go_wp2_with (first | (go_at_call 41; (first | (with_reducible refine (moisture_any X1.out _).mono ?_) | (with_reducible refine (moisture_any X2.out _).mono ?_)); rintro e w' ⟨rfl, rfl⟩) | (go_at_call 39; (with_reducible refine (rwithin_any X3.out _).mono ?_); rintro e w' ⟨rfl, rfl⟩))
    go_ret
    exact ⟨ret_int (by rw [← HC.out, X1.out, X2.out, X3.out]; rfl), rfl⟩
structure DryIn (m t r : Int) : Prop where
  m0 : 0 ≤ m
  m1 : m ≤ 400
  t0 : 0 ≤ t
  t1 : t ≤ 400
  r0 : 1 ≤ r
  r1 : r ≤ 100
theorem dryIn_of {m t r : Int} (h : dryOk m t r = true) : DryIn m t r := by
  rw [dryOk_eq, Bool.and_eq_true, Bool.and_eq_true] at h
  unfold inB at h
  simp only [Bool.not_eq_true'] at h
  have h1 := outB_iff.1 h.1; have h2 := outB_iff.1 h.2.1; have h3 := outB_iff.1 h.2.2
  exact ⟨h1.1, h1.2, h2.1, h2.2, h3.1, h3.2⟩
theorem DryIn.at {m t r : Int} (h : DryIn m t r) (n : Nat) : DryIn (dryN t r m n) t r :=
  have := dry_between h.r0 h.m0 h.m1 h.t0 h.t1 n
  ⟨this.1, this.2, h.t0, h.t1, h.r0, h.r1⟩
theorem dryCode_ok {m t r : Int} (h : dryOk m t r = true) : dryCode m t r = 0 := by unfold dryCode; rw [h]; rfl
theorem dryCode_no {m t r : Int} (h : dryOk m t r = false) : dryCode m t r = 2 := by unfold dryCode; rw [h]; rfl

theorem ret_pair {a b c d : Int} (h : a = b) (k : c = d) : Ending.returned (.tuple #[.int .i64 a, .int .i64 c]) = .returned (.tuple #[.int .i64 b, .int .i64 d]) := by rw [h, k]
/-! ### Day by day -/
set_option maxHeartbeats 400000 in
theorem done_days {k n : Int} {v : Bool} (hv : (k == n) = v) (x : Int) (a : Addr) (w : World) (ha : w.cell? a = some (.int .i64 n)) :
    Calls Try.prog 106 #[.int .i64 k, .int .i64 x, .pointer (some a)] w fun e w' => e = .returned (.bool v) ∧ w = w' := by
  have V := Lib.hid hv
  clear hv
  go_enter Try.func106, Try.ntmps106
  go_wp2
  all_goals (go_ret; exact ⟨ret_bool V.out, rfl⟩)
set_option maxHeartbeats 1000000 in
theorem until_days {m t r : Int} (h : DryIn m t r) (n : Nat) (hn : n ≤ 20000) (a : Addr) (w : World) (ha : w.cell? a = some (.int .i64 n)) :
    Calls Try.prog 105 #[.int .i64 m, .int .i64 t, .int .i64 r, .func (.func 106) #[] #[.pointer (some a)]] w fun e w' => e = .returned (.tuple #[.int .i64 n, .int .i64 (dryN t r m n)]) ∧ w = w' := by
  have HN := Lib.hid hn
  have H := Lib.hid h
  clear h hn
  go_enter Try.func105, Try.ntmps105
  go_wp2
  go_loop [0, 10] (fun x d => ∃ k : Nat, k ≤ n ∧ d = .int .i64 k ∧ x = .int .i64 (dryN t r m k)) (fun _ d => n - (intOf d).toNat)
  case atStart => exact ⟨0, Nat.zero_le _, rfl, rfl⟩
  case round =>
    obtain ⟨k, hk, rfl, rfl⟩ := hrel
    have I := H.out.at k
    obtain ⟨x, hx⟩ : ∃ x, dryN t r m k = x := ⟨_, rfl⟩
    obtain ⟨m0, m1, t0, t1, r0, r1⟩ := I
    rw [hx] at m0 m1
    have HX := Lib.hid hx
    rw [hx]
    clear hx
    by_cases he : k = n
    · subst he
      have D := fun wx hx => Lib.hid (done_days (k := k) (n := k) (v := true) (by simp) x a wx hx)
      go_wp2_with (go_at_call 106; (refine Calls.mono (D _ ha).out ?_); rintro e w' ⟨rfl, rfl⟩)
      go_ret2
      exact ⟨ret_pair rfl HX.out.symm, rfl⟩
    · have hlt : k < n := by omega
      have D := fun wx hx => Lib.hid (done_days (k := k) (n := n) (v := false) (by simp; omega) x a wx hx)
      obtain ⟨c, hc⟩ : ∃ c, chg (t - x) r = c := ⟨_, rfl⟩
      have CH := fun wx => Lib.hid (change_any (w := wx) hc (by omega) (by omega) r0 r1)
      have hb := next_between (t := t) (m := x) r0 m0 m1 t0 t1
      have NX : Hid (dryN t r m (k + 1) = x + c) := Lib.hid (by show nextM t r (dryN t r m k) = _; rw [HX.out]; unfold nextM; rw [hc])
      unfold nextM at hb
      rw [hc] at hb
      have b1 := hb.1
      have b2 := hb.2
      clear he hb hc
      have HK := Lib.hid HN.out
      have kn : k ≤ 20000 := by have := HN.out; omega
      go_wp2_with (first | (go_at_call 106; (refine Calls.mono (D _ ha).out ?_); rintro e w' ⟨rfl, rfl⟩) | (go_at_call 124; (refine Calls.mono (CH _).out ?_); rintro e w' ⟨rfl, rfl⟩))
      go_round
      case rel => exact ⟨k + 1, by omega, by go_num, by rw [NX.out]⟩
      case measure => simp [intOf]; omega
set_option maxHeartbeats 400000 in
theorem done_near {k x t b : Int} {v : Bool} (hv : near t b x = v) (t0 : 0 ≤ t) (t1 : t ≤ 400) (b0 : 0 ≤ b) (b1 : b ≤ 400) (p q : Addr) (w : World) (hp : w.cell? p = some (.int .i64 t)) (hq : w.cell? q = some (.int .i64 b)) :
    Calls Try.prog 107 #[.int .i64 k, .int .i64 x, .pointer (some p), .pointer (some q)] w fun e w' => e = .returned (.bool v) ∧ Below w.heap.size w w' := by
  have V : Hid (allIn (t - b) (t + b) [x] = v) := Lib.hid (by rw [← hv]; unfold near; rw [allIn_one]; unfold inB outB; rw [Bool.eq_iff_iff]; simp)
  clear hv
  go_enter Try.func107, Try.ntmps107
  go_wp2_with (go_at_call 79; (with_reducible refine (within_one V.out _ _).mono ?_); rintro e w1 ⟨rfl, hb1⟩)
  go_ret
  exact ⟨rfl, hb1⟩
set_option maxHeartbeats 1000000 in
theorem until_near {m t r b : Int} (h : DryIn m t r) (hb0 : 0 ≤ b) (hb1 : b ≤ 400) (n : Nat) (hn : IsFirst t r m b n) (p q : Nat) (w : World) (hpl : p < w.heap.size) (hql : q < w.heap.size)
    (hp : w.cell? ⟨p, 0, none⟩ = some (.int .i64 t)) (hq : w.cell? ⟨q, 0, none⟩ = some (.int .i64 b)) :
    Calls Try.prog 105 #[.int .i64 m, .int .i64 t, .int .i64 r, .func (.func 107) #[] #[.pointer (some ⟨p, 0, none⟩), .pointer (some ⟨q, 0, none⟩)]] w fun e w' => e = .returned (.tuple #[.int .i64 n, .int .i64 (dryN t r m n)]) ∧ Below w.heap.size w w' := by
  have hd : dist t m ≤ 400 := by have := h.m0; have := h.m1; have := h.t0; have := h.t1; unfold dist; omega
  have HN := Lib.hid hn
  have H := Lib.hid h
  have HD := Lib.hid hd
  have HP := Lib.hid hp; have HQ := Lib.hid hq
  clear h hn hd hp hq
  go_enter Try.func105, Try.ntmps105
  go_wp2
  go_loopw [0, 10] (fun x d wr => ∃ k : Nat, k ≤ n ∧ d = .int .i64 k ∧ x = .int .i64 (dryN t r m k) ∧ Below w.heap.size w wr) (fun _ d _ => n - (intOf d).toNat)
  case atStart => exact ⟨0, Nat.zero_le _, rfl, rfl, Below.refl _ _⟩
  case round =>
    obtain ⟨k, hk, rfl, rfl, hbw⟩ := hrel
    have I := H.out.at k
    obtain ⟨x, hx⟩ : ∃ x, dryN t r m k = x := ⟨_, rfl⟩
    obtain ⟨m0, m1, t0, t1, r0, r1⟩ := I
    rw [hx] at m0 m1
    have HX := Lib.hid hx
    rw [hx]
    clear hx
    have c1 := hbw.cell (p := ⟨p, 0, none⟩) hpl
    have c2 := hbw.cell (p := ⟨q, 0, none⟩) hql
    rw [HP.out] at c1
    rw [HQ.out] at c2
    have HB := Lib.hid hbw
    have KN : k ≤ 400 := by have := first_le H.out.r0 hb0 HN.out k hk; have := HD.out; omega
    clear hbw
    by_cases he : k = n
    · subst he
      have hv : near t b x = true := by rw [← HX.out]; exact HN.out.1
      have D := fun wx h1 h2 => Lib.hid (done_near (k := k) hv t0 t1 hb0 hb1 ⟨p, 0, none⟩ ⟨q, 0, none⟩ wx h1 h2)
      clear hv
      go_wp2_with (go_at_call 107; (refine Calls.mono (D _ c1 c2).out ?_); rintro e w' ⟨rfl, hbx⟩)
      go_ret2
      exact ⟨ret_pair rfl HX.out.symm, HB.out.trans (hbx.mono HB.out.size)⟩
    · have hlt : k < n := by omega
      have hv : near t b x = false := by rw [← HX.out]; exact HN.out.2 k hlt
      have D := fun wx h1 h2 => Lib.hid (done_near (k := k) hv t0 t1 hb0 hb1 ⟨p, 0, none⟩ ⟨q, 0, none⟩ wx h1 h2)
      obtain ⟨c, hc⟩ : ∃ c, chg (t - x) r = c := ⟨_, rfl⟩
      have CH := fun wx => Lib.hid (change_any (w := wx) hc (by omega) (by omega) r0 r1)
      have hb := next_between (t := t) (m := x) r0 m0 m1 t0 t1
      have NX : Hid (dryN t r m (k + 1) = x + c) := Lib.hid (by show nextM t r (dryN t r m k) = _; rw [HX.out]; unfold nextM; rw [hc])
      unfold nextM at hb
      rw [hc] at hb
      have b1 := hb.1
      have b2 := hb.2
      clear he hb hc hv
      go_wp2_with (first | (go_at_call 107; (refine Calls.mono (D _ c1 c2).out ?_); rintro e w' ⟨rfl, hbx⟩) | (go_at_call 124; (refine Calls.mono (CH _).out ?_); rintro e w2 ⟨rfl, rfl⟩))
      go_roundw
      case rel => exact ⟨k + 1, by omega, by go_num, by rw [NX.out], HB.out.trans (hbx.mono HB.out.size)⟩
      case measure => simp [intOf]; omega
end Go.Proofs.Ytnjbhidncicfiaa
