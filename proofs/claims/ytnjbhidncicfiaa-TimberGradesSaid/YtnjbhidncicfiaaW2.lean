/- Walks over the timber seat: movement. -/
import Derived.Test.YtnjbhidncicfiaaW1
namespace Go.Proofs.Ytnjbhidncicfiaa
open Go.RowKit

theorem w64 {x : Int} (h : -9223372036854775808 ≤ x ∧ x ≤ 9223372036854775807) : wrap64 x = x := IntWalk.wrap64_in x h
def millis (size rate f t : Int) : Int := size * (1000000 + rate * (min t 280 - min f 280))
/-- What a movement's numbers are like. -/
structure Mov (size rate f t : Int) : Prop where
  s0 : 0 ≤ size
  s1 : size ≤ 600000
  r0 : 0 ≤ rate
  r1 : rate ≤ 2001
  f0 : 0 ≤ f
  f1 : f ≤ 400
  t0 : 0 ≤ t
  t1 : t ≤ 400
theorem mul_bd {a b A B : Int} (ha : 0 ≤ a) (hA : a ≤ A) (hb : -B ≤ b) (hB : b ≤ B) : -(A * B) ≤ a * b ∧ a * b ≤ A * B := by
  have hB0 : 0 ≤ B := by omega
  constructor
  · have h1 : a * (-B) ≤ a * b := Int.mul_le_mul_of_nonneg_left hb ha
    have h2 : a * B ≤ A * B := Int.mul_le_mul_of_nonneg_right hA hB0
    rw [Int.mul_neg] at h1; omega
  · have h1 : a * b ≤ a * B := Int.mul_le_mul_of_nonneg_left hB ha
    have h2 : a * B ≤ A * B := Int.mul_le_mul_of_nonneg_right hA hB0
    omega
theorem millis_wrap {size rate d : Int} (s0 : 0 ≤ size) (s1 : size ≤ 600000) (r0 : 0 ≤ rate) (r1 : rate ≤ 2001) (d0 : -280 ≤ d) (d1 : d ≤ 280) :
    wrap64 (size * wrap64 (1000000 + wrap64 (rate * wrap64 d))) = size * (1000000 + rate * d) := by
  have h1 := mul_bd r0 r1 d0 d1
  rw [w64 (x := d) (by omega), w64 (x := rate * d) (by omega), w64 (x := 1000000 + rate * d) (by omega)]
  have h2 := mul_bd (b := 1000000 + rate * d) (B := 1560280) s0 s1 (by omega) (by omega)
  exact w64 (by omega)
theorem millis_bd {size rate f t : Int} (h : Mov size rate f t) : 0 ≤ millis size rate f t ∧ millis size rate f t ≤ 1000000000000 := by
  obtain ⟨s0, s1, r0, r1, f0, f1, t0, t1⟩ := h
  unfold millis
  have h1 := mul_bd (b := min t 280 - min f 280) (B := 280) r0 r1 (by omega) (by omega)
  have h2 := mul_bd (b := 1000000 + rate * (min t 280 - min f 280)) (B := 1560280) s0 s1 (by omega) (by omega)
  have h3 := Int.mul_nonneg s0 (show 0 ≤ 1000000 + rate * (min t 280 - min f 280) by omega)
  omega
set_option maxHeartbeats 400000 in
theorem millionths_any {size rate f t : Int} (h : Mov size rate f t) (w : World) :
    Calls Try.prog 82 #[.int .i64 size, .int .i64 rate, .int .i64 f, .int .i64 t] w fun e w' => e = .returned (.int .i64 (millis size rate f t)) ∧ w = w' := by
  obtain ⟨s0, s1, r0, r1, f0, f1, t0, t1⟩ := h
  have hall : ∀ d : Int, -280 ≤ d → d ≤ 280 → d = min t 280 - min f 280 → wrap64 (size * wrap64 (1000000 + wrap64 (rate * wrap64 d))) = millis size rate f t := fun d d0 d1 hd => by
    rw [millis_wrap s0 s1 r0 r1 d0 d1, hd]; rfl
  have H := Lib.hid hall
  clear hall s0 s1 r0 r1
  have F0 := Lib.hid f0; have F1 := Lib.hid f1; have T0 := Lib.hid t0; have T1 := Lib.hid t1
  clear f0 f1 t0 t1
  go_enter Try.func82, Try.ntmps82
  go_wp2
  all_goals
    go_ret
    have f0 := F0.out; have f1 := F1.out; have t0 := T0.out; have t1 := T1.out
    exact ⟨ret_int (H.out _ (by omega) (by omega) (by omega)), rfl⟩
/-- A movement's interval. -/
def movedLo (size rate f a : Int) : Int := (millis size rate f a).tdiv 1000000
def movedHi (size rate f b : Int) : Int := (millis size rate f b + 1000000 - 1).tdiv 1000000
set_option maxHeartbeats 400000 in
theorem moved_any {size rate f a b : Int} (ha : Mov size rate f a) (hb : Mov size rate f b) (w : World) :
    Calls Try.prog 84 #[.int .i64 size, .int .i64 rate, .int .i64 f, .int .i64 a, .int .i64 b] w
      fun e w' => e = .returned (.agg #[.int .i64 (movedLo size rate f a), .int .i64 (movedHi size rate f b)]) ∧ Below w.heap.size w w' := by
  have A := Lib.hid ha; have B := Lib.hid hb
  clear ha hb
  go_enter Try.func84, Try.ntmps84
  go_wp2_with (go_at_call 82; (with_reducible first | refine (millionths_any A.out _).mono ?_ | refine (millionths_any B.out _).mono ?_); rintro e w' ⟨rfl, rfl⟩)
  have a0 := millis_bd A.out
  have b0 := millis_bd B.out
  refine bodyPost_ret (v := .agg #[.int .i64 (wrap64 ((millis size rate f a).tdiv 1000000)), .int .i64 (wrap64 ((wrap64 (wrap64 (millis size rate f b + 1000000) - 1)).tdiv 1000000))]) (by simp [results, Try.results84, go_sem]) rfl ⟨?_, (Below.refl _ _).alloc (Nat.le_refl _) _⟩
  unfold movedLo movedHi
  have e1 := Int.tdiv_eq_ediv_of_nonneg (b := 1000000) a0.1
  have e2 := Int.tdiv_eq_ediv_of_nonneg (a := millis size rate f b + 1000000 - 1) (b := 1000000) (by omega)
  rw [w64 (x := millis size rate f b + 1000000) (by omega), w64 (x := millis size rate f b + 1000000 - 1) (by omega), w64 (x := (millis size rate f b + 1000000 - 1).tdiv 1000000) (by omega), w64 (x := (millis size rate f a).tdiv 1000000) (by omega)]

theorem outB_iff {lo hi n : Int} : outB lo hi n = false ↔ lo ≤ n ∧ n ≤ hi := by unfold outB; simp
theorem allIn_iff {lo hi : Int} {zs : List Int} : allIn lo hi zs = true ↔ ∀ n ∈ zs, lo ≤ n ∧ n ≤ hi := by
  unfold allIn
  rw [Bool.not_eq_true', List.any_eq_false]
  constructor
  · intro h n hn; have := h n hn; rw [Bool.not_eq_true] at this; exact outB_iff.1 this
  · intro h n hn; rw [Bool.not_eq_true]; exact outB_iff.2 (h n hn)
theorem moveOk_iff {size rate : Int} {ms : List Int} : moveOk size rate ms = true ↔ (0 ≤ size ∧ size ≤ 600000) ∧ (0 ≤ rate ∧ rate ≤ 2000) ∧ ∀ n ∈ ms, 0 ≤ n ∧ n ≤ 400 := by
  unfold moveOk
  rw [Bool.and_eq_true, Bool.and_eq_true, allIn_iff, allIn_iff, allIn_iff]
  simp
theorem moveCode_ok {size rate : Int} {ms : List Int} (h : moveOk size rate ms = true) : moveCode size rate ms = 0 := by unfold moveCode; rw [h]; rfl
theorem moveCode_no {size rate : Int} {ms : List Int} (h : moveOk size rate ms = false) : moveCode size rate ms = 2 := by unfold moveCode; rw [h]; rfl
theorem mov_of {size rate : Int} {ms : List Int} (h : moveOk size rate ms = true) {f t : Int} (hf : f ∈ ms) (ht : t ∈ ms) : Mov size rate f t := by
  obtain ⟨⟨a, b⟩, ⟨c, d⟩, e⟩ := moveOk_iff.1 h
  exact ⟨a, b, c, by omega, (e f hf).1, (e f hf).2, (e t ht).1, (e t ht).2⟩
/-- checkMovement over a new row. -/
theorem checkMovement_new {size rate c : Int} {ms : List Int} (hc : moveCode size rate ms = c) (len : Nat) (w : World) (e : TypeId) (cs : Array Value)
    (hcs : cs = (ms.map (Value.int .i64)).toArray) (hl : ms.length = len) (hm : len ≤ 1000) :
    Calls Try.prog 81 #[.int .i64 size, .int .i64 rate, .slice (some ⟨w.heap.size, 0, none⟩) len len] (w.alloc (.cells cs e)) fun e' w' => e' = .returned (.int .i64 c) ∧ Below w.heap.size w w' := by
  subst hcs; subst hc
  refine (checkMovement_any size rate _ _ _ ms _ hl hm (fun k h => ?_) (by simp)).mono fun e' w' ⟨he, hw⟩ => ⟨he, ((Below.refl _ _).alloc (Nat.le_refl _) _).trans (hw.mono (by simp))⟩
  rw [World.cell?_alloc_new]
  simp [h]
theorem checkMovement_two {size rate a b c : Int} (hc : moveCode size rate [a, b] = c) (w : World) (e : TypeId) {blk : Nat} (hblk : blk = w.heap.size) :
    Calls Try.prog 81 #[.int .i64 size, .int .i64 rate, .slice (some ⟨blk, 0, none⟩) 2 2] (w.alloc (.cells #[.int .i64 a, .int .i64 b] e)) fun e' w' => e' = .returned (.int .i64 c) ∧ Below w.heap.size w w' :=
  by subst hblk; exact checkMovement_new hc 2 w e _ rfl rfl (by decide)
theorem checkMovement_three {size rate a b d c : Int} (hc : moveCode size rate [a, b, d] = c) (w : World) (e : TypeId) {blk : Nat} (hblk : blk = w.heap.size) :
    Calls Try.prog 81 #[.int .i64 size, .int .i64 rate, .slice (some ⟨blk, 0, none⟩) 3 3] (w.alloc (.cells #[.int .i64 a, .int .i64 b, .int .i64 d] e)) fun e' w' => e' = .returned (.int .i64 c) ∧ Below w.heap.size w w' :=
  by subst hblk; exact checkMovement_new hc 3 w e _ rfl rfl (by decide)
def itv (a b : Int) : Value := .agg #[.int .i64 a, .int .i64 b]
set_option maxHeartbeats 400000 in
theorem at_err {size rate a b : Int} (hc : moveOk size rate [a, b] = false) (w : World) :
    Calls Try.prog 33 #[.int .i64 size, .int .i64 rate, .agg #[.int .i64 a, .int .i64 b]] w
      fun e w' => e = .returned (.tuple #[.agg #[.int .i64 0, .int .i64 0], .int .i64 2]) ∧ Below w.heap.size w w' := by
  have C := Lib.hid (moveCode_no hc)
  clear hc
  go_enter Try.func33, Try.ntmps33
  go_wp2_with (go_at_call 81; (with_reducible refine (checkMovement_two C.out _ _ (by simp)).mono ?_); rintro e w' ⟨rfl, hb⟩; obtain ⟨hc, hf⟩ := bcell hb)
  have hz : w.heap.size + 1 < w'.heap.size := by have := hb.size; simp at this; omega
  refine bodyPost_ret (v := .tuple #[.agg #[.int .i64 0, .int .i64 0], .int .i64 2]) (by simp [results, Try.results33, go_sem, hc]) rfl ⟨rfl, ?_⟩
  exact (((((Below.refl _ _).alloc (Nat.le_refl _) _).alloc (by simp) _).trans (hb.mono (by simp; omega))).setCell (by simp) _).setCell (by simp) _
set_option maxHeartbeats 400000 in
theorem at_ok {size rate a b : Int} (hok : moveOk size rate [a, b] = true) (w : World) :
    Calls Try.prog 33 #[.int .i64 size, .int .i64 rate, .agg #[.int .i64 a, .int .i64 b]] w
      fun e w' => e = .returned (.tuple #[.agg #[.int .i64 (movedLo size rate a b), .int .i64 (movedHi size rate a b)], .int .i64 0]) ∧ Below w.heap.size w w' := by
  have C := Lib.hid (moveCode_ok hok)
  have M := Lib.hid (mov_of hok (f := a) (t := b) (by simp) (by simp))
  clear hok
  go_enter Try.func33, Try.ntmps33
  go_wp2_with (first | (go_at_call 81; (with_reducible refine (checkMovement_two C.out _ _ (by simp)).mono ?_); rintro e w' ⟨rfl, hb⟩; obtain ⟨hc, hf⟩ := bcell hb) | (go_at_call 84; (with_reducible refine (moved_any M.out M.out _).mono ?_); rintro e w2 ⟨rfl, hb2⟩; have hz : w.heap.size + 1 < w'.heap.size := by { have := hb.size; simp at this; omega }; obtain ⟨hc2, hf2⟩ := bcell hb2))
  refine bodyPost_ret (v := .tuple #[.agg #[.int .i64 (movedLo size rate a b), .int .i64 (movedHi size rate a b)], .int .i64 0]) (by simp [results, Try.results33, go_sem, hc, hc2, hz]) rfl ⟨rfl, ?_⟩
  exact ((((((Below.refl _ _).alloc (Nat.le_refl _) _).alloc (by simp) _).trans (hb.mono (by simp; omega))).trans (hb2.mono (by omega))).setCell (by simp) _).setCell (by simp) _

/-! ### The reference -/
def inB (lo hi n : Int) : Bool := !outB lo hi n
set_option maxHeartbeats 400000 in
theorem rwithin_any {lo hi n : Int} {v : Bool} (hv : inB lo hi n = v) (w : World) :
    Calls Try.prog 39 #[.int .i64 n, .int .i64 lo, .int .i64 hi] w fun e w' => e = .returned (.bool v) ∧ w = w' := by
  have V := Lib.hid hv
  clear hv
  go_enter Try.func39, Try.ntmps39
  go_wp2
  all_goals (go_ret; refine ⟨ret_bool ?_, rfl⟩; rw [← V.out]; unfold inB outB; rw [Bool.eq_iff_iff]; simp; omega)
theorem moisture_any {n : Int} {v : Bool} (hv : inB 0 400 n = v) (w : World) :
    Calls Try.prog 41 #[.int .i64 n] w fun e w' => e = .returned (.bool v) ∧ w = w' := by
  have V := Lib.hid hv
  clear hv
  go_enter Try.func41, Try.ntmps41
  go_wp2_with (go_at_call 39; (with_reducible refine (rwithin_any V.out _).mono ?_); rintro e w' ⟨rfl, rfl⟩)
  go_ret
  exact ⟨rfl, rfl⟩
theorem allIn_nil (lo hi : Int) : allIn lo hi [] = true := rfl
theorem allIn_snoc (lo hi : Int) (l : List Int) (n : Int) : allIn lo hi (l ++ [n]) = (allIn lo hi l && inB lo hi n) := by
  unfold allIn inB; rw [List.any_append]; simp
theorem allIn_one (lo hi n : Int) : allIn lo hi [n] = inB lo hi n := by unfold allIn inB; simp
theorem allIn_take {lo hi : Int} {ms : List Int} {k : Nat} (h : k < ms.length) : allIn lo hi (ms.take (k + 1)) = (allIn lo hi (ms.take k) && inB lo hi ms[k]) := by
  rw [List.take_succ_eq_append_getElem h, allIn_snoc]
set_option maxHeartbeats 1000000 in
theorem moveErr_any (size rate : Int) (blk len cap : Nat) (ms : List Int) (w : World)
    (hl : ms.length = len) (hm : len ≤ 1000) (hz : ∀ k (h : k < ms.length), w.cell? ⟨blk, k, none⟩ = some (.int .i64 ms[k])) :
    Calls Try.prog 34 #[.int .i64 size, .int .i64 rate, .slice (some ⟨blk, 0, none⟩) len cap] w fun e w' => e = .returned (.int .i64 (moveCode size rate ms)) ∧ w = w' := by
  subst hl
  have HZ := Lib.hid hz
  clear hz
  have HO : Hid (moveOk size rate ms = (inB 0 600000 size && inB 0 2000 rate && allIn 0 400 ms)) := Lib.hid (by unfold moveOk; rw [allIn_one, allIn_one, Bool.and_assoc])
  have HC : Hid (moveCode size rate ms = bif moveOk size rate ms then 0 else 2) := Lib.hid rfl
  cases h1 : inB 0 600000 size <;> cases h2 : inB 0 2000 rate
  all_goals
    have X1 := Lib.hid h1; have X2 := Lib.hid h2; clear h1 h2
    go_enter Try.func34, Try.ntmps34
    go_wp2_with (go_at_call 39; (first | (with_reducible refine (rwithin_any X1.out _).mono ?_) | (with_reducible refine (rwithin_any X2.out _).mono ?_)); rintro e w' ⟨rfl, rfl⟩)
    go_loop [7, 8] (fun b i => ∃ k : Nat, k ≤ ms.length ∧ i = .int .i64 k ∧ b = .bool (inB 0 600000 size && inB 0 2000 rate && allIn 0 400 (ms.take k))) (fun _ i => ms.length - (intOf i).toNat)
    case atStart => exact ⟨0, Nat.zero_le _, rfl, by rw [X1.out, X2.out]; rfl⟩
    case round =>
      obtain ⟨k, hk, rfl, rfl⟩ := hrel
      by_cases hlt : k < ms.length
      · have hc := HZ.out k hlt
        have HT := Lib.hid (allIn_take (lo := 0) (hi := 400) hlt)
        obtain ⟨bk, hbk⟩ : ∃ b, (inB 0 600000 size && inB 0 2000 rate && allIn 0 400 (ms.take k)) = b := ⟨_, rfl⟩
        rw [hbk]
        have HK := Lib.hid hbk; clear hbk
        cases h3 : inB 0 400 ms[k] <;> cases bk
        all_goals
          have X3 := Lib.hid h3; clear h3
          go_wp2_with (go_at_call 41; (with_reducible refine (moisture_any X3.out _).mono ?_); rintro e w' ⟨rfl, rfl⟩)
          go_round
          case rel => exact ⟨k + 1, by omega, by go_num, by rw [HT.out, ← Bool.and_assoc, HK.out, X3.out]; rfl⟩
          case measure => simp [intOf]; omega
      · have hk' : k = ms.length := by omega
        subst hk'
        obtain ⟨bk, hbk⟩ : ∃ b, (inB 0 600000 size && inB 0 2000 rate && allIn 0 400 (ms.take ms.length)) = b := ⟨_, rfl⟩
        rw [hbk]
        have HK := Lib.hid hbk; clear hbk
        cases bk
        all_goals
          go_wp2
          go_ret
          exact ⟨ret_int (by have hk0 := HK.out; rw [List.take_length] at hk0; rw [HC.out, HO.out, hk0]; rfl), rfl⟩
end Go.Proofs.Ytnjbhidncicfiaa
