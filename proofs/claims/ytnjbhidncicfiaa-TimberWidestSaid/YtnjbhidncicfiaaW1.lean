/- Walks over the timber seat. -/
import Derived.Test.YtnjbhidncicfiaaRows
import Derived.WalkKit
import Derived.WalkSpells
import Derived.WalkLawsBesides
import Derived.Lib.Hide
namespace Go.Proofs.Ytnjbhidncicfiaa
open Go.RowKit

theorem bcell {W w1 : World} (hb : Below W.heap.size W w1) : (∀ b o, b < W.heap.size → w1.cell? ⟨b, o, none⟩ = W.cell? ⟨b, o, none⟩) ∧ (∀ b o, b < W.heap.size → w1.frozen? ⟨b, o, none⟩ = W.frozen? ⟨b, o, none⟩) :=
  ⟨fun b o h => hb.cell (p := ⟨b, o, none⟩) h, fun b o h => hb.frozen (p := ⟨b, o, none⟩) h⟩
theorem ret_bool {a b : Bool} (h : a = b) : Ending.returned (.bool a) = .returned (.bool b) := by rw [h]
theorem ret_int {k : IntKind} {a b : Int} (h : a = b) : Ending.returned (.int k a) = .returned (.int k b) := by rw [h]
def outB (lo hi n : Int) : Bool := decide (n < lo) || decide (hi < n)

set_option maxHeartbeats 400000 in
theorem within1_any (n lo hi : Int) (a b : Addr) (w : World) (ha : w.cell? a = some (.int .i64 lo)) (hb : w.cell? b = some (.int .i64 hi)) :
    Calls Try.prog 115 #[.int .i64 n, .pointer (some a), .pointer (some b)] w fun e w' => e = .returned (.bool (outB lo hi n)) ∧ w = w' := by
  go_enter Try.func115, Try.ntmps115
  go_wp2
  all_goals (go_ret; refine ⟨?_, rfl⟩; simp [outB, *])
/-- The closure that 'within' makes. -/
def withinFn (a b : Addr) : Value := .func (.func 115) #[] #[.pointer (some a), .pointer (some b)]
def IdxOut (lo hi : Int) (zs : List Int) (w : World) (e : Ending) (w' : World) : Prop := ∃ r : Int, e = .returned (.int .i64 r) ∧ decide (0 ≤ r) = zs.any (outB lo hi) ∧ w = w'

theorem any_take_succ (p : Int → Bool) (zs : List Int) (k : Nat) (h : k < zs.length) (h0 : (zs.take k).any p = false) (h1 : p zs[k] = false) : (zs.take (k + 1)).any p = false := by
  rw [List.take_succ_eq_append_getElem h, List.any_append, h0]; simp [h1]
theorem any_at (p : Int → Bool) (zs : List Int) (k : Nat) (h : k < zs.length) (h1 : p zs[k] = true) : zs.any p = true := List.any_eq_true.2 ⟨_, List.getElem_mem h, h1⟩

set_option maxHeartbeats 400000 in
theorem index_any (lo hi : Int) (a b : Addr) (blk off len cap : Nat) (zs : List Int) (w : World) (ha : w.cell? a = some (.int .i64 lo)) (hb : w.cell? b = some (.int .i64 hi))
    (hl : zs.length = len) (hm : len ≤ 1000) (hz : ∀ k (h : k < zs.length), w.cell? ⟨blk, off + k, none⟩ = some (.int .i64 zs[k])) :
    Calls Try.prog 127 #[.slice (some ⟨blk, off, none⟩) len cap, withinFn a b] w (IdxOut lo hi zs w) := by
  unfold withinFn
  subst hl
  go_enter Try.func127, Try.ntmps127
  go_wp2
  go_loop [5, 8] (fun _ i => ∃ k : Nat, k ≤ zs.length ∧ (zs.take k).any (outB lo hi) = false ∧ i = .int .i64 k) (fun _ i => zs.length - (intOf i).toNat)
  case atStart => exact ⟨0, Nat.zero_le _, rfl, rfl⟩
  case round =>
    obtain ⟨k, hk, hno, rfl⟩ := hrel
    have H := Lib.hid hno
    clear hno
    by_cases hlt : k < zs.length
    · have hc := hz k hlt
      clear hz
      cases hout : outB lo hi zs[k]
      · have X := Lib.hid hout
        go_wp2_with (go_at_call 115; refine (within1_any _ _ _ _ _ _ ha hb).mono ?_; rintro e w' ⟨rfl, rfl⟩)
        go_round
        case rel => exact ⟨k + 1, by omega, any_take_succ _ _ _ hlt H.out X.out, by go_num⟩
        case measure => simp [intOf]; omega
      · have X := Lib.hid hout
        go_wp2_with (go_at_call 115; refine (within1_any _ _ _ _ _ _ ha hb).mono ?_; rintro e w' ⟨rfl, rfl⟩)
        go_ret
        exact ⟨k, rfl, by rw [any_at _ _ _ hlt X.out]; simp, rfl⟩
    · go_wp2
      go_ret
      exact ⟨-1, rfl, by have := H.out; rw [List.take_of_length_le (by omega)] at this; rw [this]; rfl, rfl⟩
theorem contains_any (lo hi : Int) (a b : Addr) (blk off len cap : Nat) (zs : List Int) (w : World) (ha : w.cell? a = some (.int .i64 lo)) (hb : w.cell? b = some (.int .i64 hi))
    (hl : zs.length = len) (hm : len ≤ 1000) (hz : ∀ k (h : k < zs.length), w.cell? ⟨blk, off + k, none⟩ = some (.int .i64 zs[k])) :
    Calls Try.prog 114 #[.slice (some ⟨blk, off, none⟩) len cap, withinFn a b] w fun e w' => e = .returned (.bool (zs.any (outB lo hi))) ∧ w = w' := by
  go_enter Try.func114, Try.ntmps114
  go_wp2_with (go_at_call 127; refine (index_any lo hi a b _ _ _ _ zs _ ha hb hl hm hz).mono ?_; rintro e w' ⟨r, rfl, hr, rfl⟩; have HR := Lib.hid hr; clear hr)
  go_ret
  exact ⟨ret_bool HR.out, rfl⟩

/-- All numbers of a slice within two ends. -/
def allIn (lo hi : Int) (zs : List Int) : Bool := !(zs.any (outB lo hi))
theorem later2 {w : World} {o1 o2 : Obj} {b o : Nat} (h : b < w.heap.size) : ((w.alloc o1).alloc o2).cell? ⟨b, o, none⟩ = w.cell? ⟨b, o, none⟩ :=
  (((Below.refl w.heap.size w).alloc (Nat.le_refl _) o1).alloc (by simp) o2).cell (p := ⟨b, o, none⟩) h
set_option maxHeartbeats 400000 in
theorem within_any (lo hi : Int) (blk off len cap : Nat) (zs : List Int) (w : World)
    (hl : zs.length = len) (hm : len ≤ 1000) (hz : ∀ k (h : k < zs.length), w.cell? ⟨blk, off + k, none⟩ = some (.int .i64 zs[k])) (hb : blk < w.heap.size) :
    Calls Try.prog 79 #[.int .i64 lo, .int .i64 hi, .slice (some ⟨blk, off, none⟩) len cap] w fun e w' => e = .returned (.bool (allIn lo hi zs)) ∧ Below w.heap.size w w' := by
  go_enter Try.func79, Try.ntmps79
  have HZ := Lib.hid hz
  clear hz
  go_wp2_with (go_at_call 114; refine (contains_any lo hi _ _ _ _ _ _ zs _ (by simp) (by simp) hl hm (fun k h => by rw [later2 hb]; exact HZ.out k h)).mono ?_; rintro e w' ⟨rfl, rfl⟩)
  go_ret
  exact ⟨rfl, ((Below.refl _ _).alloc (Nat.le_refl _) _).alloc (by simp) _⟩

theorem within_is {lo hi : Int} {zs : List Int} {v : Bool} (hv : allIn lo hi zs = v) (blk off len cap : Nat) (w : World)
    (hl : zs.length = len) (hm : len ≤ 1000) (hz : ∀ k (h : k < zs.length), w.cell? ⟨blk, off + k, none⟩ = some (.int .i64 zs[k])) (hb : blk < w.heap.size) :
    Calls Try.prog 79 #[.int .i64 lo, .int .i64 hi, .slice (some ⟨blk, off, none⟩) len cap] w fun e w' => e = .returned (.bool v) ∧ Below w.heap.size w w' :=
  (within_any lo hi blk off len cap zs w hl hm hz hb).mono fun _ _ ⟨he, hw⟩ => ⟨by rw [he, hv], hw⟩
/-- The same where the numbers lie in a new row. -/
theorem within_new {lo hi : Int} {zs : List Int} {v : Bool} (hv : allIn lo hi zs = v) (len cap : Nat) (w : World) (e : TypeId) (cs : Array Value)
    (hcs : cs = (zs.map (Value.int .i64)).toArray) (hl : zs.length = len) (hm : len ≤ 1000) :
    Calls Try.prog 79 #[.int .i64 lo, .int .i64 hi, .slice (some ⟨w.heap.size, 0, none⟩) len cap] (w.alloc (.cells cs e)) fun e' w' => e' = .returned (.bool v) ∧ Below w.heap.size w w' := by
  subst hcs
  refine (within_is hv _ _ _ _ _ hl hm (fun k h => ?_) (by simp)).mono fun e' w' ⟨he, hw⟩ => ⟨he, ((Below.refl _ _).alloc (Nat.le_refl _) _).trans (hw.mono (by simp))⟩
  rw [World.cell?_alloc_new]
  simp [h]

theorem within_one {lo hi x : Int} {v : Bool} (hv : allIn lo hi [x] = v) (w : World) (e : TypeId) :
    Calls Try.prog 79 #[.int .i64 lo, .int .i64 hi, .slice (some ⟨w.heap.size, 0, none⟩) 1 1] (w.alloc (.cells #[.int .i64 x] e)) fun e' w' => e' = .returned (.bool v) ∧ Below w.heap.size w w' :=
  within_new hv 1 1 w e _ rfl rfl (by decide)

/-! ### Movement -/
/-- The error of a movement: 0 or 2. -/
def moveOk (size rate : Int) (ms : List Int) : Bool := allIn 0 600000 [size] && (allIn 0 2000 [rate] && allIn 0 400 ms)
def moveCode (size rate : Int) (ms : List Int) : Int := bif moveOk size rate ms then 0 else 2
set_option maxHeartbeats 400000 in
theorem checkMovement_any (size rate : Int) (blk len cap : Nat) (ms : List Int) (w : World)
    (hl : ms.length = len) (hm : len ≤ 1000) (hz : ∀ k (h : k < ms.length), w.cell? ⟨blk, 0 + k, none⟩ = some (.int .i64 ms[k])) (hb : blk < w.heap.size) :
    Calls Try.prog 81 #[.int .i64 size, .int .i64 rate, .slice (some ⟨blk, 0, none⟩) len cap] w fun e w' => e = .returned (.int .i64 (moveCode size rate ms)) ∧ Below w.heap.size w w' := by
  have HZ := Lib.hid hz
  clear hz
  cases h1 : allIn 0 600000 [size]
  · have X1 := Lib.hid h1; clear h1
    go_enter Try.func81, Try.ntmps81
    go_wp2_with (go_at_call 79; (with_reducible refine (within_one X1.out _ _).mono ?_); rintro e w1 ⟨rfl, hb1⟩)
    go_ret
    exact ⟨ret_int (by unfold moveCode moveOk; rw [X1.out]; rfl), hb1⟩
  · have X1 := Lib.hid h1; clear h1
    cases h2 : allIn 0 2000 [rate]
    · have X2 := Lib.hid h2; clear h2
      go_enter Try.func81, Try.ntmps81
      go_wp2_with (go_at_call 79; (with_reducible refine (within_one X1.out _ _).mono ?_); rintro e w1 ⟨rfl, hb1⟩)
      go_wp2_with (go_at_call 79; (with_reducible refine (within_one X2.out _ _).mono ?_); rintro e w2 ⟨rfl, hb2⟩)
      go_ret
      exact ⟨ret_int (by unfold moveCode moveOk; rw [X1.out, X2.out]; rfl), hb1.trans (hb2.mono hb1.size)⟩
    · have X2 := Lib.hid h2; clear h2
      cases h3 : allIn 0 400 ms
      all_goals
        have X3 := Lib.hid h3; clear h3
        go_enter Try.func81, Try.ntmps81
        go_wp2_with (go_at_call 79; (with_reducible refine (within_one X1.out _ _).mono ?_); rintro e w1 ⟨rfl, hb1⟩)
        go_wp2_with (go_at_call 79; (with_reducible refine (within_one X2.out _ _).mono ?_); rintro e w2 ⟨rfl, hb2⟩)
        have hB := hb1.trans (hb2.mono hb1.size)
        have hbs := hb1.size
        go_wp2_with (go_at_call 79; refine (within_is X3.out _ _ _ _ _ hl hm (fun k h => by rw [hB.cell (p := ⟨blk, 0 + k, none⟩) hb]; exact HZ.out k h) (Nat.lt_of_lt_of_le hb hB.size)).mono ?_; rintro e w3 ⟨rfl, hb3⟩)
        go_ret
        exact ⟨ret_int (by unfold moveCode moveOk; rw [X1.out, X2.out, X3.out]; rfl), hB.trans (hb3.mono hB.size)⟩
end Go.Proofs.Ytnjbhidncicfiaa
