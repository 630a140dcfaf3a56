/- Walks over the fits: numbers within ends. -/
import Derived.Test.YtffmaoalnilkkaaRows
import Derived.Test.YtffmaoalnilkkaaFA
import Derived.WalkKit
import Derived.WalkSpells
import Derived.WalkLawsBesides
import Derived.RegionTactic
import Derived.Lib.Hide
namespace Go.Proofs.Ytffmaoalnilkkaa
open Go.RowKit

theorem bcell {W w1 : World} (hb : Below W.heap.size W w1) : (∀ b o, b < W.heap.size → w1.cell? ⟨b, o, none⟩ = W.cell? ⟨b, o, none⟩) ∧ (∀ b o, b < W.heap.size → w1.frozen? ⟨b, o, none⟩ = W.frozen? ⟨b, o, none⟩) :=
  ⟨fun b o h => hb.cell (p := ⟨b, o, none⟩) h, fun b o h => hb.frozen (p := ⟨b, o, none⟩) h⟩
theorem ret_bool {a b : Bool} (h : a = b) : Ending.returned (.bool a) = .returned (.bool b) := by rw [h]
theorem ret_int {k : IntKind} {a b : Int} (h : a = b) : Ending.returned (.int k a) = .returned (.int k b) := by rw [h]
theorem ret_v {a b : Value} (h : a = b) : Ending.returned a = .returned b := by rw [h]
def IdxOut (lo hi : Int) (zs : List Int) (w : World) (e : Ending) (w' : World) : Prop := ∃ r : Int, e = .returned (.int .i64 r) ∧ decide (0 ≤ r) = zs.any (outB lo hi) ∧ w = w'
theorem any_take_succ (p : Int → Bool) (zs : List Int) (k : Nat) (h : k < zs.length) (h0 : (zs.take k).any p = false) (h1 : p zs[k] = false) : (zs.take (k + 1)).any p = false := by
  rw [List.take_succ_eq_append_getElem h, List.any_append, h0]; simp [h1]
theorem any_at (p : Int → Bool) (zs : List Int) (k : Nat) (h : k < zs.length) (h1 : p zs[k] = true) : zs.any p = true := List.any_eq_true.2 ⟨_, List.getElem_mem h, h1⟩
theorem later2 {w : World} {o1 o2 : Obj} {b o : Nat} (h : b < w.heap.size) : ((w.alloc o1).alloc o2).cell? ⟨b, o, none⟩ = w.cell? ⟨b, o, none⟩ :=
  (((Below.refl w.heap.size w).alloc (Nat.le_refl _) o1).alloc (by simp) o2).cell (p := ⟨b, o, none⟩) h

/-! ### Package fit -/
set_option maxHeartbeats 400000 in
theorem within1_fit (n lo hi : Int) (a b : Addr) (w : World) (ha : w.cell? a = some (.int .i64 lo)) (hb : w.cell? b = some (.int .i64 hi)) :
    Calls Try.prog 78 #[.int .i64 n, .pointer (some a), .pointer (some b)] w fun e w' => e = .returned (.bool (outB lo hi n)) ∧ w = w' := by
  go_enter Try.func78, Try.ntmps78
  go_wp2
  all_goals (go_ret; refine ⟨?_, rfl⟩; simp [outB, *])
/-- The closure that 'within' makes. -/
def withinFn_fit (a b : Addr) : Value := .func (.func 78) #[] #[.pointer (some a), .pointer (some b)]
set_option maxHeartbeats 400000 in
theorem index_fit (lo hi : Int) (a b : Addr) (blk off len cap : Nat) (zs : List Int) (w : World) (ha : w.cell? a = some (.int .i64 lo)) (hb : w.cell? b = some (.int .i64 hi))
    (hl : zs.length = len) (hm : len ≤ 1000) (hz : ∀ k (h : k < zs.length), w.cell? ⟨blk, off + k, none⟩ = some (.int .i64 zs[k])) :
    Calls Try.prog 95 #[.slice (some ⟨blk, off, none⟩) len cap, withinFn_fit a b] w (IdxOut lo hi zs w) := by
  unfold withinFn_fit
  subst hl
  go_enter Try.func95, Try.ntmps95
  go_wp2
  go_loop [5, 8] (fun _ i => ∃ k : Nat, k ≤ zs.length ∧ (zs.take k).any (outB lo hi) = false ∧ i = .int .i64 k) (fun _ i => zs.length - (intOf i).toNat)
  case atStart => exact ⟨0, Nat.zero_le _, rfl, rfl⟩
  case round =>
    obtain ⟨k, hk, hno, rfl⟩ := hrel
    have H := Lib.hid hno
    clear hno
    by_cases hlt : k < zs.length
    · have hc := hz k hlt
      clear hz
      cases hout : outB lo hi zs[k]
      · have X := Lib.hid hout
        go_wp2_with (go_at_call 78; refine (within1_fit _ _ _ _ _ _ ha hb).mono ?_; rintro e w' ⟨rfl, rfl⟩)
        go_round
        case rel => exact ⟨k + 1, by omega, any_take_succ _ _ _ hlt H.out X.out, by go_num⟩
        case measure => simp [intOf]; omega
      · have X := Lib.hid hout
        go_wp2_with (go_at_call 78; refine (within1_fit _ _ _ _ _ _ ha hb).mono ?_; rintro e w' ⟨rfl, rfl⟩)
        go_ret
        exact ⟨k, rfl, by rw [any_at _ _ _ hlt X.out]; simp, rfl⟩
    · go_wp2
      go_ret
      exact ⟨-1, rfl, by have := H.out; rw [List.take_of_length_le (by omega)] at this; rw [this]; rfl, rfl⟩
theorem contains_fit (lo hi : Int) (a b : Addr) (blk off len cap : Nat) (zs : List Int) (w : World) (ha : w.cell? a = some (.int .i64 lo)) (hb : w.cell? b = some (.int .i64 hi))
    (hl : zs.length = len) (hm : len ≤ 1000) (hz : ∀ k (h : k < zs.length), w.cell? ⟨blk, off + k, none⟩ = some (.int .i64 zs[k])) :
    Calls Try.prog 77 #[.slice (some ⟨blk, off, none⟩) len cap, withinFn_fit a b] w fun e w' => e = .returned (.bool (zs.any (outB lo hi))) ∧ w = w' := by
  go_enter Try.func77, Try.ntmps77
  go_wp2_with (go_at_call 95; refine (index_fit lo hi a b _ _ _ _ zs _ ha hb hl hm hz).mono ?_; rintro e w' ⟨r, rfl, hr, rfl⟩; have HR := Lib.hid hr; clear hr)
  go_ret
  exact ⟨ret_bool HR.out, rfl⟩
set_option maxHeartbeats 400000 in
theorem within_fit (lo hi : Int) (blk off len cap : Nat) (zs : List Int) (w : World)
    (hl : zs.length = len) (hm : len ≤ 1000) (hz : ∀ k (h : k < zs.length), w.cell? ⟨blk, off + k, none⟩ = some (.int .i64 zs[k])) (hb : blk < w.heap.size) :
    Calls Try.prog 54 #[.int .i64 lo, .int .i64 hi, .slice (some ⟨blk, off, none⟩) len cap] w fun e w' => e = .returned (.bool (allIn lo hi zs)) ∧ Below w.heap.size w w' := by
  go_enter Try.func54, Try.ntmps54
  have HZ := Lib.hid hz
  clear hz
  go_wp2_with (go_at_call 77; refine (contains_fit lo hi _ _ _ _ _ _ zs _ (by simp) (by simp) hl hm (fun k h => by rw [later2 hb]; exact HZ.out k h)).mono ?_; rintro e w' ⟨rfl, rfl⟩)
  go_ret
  exact ⟨rfl, ((Below.refl _ _).alloc (Nat.le_refl _) _).alloc (by simp) _⟩
theorem withinIs_fit {lo hi : Int} {zs : List Int} {v : Bool} (hv : allIn lo hi zs = v) (blk off len cap : Nat) (w : World)
    (hl : zs.length = len) (hm : len ≤ 1000) (hz : ∀ k (h : k < zs.length), w.cell? ⟨blk, off + k, none⟩ = some (.int .i64 zs[k])) (hb : blk < w.heap.size) :
    Calls Try.prog 54 #[.int .i64 lo, .int .i64 hi, .slice (some ⟨blk, off, none⟩) len cap] w fun e w' => e = .returned (.bool v) ∧ Below w.heap.size w w' :=
  (within_fit lo hi blk off len cap zs w hl hm hz hb).mono fun _ _ ⟨he, hw⟩ => ⟨by rw [he, hv], hw⟩
theorem withinNew_fit {lo hi : Int} {zs : List Int} {v : Bool} (hv : allIn lo hi zs = v) (len cap : Nat) (w : World) (e : TypeId) (cs : Array Value)
    (hcs : cs = (zs.map (Value.int .i64)).toArray) (hl : zs.length = len) (hm : len ≤ 1000) :
    Calls Try.prog 54 #[.int .i64 lo, .int .i64 hi, .slice (some ⟨w.heap.size, 0, none⟩) len cap] (w.alloc (.cells cs e)) fun e' w' => e' = .returned (.bool v) ∧ Below w.heap.size w w' := by
  subst hcs
  refine (withinIs_fit hv _ _ _ _ _ hl hm (fun k h => ?_) (by simp)).mono fun e' w' ⟨he, hw⟩ => ⟨he, ((Below.refl _ _).alloc (Nat.le_refl _) _).trans (hw.mono (by simp))⟩
  rw [World.cell?_alloc_new]
  simp [h]
theorem withinOne_fit {lo hi x : Int} {v : Bool} (hv : allIn lo hi [x] = v) (w : World) (e : TypeId) {blk : Nat} (hblk : blk = w.heap.size) :
    Calls Try.prog 54 #[.int .i64 lo, .int .i64 hi, .slice (some ⟨blk, 0, none⟩) 1 1] (w.alloc (.cells #[.int .i64 x] e)) fun e' w' => e' = .returned (.bool v) ∧ Below w.heap.size w w' := by
  subst hblk; exact withinNew_fit hv 1 1 w e _ rfl rfl (by decide)
theorem withinTwo_fit {lo hi x y : Int} {v : Bool} (hv : allIn lo hi [x, y] = v) (w : World) (e : TypeId) {blk : Nat} (hblk : blk = w.heap.size) :
    Calls Try.prog 54 #[.int .i64 lo, .int .i64 hi, .slice (some ⟨blk, 0, none⟩) 2 2] (w.alloc (.cells #[.int .i64 x, .int .i64 y] e)) fun e' w' => e' = .returned (.bool v) ∧ Below w.heap.size w w' := by
  subst hblk; exact withinNew_fit hv 2 2 w e _ rfl rfl (by decide)

/-! ### Package timber -/
set_option maxHeartbeats 400000 in
theorem within1_timber (n lo hi : Int) (a b : Addr) (w : World) (ha : w.cell? a = some (.int .i64 lo)) (hb : w.cell? b = some (.int .i64 hi)) :
    Calls Try.prog 124 #[.int .i64 n, .pointer (some a), .pointer (some b)] w fun e w' => e = .returned (.bool (outB lo hi n)) ∧ w = w' := by
  go_enter Try.func124, Try.ntmps124
  go_wp2
  all_goals (go_ret; refine ⟨?_, rfl⟩; simp [outB, *])
/-- The closure that 'within' makes. -/
def withinFn_timber (a b : Addr) : Value := .func (.func 124) #[] #[.pointer (some a), .pointer (some b)]
set_option maxHeartbeats 400000 in
theorem index_timber (lo hi : Int) (a b : Addr) (blk off len cap : Nat) (zs : List Int) (w : World) (ha : w.cell? a = some (.int .i64 lo)) (hb : w.cell? b = some (.int .i64 hi))
    (hl : zs.length = len) (hm : len ≤ 1000) (hz : ∀ k (h : k < zs.length), w.cell? ⟨blk, off + k, none⟩ = some (.int .i64 zs[k])) :
    Calls Try.prog 95 #[.slice (some ⟨blk, off, none⟩) len cap, withinFn_timber a b] w (IdxOut lo hi zs w) := by
  unfold withinFn_timber
  subst hl
  go_enter Try.func95, Try.ntmps95
  go_wp2
  go_loop [5, 8] (fun _ i => ∃ k : Nat, k ≤ zs.length ∧ (zs.take k).any (outB lo hi) = false ∧ i = .int .i64 k) (fun _ i => zs.length - (intOf i).toNat)
  case atStart => exact ⟨0, Nat.zero_le _, rfl, rfl⟩
  case round =>
    obtain ⟨k, hk, hno, rfl⟩ := hrel
    have H := Lib.hid hno
    clear hno
    by_cases hlt : k < zs.length
    · have hc := hz k hlt
      clear hz
      cases hout : outB lo hi zs[k]
      · have X := Lib.hid hout
        go_wp2_with (go_at_call 124; refine (within1_timber _ _ _ _ _ _ ha hb).mono ?_; rintro e w' ⟨rfl, rfl⟩)
        go_round
        case rel => exact ⟨k + 1, by omega, any_take_succ _ _ _ hlt H.out X.out, by go_num⟩
        case measure => simp [intOf]; omega
      · have X := Lib.hid hout
        go_wp2_with (go_at_call 124; refine (within1_timber _ _ _ _ _ _ ha hb).mono ?_; rintro e w' ⟨rfl, rfl⟩)
        go_ret
        exact ⟨k, rfl, by rw [any_at _ _ _ hlt X.out]; simp, rfl⟩
    · go_wp2
      go_ret
      exact ⟨-1, rfl, by have := H.out; rw [List.take_of_length_le (by omega)] at this; rw [this]; rfl, rfl⟩
theorem contains_timber (lo hi : Int) (a b : Addr) (blk off len cap : Nat) (zs : List Int) (w : World) (ha : w.cell? a = some (.int .i64 lo)) (hb : w.cell? b = some (.int .i64 hi))
    (hl : zs.length = len) (hm : len ≤ 1000) (hz : ∀ k (h : k < zs.length), w.cell? ⟨blk, off + k, none⟩ = some (.int .i64 zs[k])) :
    Calls Try.prog 77 #[.slice (some ⟨blk, off, none⟩) len cap, withinFn_timber a b] w fun e w' => e = .returned (.bool (zs.any (outB lo hi))) ∧ w = w' := by
  go_enter Try.func77, Try.ntmps77
  go_wp2_with (go_at_call 95; refine (index_timber lo hi a b _ _ _ _ zs _ ha hb hl hm hz).mono ?_; rintro e w' ⟨r, rfl, hr, rfl⟩; have HR := Lib.hid hr; clear hr)
  go_ret
  exact ⟨ret_bool HR.out, rfl⟩
set_option maxHeartbeats 400000 in
theorem within_timber (lo hi : Int) (blk off len cap : Nat) (zs : List Int) (w : World)
    (hl : zs.length = len) (hm : len ≤ 1000) (hz : ∀ k (h : k < zs.length), w.cell? ⟨blk, off + k, none⟩ = some (.int .i64 zs[k])) (hb : blk < w.heap.size) :
    Calls Try.prog 111 #[.int .i64 lo, .int .i64 hi, .slice (some ⟨blk, off, none⟩) len cap] w fun e w' => e = .returned (.bool (allIn lo hi zs)) ∧ Below w.heap.size w w' := by
  go_enter Try.func111, Try.ntmps111
  have HZ := Lib.hid hz
  clear hz
  go_wp2_with (go_at_call 77; refine (contains_timber lo hi _ _ _ _ _ _ zs _ (by simp) (by simp) hl hm (fun k h => by rw [later2 hb]; exact HZ.out k h)).mono ?_; rintro e w' ⟨rfl, rfl⟩)
  go_ret
  exact ⟨rfl, ((Below.refl _ _).alloc (Nat.le_refl _) _).alloc (by simp) _⟩
theorem withinIs_timber {lo hi : Int} {zs : List Int} {v : Bool} (hv : allIn lo hi zs = v) (blk off len cap : Nat) (w : World)
    (hl : zs.length = len) (hm : len ≤ 1000) (hz : ∀ k (h : k < zs.length), w.cell? ⟨blk, off + k, none⟩ = some (.int .i64 zs[k])) (hb : blk < w.heap.size) :
    Calls Try.prog 111 #[.int .i64 lo, .int .i64 hi, .slice (some ⟨blk, off, none⟩) len cap] w fun e w' => e = .returned (.bool v) ∧ Below w.heap.size w w' :=
  (within_timber lo hi blk off len cap zs w hl hm hz hb).mono fun _ _ ⟨he, hw⟩ => ⟨by rw [he, hv], hw⟩
theorem withinNew_timber {lo hi : Int} {zs : List Int} {v : Bool} (hv : allIn lo hi zs = v) (len cap : Nat) (w : World) (e : TypeId) (cs : Array Value)
    (hcs : cs = (zs.map (Value.int .i64)).toArray) (hl : zs.length = len) (hm : len ≤ 1000) :
    Calls Try.prog 111 #[.int .i64 lo, .int .i64 hi, .slice (some ⟨w.heap.size, 0, none⟩) len cap] (w.alloc (.cells cs e)) fun e' w' => e' = .returned (.bool v) ∧ Below w.heap.size w w' := by
  subst hcs
  refine (withinIs_timber hv _ _ _ _ _ hl hm (fun k h => ?_) (by simp)).mono fun e' w' ⟨he, hw⟩ => ⟨he, ((Below.refl _ _).alloc (Nat.le_refl _) _).trans (hw.mono (by simp))⟩
  rw [World.cell?_alloc_new]
  simp [h]
theorem withinOne_timber {lo hi x : Int} {v : Bool} (hv : allIn lo hi [x] = v) (w : World) (e : TypeId) {blk : Nat} (hblk : blk = w.heap.size) :
    Calls Try.prog 111 #[.int .i64 lo, .int .i64 hi, .slice (some ⟨blk, 0, none⟩) 1 1] (w.alloc (.cells #[.int .i64 x] e)) fun e' w' => e' = .returned (.bool v) ∧ Below w.heap.size w w' := by
  subst hblk; exact withinNew_timber hv 1 1 w e _ rfl rfl (by decide)
theorem withinTwo_timber {lo hi x y : Int} {v : Bool} (hv : allIn lo hi [x, y] = v) (w : World) (e : TypeId) {blk : Nat} (hblk : blk = w.heap.size) :
    Calls Try.prog 111 #[.int .i64 lo, .int .i64 hi, .slice (some ⟨blk, 0, none⟩) 2 2] (w.alloc (.cells #[.int .i64 x, .int .i64 y] e)) fun e' w' => e' = .returned (.bool v) ∧ Below w.heap.size w w' := by
  subst hblk; exact withinNew_timber hv 2 2 w e _ rfl rfl (by decide)
end Go.Proofs.Ytffmaoalnilkkaa
