/- Walks over beams: lists of numbers, ranges, sums, fractions. -/
import Derived.Test.YtablphoicidlkaaRows
import Derived.WalkKit
import Derived.WalkSpells
import Derived.WalkLawsBesides
import Derived.RegionTactic
import Derived.Deep.QuietTactic
import Derived.BigQuiet
import Derived.Deep.RegionHeld3
import Derived.Test.YtablphoicidlkaaSA
import Derived.Test.YtablphoicidlkaaSO
namespace Go.Proofs.Ytablphoicidlkaa
open Go.RowKit

theorem bcell {W w1 : World} (hb : Below W.heap.size W w1) : (∀ b o, b < W.heap.size → w1.cell? ⟨b, o, none⟩ = W.cell? ⟨b, o, none⟩) ∧ (∀ b o, b < W.heap.size → w1.frozen? ⟨b, o, none⟩ = W.frozen? ⟨b, o, none⟩) :=
  ⟨fun b o h => hb.cell (p := ⟨b, o, none⟩) h, fun b o h => hb.frozen (p := ⟨b, o, none⟩) h⟩
theorem ret_bool {a b : Bool} (h : a = b) : Ending.returned (.bool a) = .returned (.bool b) := by rw [h]
theorem ret_int {k : IntKind} {a b : Int} (h : a = b) : Ending.returned (.int k a) = .returned (.int k b) := by rw [h]
theorem ret_v {a b : Value} (h : a = b) : Ending.returned a = .returned b := by rw [h]
theorem below_drewN {B : Nat} {a w : World} (h : Below B a w) (n : Nat) : Below B a (w.drewN n) := ⟨h.os, h.tape, h.output, h.size, h.block⟩

def IntAt (w : World) (blk off : Nat) (x : Int) : Prop := w.cell? ⟨blk, off, none⟩ = some (.int .i64 x)
abbrev IntRow (w : World) (A : Option Addr) (n : Nat) (l : List Int) : Prop := RowOf (IntAt w) 1 A n l w.heap.size
theorem IntRow.below {w w' : World} {A : Option Addr} {n : Nat} {l : List Int} (h : IntRow w A n l) (hb : Below w.heap.size w w') : IntRow w' A n l :=
  RowOf.keep h hb.size (fun blk off _ hlt hx => (hb.cell (p := ⟨blk, off, none⟩) hlt).trans hx)
theorem intRow_new (w : World) (zs : List Int) (t : TypeId) (cs : Array Value) (hcs : cs = (zs.map (Value.int .i64)).toArray) {n : Nat} (hn : zs.length = n) : IntRow (w.alloc (.cells cs t)) (some ⟨w.heap.size, 0, none⟩) n zs := by
  subst hcs
  refine ⟨hn, fun _ => ⟨_, 0, rfl, by simp, fun k h => ?_⟩⟩
  show (w.alloc _).cell? _ = _
  rw [World.cell?_alloc_new]
  simp [h]

set_option maxHeartbeats 400000 in
theorem firstError_any {A : Option Addr} {n c : Nat} {zs : List Int} (w : World) (h : IntRow w A n zs) (hn : n ≤ maxLen) :
    Calls Try.prog 95 #[.slice A n c] w fun e w' => e = .returned (.int .i64 (firstE zs)) ∧ w = w' := by
  obtain ⟨hl, hx⟩ := h
  unfold maxLen at hn
  have HX := Lib.hid hx
  have HL := Lib.hid hl
  have hle : zs.length ≤ n := by omega
  have hge : n ≤ zs.length := by omega
  clear hl hx
  go_enter Try.func95, Try.ntmps95
  go_wp2
  go_loop [7] (fun i => ∃ k : Nat, k ≤ n ∧ i = .int .i64 k ∧ firstE zs = firstE (zs.drop k)) (fun i => n - (intOf i).toNat)
  case atStart => exact ⟨0, Nat.zero_le _, rfl, by rw [List.drop_zero]⟩
  case round =>
    obtain ⟨k, hk, rfl, hf⟩ := hrel
    have HF := Lib.hid hf
    clear hf
    by_cases hlt : k < n
    · have hkl : k < zs.length := by omega
      obtain ⟨blk, off, rfl, hb, hx⟩ := HX.out (by omega)
      have hc : w.cell? ⟨blk, off + k * 1, none⟩ = some (.int .i64 zs[k]) := hx k hkl
      rw [Nat.mul_one] at hc
      clear hx
      have HD := Lib.hid (List.drop_eq_getElem_cons hkl)
      obtain ⟨x, hxe⟩ : ∃ x, zs[k] = x := ⟨_, rfl⟩
      rw [hxe] at hc HD
      clear hxe
      by_cases h0 : x = 0
      · subst h0
        go_wp2
        go_round
        case rel => exact ⟨k + 1, by omega, by go_num, by rw [HF.out, HD.out]; rfl⟩
        case measure => simp [intOf]; omega
      · have e1 : (x == 0) = false := by simpa using h0
        have e2 : (x != 0) = true := by simpa using h0
        go_wp2
        go_ret
        exact ⟨ret_int (by rw [HF.out, HD.out, firstE_cons, e1, cond_false]), rfl⟩
    · go_wp2
      go_ret
      exact ⟨ret_int (by rw [HF.out, List.drop_of_length_le (by omega)]; rfl), rfl⟩

theorem any_take_succ (p : Int → Bool) (zs : List Int) (k : Nat) (h : k < zs.length) (h0 : (zs.take k).any p = false) (h1 : p zs[k] = false) : (zs.take (k + 1)).any p = false := by
  rw [List.take_succ_eq_append_getElem h, List.any_append, h0]; simp [h1]
theorem any_at (p : Int → Bool) (zs : List Int) (k : Nat) (h : k < zs.length) (h1 : p zs[k] = true) : zs.any p = true := List.any_eq_true.2 ⟨_, List.getElem_mem h, h1⟩
set_option maxHeartbeats 400000 in
theorem checkRange_any {lo hi : Int} {A : Option Addr} {n c : Nat} {zs : List Int} (w : World) (h : IntRow w A n zs) (hn : n ≤ maxLen) :
    Calls Try.prog 96 #[.int .i64 lo, .int .i64 hi, .slice A n c] w fun e w' => e = .returned (.int .i64 (rngE lo hi zs)) ∧ w = w' := by
  obtain ⟨hl, hx⟩ := h
  unfold maxLen at hn
  have HX := Lib.hid hx
  have HL := Lib.hid hl
  have hle : zs.length ≤ n := by omega
  have hge : n ≤ zs.length := by omega
  clear hl hx
  go_enter Try.func96, Try.ntmps96
  go_wp2
  go_loop [11] (fun i => ∃ k : Nat, k ≤ n ∧ i = .int .i64 k ∧ (zs.take k).any (outB lo hi) = false) (fun i => n - (intOf i).toNat)
  case atStart => exact ⟨0, Nat.zero_le _, rfl, rfl⟩
  case round =>
    obtain ⟨k, hk, rfl, hno⟩ := hrel
    have H := Lib.hid hno
    clear hno
    by_cases hlt : k < n
    · have hkl : k < zs.length := by omega
      obtain ⟨blk, off, rfl, hb, hx⟩ := HX.out (by omega)
      have hc : w.cell? ⟨blk, off + k * 1, none⟩ = some (.int .i64 zs[k]) := hx k hkl
      rw [Nat.mul_one] at hc
      clear hx
      have HT := Lib.hid (fun h1 => any_take_succ (outB lo hi) zs k hkl H.out h1)
      have HA := Lib.hid (fun h1 => any_at (outB lo hi) zs k hkl h1)
      obtain ⟨x, hxe⟩ : ∃ x, zs[k] = x := ⟨_, rfl⟩
      rw [hxe] at hc HT HA
      clear hxe
      go_wp2
      all_goals first
        | (go_round
           case rel => exact ⟨k + 1, by omega, by go_num, HT.out (by simp [outB]; omega)⟩
           case measure => simp [intOf]; omega)
        | (go_ret
           exact ⟨ret_int (by unfold rngE allIn; rw [HA.out (by simp [outB]; omega)]; rfl), rfl⟩)
    · go_wp2
      go_ret
      exact ⟨ret_int (by unfold rngE allIn; have := H.out; rw [List.take_of_length_le (by omega)] at this; rw [this]; rfl), rfl⟩

set_option maxHeartbeats 400000 in
theorem sum_any {A : Option Addr} {n c : Nat} {zs : List Int} (w : World) (h : IntRow w A n zs) (hn : n ≤ maxLen) :
    Calls Try.prog 142 #[.slice A n c] w fun e w' => e = .returned (.int .i64 (wrap64 (sumL id zs))) ∧ w = w' := by
  obtain ⟨hl, hx⟩ := h
  unfold maxLen at hn
  have HX := Lib.hid hx
  have HL := Lib.hid hl
  have hle : zs.length ≤ n := by omega
  have hge : n ≤ zs.length := by omega
  clear hl hx
  go_enter Try.func142, Try.ntmps142
  go_wp2
  go_loop [3, 8] (fun s i => ∃ (k : Nat) (v : Int), k ≤ n ∧ i = .int .i64 k ∧ s = .int .i64 v ∧ v = wrap64 (sumL id (zs.take k))) (fun _ i => n - (intOf i).toNat)
  case atStart => exact ⟨0, 0, Nat.zero_le _, rfl, rfl, (w64 (by decide)).symm⟩
  case round =>
    obtain ⟨k, v, hk, rfl, rfl, hv⟩ := hrel
    have H := Lib.hid hv
    clear hv
    by_cases hlt : k < n
    · have hkl : k < zs.length := by omega
      obtain ⟨blk, off, rfl, hb, hx⟩ := HX.out (by omega)
      have hc : w.cell? ⟨blk, off + k * 1, none⟩ = some (.int .i64 zs[k]) := hx k hkl
      rw [Nat.mul_one] at hc
      clear hx
      have HT := Lib.hid (sumL_take_succ id zs hkl)
      obtain ⟨x, hxe⟩ : ∃ x, zs[k] = x := ⟨_, rfl⟩
      rw [hxe] at hc HT
      clear hxe
      go_wp2
      go_round
      case rel => exact ⟨k + 1, wrap64 (v + x), by omega, by go_num, by go_num, by rw [HT.out, H.out, wrap_add_l]; rfl⟩
      case measure => simp [intOf]; omega
    · go_wp2
      go_ret
      exact ⟨ret_int (by rw [H.out, List.take_of_length_le (by omega)]), rfl⟩

theorem abs_any {n : Int} (hn : -9223372036854775807 ≤ n) (hn' : n ≤ 9223372036854775807) (w : World) :
    Calls Try.prog 144 #[.int .i64 n] w fun e w' => e = .returned (.int .i64 (absI n)) ∧ w = w' := by
  go_enter Try.func144, Try.ntmps144
  go_wp2
  all_goals
    go_ret
    exact ⟨ret_int (by first | (rw [absI_neg (by omega)]; done) | (rw [absI_neg (by omega)]; exact w64 (by omega)) | rw [absI_nn (by omega)]), rfl⟩

def GcdOut (a b : Nat) (w : World) (e : Ending) (w' : World) : Prop := e = .returned (.int .i64 (Nat.gcd a b : Int)) ∧ ∃ n, w' = w.drewN n
set_option maxHeartbeats 400000 in
theorem gcd_any (a b : Nat) (ha : a ≤ 9223372036854775807) (hb : b ≤ 9223372036854775807) (w : World) :
    Calls Try.prog 143 #[.int .i64 a, .int .i64 b] w (GcdOut a b w) := by
  have HA := Lib.hid ha; have HB := Lib.hid hb
  clear ha hb
  go_enter Try.func143, Try.ntmps143
  go_wp2
  go_loopw [0, 1] (fun p q wr => ∃ x y n : Nat, x ≤ 9223372036854775807 ∧ y ≤ 9223372036854775807 ∧ Nat.gcd x y = Nat.gcd a b ∧ p = .int .i64 x ∧ q = .int .i64 y ∧ wr = w.drewN n) (fun _ q _ => (intOf q).toNat)
  case atStart => exact ⟨a, b, 0, HA.out, HB.out, rfl, rfl, rfl, rfl⟩
  case round =>
    obtain ⟨x, y, n, hx, hy, hg, rfl, rfl, rfl⟩ := hrel
    have HG := Lib.hid hg
    clear hg
    by_cases h0 : y = 0
    · subst h0
      go_wp2
      go_ret
      exact ⟨ret_int (by rw [← HG.out]; simp), n, rfl⟩
    · have hne : ((y : Int) == 0) = false := by simp; omega
      have hne' : ((y : Int) != 0) = true := by simp; omega
      have ht : (x : Int).tmod (y : Int) = ((x % y : Nat) : Int) := rfl
      have HLT := Lib.hid (Nat.mod_lt x (Nat.pos_of_ne_zero h0))
      have HGR := Lib.hid (Nat.gcd_rec y x)
      have hpos := Lib.hid (Nat.pos_of_ne_zero h0)
      go_wp2
      go_region
      go_wp2
      go_roundw
      case rel => exact ⟨y, x % y, n + 1, hy, by have := HLT.out; omega, by rw [← HG.out, Nat.gcd_comm y, Nat.gcd_comm x y]; exact (Nat.gcd_rec y x).symm, rfl, by simp, rfl⟩
      case measure => have := HLT.out; simp [intOf]; omega

set_option maxHeartbeats 1000000 in
theorem added_any {A : Option Addr} {n c : Nat} {zs : List Int} {d v : Int} (w : World) (h : IntRow w A n zs) (hn : n ≤ maxLen) (hd : 0 < d) (hd' : d ≤ 9223372036854775807) (hv : sumL id zs = v) (hb : v.natAbs ≤ 9223372036854775807) :
    Calls Try.prog 92 #[.int .i64 d, .slice A n c] w fun e w' => e = .returned (frV v d) ∧ Below w.heap.size w w' := by
  have SU := Lib.hid (fun wx (hx : Below w.heap.size w wx) => sum_any (c := c) wx (h.below hx) hn)
  rw [hv, w64 (x := v) (by omega)] at SU
  have AB := fun wx => Lib.hid (abs_any (n := v) (by omega) (by omega) wx)
  have hab : absI v = ((v.natAbs : Nat) : Int) := rfl
  have hdd : d = ((d.natAbs : Nat) : Int) := by omega
  have G := fun wx => Lib.hid (gcd_any v.natAbs d.natAbs hb (by omega) wx)
  have hG : ((Nat.gcd v.natAbs d.natAbs : Nat) : Int) = (lowG v d : Int) := rfl
  have hg0 : 0 < lowG v d := lowG_pos hd
  have hgl : (lowG v d : Int) ≤ d := lowG_le hd
  have F1 : Hid (v.tdiv (lowG v d : Int) = lowN v d) := Lib.hid rfl
  have F2 : Hid (d.tdiv (lowG v d : Int) = lowD v d) := Lib.hid rfl
  have B1 := lowN_bd (n := v) hd
  have B2 := lowD_pos (n := v) hd
  have B3 := lowD_le (n := v) hd
  unfold GcdOut at G
  rw [hG, ← hdd] at G
  rw [hab] at AB
  unfold frV
  clear hG hab hdd h hv
  generalize lowN v d = nn at *
  generalize lowD v d = dd at *
  generalize lowG v d = g at *
  generalize v.natAbs = va at *
  have hgi : (0 : Int) < (g : Int) := by omega
  have hgn : ((g : Int) == 0) = false := by simp; omega
  have hne : ¬ g = 0 := by omega
  have w1 : IntKind.i64.wrap nn = nn := IntWalk.i64_in _ (by omega)
  have w2 : IntKind.i64.wrap dd = dd := IntWalk.i64_in _ (by omega)
  have hbe : Hid (Below w.heap.size w (w.alloc (.cells #[.int .i64 0, .int .i64 0] 30))) := Lib.hid ((Below.refl _ _).alloc (Nat.le_refl _) _)
  go_enter Try.func92, Try.ntmps92
  go_wp2_with (first | (go_at_call 142; refine Calls.mono (SU.out _ hbe.out) ?_; rintro e w' ⟨rfl, rfl⟩) | (go_at_call 144; (refine Calls.mono (AB _).out ?_); rintro e w2 ⟨rfl, rfl⟩) | (go_at_call 143; (refine Calls.mono (G _).out ?_); rintro e w3 ⟨rfl, m, rfl⟩))
  go_region
  go_wp2
  have e1 : wrap64 (v.tdiv (g : Int)) = nn := by rw [F1.out]; exact w64 (by omega)
  have e2 : d / (g : Int) = dd := by rw [← F2.out]; exact (Int.tdiv_eq_ediv_of_nonneg (by omega)).symm
  refine bodyPost_ret (v := .agg #[.int .i64 (wrap64 (v.tdiv (g : Int))), .int .i64 (d / (g : Int))]) (by simp [results, Try.results92, go_sem]) rfl ⟨by rw [e1, e2], ?_⟩
  exact ((below_drewN hbe.out _).setCell (Nat.le_refl _) _).setCell (Nat.le_refl _) _
end Go.Proofs.Ytablphoicidlkaa
