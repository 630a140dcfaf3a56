/- Walks over the timber seat: lists of species. -/
import Derived.Test.YtnjbhidncicfiaaS2
import Derived.Test.YtnjbhidncicfiaaMM
import Derived.Test.YtnjbhidncicfiaaMT
import Derived.Test.YtnjbhidncicfiaaO1
import Derived.Maps.Own
import Derived.Maps.OwnOps
import Derived.Maps.OwnSet
import Derived.Handy
namespace Go.Proofs.Ytnjbhidncicfiaa
open Go.RowKit Go.Maps

def SpAt (w : World) (blk off : Nat) (s : Sp) : Prop :=
  w.cell? ⟨blk, off, none⟩ = some (.string s.nm) ∧ w.cell? ⟨blk, off + 1, none⟩ = some (.int .i64 s.al) ∧ w.cell? ⟨blk, off + 2, none⟩ = some (.int .i64 s.ac) ∧ w.cell? ⟨blk, off + 3, none⟩ = some (.int .i64 s.ra) ∧
  w.cell? ⟨blk, off + 4, none⟩ = some (.int .i64 s.de) ∧ w.cell? ⟨blk, off + 5, none⟩ = some (.int .i64 s.st) ∧ w.cell? ⟨blk, off + 6, none⟩ = some (.int .i64 s.sr) ∧ s.nm.size ≤ maxLen
theorem SpAt.below {w w' : World} {B blk off : Nat} {s : Sp} (h : SpAt w blk off s) (hb : Below B w w') (hlt : blk < B) : SpAt w' blk off s := by
  obtain ⟨h0, h1, h2, h3, h4, h5, h6, h7⟩ := h
  have k : ∀ o, w'.cell? ⟨blk, o, none⟩ = w.cell? ⟨blk, o, none⟩ := fun o => hb.cell (p := ⟨blk, o, none⟩) hlt
  exact ⟨by rw [k, h0], by rw [k, h1], by rw [k, h2], by rw [k, h3], by rw [k, h4], by rw [k, h5], by rw [k, h6], h7⟩
abbrev SpRow (w : World) (A : Option Addr) (n : Nat) (l : List Sp) : Prop := RowOf (SpAt w) 7 A n l w.heap.size
theorem SpRow.below {w w' : World} {A : Option Addr} {n : Nat} {l : List Sp} (h : SpRow w A n l) (hb : Below w.heap.size w w') : SpRow w' A n l :=
  RowOf.keep h hb.size (fun _ _ _ hlt hx => SpAt.below hx hb hlt)
theorem below_grown {a w : World} (h : Below a.heap.size a w) (row : Option Nat) : a.grownBy w row := ⟨h.os, h.tape, h.output, h.size, fun i hi _ => h.block i hi⟩
theorem lawS : Keyed Try.prog 9 := string_keyed Try.underlying9
theorem zero3 (w : World) : (zeroValue 3).run Try.prog w = .ok (.int .i64 0) w := by kernel_rfl
theorem string_eq {s t : ByteArray} : (s.toList == t.toList) = decide (s = t) := by
  rw [Bool.eq_iff_iff, beq_iff_eq, decide_eq_true_iff, ByteArray.toList_eq, ByteArray.toList_eq]
  exact ⟨fun h => keyL_inj (by unfold keyL; rw [h]), fun h => by rw [h]⟩

set_option maxHeartbeats 2000000 in
theorem rfind_any {A : Option Addr} {n cp : Nat} {l : List Sp} {nm : ByteArray} {r : Int} (hr : findFrom 0 nm l = r) (w : World) (hl : SpRow w A n l) (hn : n ≤ maxLen) :
    Calls Try.prog 23 #[.slice A n cp, .string nm] w fun e w' => e = .returned (.int .i64 r) ∧ w = w' := by
  obtain ⟨hlen, hrow⟩ := hl
  have hn' : n ≤ 9223372036854775807 := hn
  have HR : Hid (findFrom 0 nm (l.drop 0) = r) := Lib.hid hr
  have HROW := Lib.hid hrow
  clear hr hrow
  go_enter Try.func23, Try.ntmps23
  go_wp2
  go_loop [5] (fun i => ∃ k : Nat, k ≤ n ∧ findFrom k nm (l.drop k) = r ∧ i = .int .i64 k) (fun i => n - (intOf i).toNat)
  case atStart => exact ⟨0, Nat.zero_le _, HR.out, rfl⟩
  case round =>
    obtain ⟨k, hk, ht, rfl⟩ := hrel
    have HT := Lib.hid ht
    clear ht
    by_cases hlt : k < n
    · have hkl : k < l.length := by omega
      obtain ⟨blk, off, rfl, hblk, hx⟩ := HROW.out (by omega)
      have c0 := (hx k hkl).1
      have HS := Lib.hid (find_step (nm := nm) hkl)
      clear hx
      cases he : (l[k].nm.toList == nm.toList)
      · have hd : Hid (decide (l[k].nm = nm) = false) := Lib.hid (by rw [← string_eq]; exact he)
        obtain ⟨s, hs⟩ : ∃ s, l[k].nm = s := ⟨_, rfl⟩
        rw [hs] at c0 he
        clear hs
        have HV : Hid (findFrom (k + 1) nm (l.drop (k + 1)) = r) := Lib.hid (by rw [← HT.out, HS.out, hd.out]; rfl)
        go_wp2
        go_round
        case rel => exact ⟨k + 1, by omega, HV.out, by go_num⟩
        case measure => simp [intOf]; omega
      · have HV : Hid ((k : Int) = r) := Lib.hid (by rw [← HT.out, HS.out, ← string_eq, he]; rfl)
        obtain ⟨s, hs⟩ : ∃ s, l[k].nm = s := ⟨_, rfl⟩
        rw [hs] at c0 he
        clear hs
        go_wp2
        go_ret
        exact ⟨ret_int HV.out, rfl⟩
    · have HV : Hid (-1 = r) := Lib.hid (by rw [← HT.out, find_end (by omega)])
      have hk' : k = n := by omega
      subst hk'
      go_wp2
      go_ret
      exact ⟨ret_int HV.out, rfl⟩

/-- The law's own bound on what it looks at. -/
def shortB (l : List Sp) : Bool := decide (l.length ≤ 50) && l.all fun s => decide (s.nm.size ≤ 30)
theorem short_false {l : List Sp} {k : Nat} (hk : k < l.length) (h : 30 < l[k].nm.size) : shortB l = false := by
  unfold shortB
  rw [Bool.and_eq_false_iff]
  right
  rw [List.all_eq_false]
  exact ⟨l[k], List.getElem_mem hk, by simp; omega⟩
theorem short_true {l : List Sp} (hl : l.length ≤ 50) (h : ∀ k (hk : k < l.length), l[k].nm.size ≤ 30) : shortB l = true := by
  unfold shortB
  rw [Bool.and_eq_true, List.all_eq_true]
  refine ⟨by simp [hl], fun s hs => ?_⟩
  obtain ⟨k, hk, rfl⟩ := List.mem_iff_getElem.1 hs
  simp [h k hk]
set_option maxHeartbeats 2000000 in
theorem short_any {A : Option Addr} {n cp : Nat} {l : List Sp} {v : Bool} (hv : shortB l = v) (w : World) (hl : SpRow w A n l) (hn : n ≤ maxLen) :
    Calls Try.prog 19 #[.slice A n cp] w fun e w' => e = .returned (.bool v) ∧ w = w' := by
  obtain ⟨hlen, hrow⟩ := hl
  have hn' : n ≤ 9223372036854775807 := hn
  have HROW := Lib.hid hrow
  have HV := Lib.hid hv
  clear hrow hv
  by_cases h50 : 50 < n
  · have HF : Hid (shortB l = false) := Lib.hid (by unfold shortB; rw [decide_eq_false (by omega)]; rfl)
    go_enter Try.func19, Try.ntmps19
    go_wp2
    go_ret
    exact ⟨ret_bool (HF.out.symm.trans HV.out), rfl⟩
  · have hd : decide (50 < (n : Int)) = false := decide_eq_false (by omega)
    go_enter Try.func19, Try.ntmps19
    go_wp2
    go_loop [3] (fun i => ∃ k : Nat, k ≤ n ∧ (∀ j (hj : j < l.length), j < k → l[j].nm.size ≤ 30) ∧ i = .int .i64 k) (fun i => n - (intOf i).toNat)
    case atStart => exact ⟨0, Nat.zero_le _, fun j _ h => absurd h (by omega), rfl⟩
    case round =>
      obtain ⟨k, hk, ht, rfl⟩ := hrel
      have HT := Lib.hid ht
      clear ht
      by_cases hlt : k < n
      · have hkl : k < l.length := by omega
        obtain ⟨blk, off, rfl, hblk, hx⟩ := HROW.out (by omega)
        have c0 := (hx k hkl).1
        have hsz := (hx k hkl).2.2.2.2.2.2.2
        have SF := Lib.hid (short_false hkl)
        have SE : Hid (l[k].nm.size = l[k].nm.size) := Lib.hid rfl
        clear hx
        obtain ⟨s, hs⟩ : ∃ s, l[k].nm = s := ⟨_, rfl⟩
        have HS := Lib.hid hs
        rw [hs] at c0 hsz SF
        have hsz' : s.size ≤ 9223372036854775807 := hsz
        clear hs
        by_cases h30 : 30 < s.size
        · have HF : Hid (shortB l = false) := Lib.hid (SF.out h30)
          go_wp2
          go_ret
          exact ⟨ret_bool (HF.out.symm.trans HV.out), rfl⟩
        · go_wp2
          go_round
          case rel =>
            refine ⟨k + 1, by omega, fun j hj hjk => ?_, by go_num⟩
            by_cases e : j = k
            · subst e; rw [HS.out]; omega
            · exact HT.out j hj (by omega)
          case measure => simp [intOf]; omega
      · have hk' : k = n := by omega
        have HF : Hid (shortB l = true) := Lib.hid (short_true (by omega) fun j hj => HT.out j hj (by omega))
        subst hk'
        go_wp2
        go_ret
        exact ⟨ret_bool (HF.out.symm.trans HV.out), rfl⟩
end Go.Proofs.Ytnjbhidncicfiaa
