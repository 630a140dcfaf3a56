/- Walks over the fits: whether a fit keeps its limits in all seasons. -/
import Derived.Test.YtffmaoalnilkkaaFI
namespace Go.Proofs.Ytffmaoalnilkkaa
open Go.RowKit Go.Maps

/-! ### Seasons -/
structure Sn where
  nm : ByteArray
  lo : Int
  hi : Int
def SnAt (w : World) (blk off : Nat) (s : Sn) : Prop :=
  w.cell? ⟨blk, off, none⟩ = some (.string s.nm) ∧ w.cell? ⟨blk, off + 1, none⟩ = some (.int .i64 s.lo) ∧ w.cell? ⟨blk, off + 2, none⟩ = some (.int .i64 s.hi) ∧ s.nm.size ≤ maxLen
theorem SnAt.below {w w' : World} {B blk off : Nat} {s : Sn} (h : SnAt w blk off s) (hb : Below B w w') (hlt : blk < B) : SnAt w' blk off s := by
  obtain ⟨h0, h1, h2, h3⟩ := h
  have k : ∀ o, w'.cell? ⟨blk, o, none⟩ = w.cell? ⟨blk, o, none⟩ := fun o => hb.cell (p := ⟨blk, o, none⟩) hlt
  exact ⟨by rw [k, h0], by rw [k, h1], by rw [k, h2], h3⟩
abbrev SnRow (w : World) (A : Option Addr) (n : Nat) (l : List Sn) : Prop := RowOf (SnAt w) 3 A n l w.heap.size
theorem SnRow.below {w w' : World} {A : Option Addr} {n : Nat} {l : List Sn} (h : SnRow w A n l) (hb : Below w.heap.size w w') : SnRow w' A n l :=
  RowOf.keep h hb.size (fun _ _ _ hlt hx => SnAt.below hx hb hlt)
structure SnOk (s : Sn) : Prop where
  l0 : 0 ≤ s.lo
  l1 : s.lo ≤ s.hi
  h1 : s.hi ≤ 400
/-- What the closure of 'keeps' reads. -/
def KeepsCells (w : World) (a b : Nat) (nm : ByteArray) (A : Option Addr) (n c : Nat) (A' : Option Addr) (n' c' : Nat) (le mo side : Int) : Prop :=
  w.cell? ⟨a, 0, none⟩ = some (.string nm) ∧ w.cell? ⟨a, 1, none⟩ = some (.slice A n c) ∧ w.cell? ⟨a, 2, none⟩ = some (.slice A' n' c') ∧ w.cell? ⟨a, 3, none⟩ = some (.int .i64 le) ∧ w.cell? ⟨a, 4, none⟩ = some (.int .i64 mo) ∧ w.cell? ⟨b, 0, none⟩ = some (.int .i64 side)
theorem KeepsCells.below {w w' : World} {B a b : Nat} {nm : ByteArray} {A : Option Addr} {n c : Nat} {A' : Option Addr} {n' c' : Nat} {le mo side : Int} (h : KeepsCells w a b nm A n c A' n' c' le mo side) (hb : Below B w w') (ha : a < B) (hb' : b < B) : KeepsCells w' a b nm A n c A' n' c' le mo side := by
  obtain ⟨h0, h1, h2, h3, h4, h5⟩ := h
  have k : ∀ b o, b < B → w'.cell? ⟨b, o, none⟩ = w.cell? ⟨b, o, none⟩ := fun b o hlt => hb.cell (p := ⟨b, o, none⟩) hlt
  exact ⟨by rw [k _ _ ha, h0], by rw [k _ _ ha, h1], by rw [k _ _ ha, h2], by rw [k _ _ ha, h3], by rw [k _ _ ha, h4], by rw [k _ _ hb', h5]⟩
set_option maxHeartbeats 2000000 in
set_option maxRecDepth 20000 in
theorem keeps1_any {nm sn : ByteArray} {A A' : Option Addr} {n c n' c' a b : Nat} {le mo lo hi side : Int} {o i0 : List Md} (ho : ∀ x ∈ o, MdOk x) (hi' : ∀ x ∈ i0, MdOk x) (hn : n + n' ≤ 20) (hl : -600000 ≤ le ∧ le ≤ 600000) (hm : -600000 ≤ mo ∧ mo ≤ 600000) (l0 : 0 ≤ lo) (l1' : lo ≤ 400) (h0 : 0 ≤ hi) (h1 : hi ≤ 400)
    (w : World) (hK : KeepsCells w a b nm A n c A' n' c' le mo side) (hA : MdRow w A n o) (hA' : MdRow w A' n' i0) :
    Calls Try.prog 107 #[.agg #[.string sn, .int .i64 lo, .int .i64 hi], .pointer (some ⟨a, 0, none⟩), .pointer (some ⟨b, 0, none⟩)] w
      fun e w' => e = .returned (.bool (brkB side le mo o i0 lo hi)) ∧ Below w.heap.size w w' := by
  have HMD := Lib.hid (fun wx (hb : Below w.heap.size w wx) => And.intro (hA.below hb) (hA'.below hb))
  have BI := fun wx (hr : MdRow wx A n o) (hr' : MdRow wx A' n' i0) => Lib.hid (brokenIn_any (nm := nm) (sn := sn) (c := c) (c' := c') (le := le) (mo := mo) (side := side) ho hi' hn hl hm l0 l1' h0 h1 wx hr hr')
  obtain ⟨v, hv⟩ : ∃ v, brkB side le mo o i0 lo hi = v := ⟨_, rfl⟩
  simp only [hv] at BI ⊢
  clear hA hA' ho hi' hv
  obtain ⟨k0, k1, k2, k3, k4, k5⟩ := hK
  have ha := World.block_lt_of_cell? w ⟨a, 0, none⟩ k0
  have hb := World.block_lt_of_cell? w ⟨b, 0, none⟩ k5
  have hB1 : ∀ o, Below w.heap.size w (w.alloc o) := fun o => (Below.refl _ _).alloc (Nat.le_refl _) _
  unfold ftV at BI
  have BW := Lib.hid (BI (w.alloc (.cells #[.string sn, .int .i64 lo, .int .i64 hi] 46)) (HMD.out _ (hB1 _)).1 (HMD.out _ (hB1 _)).2).out
  clear BI
  go_enter Try.func107, Try.ntmps107
  go_wp2_with (go_at_call 88; refine Calls.mono BW.out ?_; rintro e w1 ⟨u, rfl, -, hb1⟩)
  go_ret
  exact ⟨rfl, (hB1 _).trans (hb1.mono (by simp))⟩
/-- The same of a season. -/
def brkP (side le mo : Int) (o i : List Md) (s : Sn) : Bool := brkB side le mo o i s.lo s.hi
/-- A fit keeps its limits with a side in all seasons. -/
def keepsB (side le mo : Int) (o i : List Md) (l : List Sn) : Bool := !(l.any (brkP side le mo o i))
theorem any_take_succ' {α : Type} (p : α → Bool) (zs : List α) (k : Nat) (h : k < zs.length) (h0 : (zs.take k).any p = false) (h1 : p zs[k] = false) : (zs.take (k + 1)).any p = false := by
  rw [List.take_succ_eq_append_getElem h, List.any_append, h0]; simp [h1]
theorem any_at' {α : Type} (p : α → Bool) (zs : List α) (k : Nat) (h : k < zs.length) (h1 : p zs[k] = true) : zs.any p = true := List.any_eq_true.2 ⟨_, List.getElem_mem h, h1⟩
set_option maxHeartbeats 2000000 in
set_option maxRecDepth 20000 in
theorem indexS_any {nm : ByteArray} {A A' S : Option Addr} {n c n' c' a b m d : Nat} {le mo side : Int} {o i0 : List Md} {l : List Sn} (ho : ∀ x ∈ o, MdOk x) (hi' : ∀ x ∈ i0, MdOk x) (hn : n + n' ≤ 20) (hl : -600000 ≤ le ∧ le ≤ 600000) (hm : -600000 ≤ mo ∧ mo ≤ 600000) (hs : ∀ s ∈ l, SnOk s) (hmm : m ≤ 1000)
    (w : World) (hK : KeepsCells w a b nm A n c A' n' c' le mo side) (hA : MdRow w A n o) (hA' : MdRow w A' n' i0) (hS : SnRow w S m l) :
    Calls Try.prog 112 #[.slice S m d, .func (.func 107) #[] #[.pointer (some ⟨a, 0, none⟩), .pointer (some ⟨b, 0, none⟩)]] w
      fun e w' => ∃ r : Int, e = .returned (.int .i64 r) ∧ decide (0 ≤ r) = l.any (brkP side le mo o i0) ∧ Below w.heap.size w w' := by
  have ha := World.block_lt_of_cell? w ⟨a, 0, none⟩ hK.1
  have hb := World.block_lt_of_cell? w ⟨b, 0, none⟩ hK.2.2.2.2.2
  have hln := hS.1
  have K1 := Lib.hid (fun (sn : ByteArray) (lo hi : Int) (ok : SnOk ⟨sn, lo, hi⟩) wx (hbx : Below w.heap.size w wx) => keeps1_any (sn := sn) (side := side) ho hi' hn hl hm ok.l0 (Int.le_trans ok.l1 ok.h1) (Int.le_trans ok.l0 ok.l1) ok.h1 wx (hK.below hbx ha hb) (hA.below hbx) (hA'.below hbx))
  have HS := Lib.hid hS; have HO := Lib.hid hs
  clear ho hi' hK hA hA' hS hs
  go_enter Try.func112, Try.ntmps112
  go_wp2
  go_loopw [5, 8] (fun _ i wr => ∃ k : Nat, k ≤ m ∧ (l.take k).any (brkP side le mo o i0) = false ∧ i = .int .i64 k ∧ Below w.heap.size w wr) (fun _ i _ => m - (intOf i).toNat)
  case atStart => exact ⟨0, Nat.zero_le _, rfl, rfl, Below.refl _ _⟩
  case round =>
    obtain ⟨k, hk, hno, rfl, hbw⟩ := hrel
    have H := Lib.hid hno
    have HB := Lib.hid hbw
    clear hno hbw
    by_cases hlt : k < m
    · have hkl : k < l.length := by omega
      obtain ⟨blk, off, rfl, hblk, hx⟩ := HS.out.2 (by omega)
      have hxx := (hx k hkl).below HB.out hblk
      have hok := HO.out l[k] (List.getElem_mem hkl)
      have HY : brkP side le mo o i0 l[k] = true → Hid ((l.any (brkP side le mo o i0)) = true) := fun h => Lib.hid (any_at' (brkP side le mo o i0) l k hkl h)
      have HN : brkP side le mo o i0 l[k] = false → Hid (((l.take (k + 1)).any (brkP side le mo o i0)) = false) := fun h => Lib.hid (any_take_succ' (brkP side le mo o i0) l k hkl H.out h)
      clear hx
      obtain ⟨x, hxe⟩ : ∃ x, l[k] = x := ⟨_, rfl⟩
      rw [hxe] at hxx hok HY HN
      clear hxe
      obtain ⟨sn, lo, hi⟩ := x
      obtain ⟨c0, c1, c2, -⟩ := hxx
      simp only at c0 c1 c2
      change brkB side le mo o i0 lo hi = true → _ at HY
      change brkB side le mo o i0 lo hi = false → _ at HN
      have CF := Lib.hid (K1.out sn lo hi hok wr HB.out)
      clear hok
      cases hout : brkB side le mo o i0 lo hi
      · have X := HN hout
        rw [hout] at CF
        clear hout HN HY
        go_wp2_with (go_at_call 107; refine Calls.mono CF.out ?_; rintro e w1 ⟨rfl, hb1⟩)
        go_roundw
        case rel => exact ⟨k + 1, by omega, X.out, by go_num, HB.out.trans (hb1.mono HB.out.size)⟩
        case measure => simp [intOf]; omega
      · have X := HY hout
        rw [hout] at CF
        clear hout HN HY
        go_wp2_with (go_at_call 107; refine Calls.mono CF.out ?_; rintro e w1 ⟨rfl, hb1⟩)
        go_ret
        exact ⟨k, rfl, by rw [X.out]; simp, HB.out.trans (hb1.mono HB.out.size)⟩
    · go_wp2
      go_ret
      exact ⟨-1, rfl, by have := H.out; rw [List.take_of_length_le (by omega)] at this; rw [this]; rfl, HB.out⟩
set_option maxHeartbeats 4000000 in
theorem containsS_any {nm : ByteArray} {A A' S : Option Addr} {n c n' c' a b m d : Nat} {le mo side : Int} {o i0 : List Md} {l : List Sn} (ho : ∀ x ∈ o, MdOk x) (hi' : ∀ x ∈ i0, MdOk x) (hn : n + n' ≤ 20) (hl : -600000 ≤ le ∧ le ≤ 600000) (hm : -600000 ≤ mo ∧ mo ≤ 600000) (hs : ∀ s ∈ l, SnOk s) (hmm : m ≤ 1000)
    (w : World) (hK : KeepsCells w a b nm A n c A' n' c' le mo side) (hA : MdRow w A n o) (hA' : MdRow w A' n' i0) (hS : SnRow w S m l) :
    Calls Try.prog 106 #[.slice S m d, .func (.func 107) #[] #[.pointer (some ⟨a, 0, none⟩), .pointer (some ⟨b, 0, none⟩)]] w
      fun e w' => e = .returned (.bool (l.any (brkP side le mo o i0))) ∧ Below w.heap.size w w' := by
  have IX := Lib.hid (indexS_any (d := d) ho hi' hn hl hm hs hmm w hK hA hA' hS)
  clear ho hi' hK hA hA' hS hs
  go_enter Try.func106, Try.ntmps106
  go_wp2_with (go_at_call 112; refine Calls.mono IX.out ?_; rintro e w1 ⟨r, rfl, hr, hb1⟩; have HR := Lib.hid hr; clear hr)
  go_ret
  exact ⟨ret_bool HR.out, hb1⟩
set_option maxHeartbeats 4000000 in
theorem keeps_any {nm : ByteArray} {A A' S : Option Addr} {n c n' c' m d : Nat} {le mo side : Int} {o i0 : List Md} {l : List Sn} (ho : ∀ x ∈ o, MdOk x) (hi' : ∀ x ∈ i0, MdOk x) (hn : n + n' ≤ 20) (hl : -600000 ≤ le ∧ le ≤ 600000) (hm : -600000 ≤ mo ∧ mo ≤ 600000) (hs : ∀ s ∈ l, SnOk s) (hmm : m ≤ 1000)
    (w : World) (hA : MdRow w A n o) (hA' : MdRow w A' n' i0) (hS : SnRow w S m l) :
    Calls Try.prog 91 #[ftV nm A n c A' n' c' le mo, .slice S m d, .int .i64 side] w
      fun e w' => e = .returned (.bool (keepsB side le mo o i0 l)) ∧ Below w.heap.size w w' := by
  have CS := Lib.hid (fun wx (hbx : Below w.heap.size w wx) hK => containsS_any (a := w.heap.size) (b := w.heap.size + 1) (nm := nm) (c := c) (c' := c') (le := le) (mo := mo) (side := side) (d := d) ho hi' hn hl hm hs hmm wx hK (hA.below hbx) (hA'.below hbx) (hS.below hbx))
  have HK : Hid (keepsB side le mo o i0 l = !(l.any (brkP side le mo o i0))) := Lib.hid rfl
  have hB : ∀ o1 o2, Below w.heap.size w ((w.alloc o1).alloc o2) := fun o1 o2 => ((Below.refl _ _).alloc (Nat.le_refl _) _).alloc (by simp) _
  obtain ⟨v, hv⟩ : ∃ v, (l.any (brkP side le mo o i0)) = v := ⟨_, rfl⟩
  simp only [hv] at CS HK
  clear ho hi' hA hA' hS hs hv
  unfold ftV
  go_enter Try.func91, Try.ntmps91
  go_wp2_with (go_at_call 106; refine Calls.mono (CS.out _ (hB _ _) (by unfold KeepsCells; simp [go_sem])) ?_; rintro e w1 ⟨rfl, hb1⟩)
  go_ret
  exact ⟨ret_bool HK.out.symm, (hB _ _).trans (hb1.mono (by simp; omega))⟩
end Go.Proofs.Ytffmaoalnilkkaa
