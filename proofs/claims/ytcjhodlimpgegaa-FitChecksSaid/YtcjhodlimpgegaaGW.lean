/- Walks over the fits: the check of lists of fits. -/
import Derived.Test.YtcjhodlimpgegaaGB
import Derived.Test.YtcjhodlimpgegaaFS
namespace Go.Proofs.Ytcjhodlimpgegaa
open Go.RowKit Go.Maps

structure Ft where
  nm : ByteArray
  f : FitD
/-- A fit in memory, its pieces below block B. -/
def FtAt (B : Nat) (w : World) (blk off : Nat) (x : Ft) : Prop := ∃ (A : Option Addr) (p c : Nat) (A' : Option Addr) (p' c' : Nat), w.cell? ⟨blk, off, none⟩ = some (.string x.nm) ∧ w.cell? ⟨blk, off + 1, none⟩ = some (.slice A p c) ∧ w.cell? ⟨blk, off + 2, none⟩ = some (.slice A' p' c') ∧ w.cell? ⟨blk, off + 3, none⟩ = some (.int .i64 x.f.le) ∧ w.cell? ⟨blk, off + 4, none⟩ = some (.int .i64 x.f.mo) ∧
  RowOf (MdAt w) 6 A p x.f.o B ∧ RowOf (MdAt w) 6 A' p' x.f.i B ∧ x.nm.size ≤ maxLen ∧ p ≤ c ∧ p' ≤ c' ∧ p ≤ maxLen ∧ p' ≤ maxLen
abbrev FtRow (B : Nat) (w : World) (A : Option Addr) (n : Nat) (l : List Ft) : Prop := RowOf (FtAt B w) 5 A n l B
theorem mdRow_keep {w w' : World} {B : Nat} {A : Option Addr} {n : Nat} {l : List Md} (h : RowOf (MdAt w) 6 A n l B) (hb : Below B w w') : RowOf (MdAt w') 6 A n l B :=
  RowOf.keep h (Nat.le_refl _) (fun _ _ _ hlt hx => MdAt.below hx hb hlt)
theorem mdRow_up {w : World} {B : Nat} {A : Option Addr} {n : Nat} {l : List Md} (h : RowOf (MdAt w) 6 A n l B) (hb : B ≤ w.heap.size) : MdRow w A n l :=
  RowOf.keep h hb (fun _ _ _ _ hx => hx)
theorem FtAt.below {w w' : World} {B blk off : Nat} {x : Ft} (h : FtAt B w blk off x) (hb : Below B w w') (hlt : blk < B) : FtAt B w' blk off x := by
  obtain ⟨A, p, c, A', p', c', h0, h1, h2, h3, h4, h5, h6, h7⟩ := h
  have k : ∀ o, w'.cell? ⟨blk, o, none⟩ = w.cell? ⟨blk, o, none⟩ := fun o => hb.cell (p := ⟨blk, o, none⟩) hlt
  exact ⟨A, p, c, A', p', c', by rw [k, h0], by rw [k, h1], by rw [k, h2], by rw [k, h3], by rw [k, h4], mdRow_keep h5 hb, mdRow_keep h6 hb, h7⟩
theorem FtRow.below {w w' : World} {B : Nat} {A : Option Addr} {n : Nat} {l : List Ft} (h : FtRow B w A n l) (hb : Below B w w') : FtRow B w' A n l :=
  RowOf.keep h (Nat.le_refl _) (fun _ _ _ hlt hx => FtAt.below hx hb hlt)
theorem FtRow.lens {B : Nat} {w : World} {A : Option Addr} {n : Nat} {l : List Ft} (h : FtRow B w A n l) : ∀ x ∈ l, x.f.o.length ≤ maxLen ∧ x.f.i.length ≤ maxLen := by
  intro x hx
  obtain ⟨k, hk, rfl⟩ := List.mem_iff_getElem.1 hx
  obtain ⟨blk, off, -, -, hat⟩ := h.2 (by have := h.1; omega)
  obtain ⟨A, p, c, A', p', c', -, -, -, -, -, qo, qi, -, -, -, h1, h2⟩ := hat k hk
  exact ⟨by rw [qo.1]; exact h1, by rw [qi.1]; exact h2⟩
def ftFrom : List ByteArray → List Ft → Int
  | _, [] => 0
  | seen, s :: r => bif decide (fitCode s.nm s.f = 0) then (bif (seen.any fun n => decide (n = s.nm)) then 5 else ftFrom (seen ++ [s.nm]) r) else fitCode s.nm s.f
def ftsCode (l : List Ft) : Int := bif decide (60 < l.length) then 8 else ftFrom [] l
theorem ftFrom_ok : ∀ {l : List Ft} {seen : List ByteArray}, ftFrom seen l = 0 → ∀ s ∈ l, fitCode s.nm s.f = 0
  | [], _, _, s, hs => by cases hs
  | x :: r, seen, h, s, hs => by
    unfold ftFrom at h
    cases hc : decide (fitCode x.nm x.f = 0)
    · rw [hc] at h; exact absurd h (of_decide_eq_false hc)
    · rw [hc] at h
      cases hb : (seen.any fun n => decide (n = x.nm))
      · rw [hb] at h
        rcases List.mem_cons.1 hs with e | e
        · rw [e]; exact of_decide_eq_true hc
        · exact ftFrom_ok h s e
      · rw [hb] at h; exact absurd h (by simp)
theorem ftsCode_ok {l : List Ft} (h : ftsCode l = 0) : l.length ≤ 60 ∧ ∀ s ∈ l, fitCode s.nm s.f = 0 := by
  unfold ftsCode at h
  cases hc : decide (60 < l.length)
  · rw [hc] at h; exact ⟨by have := of_decide_eq_false hc; omega, ftFrom_ok h⟩
  · rw [hc] at h; exact absurd h (by simp)
theorem nameOfF_any {nm : ByteArray} {A A' : Option Addr} {p c p' c' : Nat} {le mo : Int} (w : World) :
    Calls Try.prog 44 #[.agg #[.string nm, .slice A p c, .slice A' p' c', .int .i64 le, .int .i64 mo]] w fun e w' => e = .returned (.string nm) ∧ Below w.heap.size w w' := by
  go_enter Try.func44, Try.ntmps44
  go_wp2
  go_ret
  exact ⟨rfl, (Below.refl _ _).alloc (Nat.le_refl _) _⟩
set_option maxHeartbeats 1000000 in
theorem namedF_any (w : World) :
    Calls Try.prog 43 #[.func (.func 44) #[] #[], .func (.func 17) #[] #[]] w
      fun e w' => e = .returned (.func (.func 72) #[] #[.pointer (some ⟨w.heap.size + 1, 0, none⟩), .pointer (some ⟨w.heap.size + 1 + 1 + 1, 0, none⟩), .pointer (some ⟨w.heap.size, 0, none⟩)]) ∧
        w'.cell? ⟨w.heap.size, 0, none⟩ = some (.func (.func 44) #[] #[]) ∧ w'.cell? ⟨w.heap.size + 1, 0, none⟩ = some (.func (.func 17) #[] #[]) ∧ w'.cell? ⟨w.heap.size + 1 + 1 + 1, 0, none⟩ = some (.map (some (w.heap.size + 1 + 1))) ∧
        w'.ownsMap Try.prog 9 (plainElem Try.prog 4) (w.heap.size + 1 + 1) 0 (DataW.map [] : DataW Unit) ∧ w.heap.size + 3 < w'.heap.size ∧ Below w.heap.size w w' := by
  have hmk := @run_makeMap Try.prog
  go_enter Try.func43, Try.ntmps43
  go_wp2
  go_ret
  refine ⟨rfl, by simp [go_sem], by simp [go_sem], by simp [go_sem], ?_, by first | (simp; done) | (simp; omega), ((((Below.refl _ _).alloc (Nat.le_refl _) _).alloc (by simp) _).alloc (by simp; omega) _).alloc (by simp; omega) _⟩
  refine World.ownsMap.alloc ?_ _
  have := World.ownsMap_made (H := Unit) ((w.alloc (.cells #[.func (.func 44) #[] #[]] 84)).alloc (.cells #[.func (.func 17) #[] #[]] 39)) Try.prog 9 (plainElem Try.prog 4)
  simpa using this
theorem keptF_s {wx w' : World} {b5 b2 bs mb : Nat} {nm : ByteArray} {A A' : Option Addr} {p c p' c' : Nat} {le mo : Int} (h : wx.cell? ⟨b5, 0, none⟩ = some (.map (some mb)) ∧ wx.cell? ⟨b2, 0, none⟩ = some (.func (.func 44) #[] #[]) ∧ wx.cell? ⟨bs, 0, none⟩ = some (.string nm) ∧ wx.cell? ⟨bs, 0 + 1, none⟩ = some (.slice A p c) ∧ wx.cell? ⟨bs, 0 + 2, none⟩ = some (.slice A' p' c') ∧ wx.cell? ⟨bs, 0 + 3, none⟩ = some (.int .i64 le) ∧ wx.cell? ⟨bs, 0 + 4, none⟩ = some (.int .i64 mo)) (hb : Below wx.heap.size wx w') : w'.cell? ⟨b5, 0, none⟩ = some (.map (some mb)) ∧ w'.cell? ⟨b2, 0, none⟩ = some (.func (.func 44) #[] #[]) ∧ w'.cell? ⟨bs, 0, none⟩ = some (.string nm) ∧ w'.cell? ⟨bs, 0 + 1, none⟩ = some (.slice A p c) ∧ w'.cell? ⟨bs, 0 + 2, none⟩ = some (.slice A' p' c') ∧ w'.cell? ⟨bs, 0 + 3, none⟩ = some (.int .i64 le) ∧ w'.cell? ⟨bs, 0 + 4, none⟩ = some (.int .i64 mo) := by
  obtain ⟨h0, h1, h2, h3, h4, h5, h6⟩ := h
  have l0 := World.block_lt_of_cell? wx ⟨b5, 0, none⟩ h0
  have l1 := World.block_lt_of_cell? wx ⟨b2, 0, none⟩ h1
  have l2 := World.block_lt_of_cell? wx ⟨bs, 0, none⟩ h2
  have k : ∀ b o, b < wx.heap.size → w'.cell? ⟨b, o, none⟩ = wx.cell? ⟨b, o, none⟩ := fun b o hlt => hb.cell (p := ⟨b, o, none⟩) hlt
  exact ⟨by rw [k _ _ l0, h0], by rw [k _ _ l1, h1], by rw [k _ _ l2, h2], by rw [k _ _ l2, h3], by rw [k _ _ l2, h4], by rw [k _ _ l2, h5], by rw [k _ _ l2, h6]⟩
theorem keptgF_s {wx w' : World} {b5 b2 bs mb : Nat} {nm : ByteArray} {A A' : Option Addr} {p c p' c' : Nat} {le mo : Int} (h : wx.cell? ⟨b5, 0, none⟩ = some (.map (some mb)) ∧ wx.cell? ⟨b2, 0, none⟩ = some (.func (.func 44) #[] #[]) ∧ wx.cell? ⟨bs, 0, none⟩ = some (.string nm) ∧ wx.cell? ⟨bs, 0 + 1, none⟩ = some (.slice A p c) ∧ wx.cell? ⟨bs, 0 + 2, none⟩ = some (.slice A' p' c') ∧ wx.cell? ⟨bs, 0 + 3, none⟩ = some (.int .i64 le) ∧ wx.cell? ⟨bs, 0 + 4, none⟩ = some (.int .i64 mo)) (hg : wx.grownBy w' (some mb)) (n5 : b5 ≠ mb) (n2 : b2 ≠ mb) (ns : bs ≠ mb) : w'.cell? ⟨b5, 0, none⟩ = some (.map (some mb)) ∧ w'.cell? ⟨b2, 0, none⟩ = some (.func (.func 44) #[] #[]) ∧ w'.cell? ⟨bs, 0, none⟩ = some (.string nm) ∧ w'.cell? ⟨bs, 0 + 1, none⟩ = some (.slice A p c) ∧ w'.cell? ⟨bs, 0 + 2, none⟩ = some (.slice A' p' c') ∧ w'.cell? ⟨bs, 0 + 3, none⟩ = some (.int .i64 le) ∧ w'.cell? ⟨bs, 0 + 4, none⟩ = some (.int .i64 mo) := by
  obtain ⟨h0, h1, h2, h3, h4, h5, h6⟩ := h
  have l0 := World.block_lt_of_cell? wx ⟨b5, 0, none⟩ h0
  have l1 := World.block_lt_of_cell? wx ⟨b2, 0, none⟩ h1
  have l2 := World.block_lt_of_cell? wx ⟨bs, 0, none⟩ h2
  have k : ∀ b o, b < wx.heap.size → b ≠ mb → w'.cell? ⟨b, o, none⟩ = wx.cell? ⟨b, o, none⟩ := fun b o hlt hne => hg.cell_far ⟨b, o, none⟩ hlt (fun e => hne (by injection e))
  exact ⟨by rw [k _ _ l0 n5, h0], by rw [k _ _ l1 n2, h1], by rw [k _ _ l2 ns, h2], by rw [k _ _ l2 ns, h3], by rw [k _ _ l2 ns, h4], by rw [k _ _ l2 ns, h5], by rw [k _ _ l2 ns, h6]⟩
set_option maxHeartbeats 2000000 in
theorem seenF_err {nm : ByteArray} {F : FitD} {A A' : Option Addr} {p c p' c' : Nat} {ns : List ByteArray} {D : DataW Unit} {n b5 b3 b2 mb : Nat} (hsz : nm.size ≤ maxLen) (hp : p ≤ 1000000) (hp' : p' ≤ 1000000) (w : World) (hA : MdRow w A p F.o) (hA' : MdRow w A' p' F.i) (c3 : w.cell? ⟨b3, 0, none⟩ = some (.func (.func 17) #[] #[])) (c5 : w.cell? ⟨b5, 0, none⟩ = some (.map (some mb))) (c2 : w.cell? ⟨b2, 0, none⟩ = some (.func (.func 44) #[] #[])) {cd : Int} (hc : fitCode nm F = cd) (hne : cd ≠ 0) :
    Calls Try.prog 72 #[ftV nm A p c A' p' c' F.le F.mo, .pointer (some ⟨b3, 0, none⟩), .pointer (some ⟨b5, 0, none⟩), .pointer (some ⟨b2, 0, none⟩)] w fun e w' => e = .returned (.int .i64 cd) ∧ Below w.heap.size w w' := by
  have CF0 := Lib.hid (fun wx (hb : Below w.heap.size w wx) => checkFit_any (c := c) (c' := c') hc hsz hp hp' wx (hA.below hb) (hA'.below hb))
  obtain ⟨le, mo, o, i⟩ := F
  clear hA hA'
  unfold ftV at CF0 ⊢
  simp only at CF0 hc ⊢
  have l3 := World.block_lt_of_cell? w _ c3
  have l5 := World.block_lt_of_cell? w _ c5
  have l2 := World.block_lt_of_cell? w _ c2
  simp only at l3 l5 l2
  have CS := Lib.hid (CF0.out _ ((Below.refl w.heap.size w).alloc (Nat.le_refl _) (.cells #[.string nm, .slice A p c, .slice A' p' c', .int .i64 le, .int .i64 mo] 37)))
  clear CF0

  have hcb : (cd == 0) = false := beq_eq_false_iff_ne.2 hne
  have hcb' : (cd != 0) = true := bne_iff_ne.2 hne
  clear hc
  go_enter Try.func72, Try.ntmps72
  go_wp2_with (go_at_call 17; refine Calls.mono CS.out ?_; rintro e w1 ⟨rfl, hb1'⟩)
  go_ret
  exact ⟨rfl, ((Below.refl _ _).alloc (Nat.le_refl _) _).trans (hb1'.mono (by simp))⟩
set_option maxHeartbeats 2000000 in
set_option maxRecDepth 20000 in
theorem seenF_dup {nm : ByteArray} {F : FitD} {A A' : Option Addr} {p c p' c' : Nat} {ns : List ByteArray} {D : DataW Unit} {n b5 b3 b2 mb : Nat} (hsz : nm.size ≤ maxLen) (hp : p ≤ 1000000) (hp' : p' ≤ 1000000) (w : World) (hA : MdRow w A p F.o) (hA' : MdRow w A' p' F.i) (c3 : w.cell? ⟨b3, 0, none⟩ = some (.func (.func 17) #[] #[])) (c5 : w.cell? ⟨b5, 0, none⟩ = some (.map (some mb))) (c2 : w.cell? ⟨b2, 0, none⟩ = some (.func (.func 44) #[] #[])) (hc : fitCode nm F = 0) (hm : mb < w.heap.size) (n5 : b5 ≠ mb) (n2 : b2 ≠ mb) (hn : n ≤ 1000000) (hown : w.ownsMap Try.prog 9 (plainElem Try.prog 4) mb n D) (hD : SeenOf D ns) (hv : (ns.any fun x => decide (x = nm)) = true) :
    Calls Try.prog 72 #[ftV nm A p c A' p' c' F.le F.mo, .pointer (some ⟨b3, 0, none⟩), .pointer (some ⟨b5, 0, none⟩), .pointer (some ⟨b2, 0, none⟩)] w fun e w' => e = .returned (.int .i64 5) ∧ Below w.heap.size w w' := by
  have CF0 := Lib.hid (fun wx (hb : Below w.heap.size w wx) => checkFit_any (c := c) (c' := c') hc hsz hp hp' wx (hA.below hb) (hA'.below hb))
  obtain ⟨le, mo, o, i⟩ := F
  clear hA hA'
  unfold ftV at CF0 ⊢
  simp only at CF0 hc ⊢
  have l3 := World.block_lt_of_cell? w _ c3
  have l5 := World.block_lt_of_cell? w _ c5
  have l2 := World.block_lt_of_cell? w _ c2
  simp only at l3 l5 l2
  have CS := Lib.hid (CF0.out _ ((Below.refl w.heap.size w).alloc (Nat.le_refl _) (.cells #[.string nm, .slice A p c, .slice A' p' c', .int .i64 le, .int .i64 mo] 37)))
  clear CF0

  have HD := Lib.hid hD
  have HV := Lib.hid hv
  clear hc hv
  go_enter Try.func72, Try.ntmps72
  go_wp2_with (go_at_call 17; refine Calls.mono CS.out ?_; rintro e w1 ⟨rfl, hb1'⟩; have hb1 := ((Below.refl w.heap.size w).alloc (Nat.le_refl _) (.cells #[.string nm, .slice A p c, .slice A' p' c', .int .i64 le, .int .i64 mo] 37)).trans (hb1'.mono (by simp)))
  have hs1 : w.heap.size < w1.heap.size := by have := hb1'.size; simp at this; omega
  have e0 : w1.cell? ⟨b5, 0, none⟩ = some (.map (some mb)) := (hb1.cell (p := ⟨b5, 0, none⟩) l5).trans c5
  have e1 : w1.cell? ⟨b2, 0, none⟩ = some (.func (.func 44) #[] #[]) := (hb1.cell (p := ⟨b2, 0, none⟩) l2).trans c2
  have e2 : w1.cell? ⟨w.heap.size, 0, none⟩ = some (.string nm) := (hb1'.cell (p := ⟨w.heap.size, 0, none⟩) (by simp)).trans (by rw [World.cell?_alloc_new]; rfl)
  have e3 : w1.cell? ⟨w.heap.size, 0 + 1, none⟩ = some (.slice A p c) := (hb1'.cell (p := ⟨w.heap.size, 1, none⟩) (by simp)).trans (by rw [World.cell?_alloc_new]; rfl)
  have e4 : w1.cell? ⟨w.heap.size, 0 + 2, none⟩ = some (.slice A' p' c') := (hb1'.cell (p := ⟨w.heap.size, 2, none⟩) (by simp)).trans (by rw [World.cell?_alloc_new]; rfl)
  have e5 : w1.cell? ⟨w.heap.size, 0 + 3, none⟩ = some (.int .i64 le) := (hb1'.cell (p := ⟨w.heap.size, 3, none⟩) (by simp)).trans (by rw [World.cell?_alloc_new]; rfl)
  have e6 : w1.cell? ⟨w.heap.size, 0 + 4, none⟩ = some (.int .i64 mo) := (hb1'.cell (p := ⟨w.heap.size, 4, none⟩) (by simp)).trans (by rw [World.cell?_alloc_new]; rfl)
  have hown1 := hown.kept (below_grown hb1 none) (by simp)
  have HB1 := Lib.hid hb1
  clear hb1' hb1
  go_region_held3 (fun wx => wx.cell? ⟨b5, 0, none⟩ = some (.map (some mb)) ∧ wx.cell? ⟨b2, 0, none⟩ = some (.func (.func 44) #[] #[]) ∧ wx.cell? ⟨w.heap.size, 0, none⟩ = some (.string nm) ∧ wx.cell? ⟨w.heap.size, 0 + 1, none⟩ = some (.slice A p c) ∧ wx.cell? ⟨w.heap.size, 0 + 2, none⟩ = some (.slice A' p' c') ∧ wx.cell? ⟨w.heap.size, 0 + 3, none⟩ = some (.int .i64 le) ∧ wx.cell? ⟨w.heap.size, 0 + 4, none⟩ = some (.int .i64 mo)) ((first | assumption | (refine ⟨?_, ?_, ?_, ?_, ?_, ?_, ?_⟩ <;> assumption) | (exact keptF_s (by assumption) hb5) | (exact keptgF_s (by assumption) hgrow6 (by omega) (by omega) (by omega)))) (first | (go_at_call 44; refine (nameOfF_any _).mono ?_; rintro e w5 ⟨rfl, hb5⟩; have hown5 := World.ownsMap.kept hown1.drew (below_grown hb5 none) (by simp); have hl5 := look_seen hown5 HD.out hsz HV.out))
  all_goals
    go_wp2
    go_ret
    exact ⟨rfl, (HB1.out.drew).trans (hb5.mono (by simp; omega))⟩
set_option maxHeartbeats 2000000 in
set_option maxRecDepth 20000 in
theorem seenF_new {nm : ByteArray} {F : FitD} {A A' : Option Addr} {p c p' c' : Nat} {ns : List ByteArray} {D : DataW Unit} {n b5 b3 b2 mb : Nat} (hsz : nm.size ≤ maxLen) (hp : p ≤ 1000000) (hp' : p' ≤ 1000000) (w : World) (hA : MdRow w A p F.o) (hA' : MdRow w A' p' F.i) (c3 : w.cell? ⟨b3, 0, none⟩ = some (.func (.func 17) #[] #[])) (c5 : w.cell? ⟨b5, 0, none⟩ = some (.map (some mb))) (c2 : w.cell? ⟨b2, 0, none⟩ = some (.func (.func 44) #[] #[])) (hc : fitCode nm F = 0) (hm : mb < w.heap.size) (n5 : b5 ≠ mb) (n2 : b2 ≠ mb) (hn : n ≤ 1000000) (hown : w.ownsMap Try.prog 9 (plainElem Try.prog 4) mb n D) (hD : SeenOf D ns) (hv : (ns.any fun x => decide (x = nm)) = false) :
    Calls Try.prog 72 #[ftV nm A p c A' p' c' F.le F.mo, .pointer (some ⟨b3, 0, none⟩), .pointer (some ⟨b5, 0, none⟩), .pointer (some ⟨b2, 0, none⟩)] w fun e w' => e = .returned (.int .i64 0) ∧ w'.ownsMap Try.prog 9 (plainElem Try.prog 4) mb (n + 1) (D.put (keyL nm) (.lit (.bool true))) ∧ w.grownBy w' (some mb) := by
  have CF0 := Lib.hid (fun wx (hb : Below w.heap.size w wx) => checkFit_any (c := c) (c' := c') hc hsz hp hp' wx (hA.below hb) (hA'.below hb))
  obtain ⟨le, mo, o, i⟩ := F
  clear hA hA'
  unfold ftV at CF0 ⊢
  simp only at CF0 hc ⊢
  have l3 := World.block_lt_of_cell? w _ c3
  have l5 := World.block_lt_of_cell? w _ c5
  have l2 := World.block_lt_of_cell? w _ c2
  simp only at l3 l5 l2
  have CS := Lib.hid (CF0.out _ ((Below.refl w.heap.size w).alloc (Nat.le_refl _) (.cells #[.string nm, .slice A p c, .slice A' p' c', .int .i64 le, .int .i64 mo] 37)))
  clear CF0

  have HD := Lib.hid hD
  have HV := Lib.hid hv
  clear hc hv
  go_enter Try.func72, Try.ntmps72
  go_wp2_with (go_at_call 17; refine Calls.mono CS.out ?_; rintro e w1 ⟨rfl, hb1'⟩; have hb1 := ((Below.refl w.heap.size w).alloc (Nat.le_refl _) (.cells #[.string nm, .slice A p c, .slice A' p' c', .int .i64 le, .int .i64 mo] 37)).trans (hb1'.mono (by simp)))
  have hs1 : w.heap.size < w1.heap.size := by have := hb1'.size; simp at this; omega
  have e0 : w1.cell? ⟨b5, 0, none⟩ = some (.map (some mb)) := (hb1.cell (p := ⟨b5, 0, none⟩) l5).trans c5
  have e1 : w1.cell? ⟨b2, 0, none⟩ = some (.func (.func 44) #[] #[]) := (hb1.cell (p := ⟨b2, 0, none⟩) l2).trans c2
  have e2 : w1.cell? ⟨w.heap.size, 0, none⟩ = some (.string nm) := (hb1'.cell (p := ⟨w.heap.size, 0, none⟩) (by simp)).trans (by rw [World.cell?_alloc_new]; rfl)
  have e3 : w1.cell? ⟨w.heap.size, 0 + 1, none⟩ = some (.slice A p c) := (hb1'.cell (p := ⟨w.heap.size, 1, none⟩) (by simp)).trans (by rw [World.cell?_alloc_new]; rfl)
  have e4 : w1.cell? ⟨w.heap.size, 0 + 2, none⟩ = some (.slice A' p' c') := (hb1'.cell (p := ⟨w.heap.size, 2, none⟩) (by simp)).trans (by rw [World.cell?_alloc_new]; rfl)
  have e5 : w1.cell? ⟨w.heap.size, 0 + 3, none⟩ = some (.int .i64 le) := (hb1'.cell (p := ⟨w.heap.size, 3, none⟩) (by simp)).trans (by rw [World.cell?_alloc_new]; rfl)
  have e6 : w1.cell? ⟨w.heap.size, 0 + 4, none⟩ = some (.int .i64 mo) := (hb1'.cell (p := ⟨w.heap.size, 4, none⟩) (by simp)).trans (by rw [World.cell?_alloc_new]; rfl)
  have hown1 := hown.kept (below_grown hb1 none) (by simp)
  have HB1 := Lib.hid hb1
  clear hb1' hb1
  go_region_held3 (fun wx => wx.cell? ⟨b5, 0, none⟩ = some (.map (some mb)) ∧ wx.cell? ⟨b2, 0, none⟩ = some (.func (.func 44) #[] #[]) ∧ wx.cell? ⟨w.heap.size, 0, none⟩ = some (.string nm) ∧ wx.cell? ⟨w.heap.size, 0 + 1, none⟩ = some (.slice A p c) ∧ wx.cell? ⟨w.heap.size, 0 + 2, none⟩ = some (.slice A' p' c') ∧ wx.cell? ⟨w.heap.size, 0 + 3, none⟩ = some (.int .i64 le) ∧ wx.cell? ⟨w.heap.size, 0 + 4, none⟩ = some (.int .i64 mo)) ((first | assumption | (refine ⟨?_, ?_, ?_, ?_, ?_, ?_, ?_⟩ <;> assumption) | (exact keptF_s (by assumption) hb5) | (exact keptgF_s (by assumption) hgrow6 (by omega) (by omega) (by omega)))) (first | (go_at_call 44; refine (nameOfF_any _).mono ?_; rintro e w5 ⟨rfl, hb5⟩; have hown5 := World.ownsMap.kept hown1.drew (below_grown hb5 none) (by simp); have hl5 := look_seen hown5 HD.out hsz HV.out))
  have hs5 : w.heap.size < w5.heap.size := by have := hb5.size; simp at this; omega
  have HB5 := Lib.hid ((HB1.out.drew).trans (hb5.mono (by simp; omega)))
  obtain ⟨z0, z1, z2, z3, z4, z5, z6⟩ := ‹w5.cell? ⟨b5, 0, none⟩ = some (.map (some mb)) ∧ _›
  clear e0 e1 e2 e3 e4 e5 e6 hown1 hb5
  go_wp2
  go_region_held3 (fun wx => wx.cell? ⟨b5, 0, none⟩ = some (.map (some mb)) ∧ wx.cell? ⟨b2, 0, none⟩ = some (.func (.func 44) #[] #[]) ∧ wx.cell? ⟨w.heap.size, 0, none⟩ = some (.string nm) ∧ wx.cell? ⟨w.heap.size, 0 + 1, none⟩ = some (.slice A p c) ∧ wx.cell? ⟨w.heap.size, 0 + 2, none⟩ = some (.slice A' p' c') ∧ wx.cell? ⟨w.heap.size, 0 + 3, none⟩ = some (.int .i64 le) ∧ wx.cell? ⟨w.heap.size, 0 + 4, none⟩ = some (.int .i64 mo)) ((first | assumption | (refine ⟨?_, ?_, ?_, ?_, ?_, ?_, ?_⟩ <;> assumption) | (exact keptF_s (by assumption) hb7) | (exact keptgF_s (by assumption) hgrow6 (by omega) (by omega) (by omega)))) (first | (go_at_call 44; refine (nameOfF_any _).mono ?_; rintro e w7 ⟨rfl, hb7⟩; have hown7 := World.ownsMap.kept hown5.drew (below_grown hb7 none) (by simp); obtain ⟨w6, hrun6, hown6, hgrow6⟩ := upd_seen hown7 (by unfold maxLen; omega) hsz))
  all_goals
    go_wp2
    go_ret
    refine ⟨rfl, hown6, ?_⟩
    exact ((below_grown ((HB5.out.drew).trans (hb7.mono (by simp; omega))) (some mb)).trans hgrow6)

theorem ftFrom_cons {seen : List ByteArray} {l : List Ft} {k : Nat} (h : k < l.length) : ftFrom seen (l.drop k) = bif decide (fitCode l[k].nm l[k].f = 0) then (bif (seen.any fun n => decide (n = l[k].nm)) then 5 else ftFrom (seen ++ [l[k].nm]) (l.drop (k + 1))) else fitCode l[k].nm l[k].f := by
  rw [List.drop_eq_getElem_cons h]; rfl
theorem ftFrom_end {seen : List ByteArray} {l : List Ft} {k : Nat} (h : l.length ≤ k) : ftFrom seen (l.drop k) = 0 := by
  rw [List.drop_eq_nil_iff.2 h]; rfl
theorem namesF_succ {l : List Ft} {k : Nat} (h : k < l.length) : (l.take (k + 1)).map Ft.nm = (l.take k).map Ft.nm ++ [l[k].nm] := by
  rw [List.take_succ_eq_append_getElem h, List.map_append]; rfl
set_option maxHeartbeats 4000000 in
set_option maxRecDepth 20000 in
theorem checkListsF_any {l : List Ft} {S : Option Addr} {cd : Int} {m d lb lc b5 b3 b2 mb B0 : Nat} (hc : ftsCode l = cd) (hmm : m ≤ maxLen) (hsl : ∀ x ∈ l, x.f.o.length ≤ 1000000 ∧ x.f.i.length ≤ 1000000) (w : World) (hS : FtRow B0 w S m l) (hB0 : B0 ≤ mb) (hl : w.cell? ⟨lb, 0, none⟩ = some (.slice S m d))
    (c3 : w.cell? ⟨b3, 0, none⟩ = some (.func (.func 17) #[] #[])) (c5 : w.cell? ⟨b5, 0, none⟩ = some (.map (some mb))) (c2 : w.cell? ⟨b2, 0, none⟩ = some (.func (.func 44) #[] #[]))
    (n5 : b5 ≠ mb) (n2 : b2 ≠ mb) (n3 : b3 ≠ mb) (nl : lb ≠ mb) (hown : w.ownsMap Try.prog 9 (plainElem Try.prog 4) mb 0 (DataW.map [] : DataW Unit)) :
    Calls Try.prog 42 #[.int .i64 60, .func (.func 72) #[] #[.pointer (some ⟨b3, 0, none⟩), .pointer (some ⟨b5, 0, none⟩), .pointer (some ⟨b2, 0, none⟩)], .slice (some ⟨lb, 0, none⟩) 1 1] w
      fun e w' => e = .returned (.int .i64 cd) ∧ Below mb w w' := by
  have hln := hS.1
  have hmb := hown.lt
  have hm' : m ≤ 9223372036854775807 := Nat.le_trans hmm (by decide)
  have hlb := World.block_lt_of_cell? w _ hl
  simp only at hlb
  have hw1 : IntKind.i64.wrap ((m : Nat) : Int) = (m : Int) := by rw [IntKind.wrap_i64]; omega
  have HSR := Lib.hid hS
  have HSL := Lib.hid hsl
  have HOW := Lib.hid hown
  clear hS hown hsl
  go_enter Try.func42, Try.ntmps42
  go_wp2
  go_loop [7, 17] (fun s i => (i = .int .i64 0 ∧ s = .int .i64 0) ∨ (i = .int .i64 1 ∧ s = .int .i64 m)) (fun _ i => 1 - (intOf i).toNat)
  case atStart => exact .inl ⟨rfl, rfl⟩
  case round =>
    rcases hrel with ⟨rfl, rfl⟩ | ⟨rfl, rfl⟩
    · go_wp2
      go_round
      case rel => exact .inr ⟨rfl, rfl⟩
      case measure => simp [intOf]
    · by_cases h60 : 60 < m
      · have HC : Hid (cd = 8) := Lib.hid (by rw [← hc]; unfold ftsCode; rw [decide_eq_true (by omega)]; rfl)
        clear hc
        go_wp2
        go_ret
        exact ⟨ret_int HC.out.symm, Below.refl _ _⟩
      · have HC : Hid (ftFrom [] (l.drop 0) = cd) := Lib.hid (by rw [← hc]; unfold ftsCode; rw [decide_eq_false (by omega)]; rfl)
        clear hc
        go_wp2
        go_loopw [31] (fun i wr => (i = .int .i64 0 ∧ w = wr) ∨ (i = .int .i64 1 ∧ Hid (cd = 0) ∧ Below mb w wr)) (fun i _ => 1 - (intOf i).toNat)
        case atStart => exact .inl ⟨rfl, rfl⟩
        case round =>
          rcases hrel with ⟨rfl, rfl⟩ | ⟨rfl, h0, hbe⟩
          · 
            go_wp2
            go_loopw [37] (fun i wr => ∃ (k : Nat) (D : DataW Unit), k ≤ m ∧ i = .int .i64 k ∧ Hid (ftFrom ((l.take k).map Ft.nm) (l.drop k) = cd) ∧ wr.ownsMap Try.prog 9 (plainElem Try.prog 4) mb k D ∧ Hid (SeenOf D ((l.take k).map Ft.nm)) ∧ Hid (Below mb w wr) ∧ wr.cell? ⟨b3, 0, none⟩ = some (.func (.func 17) #[] #[]) ∧ wr.cell? ⟨b5, 0, none⟩ = some (.map (some mb)) ∧ wr.cell? ⟨b2, 0, none⟩ = some (.func (.func 44) #[] #[])) (fun i _ => m - (intOf i).toNat)
            case atStart => exact ⟨0, DataW.map [], Nat.zero_le _, rfl, HC, HOW.out, Lib.hid seenOf_nil, Lib.hid (Below.refl _ _), c3, c5, c2⟩
            case round =>
              clear c3 c5 c2
              obtain ⟨k, D, hk, rfl, HT, hown, HD, HB, c3, c5, c2⟩ := hrel
              have hmr := hown.lt
              by_cases hlt : k < m
              · have hkl : k < l.length := by omega
                obtain ⟨blk, off, rfl, hblk, hx⟩ := HSR.out.2 (by omega)
                have hbm : blk < mb := by omega
                have hxx := (hx k hkl).below (HB.out.mono hB0) hblk
                have hsl := HSL.out l[k] (List.getElem_mem hkl)
                have HS := Lib.hid (ftFrom_cons (seen := (l.take k).map Ft.nm) hkl)
                have HNS := Lib.hid (namesF_succ hkl)
                clear hx
                obtain ⟨x, hxe⟩ : ∃ x, l[k] = x := ⟨_, rfl⟩
                rw [hxe] at hxx HS HNS hsl
                clear hxe
                obtain ⟨nm, ⟨le, mo, o, i⟩⟩ := x
                obtain ⟨A, p, c, A', p', c', q0, q1, q2, q3, q4, qo, qi, hsz, -⟩ := hxx
                simp only at q0 q1 q2 q3 q4 qo qi hsz HS HNS hsl
                have hbx := ((Below.refl wr.heap.size wr).alloc (Nat.le_refl _) (.cells #[.string nm, .slice A p c, .slice A' p' c', .int .i64 le, .int .i64 mo] 37))
                have ro : MdRow (wr.alloc (.cells #[.string nm, .slice A p c, .slice A' p' c', .int .i64 le, .int .i64 mo] 37)) A p o := (mdRow_up qo (by omega)).below hbx
                have ri : MdRow (wr.alloc (.cells #[.string nm, .slice A p c, .slice A' p' c', .int .i64 le, .int .i64 mo] 37)) A' p' i := (mdRow_up qi (by omega)).below hbx
                have hpp : p ≤ 1000000 := by rw [← qo.1]; exact hsl.1
                have hpp' : p' ≤ 1000000 := by rw [← qi.1]; exact hsl.2
                clear qo qi hsl hbx
                have HBA : Hid (Below mb w (wr.alloc (.cells #[.string nm, .slice A p c, .slice A' p' c', .int .i64 le, .int .i64 mo] 37))) := Lib.hid (HB.out.alloc (by omega) _)
                have k3 : (wr.alloc (.cells #[.string nm, .slice A p c, .slice A' p' c', .int .i64 le, .int .i64 mo] 37)).cell? ⟨b3, 0, none⟩ = _ := (((Below.refl wr.heap.size wr).alloc (Nat.le_refl _) _).cell (p := ⟨b3, 0, none⟩) (World.block_lt_of_cell? wr _ c3)).trans c3
                have k5 : (wr.alloc (.cells #[.string nm, .slice A p c, .slice A' p' c', .int .i64 le, .int .i64 mo] 37)).cell? ⟨b5, 0, none⟩ = _ := (((Below.refl wr.heap.size wr).alloc (Nat.le_refl _) _).cell (p := ⟨b5, 0, none⟩) (World.block_lt_of_cell? wr _ c5)).trans c5
                have k2 : (wr.alloc (.cells #[.string nm, .slice A p c, .slice A' p' c', .int .i64 le, .int .i64 mo] 37)).cell? ⟨b2, 0, none⟩ = _ := (((Below.refl wr.heap.size wr).alloc (Nat.le_refl _) _).cell (p := ⟨b2, 0, none⟩) (World.block_lt_of_cell? wr _ c2)).trans c2
                by_cases hs0 : fitCode nm ⟨le, mo, o, i⟩ = 0
                · cases hv : ((l.take k).map Ft.nm).any fun n => decide (n = nm)
                  · have HV : Hid (ftFrom ((l.take (k + 1)).map Ft.nm) (l.drop (k + 1)) = cd) := Lib.hid (by rw [← HT.out, HS.out, decide_eq_true hs0, hv, HNS.out]; rfl)
                    have CF := Lib.hid (seenF_new (F := ⟨le, mo, o, i⟩) (c := c) (c' := c') hsz hpp hpp' _ ro ri k3 k5 k2 hs0 (by simp; omega) n5 n2 (by omega) (hown.alloc _) HD.out hv)
                    have HDN : Hid (SeenOf (D.put (keyL nm) (.lit (.bool true))) ((l.take (k + 1)).map Ft.nm)) := Lib.hid (by rw [HNS.out]; exact HD.out.snoc nm)
                    unfold ftV at CF; simp only at CF
                    clear hs0 hv HS
                    go_wp2_with (go_at_call 72; refine Calls.mono CF.out ?_; rintro e w2 ⟨rfl, hown2, hgrow2⟩)
                    go_roundw
                    case rel =>
                      refine ⟨k + 1, _, by omega, by go_num, HV, hown2, HDN, Lib.hid (HBA.out.grown hgrow2 (by simp; omega) (fun j hj => by cases hj; exact Nat.le_refl _)), ?_, ?_, ?_⟩
                      · rw [hgrow2.cell_far ⟨b3, 0, none⟩ (World.block_lt_of_cell? _ _ k3) (fun e => n3 (by injection e))]; exact k3
                      · rw [hgrow2.cell_far ⟨b5, 0, none⟩ (World.block_lt_of_cell? _ _ k5) (fun e => n5 (by injection e))]; exact k5
                      · rw [hgrow2.cell_far ⟨b2, 0, none⟩ (World.block_lt_of_cell? _ _ k2) (fun e => n2 (by injection e))]; exact k2
                    case measure => simp [intOf]; omega
                  · have HV : Hid (cd = 5) := Lib.hid (by rw [← HT.out, HS.out, decide_eq_true hs0, hv]; rfl)
                    have CF := Lib.hid (seenF_dup (F := ⟨le, mo, o, i⟩) (c := c) (c' := c') hsz hpp hpp' _ ro ri k3 k5 k2 hs0 (by simp; omega) n5 n2 (by omega) (hown.alloc _) HD.out hv)
                    unfold ftV at CF; simp only at CF
                    clear hs0 hv HS
                    go_wp2_with (go_at_call 72; refine Calls.mono CF.out ?_; rintro e w2 ⟨rfl, hb2⟩)
                    go_ret
                    exact ⟨ret_int HV.out.symm, HBA.out.trans (hb2.mono (by simp; omega))⟩
                · have HV : Hid (cd = fitCode nm ⟨le, mo, o, i⟩) := Lib.hid (by rw [← HT.out, HS.out, decide_eq_false hs0]; rfl)
                  obtain ⟨y, hy⟩ : ∃ y, fitCode nm ⟨le, mo, o, i⟩ = y := ⟨_, rfl⟩
                  have CF := Lib.hid (seenF_err (ns := []) (D := D) (n := 0) (F := ⟨le, mo, o, i⟩) (c := c) (c' := c') hsz hpp hpp' _ ro ri k3 k5 k2 hy (by rw [← hy]; exact hs0))
                  rw [hy] at HV hs0
                  have hyb : (y == 0) = false := beq_eq_false_iff_ne.2 hs0
                  have hyb' : (y != 0) = true := bne_iff_ne.2 hs0
                  unfold ftV at CF; simp only at CF
                  clear hy HS
                  go_wp2_with (go_at_call 72; refine Calls.mono CF.out ?_; rintro e w2 ⟨rfl, hb2⟩)
                  go_ret
                  exact ⟨ret_int HV.out.symm, HBA.out.trans (hb2.mono (by simp; omega))⟩
              · have HV : Hid (cd = 0) := Lib.hid (by rw [← HT.out, ftFrom_end (by omega)])
                have hk' : k = m := by omega
                subst hk'
                go_wp2
                go_roundw
                case rel => exact .inr ⟨rfl, HV, HB.out⟩
                case measure => simp [intOf]
          · go_wp2
            go_ret
            exact ⟨ret_int h0.out.symm, hbe⟩
set_option maxHeartbeats 2000000 in
theorem checkFits_any {l : List Ft} {S : Option Addr} {cd : Int} {m d : Nat} (hc : ftsCode l = cd) (hmm : m ≤ maxLen) (hsl : ∀ x ∈ l, x.f.o.length ≤ 1000000 ∧ x.f.i.length ≤ 1000000) (w : World) (hS : FtRow w.heap.size w S m l) :
    Calls Try.prog 11 #[.slice S m d] w fun e w' => e = .returned (.int .i64 cd) ∧ Below w.heap.size w w' := by
  have HSR := Lib.hid hS
  have NA := Lib.hid (namedF_any w)
  clear hS
  go_enter Try.func11, Try.ntmps11
  go_wp2_with (go_at_call 43; refine Calls.mono NA.out ?_; rintro e w1 ⟨rfl, x2, x3, x5, hown1, hsz1, hb1⟩; have CF := Lib.hid (checkListsF_any (cd := cd) (S := S) (d := d) (lb := w1.heap.size) (lc := 1) hc hmm hsl (w1.alloc (.cells #[.slice S m d] 22)) (HSR.out.below (hb1.alloc (by omega) _)) (by omega) (by rw [World.cell?_alloc_new]; rfl) ((((Below.refl w1.heap.size w1).alloc (Nat.le_refl _) _).cell (p := ⟨w.heap.size + 1, 0, none⟩) (by show w.heap.size + 1 < _; omega)).trans x3) ((((Below.refl w1.heap.size w1).alloc (Nat.le_refl _) _).cell (p := ⟨w.heap.size + 1 + 1 + 1, 0, none⟩) (by show w.heap.size + 1 + 1 + 1 < _; omega)).trans x5) ((((Below.refl w1.heap.size w1).alloc (Nat.le_refl _) _).cell (p := ⟨w.heap.size, 0, none⟩) (by show w.heap.size < _; omega)).trans x2) (by omega) (by omega) (by omega) (by omega) (hown1.alloc _)))
  have CF1 := CF.out
  go_at_call 42
  refine Calls.mono CF1 ?_
  rintro e w3 ⟨rfl, hb3⟩
  go_wp2
  go_ret
  exact ⟨rfl, (hb1.alloc (by omega) _).trans (hb3.mono (by omega))⟩
end Go.Proofs.Ytcjhodlimpgegaa
