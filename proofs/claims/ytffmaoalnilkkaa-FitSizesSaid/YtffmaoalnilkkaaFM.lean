/- Walks over the fits: the numbers with which all fits hold, over the functions that make the fits. -/
import Derived.Test.YtffmaoalnilkkaaFK
namespace Go.Proofs.Ytffmaoalnilkkaa
open Go.RowKit Go.Maps

structure FitD where
  le : Int
  mo : Int
  o : List Md
  i : List Md
structure FdOk (F : FitD) : Prop where
  ho : ∀ x ∈ F.o, MdOk x
  hi : ∀ x ∈ F.i, MdOk x
  hn : F.o.length + F.i.length ≤ 20
  hl : -600000 ≤ F.le ∧ F.le ≤ 600000
  hm : -600000 ≤ F.mo ∧ F.mo ≤ 600000
/-- A fit in memory. -/
def FitAt (w : World) (blk off : Nat) (F : FitD) : Prop := ∃ nm A n c A' n' c', w.cell? ⟨blk, off, none⟩ = some (.string nm) ∧ w.cell? ⟨blk, off + 1, none⟩ = some (.slice A n c) ∧ w.cell? ⟨blk, off + 2, none⟩ = some (.slice A' n' c') ∧ w.cell? ⟨blk, off + 3, none⟩ = some (.int .i64 F.le) ∧ w.cell? ⟨blk, off + 4, none⟩ = some (.int .i64 F.mo) ∧ MdRow w A n F.o ∧ MdRow w A' n' F.i
/-- What is kept with a side. -/
def kepB (side : Int) (F : FitD) (l : List Sn) : Bool := keepsB side F.le F.mo F.o F.i l

set_option maxHeartbeats 2000000 in
set_option maxRecDepth 20000 in
theorem holding1_LG_0 {F : FitD} {n side : Int} {S : Option Addr} {m d a5 a8 a4 a10 : Nat} {q : Addr} {l : List Sn} (hF : FdOk F) (hs : ∀ s ∈ l, SnOk s) (hmm : m ≤ 1000) (w : World)
    (c5 : w.cell? ⟨a5, 0, none⟩ = some (.func (.func 67) #[] #[.pointer (some q)])) (c8 : w.cell? ⟨a8, 0, none⟩ = some (.int .i64 0)) (c4 : w.cell? ⟨a4, 0, none⟩ = some (.slice S m d)) (c10 : w.cell? ⟨a10, 0, none⟩ = some (.int .i64 side)) (hS : SnRow w S m l)
    (CG : ∀ wx, Below w.heap.size w wx → Calls Try.prog 67 #[.int .i64 n, .pointer (some q)] wx fun e w' => ∃ blk, e = .returned (.slice (some ⟨blk, 0, none⟩) 2 2) ∧ FitAt w' blk 0 F ∧ Below wx.heap.size wx w') :
    Calls Try.prog 90 #[.int .i64 n, .pointer (some ⟨a5, 0, none⟩), .pointer (some ⟨a8, 0, none⟩), .pointer (some ⟨a4, 0, none⟩), .pointer (some ⟨a10, 0, none⟩)] w fun e w' => e = .returned (.bool (kepB side F l)) ∧ Below w.heap.size w w' := by
  have HG := Lib.hid CG
  have l5 := World.block_lt_of_cell? w _ c5
  have l8 := World.block_lt_of_cell? w _ c8
  have l4 := World.block_lt_of_cell? w _ c4
  have l10 := World.block_lt_of_cell? w _ c10
  simp only at l5 l8 l4 l10
  have KP := Lib.hid (fun (wx w' : World) (hb : Below wx.heap.size wx w') (h : Below w.heap.size w wx ∧ wx.cell? ⟨a5, 0, none⟩ = some (.func (.func 67) #[] #[.pointer (some q)]) ∧ wx.cell? ⟨a8, 0, none⟩ = some (.int .i64 0) ∧ wx.cell? ⟨a4, 0, none⟩ = some (.slice S m d) ∧ wx.cell? ⟨a10, 0, none⟩ = some (.int .i64 side)) => (show Below w.heap.size w w' ∧ w'.cell? ⟨a5, 0, none⟩ = some (.func (.func 67) #[] #[.pointer (some q)]) ∧ w'.cell? ⟨a8, 0, none⟩ = some (.int .i64 0) ∧ w'.cell? ⟨a4, 0, none⟩ = some (.slice S m d) ∧ w'.cell? ⟨a10, 0, none⟩ = some (.int .i64 side) from by
    obtain ⟨h0, h1, h2, h3, h4⟩ := h
    have hs := h0.size
    have k : ∀ b o, b < w.heap.size → w'.cell? ⟨b, o, none⟩ = wx.cell? ⟨b, o, none⟩ := fun b o hlt => hb.cell (p := ⟨b, o, none⟩) (Nat.lt_of_lt_of_le hlt hs)
    exact ⟨h0.trans (hb.mono hs), by rw [k _ _ l5, h1], by rw [k _ _ l8, h2], by rw [k _ _ l4, h3], by rw [k _ _ l10, h4]⟩))
  have KE := Lib.hid (fun (w1 : World) (nm : ByteArray) (A : Option Addr) (nn c : Nat) (A' : Option Addr) (nn' c' : Nat) (hb : Below w.heap.size w w1) (hA : MdRow w1 A nn F.o) (hA' : MdRow w1 A' nn' F.i) => keeps_any (nm := nm) (c := c) (c' := c') (d := d) (side := side) hF.ho hF.hi (by have := hF.hn; have := hA.1; have := hA'.1; omega) hF.hl hF.hm hs hmm w1 hA hA' (hS.below hb))
  clear CG hS hs hF
  unfold kepB
  unfold ftV at KE
  go_enter Try.func90, Try.ntmps90
  go_upto_region 1 with fail
  refine wp_region_held_drew (S := fun wx => Below w.heap.size w wx ∧ wx.cell? ⟨a5, 0, none⟩ = some (.func (.func 67) #[] #[.pointer (some q)]) ∧ wx.cell? ⟨a8, 0, none⟩ = some (.int .i64 0) ∧ wx.cell? ⟨a4, 0, none⟩ = some (.slice S m d) ∧ wx.cell? ⟨a10, 0, none⟩ = some (.int .i64 side)) (by kernel_rfl) ?_ (fun hHeld => ?_)
  · refine ⟨(Below.refl _ _).drew, ?_, ?_, ?_, ?_⟩ <;> assumption
  refine wpAnyH_take (i := 0) (oi := { dst := some 7, op := Go.Op.load 107 (Go.Operand.tmp 1), type := 107, pos := "search.go:35", after := #[], guard := none }) (v := ?_) rfl (by kernel_rfl) (by kernel_rfl) (by kernel_rfl) (fun _ _ _ h => h) (Or.inl ⟨by rfl, ?hy1⟩) (by assumption) ?rest1
  case hy1 =>
    intro w hSw
    try dsimp only at hSw
    go_simp
    try with_reducible rfl
  try simp only [Act.put, List.setIfInBounds_toArray, List.set_cons_zero, List.set_cons_succ]
  refine wpAnyH_take (i := 1) (oi := { dst := some 8, op := Go.Op.move (Go.Operand.tmp 0), type := 3, pos := "search.go:35", after := #[], guard := none }) (v := ?_) rfl (by kernel_rfl) (by kernel_rfl) (by kernel_rfl) (fun _ _ _ h => h) (Or.inl ⟨by rfl, ?hy2⟩) (by assumption) ?rest2
  case hy2 =>
    intro w hSw
    try dsimp only at hSw
    go_simp
    try with_reducible rfl
  try simp only [Act.put, List.setIfInBounds_toArray, List.set_cons_zero, List.set_cons_succ]
  refine wpAnyH_take (i := 3) (oi := { dst := some 10, op := Go.Op.load 3 (Go.Operand.tmp 2), type := 3, pos := "search.go:35", after := #[], guard := none }) (v := ?_) rfl (by kernel_rfl) (by kernel_rfl) (by kernel_rfl) (fun _ _ _ h => h) (Or.inl ⟨by rfl, ?hy3⟩) (by assumption) ?rest3
  case hy3 =>
    intro w hSw
    try dsimp only at hSw
    go_simp
    try with_reducible rfl
  try simp only [Act.put, List.setIfInBounds_toArray, List.set_cons_zero, List.set_cons_succ]
  refine wpAnyH_take (i := 6) (oi := { dst := some 13, op := Go.Op.load 23 (Go.Operand.tmp 3), type := 23, pos := "search.go:35", after := #[], guard := none }) (v := ?_) rfl (by kernel_rfl) (by kernel_rfl) (by kernel_rfl) (fun _ _ _ h => h) (Or.inl ⟨by rfl, ?hy4⟩) (by assumption) ?rest4
  case hy4 =>
    intro w hSw
    try dsimp only at hSw
    go_simp
    try with_reducible rfl
  try simp only [Act.put, List.setIfInBounds_toArray, List.set_cons_zero, List.set_cons_succ]
  refine wpAnyH_take (i := 7) (oi := { dst := some 14, op := Go.Op.load 3 (Go.Operand.tmp 4), type := 3, pos := "search.go:35", after := #[], guard := none }) (v := ?_) rfl (by kernel_rfl) (by kernel_rfl) (by kernel_rfl) (fun _ _ _ h => h) (Or.inl ⟨by rfl, ?hy5⟩) (by assumption) ?rest5
  case hy5 =>
    intro w hSw
    try dsimp only at hSw
    go_simp
    try with_reducible rfl
  try simp only [Act.put, List.setIfInBounds_toArray, List.set_cons_zero, List.set_cons_succ]
  refine wpAnyH_ready (rs := [2]) (by kernel_rfl) (by simp) ?_
  refine AllReadyH.cons rfl (fun K hK => ?_) AllReadyH.nil
  go_simp
  go_at_call 67
  refine Calls.mono (HG.out _ hHeld.1) ?_
  rintro e w1 ⟨blk, rfl, ⟨nm, A, nn, c, A', nn', c', x0, x1, x2, x3, x4, hA, hA'⟩, hb1⟩
  have hx := Lib.hid (hHeld.1.trans (hb1.mono (by simp)))
  have KW := Lib.hid (KE.out w1 nm A nn c A' nn' c' hx.out hA hA')
  have d0 : w1.cell? ⟨blk, 0, none⟩ = some (.string nm) := (by simpa using x0); have d1 : w1.cell? ⟨blk, 1, none⟩ = some (.slice A nn c) := (by simpa using x1); have d2 : w1.cell? ⟨blk, 2, none⟩ = some (.slice A' nn' c') := (by simpa using x2); have d3 : w1.cell? ⟨blk, 3, none⟩ = some (.int .i64 F.le) := (by simpa using x3); have d4 : w1.cell? ⟨blk, 4, none⟩ = some (.int .i64 F.mo) := (by simpa using x4); have z1 : w1.cell? ⟨blk, 0 + 1, none⟩ = some (.slice A nn c) := (by simpa using x1); have z2 : w1.cell? ⟨blk, 0 + 2, none⟩ = some (.slice A' nn' c') := (by simpa using x2); have z3 : w1.cell? ⟨blk, 0 + 3, none⟩ = some (.int .i64 F.le) := (by simpa using x3); have z4 : w1.cell? ⟨blk, 0 + 4, none⟩ = some (.int .i64 F.mo) := (by simpa using x4)
  clear x0 x1 x2 x3 x4
  try dsimp only
  refine hK.out _ _ (KP.out _ _ hb1 hHeld) (fun hHeld2 => ?_)
  clear hK K hHeld
  try simp only [Act.put, List.setIfInBounds_toArray, List.set_cons_zero, List.set_cons_succ]
  refine wpAnyH_take (i := 4) (oi := { dst := some 11, op := Go.Op.indexAddr 22 (Go.Operand.tmp 9) (Go.Operand.tmp 10), type := 0, pos := "search.go:35", after := #[{ on := 2, ground := Go.Ground.data }, { on := 3, ground := Go.Ground.data }], guard := none }) (v := ?_) rfl (by kernel_rfl) (by kernel_rfl) (by kernel_rfl) (fun _ _ _ h => h) (Or.inl ⟨by rfl, ?hy6⟩) (by assumption) ?rest6
  case hy6 =>
    intro w hSw
    try dsimp only at hSw
    go_simp
    try with_reducible rfl
  try simp only [Act.put, List.setIfInBounds_toArray, List.set_cons_zero, List.set_cons_succ]
  refine wpAnyH_ready (rs := [5]) (by kernel_rfl) (by simp) ?_
  refine AllReadyH.cons rfl (fun K hK => ?_) AllReadyH.nil
  go_simp
  refine hK.out _ _ hHeld2 (fun hHeld3 => ?_)
  clear hK K hHeld2
  try simp only [Act.put, List.setIfInBounds_toArray, List.set_cons_zero, List.set_cons_succ]
  refine wpAnyH_ready (rs := [8]) (by kernel_rfl) (by simp) ?_
  refine AllReadyH.cons rfl (fun K hK => ?_) AllReadyH.nil
  go_simp
  go_at_call 91
  refine Calls.mono KW.out ?_
  rintro e w2 ⟨rfl, hb2⟩
  try dsimp only
  refine hK.out _ _ (KP.out _ _ hb2 hHeld3) (fun hHeld4 => ?_)
  clear hK K hHeld3
  try simp only [Act.put, List.setIfInBounds_toArray, List.set_cons_zero, List.set_cons_succ]
  refine wpAnyH_take (i := 9) (oi := { dst := some 6, op := Go.Op.assign (Go.Operand.tmp 15), type := 4, pos := "search.go:35", after := #[{ on := 8, ground := Go.Ground.data }, { on := 8, ground := Go.Ground.chain }, { on := 0, ground := Go.Ground.phase }, { on := 1, ground := Go.Ground.phase }, { on := 2, ground := Go.Ground.phase }, { on := 3, ground := Go.Ground.phase }, { on := 4, ground := Go.Ground.phase }, { on := 5, ground := Go.Ground.phase }, { on := 6, ground := Go.Ground.phase }, { on := 7, ground := Go.Ground.phase }, { on := 8, ground := Go.Ground.phase }], guard := none }) (v := ?_) rfl (by kernel_rfl) (by kernel_rfl) (by kernel_rfl) (fun _ _ _ h => h) (Or.inl ⟨by rfl, ?hy7⟩) (by assumption) ?rest7
  case hy7 =>
    intro w hSw
    try dsimp only at hSw
    go_simp
    try with_reducible rfl
  try simp only [Act.put, List.setIfInBounds_toArray, List.set_cons_zero, List.set_cons_succ]
  refine wpAnyH_done (by kernel_rfl) ?_ _
  go_wp2
  go_ret
  exact ⟨rfl, hHeld4.1⟩

set_option maxHeartbeats 2000000 in
set_option maxRecDepth 20000 in
theorem holding1_LG_1 {F : FitD} {n side : Int} {S : Option Addr} {m d a5 a8 a4 a10 : Nat} {q : Addr} {l : List Sn} (hF : FdOk F) (hs : ∀ s ∈ l, SnOk s) (hmm : m ≤ 1000) (w : World)
    (c5 : w.cell? ⟨a5, 0, none⟩ = some (.func (.func 67) #[] #[.pointer (some q)])) (c8 : w.cell? ⟨a8, 0, none⟩ = some (.int .i64 1)) (c4 : w.cell? ⟨a4, 0, none⟩ = some (.slice S m d)) (c10 : w.cell? ⟨a10, 0, none⟩ = some (.int .i64 side)) (hS : SnRow w S m l)
    (CG : ∀ wx, Below w.heap.size w wx → Calls Try.prog 67 #[.int .i64 n, .pointer (some q)] wx fun e w' => ∃ blk, e = .returned (.slice (some ⟨blk, 0, none⟩) 2 2) ∧ FitAt w' blk 5 F ∧ Below wx.heap.size wx w') :
    Calls Try.prog 90 #[.int .i64 n, .pointer (some ⟨a5, 0, none⟩), .pointer (some ⟨a8, 0, none⟩), .pointer (some ⟨a4, 0, none⟩), .pointer (some ⟨a10, 0, none⟩)] w fun e w' => e = .returned (.bool (kepB side F l)) ∧ Below w.heap.size w w' := by
  have HG := Lib.hid CG
  have l5 := World.block_lt_of_cell? w _ c5
  have l8 := World.block_lt_of_cell? w _ c8
  have l4 := World.block_lt_of_cell? w _ c4
  have l10 := World.block_lt_of_cell? w _ c10
  simp only at l5 l8 l4 l10
  have KP := Lib.hid (fun (wx w' : World) (hb : Below wx.heap.size wx w') (h : Below w.heap.size w wx ∧ wx.cell? ⟨a5, 0, none⟩ = some (.func (.func 67) #[] #[.pointer (some q)]) ∧ wx.cell? ⟨a8, 0, none⟩ = some (.int .i64 1) ∧ wx.cell? ⟨a4, 0, none⟩ = some (.slice S m d) ∧ wx.cell? ⟨a10, 0, none⟩ = some (.int .i64 side)) => (show Below w.heap.size w w' ∧ w'.cell? ⟨a5, 0, none⟩ = some (.func (.func 67) #[] #[.pointer (some q)]) ∧ w'.cell? ⟨a8, 0, none⟩ = some (.int .i64 1) ∧ w'.cell? ⟨a4, 0, none⟩ = some (.slice S m d) ∧ w'.cell? ⟨a10, 0, none⟩ = some (.int .i64 side) from by
    obtain ⟨h0, h1, h2, h3, h4⟩ := h
    have hs := h0.size
    have k : ∀ b o, b < w.heap.size → w'.cell? ⟨b, o, none⟩ = wx.cell? ⟨b, o, none⟩ := fun b o hlt => hb.cell (p := ⟨b, o, none⟩) (Nat.lt_of_lt_of_le hlt hs)
    exact ⟨h0.trans (hb.mono hs), by rw [k _ _ l5, h1], by rw [k _ _ l8, h2], by rw [k _ _ l4, h3], by rw [k _ _ l10, h4]⟩))
  have KE := Lib.hid (fun (w1 : World) (nm : ByteArray) (A : Option Addr) (nn c : Nat) (A' : Option Addr) (nn' c' : Nat) (hb : Below w.heap.size w w1) (hA : MdRow w1 A nn F.o) (hA' : MdRow w1 A' nn' F.i) => keeps_any (nm := nm) (c := c) (c' := c') (d := d) (side := side) hF.ho hF.hi (by have := hF.hn; have := hA.1; have := hA'.1; omega) hF.hl hF.hm hs hmm w1 hA hA' (hS.below hb))
  clear CG hS hs hF
  unfold kepB
  unfold ftV at KE
  go_enter Try.func90, Try.ntmps90
  go_upto_region 1 with fail
  refine wp_region_held_drew (S := fun wx => Below w.heap.size w wx ∧ wx.cell? ⟨a5, 0, none⟩ = some (.func (.func 67) #[] #[.pointer (some q)]) ∧ wx.cell? ⟨a8, 0, none⟩ = some (.int .i64 1) ∧ wx.cell? ⟨a4, 0, none⟩ = some (.slice S m d) ∧ wx.cell? ⟨a10, 0, none⟩ = some (.int .i64 side)) (by kernel_rfl) ?_ (fun hHeld => ?_)
  · refine ⟨(Below.refl _ _).drew, ?_, ?_, ?_, ?_⟩ <;> assumption
  refine wpAnyH_take (i := 0) (oi := { dst := some 7, op := Go.Op.load 107 (Go.Operand.tmp 1), type := 107, pos := "search.go:35", after := #[], guard := none }) (v := ?_) rfl (by kernel_rfl) (by kernel_rfl) (by kernel_rfl) (fun _ _ _ h => h) (Or.inl ⟨by rfl, ?hy8⟩) (by assumption) ?rest8
  case hy8 =>
    intro w hSw
    try dsimp only at hSw
    go_simp
    try with_reducible rfl
  try simp only [Act.put, List.setIfInBounds_toArray, List.set_cons_zero, List.set_cons_succ]
  refine wpAnyH_take (i := 1) (oi := { dst := some 8, op := Go.Op.move (Go.Operand.tmp 0), type := 3, pos := "search.go:35", after := #[], guard := none }) (v := ?_) rfl (by kernel_rfl) (by kernel_rfl) (by kernel_rfl) (fun _ _ _ h => h) (Or.inl ⟨by rfl, ?hy9⟩) (by assumption) ?rest9
  case hy9 =>
    intro w hSw
    try dsimp only at hSw
    go_simp
    try with_reducible rfl
  try simp only [Act.put, List.setIfInBounds_toArray, List.set_cons_zero, List.set_cons_succ]
  refine wpAnyH_take (i := 3) (oi := { dst := some 10, op := Go.Op.load 3 (Go.Operand.tmp 2), type := 3, pos := "search.go:35", after := #[], guard := none }) (v := ?_) rfl (by kernel_rfl) (by kernel_rfl) (by kernel_rfl) (fun _ _ _ h => h) (Or.inl ⟨by rfl, ?hy10⟩) (by assumption) ?rest10
  case hy10 =>
    intro w hSw
    try dsimp only at hSw
    go_simp
    try with_reducible rfl
  try simp only [Act.put, List.setIfInBounds_toArray, List.set_cons_zero, List.set_cons_succ]
  refine wpAnyH_take (i := 6) (oi := { dst := some 13, op := Go.Op.load 23 (Go.Operand.tmp 3), type := 23, pos := "search.go:35", after := #[], guard := none }) (v := ?_) rfl (by kernel_rfl) (by kernel_rfl) (by kernel_rfl) (fun _ _ _ h => h) (Or.inl ⟨by rfl, ?hy11⟩) (by assumption) ?rest11
  case hy11 =>
    intro w hSw
    try dsimp only at hSw
    go_simp
    try with_reducible rfl
  try simp only [Act.put, List.setIfInBounds_toArray, List.set_cons_zero, List.set_cons_succ]
  refine wpAnyH_take (i := 7) (oi := { dst := some 14, op := Go.Op.load 3 (Go.Operand.tmp 4), type := 3, pos := "search.go:35", after := #[], guard := none }) (v := ?_) rfl (by kernel_rfl) (by kernel_rfl) (by kernel_rfl) (fun _ _ _ h => h) (Or.inl ⟨by rfl, ?hy12⟩) (by assumption) ?rest12
  case hy12 =>
    intro w hSw
    try dsimp only at hSw
    go_simp
    try with_reducible rfl
  try simp only [Act.put, List.setIfInBounds_toArray, List.set_cons_zero, List.set_cons_succ]
  refine wpAnyH_ready (rs := [2]) (by kernel_rfl) (by simp) ?_
  refine AllReadyH.cons rfl (fun K hK => ?_) AllReadyH.nil
  go_simp
  go_at_call 67
  refine Calls.mono (HG.out _ hHeld.1) ?_
  rintro e w1 ⟨blk, rfl, ⟨nm, A, nn, c, A', nn', c', x0, x1, x2, x3, x4, hA, hA'⟩, hb1⟩
  have hx := Lib.hid (hHeld.1.trans (hb1.mono (by simp)))
  have KW := Lib.hid (KE.out w1 nm A nn c A' nn' c' hx.out hA hA')
  have d0 : w1.cell? ⟨blk, 5, none⟩ = some (.string nm) := (by simpa using x0); have d1 : w1.cell? ⟨blk, 6, none⟩ = some (.slice A nn c) := (by simpa using x1); have d2 : w1.cell? ⟨blk, 7, none⟩ = some (.slice A' nn' c') := (by simpa using x2); have d3 : w1.cell? ⟨blk, 8, none⟩ = some (.int .i64 F.le) := (by simpa using x3); have d4 : w1.cell? ⟨blk, 9, none⟩ = some (.int .i64 F.mo) := (by simpa using x4); have z1 : w1.cell? ⟨blk, 5 + 1, none⟩ = some (.slice A nn c) := (by simpa using x1); have z2 : w1.cell? ⟨blk, 5 + 2, none⟩ = some (.slice A' nn' c') := (by simpa using x2); have z3 : w1.cell? ⟨blk, 5 + 3, none⟩ = some (.int .i64 F.le) := (by simpa using x3); have z4 : w1.cell? ⟨blk, 5 + 4, none⟩ = some (.int .i64 F.mo) := (by simpa using x4)
  clear x0 x1 x2 x3 x4
  try dsimp only
  refine hK.out _ _ (KP.out _ _ hb1 hHeld) (fun hHeld2 => ?_)
  clear hK K hHeld
  try simp only [Act.put, List.setIfInBounds_toArray, List.set_cons_zero, List.set_cons_succ]
  refine wpAnyH_take (i := 4) (oi := { dst := some 11, op := Go.Op.indexAddr 22 (Go.Operand.tmp 9) (Go.Operand.tmp 10), type := 0, pos := "search.go:35", after := #[{ on := 2, ground := Go.Ground.data }, { on := 3, ground := Go.Ground.data }], guard := none }) (v := ?_) rfl (by kernel_rfl) (by kernel_rfl) (by kernel_rfl) (fun _ _ _ h => h) (Or.inl ⟨by rfl, ?hy13⟩) (by assumption) ?rest13
  case hy13 =>
    intro w hSw
    try dsimp only at hSw
    go_simp
    try with_reducible rfl
  try simp only [Act.put, List.setIfInBounds_toArray, List.set_cons_zero, List.set_cons_succ]
  refine wpAnyH_ready (rs := [5]) (by kernel_rfl) (by simp) ?_
  refine AllReadyH.cons rfl (fun K hK => ?_) AllReadyH.nil
  go_simp
  refine hK.out _ _ hHeld2 (fun hHeld3 => ?_)
  clear hK K hHeld2
  try simp only [Act.put, List.setIfInBounds_toArray, List.set_cons_zero, List.set_cons_succ]
  refine wpAnyH_ready (rs := [8]) (by kernel_rfl) (by simp) ?_
  refine AllReadyH.cons rfl (fun K hK => ?_) AllReadyH.nil
  go_simp
  go_at_call 91
  refine Calls.mono KW.out ?_
  rintro e w2 ⟨rfl, hb2⟩
  try dsimp only
  refine hK.out _ _ (KP.out _ _ hb2 hHeld3) (fun hHeld4 => ?_)
  clear hK K hHeld3
  try simp only [Act.put, List.setIfInBounds_toArray, List.set_cons_zero, List.set_cons_succ]
  refine wpAnyH_take (i := 9) (oi := { dst := some 6, op := Go.Op.assign (Go.Operand.tmp 15), type := 4, pos := "search.go:35", after := #[{ on := 8, ground := Go.Ground.data }, { on := 8, ground := Go.Ground.chain }, { on := 0, ground := Go.Ground.phase }, { on := 1, ground := Go.Ground.phase }, { on := 2, ground := Go.Ground.phase }, { on := 3, ground := Go.Ground.phase }, { on := 4, ground := Go.Ground.phase }, { on := 5, ground := Go.Ground.phase }, { on := 6, ground := Go.Ground.phase }, { on := 7, ground := Go.Ground.phase }, { on := 8, ground := Go.Ground.phase }], guard := none }) (v := ?_) rfl (by kernel_rfl) (by kernel_rfl) (by kernel_rfl) (fun _ _ _ h => h) (Or.inl ⟨by rfl, ?hy14⟩) (by assumption) ?rest14
  case hy14 =>
    intro w hSw
    try dsimp only at hSw
    go_simp
    try with_reducible rfl
  try simp only [Act.put, List.setIfInBounds_toArray, List.set_cons_zero, List.set_cons_succ]
  refine wpAnyH_done (by kernel_rfl) ?_ _
  go_wp2
  go_ret
  exact ⟨rfl, hHeld4.1⟩

set_option maxHeartbeats 2000000 in
set_option maxRecDepth 20000 in
theorem holding1_GP_0 {F : FitD} {n side : Int} {S : Option Addr} {m d a5 a8 a4 a10 : Nat} {q q2 : Addr} {l : List Sn} (hF : FdOk F) (hs : ∀ s ∈ l, SnOk s) (hmm : m ≤ 1000) (w : World)
    (c5 : w.cell? ⟨a5, 0, none⟩ = some (.func (.func 71) #[] #[.pointer (some q), .pointer (some q2)])) (c8 : w.cell? ⟨a8, 0, none⟩ = some (.int .i64 0)) (c4 : w.cell? ⟨a4, 0, none⟩ = some (.slice S m d)) (c10 : w.cell? ⟨a10, 0, none⟩ = some (.int .i64 side)) (hS : SnRow w S m l)
    (CG : ∀ wx, Below w.heap.size w wx → Calls Try.prog 71 #[.int .i64 n, .pointer (some q), .pointer (some q2)] wx fun e w' => ∃ blk, e = .returned (.slice (some ⟨blk, 0, none⟩) 2 2) ∧ FitAt w' blk 0 F ∧ Below wx.heap.size wx w') :
    Calls Try.prog 90 #[.int .i64 n, .pointer (some ⟨a5, 0, none⟩), .pointer (some ⟨a8, 0, none⟩), .pointer (some ⟨a4, 0, none⟩), .pointer (some ⟨a10, 0, none⟩)] w fun e w' => e = .returned (.bool (kepB side F l)) ∧ Below w.heap.size w w' := by
  have HG := Lib.hid CG
  have l5 := World.block_lt_of_cell? w _ c5
  have l8 := World.block_lt_of_cell? w _ c8
  have l4 := World.block_lt_of_cell? w _ c4
  have l10 := World.block_lt_of_cell? w _ c10
  simp only at l5 l8 l4 l10
  have KP := Lib.hid (fun (wx w' : World) (hb : Below wx.heap.size wx w') (h : Below w.heap.size w wx ∧ wx.cell? ⟨a5, 0, none⟩ = some (.func (.func 71) #[] #[.pointer (some q), .pointer (some q2)]) ∧ wx.cell? ⟨a8, 0, none⟩ = some (.int .i64 0) ∧ wx.cell? ⟨a4, 0, none⟩ = some (.slice S m d) ∧ wx.cell? ⟨a10, 0, none⟩ = some (.int .i64 side)) => (show Below w.heap.size w w' ∧ w'.cell? ⟨a5, 0, none⟩ = some (.func (.func 71) #[] #[.pointer (some q), .pointer (some q2)]) ∧ w'.cell? ⟨a8, 0, none⟩ = some (.int .i64 0) ∧ w'.cell? ⟨a4, 0, none⟩ = some (.slice S m d) ∧ w'.cell? ⟨a10, 0, none⟩ = some (.int .i64 side) from by
    obtain ⟨h0, h1, h2, h3, h4⟩ := h
    have hs := h0.size
    have k : ∀ b o, b < w.heap.size → w'.cell? ⟨b, o, none⟩ = wx.cell? ⟨b, o, none⟩ := fun b o hlt => hb.cell (p := ⟨b, o, none⟩) (Nat.lt_of_lt_of_le hlt hs)
    exact ⟨h0.trans (hb.mono hs), by rw [k _ _ l5, h1], by rw [k _ _ l8, h2], by rw [k _ _ l4, h3], by rw [k _ _ l10, h4]⟩))
  have KE := Lib.hid (fun (w1 : World) (nm : ByteArray) (A : Option Addr) (nn c : Nat) (A' : Option Addr) (nn' c' : Nat) (hb : Below w.heap.size w w1) (hA : MdRow w1 A nn F.o) (hA' : MdRow w1 A' nn' F.i) => keeps_any (nm := nm) (c := c) (c' := c') (d := d) (side := side) hF.ho hF.hi (by have := hF.hn; have := hA.1; have := hA'.1; omega) hF.hl hF.hm hs hmm w1 hA hA' (hS.below hb))
  clear CG hS hs hF
  unfold kepB
  unfold ftV at KE
  go_enter Try.func90, Try.ntmps90
  go_upto_region 1 with fail
  refine wp_region_held_drew (S := fun wx => Below w.heap.size w wx ∧ wx.cell? ⟨a5, 0, none⟩ = some (.func (.func 71) #[] #[.pointer (some q), .pointer (some q2)]) ∧ wx.cell? ⟨a8, 0, none⟩ = some (.int .i64 0) ∧ wx.cell? ⟨a4, 0, none⟩ = some (.slice S m d) ∧ wx.cell? ⟨a10, 0, none⟩ = some (.int .i64 side)) (by kernel_rfl) ?_ (fun hHeld => ?_)
  · refine ⟨(Below.refl _ _).drew, ?_, ?_, ?_, ?_⟩ <;> assumption
  refine wpAnyH_take (i := 0) (oi := { dst := some 7, op := Go.Op.load 107 (Go.Operand.tmp 1), type := 107, pos := "search.go:35", after := #[], guard := none }) (v := ?_) rfl (by kernel_rfl) (by kernel_rfl) (by kernel_rfl) (fun _ _ _ h => h) (Or.inl ⟨by rfl, ?hy15⟩) (by assumption) ?rest15
  case hy15 =>
    intro w hSw
    try dsimp only at hSw
    go_simp
    try with_reducible rfl
  try simp only [Act.put, List.setIfInBounds_toArray, List.set_cons_zero, List.set_cons_succ]
  refine wpAnyH_take (i := 1) (oi := { dst := some 8, op := Go.Op.move (Go.Operand.tmp 0), type := 3, pos := "search.go:35", after := #[], guard := none }) (v := ?_) rfl (by kernel_rfl) (by kernel_rfl) (by kernel_rfl) (fun _ _ _ h => h) (Or.inl ⟨by rfl, ?hy16⟩) (by assumption) ?rest16
  case hy16 =>
    intro w hSw
    try dsimp only at hSw
    go_simp
    try with_reducible rfl
  try simp only [Act.put, List.setIfInBounds_toArray, List.set_cons_zero, List.set_cons_succ]
  refine wpAnyH_take (i := 3) (oi := { dst := some 10, op := Go.Op.load 3 (Go.Operand.tmp 2), type := 3, pos := "search.go:35", after := #[], guard := none }) (v := ?_) rfl (by kernel_rfl) (by kernel_rfl) (by kernel_rfl) (fun _ _ _ h => h) (Or.inl ⟨by rfl, ?hy17⟩) (by assumption) ?rest17
  case hy17 =>
    intro w hSw
    try dsimp only at hSw
    go_simp
    try with_reducible rfl
  try simp only [Act.put, List.setIfInBounds_toArray, List.set_cons_zero, List.set_cons_succ]
  refine wpAnyH_take (i := 6) (oi := { dst := some 13, op := Go.Op.load 23 (Go.Operand.tmp 3), type := 23, pos := "search.go:35", after := #[], guard := none }) (v := ?_) rfl (by kernel_rfl) (by kernel_rfl) (by kernel_rfl) (fun _ _ _ h => h) (Or.inl ⟨by rfl, ?hy18⟩) (by assumption) ?rest18
  case hy18 =>
    intro w hSw
    try dsimp only at hSw
    go_simp
    try with_reducible rfl
  try simp only [Act.put, List.setIfInBounds_toArray, List.set_cons_zero, List.set_cons_succ]
  refine wpAnyH_take (i := 7) (oi := { dst := some 14, op := Go.Op.load 3 (Go.Operand.tmp 4), type := 3, pos := "search.go:35", after := #[], guard := none }) (v := ?_) rfl (by kernel_rfl) (by kernel_rfl) (by kernel_rfl) (fun _ _ _ h => h) (Or.inl ⟨by rfl, ?hy19⟩) (by assumption) ?rest19
  case hy19 =>
    intro w hSw
    try dsimp only at hSw
    go_simp
    try with_reducible rfl
  try simp only [Act.put, List.setIfInBounds_toArray, List.set_cons_zero, List.set_cons_succ]
  refine wpAnyH_ready (rs := [2]) (by kernel_rfl) (by simp) ?_
  refine AllReadyH.cons rfl (fun K hK => ?_) AllReadyH.nil
  go_simp
  go_at_call 71
  refine Calls.mono (HG.out _ hHeld.1) ?_
  rintro e w1 ⟨blk, rfl, ⟨nm, A, nn, c, A', nn', c', x0, x1, x2, x3, x4, hA, hA'⟩, hb1⟩
  have hx := Lib.hid (hHeld.1.trans (hb1.mono (by simp)))
  have KW := Lib.hid (KE.out w1 nm A nn c A' nn' c' hx.out hA hA')
  have d0 : w1.cell? ⟨blk, 0, none⟩ = some (.string nm) := (by simpa using x0); have d1 : w1.cell? ⟨blk, 1, none⟩ = some (.slice A nn c) := (by simpa using x1); have d2 : w1.cell? ⟨blk, 2, none⟩ = some (.slice A' nn' c') := (by simpa using x2); have d3 : w1.cell? ⟨blk, 3, none⟩ = some (.int .i64 F.le) := (by simpa using x3); have d4 : w1.cell? ⟨blk, 4, none⟩ = some (.int .i64 F.mo) := (by simpa using x4); have z1 : w1.cell? ⟨blk, 0 + 1, none⟩ = some (.slice A nn c) := (by simpa using x1); have z2 : w1.cell? ⟨blk, 0 + 2, none⟩ = some (.slice A' nn' c') := (by simpa using x2); have z3 : w1.cell? ⟨blk, 0 + 3, none⟩ = some (.int .i64 F.le) := (by simpa using x3); have z4 : w1.cell? ⟨blk, 0 + 4, none⟩ = some (.int .i64 F.mo) := (by simpa using x4)
  clear x0 x1 x2 x3 x4
  try dsimp only
  refine hK.out _ _ (KP.out _ _ hb1 hHeld) (fun hHeld2 => ?_)
  clear hK K hHeld
  try simp only [Act.put, List.setIfInBounds_toArray, List.set_cons_zero, List.set_cons_succ]
  refine wpAnyH_take (i := 4) (oi := { dst := some 11, op := Go.Op.indexAddr 22 (Go.Operand.tmp 9) (Go.Operand.tmp 10), type := 0, pos := "search.go:35", after := #[{ on := 2, ground := Go.Ground.data }, { on := 3, ground := Go.Ground.data }], guard := none }) (v := ?_) rfl (by kernel_rfl) (by kernel_rfl) (by kernel_rfl) (fun _ _ _ h => h) (Or.inl ⟨by rfl, ?hy20⟩) (by assumption) ?rest20
  case hy20 =>
    intro w hSw
    try dsimp only at hSw
    go_simp
    try with_reducible rfl
  try simp only [Act.put, List.setIfInBounds_toArray, List.set_cons_zero, List.set_cons_succ]
  refine wpAnyH_ready (rs := [5]) (by kernel_rfl) (by simp) ?_
  refine AllReadyH.cons rfl (fun K hK => ?_) AllReadyH.nil
  go_simp
  refine hK.out _ _ hHeld2 (fun hHeld3 => ?_)
  clear hK K hHeld2
  try simp only [Act.put, List.setIfInBounds_toArray, List.set_cons_zero, List.set_cons_succ]
  refine wpAnyH_ready (rs := [8]) (by kernel_rfl) (by simp) ?_
  refine AllReadyH.cons rfl (fun K hK => ?_) AllReadyH.nil
  go_simp
  go_at_call 91
  refine Calls.mono KW.out ?_
  rintro e w2 ⟨rfl, hb2⟩
  try dsimp only
  refine hK.out _ _ (KP.out _ _ hb2 hHeld3) (fun hHeld4 => ?_)
  clear hK K hHeld3
  try simp only [Act.put, List.setIfInBounds_toArray, List.set_cons_zero, List.set_cons_succ]
  refine wpAnyH_take (i := 9) (oi := { dst := some 6, op := Go.Op.assign (Go.Operand.tmp 15), type := 4, pos := "search.go:35", after := #[{ on := 8, ground := Go.Ground.data }, { on := 8, ground := Go.Ground.chain }, { on := 0, ground := Go.Ground.phase }, { on := 1, ground := Go.Ground.phase }, { on := 2, ground := Go.Ground.phase }, { on := 3, ground := Go.Ground.phase }, { on := 4, ground := Go.Ground.phase }, { on := 5, ground := Go.Ground.phase }, { on := 6, ground := Go.Ground.phase }, { on := 7, ground := Go.Ground.phase }, { on := 8, ground := Go.Ground.phase }], guard := none }) (v := ?_) rfl (by kernel_rfl) (by kernel_rfl) (by kernel_rfl) (fun _ _ _ h => h) (Or.inl ⟨by rfl, ?hy21⟩) (by assumption) ?rest21
  case hy21 =>
    intro w hSw
    try dsimp only at hSw
    go_simp
    try with_reducible rfl
  try simp only [Act.put, List.setIfInBounds_toArray, List.set_cons_zero, List.set_cons_succ]
  refine wpAnyH_done (by kernel_rfl) ?_ _
  go_wp2
  go_ret
  exact ⟨rfl, hHeld4.1⟩

set_option maxHeartbeats 2000000 in
set_option maxRecDepth 20000 in
theorem holding1_GP_1 {F : FitD} {n side : Int} {S : Option Addr} {m d a5 a8 a4 a10 : Nat} {q q2 : Addr} {l : List Sn} (hF : FdOk F) (hs : ∀ s ∈ l, SnOk s) (hmm : m ≤ 1000) (w : World)
    (c5 : w.cell? ⟨a5, 0, none⟩ = some (.func (.func 71) #[] #[.pointer (some q), .pointer (some q2)])) (c8 : w.cell? ⟨a8, 0, none⟩ = some (.int .i64 1)) (c4 : w.cell? ⟨a4, 0, none⟩ = some (.slice S m d)) (c10 : w.cell? ⟨a10, 0, none⟩ = some (.int .i64 side)) (hS : SnRow w S m l)
    (CG : ∀ wx, Below w.heap.size w wx → Calls Try.prog 71 #[.int .i64 n, .pointer (some q), .pointer (some q2)] wx fun e w' => ∃ blk, e = .returned (.slice (some ⟨blk, 0, none⟩) 2 2) ∧ FitAt w' blk 5 F ∧ Below wx.heap.size wx w') :
    Calls Try.prog 90 #[.int .i64 n, .pointer (some ⟨a5, 0, none⟩), .pointer (some ⟨a8, 0, none⟩), .pointer (some ⟨a4, 0, none⟩), .pointer (some ⟨a10, 0, none⟩)] w fun e w' => e = .returned (.bool (kepB side F l)) ∧ Below w.heap.size w w' := by
  have HG := Lib.hid CG
  have l5 := World.block_lt_of_cell? w _ c5
  have l8 := World.block_lt_of_cell? w _ c8
  have l4 := World.block_lt_of_cell? w _ c4
  have l10 := World.block_lt_of_cell? w _ c10
  simp only at l5 l8 l4 l10
  have KP := Lib.hid (fun (wx w' : World) (hb : Below wx.heap.size wx w') (h : Below w.heap.size w wx ∧ wx.cell? ⟨a5, 0, none⟩ = some (.func (.func 71) #[] #[.pointer (some q), .pointer (some q2)]) ∧ wx.cell? ⟨a8, 0, none⟩ = some (.int .i64 1) ∧ wx.cell? ⟨a4, 0, none⟩ = some (.slice S m d) ∧ wx.cell? ⟨a10, 0, none⟩ = some (.int .i64 side)) => (show Below w.heap.size w w' ∧ w'.cell? ⟨a5, 0, none⟩ = some (.func (.func 71) #[] #[.pointer (some q), .pointer (some q2)]) ∧ w'.cell? ⟨a8, 0, none⟩ = some (.int .i64 1) ∧ w'.cell? ⟨a4, 0, none⟩ = some (.slice S m d) ∧ w'.cell? ⟨a10, 0, none⟩ = some (.int .i64 side) from by
    obtain ⟨h0, h1, h2, h3, h4⟩ := h
    have hs := h0.size
    have k : ∀ b o, b < w.heap.size → w'.cell? ⟨b, o, none⟩ = wx.cell? ⟨b, o, none⟩ := fun b o hlt => hb.cell (p := ⟨b, o, none⟩) (Nat.lt_of_lt_of_le hlt hs)
    exact ⟨h0.trans (hb.mono hs), by rw [k _ _ l5, h1], by rw [k _ _ l8, h2], by rw [k _ _ l4, h3], by rw [k _ _ l10, h4]⟩))
  have KE := Lib.hid (fun (w1 : World) (nm : ByteArray) (A : Option Addr) (nn c : Nat) (A' : Option Addr) (nn' c' : Nat) (hb : Below w.heap.size w w1) (hA : MdRow w1 A nn F.o) (hA' : MdRow w1 A' nn' F.i) => keeps_any (nm := nm) (c := c) (c' := c') (d := d) (side := side) hF.ho hF.hi (by have := hF.hn; have := hA.1; have := hA'.1; omega) hF.hl hF.hm hs hmm w1 hA hA' (hS.below hb))
  clear CG hS hs hF
  unfold kepB
  unfold ftV at KE
  go_enter Try.func90, Try.ntmps90
  go_upto_region 1 with fail
  refine wp_region_held_drew (S := fun wx => Below w.heap.size w wx ∧ wx.cell? ⟨a5, 0, none⟩ = some (.func (.func 71) #[] #[.pointer (some q), .pointer (some q2)]) ∧ wx.cell? ⟨a8, 0, none⟩ = some (.int .i64 1) ∧ wx.cell? ⟨a4, 0, none⟩ = some (.slice S m d) ∧ wx.cell? ⟨a10, 0, none⟩ = some (.int .i64 side)) (by kernel_rfl) ?_ (fun hHeld => ?_)
  · refine ⟨(Below.refl _ _).drew, ?_, ?_, ?_, ?_⟩ <;> assumption
  refine wpAnyH_take (i := 0) (oi := { dst := some 7, op := Go.Op.load 107 (Go.Operand.tmp 1), type := 107, pos := "search.go:35", after := #[], guard := none }) (v := ?_) rfl (by kernel_rfl) (by kernel_rfl) (by kernel_rfl) (fun _ _ _ h => h) (Or.inl ⟨by rfl, ?hy22⟩) (by assumption) ?rest22
  case hy22 =>
    intro w hSw
    try dsimp only at hSw
    go_simp
    try with_reducible rfl
  try simp only [Act.put, List.setIfInBounds_toArray, List.set_cons_zero, List.set_cons_succ]
  refine wpAnyH_take (i := 1) (oi := { dst := some 8, op := Go.Op.move (Go.Operand.tmp 0), type := 3, pos := "search.go:35", after := #[], guard := none }) (v := ?_) rfl (by kernel_rfl) (by kernel_rfl) (by kernel_rfl) (fun _ _ _ h => h) (Or.inl ⟨by rfl, ?hy23⟩) (by assumption) ?rest23
  case hy23 =>
    intro w hSw
    try dsimp only at hSw
    go_simp
    try with_reducible rfl
  try simp only [Act.put, List.setIfInBounds_toArray, List.set_cons_zero, List.set_cons_succ]
  refine wpAnyH_take (i := 3) (oi := { dst := some 10, op := Go.Op.load 3 (Go.Operand.tmp 2), type := 3, pos := "search.go:35", after := #[], guard := none }) (v := ?_) rfl (by kernel_rfl) (by kernel_rfl) (by kernel_rfl) (fun _ _ _ h => h) (Or.inl ⟨by rfl, ?hy24⟩) (by assumption) ?rest24
  case hy24 =>
    intro w hSw
    try dsimp only at hSw
    go_simp
    try with_reducible rfl
  try simp only [Act.put, List.setIfInBounds_toArray, List.set_cons_zero, List.set_cons_succ]
  refine wpAnyH_take (i := 6) (oi := { dst := some 13, op := Go.Op.load 23 (Go.Operand.tmp 3), type := 23, pos := "search.go:35", after := #[], guard := none }) (v := ?_) rfl (by kernel_rfl) (by kernel_rfl) (by kernel_rfl) (fun _ _ _ h => h) (Or.inl ⟨by rfl, ?hy25⟩) (by assumption) ?rest25
  case hy25 =>
    intro w hSw
    try dsimp only at hSw
    go_simp
    try with_reducible rfl
  try simp only [Act.put, List.setIfInBounds_toArray, List.set_cons_zero, List.set_cons_succ]
  refine wpAnyH_take (i := 7) (oi := { dst := some 14, op := Go.Op.load 3 (Go.Operand.tmp 4), type := 3, pos := "search.go:35", after := #[], guard := none }) (v := ?_) rfl (by kernel_rfl) (by kernel_rfl) (by kernel_rfl) (fun _ _ _ h => h) (Or.inl ⟨by rfl, ?hy26⟩) (by assumption) ?rest26
  case hy26 =>
    intro w hSw
    try dsimp only at hSw
    go_simp
    try with_reducible rfl
  try simp only [Act.put, List.setIfInBounds_toArray, List.set_cons_zero, List.set_cons_succ]
  refine wpAnyH_ready (rs := [2]) (by kernel_rfl) (by simp) ?_
  refine AllReadyH.cons rfl (fun K hK => ?_) AllReadyH.nil
  go_simp
  go_at_call 71
  refine Calls.mono (HG.out _ hHeld.1) ?_
  rintro e w1 ⟨blk, rfl, ⟨nm, A, nn, c, A', nn', c', x0, x1, x2, x3, x4, hA, hA'⟩, hb1⟩
  have hx := Lib.hid (hHeld.1.trans (hb1.mono (by simp)))
  have KW := Lib.hid (KE.out w1 nm A nn c A' nn' c' hx.out hA hA')
  have d0 : w1.cell? ⟨blk, 5, none⟩ = some (.string nm) := (by simpa using x0); have d1 : w1.cell? ⟨blk, 6, none⟩ = some (.slice A nn c) := (by simpa using x1); have d2 : w1.cell? ⟨blk, 7, none⟩ = some (.slice A' nn' c') := (by simpa using x2); have d3 : w1.cell? ⟨blk, 8, none⟩ = some (.int .i64 F.le) := (by simpa using x3); have d4 : w1.cell? ⟨blk, 9, none⟩ = some (.int .i64 F.mo) := (by simpa using x4); have z1 : w1.cell? ⟨blk, 5 + 1, none⟩ = some (.slice A nn c) := (by simpa using x1); have z2 : w1.cell? ⟨blk, 5 + 2, none⟩ = some (.slice A' nn' c') := (by simpa using x2); have z3 : w1.cell? ⟨blk, 5 + 3, none⟩ = some (.int .i64 F.le) := (by simpa using x3); have z4 : w1.cell? ⟨blk, 5 + 4, none⟩ = some (.int .i64 F.mo) := (by simpa using x4)
  clear x0 x1 x2 x3 x4
  try dsimp only
  refine hK.out _ _ (KP.out _ _ hb1 hHeld) (fun hHeld2 => ?_)
  clear hK K hHeld
  try simp only [Act.put, List.setIfInBounds_toArray, List.set_cons_zero, List.set_cons_succ]
  refine wpAnyH_take (i := 4) (oi := { dst := some 11, op := Go.Op.indexAddr 22 (Go.Operand.tmp 9) (Go.Operand.tmp 10), type := 0, pos := "search.go:35", after := #[{ on := 2, ground := Go.Ground.data }, { on := 3, ground := Go.Ground.data }], guard := none }) (v := ?_) rfl (by kernel_rfl) (by kernel_rfl) (by kernel_rfl) (fun _ _ _ h => h) (Or.inl ⟨by rfl, ?hy27⟩) (by assumption) ?rest27
  case hy27 =>
    intro w hSw
    try dsimp only at hSw
    go_simp
    try with_reducible rfl
  try simp only [Act.put, List.setIfInBounds_toArray, List.set_cons_zero, List.set_cons_succ]
  refine wpAnyH_ready (rs := [5]) (by kernel_rfl) (by simp) ?_
  refine AllReadyH.cons rfl (fun K hK => ?_) AllReadyH.nil
  go_simp
  refine hK.out _ _ hHeld2 (fun hHeld3 => ?_)
  clear hK K hHeld2
  try simp only [Act.put, List.setIfInBounds_toArray, List.set_cons_zero, List.set_cons_succ]
  refine wpAnyH_ready (rs := [8]) (by kernel_rfl) (by simp) ?_
  refine AllReadyH.cons rfl (fun K hK => ?_) AllReadyH.nil
  go_simp
  go_at_call 91
  refine Calls.mono KW.out ?_
  rintro e w2 ⟨rfl, hb2⟩
  try dsimp only
  refine hK.out _ _ (KP.out _ _ hb2 hHeld3) (fun hHeld4 => ?_)
  clear hK K hHeld3
  try simp only [Act.put, List.setIfInBounds_toArray, List.set_cons_zero, List.set_cons_succ]
  refine wpAnyH_take (i := 9) (oi := { dst := some 6, op := Go.Op.assign (Go.Operand.tmp 15), type := 4, pos := "search.go:35", after := #[{ on := 8, ground := Go.Ground.data }, { on := 8, ground := Go.Ground.chain }, { on := 0, ground := Go.Ground.phase }, { on := 1, ground := Go.Ground.phase }, { on := 2, ground := Go.Ground.phase }, { on := 3, ground := Go.Ground.phase }, { on := 4, ground := Go.Ground.phase }, { on := 5, ground := Go.Ground.phase }, { on := 6, ground := Go.Ground.phase }, { on := 7, ground := Go.Ground.phase }, { on := 8, ground := Go.Ground.phase }], guard := none }) (v := ?_) rfl (by kernel_rfl) (by kernel_rfl) (by kernel_rfl) (fun _ _ _ h => h) (Or.inl ⟨by rfl, ?hy28⟩) (by assumption) ?rest28
  case hy28 =>
    intro w hSw
    try dsimp only at hSw
    go_simp
    try with_reducible rfl
  try simp only [Act.put, List.setIfInBounds_toArray, List.set_cons_zero, List.set_cons_succ]
  refine wpAnyH_done (by kernel_rfl) ?_ _
  go_wp2
  go_ret
  exact ⟨rfl, hHeld4.1⟩
end Go.Proofs.Ytffmaoalnilkkaa
