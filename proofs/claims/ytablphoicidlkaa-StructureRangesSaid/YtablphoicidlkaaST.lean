/- Walks over frames: bays. -/
import Derived.Test.YtablphoicidlkaaSS
namespace Go.Proofs.Ytablphoicidlkaa
open Go.RowKit

structure By where
  h : Int
  w : Int
  t : Int
  g : Int
  js : List Int
def byV (x : By) (A : Option Addr) (n c : Nat) : Value := .agg #[.int .i64 x.h, .int .i64 x.w, .int .i64 x.t, .int .i64 x.g, .slice A n c]
def BayAt (w : World) (blk off : Nat) (x : By) : Prop := (w.cell? ⟨blk, off, none⟩ = some (.int .i64 x.h) ∧ w.cell? ⟨blk, off + 1, none⟩ = some (.int .i64 x.w) ∧ w.cell? ⟨blk, off + 2, none⟩ = some (.int .i64 x.t) ∧ w.cell? ⟨blk, off + 3, none⟩ = some (.int .i64 x.g)) ∧ ∃ (A : Option Addr) (n c : Nat), w.cell? ⟨blk, off + 4, none⟩ = some (.slice A n c) ∧ IntRow w A n x.js ∧ n ≤ maxLen
theorem BayAt.below {w w' : World} {blk off : Nat} {x : By} (h : BayAt w blk off x) (hb : Below w.heap.size w w') (hlt : blk < w.heap.size) : BayAt w' blk off x := by
  obtain ⟨⟨h0, h1, h2, h3⟩, A, n, c, h4, h5, h6⟩ := h
  have k := (bcell hb).1
  exact ⟨⟨(k _ _ hlt).trans h0, (k _ _ hlt).trans h1, (k _ _ hlt).trans h2, (k _ _ hlt).trans h3⟩, A, n, c, (k _ _ hlt).trans h4, h5.below hb, h6⟩
abbrev BayRow (w : World) (A : Option Addr) (n : Nat) (l : List By) : Prop := RowOf (BayAt w) 5 A n l w.heap.size
theorem BayRow.below {w w' : World} {A : Option Addr} {n : Nat} {l : List By} (h : BayRow w A n l) (hb : Below w.heap.size w w') : BayRow w' A n l :=
  RowOf.keep h hb.size (fun _ _ _ hlt hx => BayAt.below hx hb hlt)
def bayE (x : By) : Int := bif firstE [rngE 1 3000 [x.h, x.w], rngE 0 100 [x.t], rngE 0 2000 [x.g]] == 0 then (bif (x.t == 0) != (x.g == 0) then 3 else bif decide (8 < x.js.length) then 8 else rngE 0 1000000 x.js) else 2
structure BayOk (x : By) : Prop where
  h0 : 1 ≤ x.h
  h1 : x.h ≤ 3000
  w0 : 1 ≤ x.w
  w1 : x.w ≤ 3000
  t0 : 0 ≤ x.t
  t1 : x.t ≤ 100
  g0 : 0 ≤ x.g
  g1 : x.g ≤ 2000
  tg : x.t = 0 ↔ x.g = 0
  jl : x.js.length ≤ 8
  jj : ∀ j ∈ x.js, 0 ≤ j ∧ j ≤ 1000000
theorem bay_tg {t g : Int} : ((t == 0) != (g == 0)) = false ↔ (t = 0 ↔ g = 0) := by
  by_cases a1 : t = 0 <;> by_cases a2 : g = 0 <;> simp [a1, a2]
  rw [show (t == 0) = false from by simpa using a1, show (g == 0) = false from by simpa using a2]
theorem bayE_ok {x : By} : bayE x = 0 ↔ BayOk x := by
  unfold bayE
  constructor
  · intro h
    by_cases h0 : firstE [rngE 1 3000 [x.h, x.w], rngE 0 100 [x.t], rngE 0 2000 [x.g]] = 0
    · rw [h0] at h
      simp only [beq_self_eq_true, cond_true] at h
      rw [firstE_ok] at h0
      simp only [List.mem_cons, List.not_mem_nil, or_false, forall_eq_or_imp, forall_eq, rngE_ok] at h0
      obtain ⟨⟨⟨a, b⟩, c, d⟩, ⟨e, f⟩, i, j⟩ := h0
      cases h1 : (x.t == 0) != (x.g == 0)
      · rw [h1, cond_false] at h
        cases h2 : decide (8 < x.js.length)
        · rw [h2, cond_false, rngE_ok] at h
          have := of_decide_eq_false h2
          exact ⟨a, b, c, d, e, f, i, j, bay_tg.1 h1, by omega, h⟩
        · rw [h2] at h; cases h
      · rw [h1] at h; cases h
    · have e : (firstE [rngE 1 3000 [x.h, x.w], rngE 0 100 [x.t], rngE 0 2000 [x.g]] == 0) = false := by simpa using h0
      rw [e] at h; cases h
  · rintro ⟨a, b, c, d, e, f, i, j, k, l, m⟩
    have h0 : firstE [rngE 1 3000 [x.h, x.w], rngE 0 100 [x.t], rngE 0 2000 [x.g]] = 0 := by
      rw [firstE_ok]
      simp only [List.mem_cons, List.not_mem_nil, or_false, forall_eq_or_imp, forall_eq, rngE_ok]
      exact ⟨⟨⟨a, b⟩, c, d⟩, ⟨e, f⟩, i, j⟩
    have h1 : ((x.t == 0) != (x.g == 0)) = false := bay_tg.2 k
    have h2 : decide (8 < x.js.length) = false := decide_eq_false (by omega)
    rw [h0, h1, h2]
    simp only [beq_self_eq_true, cond_true, cond_false]
    exact rngE_ok.2 m
set_option maxHeartbeats 8000000 in
set_option maxRecDepth 20000 in
theorem checkBay_any {x : By} {A : Option Addr} {n c : Nat} (w : World) (hr : IntRow w A n x.js) (hn : n ≤ maxLen) :
    Calls Try.prog 128 #[byV x A n c] w fun e w' => e = .returned (.int .i64 (bayE x)) ∧ Below w.heap.size w w' := by
  have HJ := Lib.hid (fun wx (hx : Below w.heap.size w wx) => checkRange_any (lo := 0) (hi := 1000000) (c := c) wx (hr.below hx) hn)
  have hln := hr.1
  clear hr
  unfold maxLen at hn
  obtain ⟨h, ww, t, g, js⟩ := x
  have HE : Hid (bayE ⟨h, ww, t, g, js⟩ = bif firstE [rngE 1 3000 [h, ww], rngE 0 100 [t], rngE 0 2000 [g]] == 0 then (bif (t == 0) != (g == 0) then 3 else bif decide (8 < n) then 8 else rngE 0 1000000 js) else 2) := Lib.hid (by unfold bayE; simp only; rw [← hln])
  generalize bayE ⟨h, ww, t, g, js⟩ = ee at *
  unfold byV
  simp only at HJ ⊢
  have H2 : firstE [rngE 1 3000 [h, ww], rngE 0 100 [t], rngE 0 2000 [g]] = 0 ∨ firstE [rngE 1 3000 [h, ww], rngE 0 100 [t], rngE 0 2000 [g]] = 2 := firstE_two fun x hx => by
    simp only [List.mem_cons, List.not_mem_nil, or_false] at hx
    rcases hx with rfl | rfl | rfl <;> exact rngE_two
  have C1 := fun wx b (h : IntRow wx (some ⟨b, 0, none⟩) 2 [h, ww]) => Lib.hid (checkRange_any (c := 2) (lo := 1) (hi := 3000) wx h (by decide))
  have C2 := fun wx b (h : IntRow wx (some ⟨b, 0, none⟩) 1 [t]) => Lib.hid (checkRange_any (c := 1) (lo := 0) (hi := 100) wx h (by decide))
  have C3 := fun wx b (h : IntRow wx (some ⟨b, 0, none⟩) 1 [g]) => Lib.hid (checkRange_any (c := 1) (lo := 0) (hi := 2000) wx h (by decide))
  clear hln
  generalize rngE 1 3000 [h, ww] = e1 at *
  generalize rngE 0 100 [t] = e2 at *
  generalize rngE 0 2000 [g] = e3 at *
  generalize rngE 0 1000000 js = e5 at *
  have C4 := fun wx b (h : IntRow wx (some ⟨b, 0, none⟩) 3 [e1, e2, e3]) => Lib.hid (firstError_any (c := 3) wx h (by decide))
  generalize firstE [e1, e2, e3] = e4 at *
  have H3 := Lib.hid H2
  clear H2
  go_enter Try.func128, Try.ntmps128
  go_wp2
  obtain ⟨w0, hw0⟩ : ∃ w0, (w.alloc (.cells #[.int .i64 h, .int .i64 ww, .int .i64 t, .int .i64 g, .slice A n c] 113)) = w0 := ⟨_, rfl⟩
  have HB0 : Hid (Below w.heap.size w w0) := Lib.hid (by rw [← hw0]; exact ((Below.refl _ _).alloc (Nat.le_refl _) _))
  have HC := Lib.hid (fun wx (hb : Below w0.heap.size w0 wx) => (show wx.cell? ⟨w.heap.size, 0, none⟩ = some (.int .i64 h) ∧ wx.cell? ⟨w.heap.size, 1, none⟩ = some (.int .i64 ww) ∧ wx.cell? ⟨w.heap.size, 2, none⟩ = some (.int .i64 t) ∧ wx.cell? ⟨w.heap.size, 3, none⟩ = some (.int .i64 g) ∧ wx.cell? ⟨w.heap.size, 4, none⟩ = some (.slice A n c) from by
    subst hw0
    obtain ⟨k, kf⟩ := bcell hb
    exact ⟨(k _ _ (by simp; try omega)).trans (by simp [go_sem]), (k _ _ (by simp; try omega)).trans (by simp [go_sem]), (k _ _ (by simp; try omega)).trans (by simp [go_sem]), (k _ _ (by simp; try omega)).trans (by simp [go_sem]), (k _ _ (by simp; try omega)).trans (by simp [go_sem])⟩))
  rw [hw0]
  clear hw0
  refine wp_region_rk [4, 5, 6, 7, 8, 9, 10, 11, 12, 13, 14, 15, 16, 17, 18, 19, 3] [rEq (.pointer (some ⟨w.heap.size, 0, none⟩)), rEq (.int .i64 h), rEq (.pointer (some ⟨w.heap.size, 1, none⟩)), rEq (.int .i64 ww), rRow [h, ww] 2, rEq (.int .i64 e1), rEq (.pointer (some ⟨w.heap.size, 2, none⟩)), rEq (.int .i64 t), rRow [t] 1, rEq (.int .i64 e2), rEq (.pointer (some ⟨w.heap.size, 3, none⟩)), rEq (.int .i64 g), rRow [g] 1, rEq (.int .i64 e3), rRow [e1, e2, e3] 3, rEq (.int .i64 e4), rEq (.int .i64 e4)] (by kernel_rfl) (by kernel_rfl) (by decide) rfl ⟨?_, ?_, ?_, ?_, ?_, ?_, ?_, ?_, ?_, ?_, ?_, ?_, ?_, ?_, ?_, ?_, ?_, trivial⟩ ?_
  · intro ac wx hf hb hd -- 0
    have f1 : ac.tmps[1]?.getD undef = .pointer (some ⟨w.heap.size, 0, none⟩) := by rw [← Array.getD_eq_getD_getElem?]; exact hf.same 1 (by decide)
    exact rstep_eq (by simp [execOp, Act.eval, f1, go_sem]) rfl
  · intro ac wx hf hb hd -- 1
    have d0 : ac.tmps[4]?.getD undef = .pointer (some ⟨w.heap.size, 0, none⟩) := by rw [← Array.getD_eq_getD_getElem?]; exact hd 0 (by decide)
    obtain ⟨c0, c1, c2, c3, c4⟩ := HC.out wx hb
    exact rstep_eq (by simp [execOp, Act.eval, d0, c0, go_sem]) rfl
  · intro ac wx hf hb hd -- 2
    have f1 : ac.tmps[1]?.getD undef = .pointer (some ⟨w.heap.size, 0, none⟩) := by rw [← Array.getD_eq_getD_getElem?]; exact hf.same 1 (by decide)
    exact rstep_eq (by simp [execOp, Act.eval, f1, go_sem]) rfl
  · intro ac wx hf hb hd -- 3
    have d2 : ac.tmps[6]?.getD undef = .pointer (some ⟨w.heap.size, 1, none⟩) := by rw [← Array.getD_eq_getD_getElem?]; exact hd 2 (by decide)
    obtain ⟨c0, c1, c2, c3, c4⟩ := HC.out wx hb
    exact rstep_eq (by simp [execOp, Act.eval, d2, c1, go_sem]) rfl
  · intro ac wx hf hb hd -- 4
    have d1 : ac.tmps[5]?.getD undef = .int .i64 h := by rw [← Array.getD_eq_getD_getElem?]; exact hd 1 (by decide)
    have d3 : ac.tmps[7]?.getD undef = .int .i64 ww := by rw [← Array.getD_eq_getD_getElem?]; exact hd 3 (by decide)
    exact rstep_row (t := 3) (zs := [h, ww]) rfl rfl (by simp [execOp, Act.eval, d1, d3, go_sem]) rfl
  · intro ac wx hf hb hd -- 5
    obtain ⟨b4, d4, r4⟩ : ∃ b, ac.tmps[8]?.getD undef = .slice (some ⟨b, 0, none⟩) 2 2 ∧ IntRow wx (some ⟨b, 0, none⟩) 2 [h, ww] := by rw [← Array.getD_eq_getD_getElem?]; exact hd 4 (by decide)
    refine rstep_call (f := 96) (args := #[.int .i64 1, .int .i64 3000, .slice (some ⟨b4, 0, none⟩) 2 2]) (by simp [Act.eval, d4, go_sem]) ?_ rfl
    exact (C1 wx b4 r4).out.mono fun e w' ⟨he, hw⟩ => ⟨he, hw ▸ Below.refl _ _⟩
  · intro ac wx hf hb hd -- 6
    have f1 : ac.tmps[1]?.getD undef = .pointer (some ⟨w.heap.size, 0, none⟩) := by rw [← Array.getD_eq_getD_getElem?]; exact hf.same 1 (by decide)
    exact rstep_eq (by simp [execOp, Act.eval, f1, go_sem]) rfl
  · intro ac wx hf hb hd -- 7
    have d6 : ac.tmps[10]?.getD undef = .pointer (some ⟨w.heap.size, 2, none⟩) := by rw [← Array.getD_eq_getD_getElem?]; exact hd 6 (by decide)
    obtain ⟨c0, c1, c2, c3, c4⟩ := HC.out wx hb
    exact rstep_eq (by simp [execOp, Act.eval, d6, c2, go_sem]) rfl
  · intro ac wx hf hb hd -- 8
    have d7 : ac.tmps[11]?.getD undef = .int .i64 t := by rw [← Array.getD_eq_getD_getElem?]; exact hd 7 (by decide)
    exact rstep_row (t := 3) (zs := [t]) rfl rfl (by simp [execOp, Act.eval, d7, go_sem]) rfl
  · intro ac wx hf hb hd -- 9
    obtain ⟨b8, d8, r8⟩ : ∃ b, ac.tmps[12]?.getD undef = .slice (some ⟨b, 0, none⟩) 1 1 ∧ IntRow wx (some ⟨b, 0, none⟩) 1 [t] := by rw [← Array.getD_eq_getD_getElem?]; exact hd 8 (by decide)
    refine rstep_call (f := 96) (args := #[.int .i64 0, .int .i64 100, .slice (some ⟨b8, 0, none⟩) 1 1]) (by simp [Act.eval, d8, go_sem]) ?_ rfl
    exact (C2 wx b8 r8).out.mono fun e w' ⟨he, hw⟩ => ⟨he, hw ▸ Below.refl _ _⟩
  · intro ac wx hf hb hd -- 10
    have f1 : ac.tmps[1]?.getD undef = .pointer (some ⟨w.heap.size, 0, none⟩) := by rw [← Array.getD_eq_getD_getElem?]; exact hf.same 1 (by decide)
    exact rstep_eq (by simp [execOp, Act.eval, f1, go_sem]) rfl
  · intro ac wx hf hb hd -- 11
    have d10 : ac.tmps[14]?.getD undef = .pointer (some ⟨w.heap.size, 3, none⟩) := by rw [← Array.getD_eq_getD_getElem?]; exact hd 10 (by decide)
    obtain ⟨c0, c1, c2, c3, c4⟩ := HC.out wx hb
    exact rstep_eq (by simp [execOp, Act.eval, d10, c3, go_sem]) rfl
  · intro ac wx hf hb hd -- 12
    have d11 : ac.tmps[15]?.getD undef = .int .i64 g := by rw [← Array.getD_eq_getD_getElem?]; exact hd 11 (by decide)
    exact rstep_row (t := 3) (zs := [g]) rfl rfl (by simp [execOp, Act.eval, d11, go_sem]) rfl
  · intro ac wx hf hb hd -- 13
    obtain ⟨b12, d12, r12⟩ : ∃ b, ac.tmps[16]?.getD undef = .slice (some ⟨b, 0, none⟩) 1 1 ∧ IntRow wx (some ⟨b, 0, none⟩) 1 [g] := by rw [← Array.getD_eq_getD_getElem?]; exact hd 12 (by decide)
    refine rstep_call (f := 96) (args := #[.int .i64 0, .int .i64 2000, .slice (some ⟨b12, 0, none⟩) 1 1]) (by simp [Act.eval, d12, go_sem]) ?_ rfl
    exact (C3 wx b12 r12).out.mono fun e w' ⟨he, hw⟩ => ⟨he, hw ▸ Below.refl _ _⟩
  · intro ac wx hf hb hd -- 14
    have d5 : ac.tmps[9]?.getD undef = .int .i64 e1 := by rw [← Array.getD_eq_getD_getElem?]; exact hd 5 (by decide)
    have d9 : ac.tmps[13]?.getD undef = .int .i64 e2 := by rw [← Array.getD_eq_getD_getElem?]; exact hd 9 (by decide)
    have d13 : ac.tmps[17]?.getD undef = .int .i64 e3 := by rw [← Array.getD_eq_getD_getElem?]; exact hd 13 (by decide)
    exact rstep_row (t := 31) (zs := [e1, e2, e3]) rfl rfl (by simp [execOp, Act.eval, d5, d9, d13, go_sem]) rfl
  · intro ac wx hf hb hd -- 15
    obtain ⟨b14, d14, r14⟩ : ∃ b, ac.tmps[18]?.getD undef = .slice (some ⟨b, 0, none⟩) 3 3 ∧ IntRow wx (some ⟨b, 0, none⟩) 3 [e1, e2, e3] := by rw [← Array.getD_eq_getD_getElem?]; exact hd 14 (by decide)
    refine rstep_call (f := 95) (args := #[.slice (some ⟨b14, 0, none⟩) 3 3]) (by simp [Act.eval, d14, go_sem]) ?_ rfl
    exact (C4 wx b14 r14).out.mono fun e w' ⟨he, hw⟩ => ⟨he, hw ▸ Below.refl _ _⟩
  · intro ac wx hf hb hd -- 16
    have d15 : ac.tmps[19]?.getD undef = .int .i64 e4 := by rw [← Array.getD_eq_getD_getElem?]; exact hd 15 (by decide)
    exact rstep_eq (by simp [execOp, Act.eval, d15, go_sem]) rfl
  rintro ⟨⟨ll⟩, df⟩ wx hf hb hall
  have hdf : df = [] := hf.defers
  subst hdf
  have hsz : ll.length = 39 := hf.size
  obtain ⟨x0, ll0, rfl, hsz0⟩ := cons_of hsz
  obtain ⟨x1, ll1, rfl, hsz1⟩ := cons_of hsz0
  obtain ⟨x2, ll2, rfl, hsz2⟩ := cons_of hsz1
  obtain ⟨x3, ll3, rfl, hsz3⟩ := cons_of hsz2
  obtain ⟨x4, ll4, rfl, hsz4⟩ := cons_of hsz3
  obtain ⟨x5, ll5, rfl, hsz5⟩ := cons_of hsz4
  obtain ⟨x6, ll6, rfl, hsz6⟩ := cons_of hsz5
  obtain ⟨x7, ll7, rfl, hsz7⟩ := cons_of hsz6
  obtain ⟨x8, ll8, rfl, hsz8⟩ := cons_of hsz7
  obtain ⟨x9, ll9, rfl, hsz9⟩ := cons_of hsz8
  obtain ⟨x10, ll10, rfl, hsz10⟩ := cons_of hsz9
  obtain ⟨x11, ll11, rfl, hsz11⟩ := cons_of hsz10
  obtain ⟨x12, ll12, rfl, hsz12⟩ := cons_of hsz11
  obtain ⟨x13, ll13, rfl, hsz13⟩ := cons_of hsz12
  obtain ⟨x14, ll14, rfl, hsz14⟩ := cons_of hsz13
  obtain ⟨x15, ll15, rfl, hsz15⟩ := cons_of hsz14
  obtain ⟨x16, ll16, rfl, hsz16⟩ := cons_of hsz15
  obtain ⟨x17, ll17, rfl, hsz17⟩ := cons_of hsz16
  obtain ⟨x18, ll18, rfl, hsz18⟩ := cons_of hsz17
  obtain ⟨x19, ll19, rfl, hsz19⟩ := cons_of hsz18
  obtain ⟨x20, ll20, rfl, hsz20⟩ := cons_of hsz19
  obtain ⟨x21, ll21, rfl, hsz21⟩ := cons_of hsz20
  obtain ⟨x22, ll22, rfl, hsz22⟩ := cons_of hsz21
  obtain ⟨x23, ll23, rfl, hsz23⟩ := cons_of hsz22
  obtain ⟨x24, ll24, rfl, hsz24⟩ := cons_of hsz23
  obtain ⟨x25, ll25, rfl, hsz25⟩ := cons_of hsz24
  obtain ⟨x26, ll26, rfl, hsz26⟩ := cons_of hsz25
  obtain ⟨x27, ll27, rfl, hsz27⟩ := cons_of hsz26
  obtain ⟨x28, ll28, rfl, hsz28⟩ := cons_of hsz27
  obtain ⟨x29, ll29, rfl, hsz29⟩ := cons_of hsz28
  obtain ⟨x30, ll30, rfl, hsz30⟩ := cons_of hsz29
  obtain ⟨x31, ll31, rfl, hsz31⟩ := cons_of hsz30
  obtain ⟨x32, ll32, rfl, hsz32⟩ := cons_of hsz31
  obtain ⟨x33, ll33, rfl, hsz33⟩ := cons_of hsz32
  obtain ⟨x34, ll34, rfl, hsz34⟩ := cons_of hsz33
  obtain ⟨x35, ll35, rfl, hsz35⟩ := cons_of hsz34
  obtain ⟨x36, ll36, rfl, hsz36⟩ := cons_of hsz35
  obtain ⟨x37, ll37, rfl, hsz37⟩ := cons_of hsz36
  obtain ⟨x38, ll38, rfl, hsz38⟩ := cons_of hsz37
  obtain rfl := List.eq_nil_of_length_eq_zero hsz38
  obtain rfl : x1 = .pointer (some ⟨w.heap.size, 0, none⟩) := hf.same 1 (by decide)
  obtain rfl : x3 = .int .i64 e4 := hall 16 3 rfl
  obtain rfl : x4 = .pointer (some ⟨w.heap.size, 0, none⟩) := hall 0 4 rfl
  obtain rfl : x5 = .int .i64 h := hall 1 5 rfl
  obtain rfl : x6 = .pointer (some ⟨w.heap.size, 1, none⟩) := hall 2 6 rfl
  obtain rfl : x7 = .int .i64 ww := hall 3 7 rfl
  obtain rfl : x9 = .int .i64 e1 := hall 5 9 rfl
  obtain rfl : x10 = .pointer (some ⟨w.heap.size, 2, none⟩) := hall 6 10 rfl
  obtain rfl : x11 = .int .i64 t := hall 7 11 rfl
  obtain rfl : x13 = .int .i64 e2 := hall 9 13 rfl
  obtain rfl : x14 = .pointer (some ⟨w.heap.size, 3, none⟩) := hall 10 14 rfl
  obtain rfl : x15 = .int .i64 g := hall 11 15 rfl
  obtain rfl : x17 = .int .i64 e3 := hall 13 17 rfl
  obtain rfl : x19 = .int .i64 e4 := hall 15 19 rfl
  clear hall hf
  obtain ⟨c0, c1, c2, c3, c4⟩ := HC.out wx hb
  have HBX := Lib.hid (HB0.out.trans (hb.mono HB0.out.size))
  have JJ := Lib.hid (HJ.out wx HBX.out)
  clear hb HC C1 C2 C3 C4 HJ
  rcases H3.out with rfl | rfl
  · by_cases ht : t = 0
    · subst ht
      by_cases hg : g = 0
      · subst hg
        by_cases h8 : 8 < n
        · have d8 : decide (8 < n) = true := decide_eq_true h8
          have d9 : decide ((8 : Int) < (n : Int)) = true := decide_eq_true (by omega)
          have D8 := Lib.hid d8
          go_wp2
          go_ret
          exact ⟨ret_int (by rw [HE.out, D8.out]; simp), HBX.out⟩
        · have d8 : decide (8 < n) = false := decide_eq_false h8
          have d9 : decide ((8 : Int) < (n : Int)) = false := decide_eq_false (by omega)
          have D8 := Lib.hid d8
          go_wp2_with (go_at_call 96; (refine Calls.mono JJ.out ?_); rintro e w2 ⟨rfl, rfl⟩)
          go_ret
          exact ⟨ret_int (by rw [HE.out, D8.out]; simp), HBX.out⟩
      · have g1 : (g == 0) = false := by simpa using hg
        have HG := Lib.hid g1
        go_wp2
        go_ret
        exact ⟨ret_int (by rw [HE.out]; simp [HG.out]), HBX.out⟩
    · have t1 : (t == 0) = false := by simpa using ht
      by_cases hg : g = 0
      · subst hg
        have HG := Lib.hid t1
        go_wp2
        go_ret
        exact ⟨ret_int (by rw [HE.out]; simp [HG.out]), HBX.out⟩
      · have g1 : (g == 0) = false := by simpa using hg
        have HG := Lib.hid (And.intro t1 g1)
        by_cases h8 : 8 < n
        · have d8 : decide (8 < n) = true := decide_eq_true h8
          have d9 : decide ((8 : Int) < (n : Int)) = true := decide_eq_true (by omega)
          have D8 := Lib.hid d8
          go_wp2
          go_ret
          exact ⟨ret_int (by rw [HE.out, D8.out]; simp [HG.out]), HBX.out⟩
        · have d8 : decide (8 < n) = false := decide_eq_false h8
          have d9 : decide ((8 : Int) < (n : Int)) = false := decide_eq_false (by omega)
          have D8 := Lib.hid d8
          go_wp2_with (go_at_call 96; (refine Calls.mono JJ.out ?_); rintro e w2 ⟨rfl, rfl⟩)
          go_ret
          exact ⟨ret_int (by rw [HE.out, D8.out]; simp [HG.out]), HBX.out⟩
  · go_wp2
    go_ret
    exact ⟨ret_int (by rw [HE.out]; rfl), HBX.out⟩
end Go.Proofs.Ytablphoicidlkaa
