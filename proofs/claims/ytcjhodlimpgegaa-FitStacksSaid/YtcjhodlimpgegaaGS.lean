/- Walks over the fits: stacks. -/
import Derived.Test.YtcjhodlimpgegaaGB
namespace Go.Proofs.Ytcjhodlimpgegaa
open Go.RowKit Go.Maps

def sumLo (l : List Md) : Int := sumL (fun x => x.s - x.lo) l
def sumHi (l : List Md) : Int := sumL (fun x => x.s + x.hi) l
def sumSq (l : List Md) : Int := sumL (fun x => (x.lo + x.hi) * (x.lo + x.hi)) l
theorem md_bd {x : Md} (h : MdOk x) : (0 ≤ x.s - x.lo ∧ x.s - x.lo ≤ 600000) ∧ (0 ≤ x.s + x.hi ∧ x.s + x.hi ≤ 600000) ∧ (0 ≤ x.lo + x.hi ∧ x.lo + x.hi ≤ 600000) ∧ (0 ≤ (x.lo + x.hi) * (x.lo + x.hi) ∧ (x.lo + x.hi) * (x.lo + x.hi) ≤ 360000000000) := by
  have := h.s0; have := h.s1; have := h.l0; have := h.l1; have := h.h0; have := h.h1
  have a0 : 0 ≤ x.lo + x.hi := by omega
  have a1 : x.lo + x.hi ≤ 600000 := by omega
  refine ⟨by omega, by omega, ⟨a0, a1⟩, Int.mul_nonneg a0 a0, ?_⟩
  have := Int.mul_le_mul a1 a1 a0 (by omega : (0 : Int) ≤ 600000)
  omega
theorem sums_bd {l : List Md} (h : ∀ x ∈ l, MdOk x) (hl : l.length ≤ 20) : (-12000000 ≤ sumLo l ∧ sumLo l ≤ 12000000) ∧ (-12000000 ≤ sumHi l ∧ sumHi l ≤ 12000000) ∧ (-7200000000000 ≤ sumSq l ∧ sumSq l ≤ 7200000000000) := by
  have b1 := sumL_bd (f := fun x : Md => x.s - x.lo) (B := 600000) (l := l) (fun x hx => by have := (md_bd (h x hx)).1; omega)
  have b2 := sumL_bd (f := fun x : Md => x.s + x.hi) (B := 600000) (l := l) (fun x hx => by have := (md_bd (h x hx)).2.1; omega)
  have b3 := sumL_bd (f := fun x : Md => (x.lo + x.hi) * (x.lo + x.hi)) (B := 360000000000) (l := l) (fun x hx => by have := (md_bd (h x hx)).2.2.2; omega)
  unfold sumLo sumHi sumSq
  refine ⟨by omega, by omega, by omega⟩
theorem fit1 {A : Option Addr} {n c : Nat} {l : List Md} (w : World) (e : TypeId) (hA : MdRow w A n l) (hn : n ≤ 1000000) {lb : Nat} (hlb : lb = w.heap.size) (lc : Nat) :
    Calls Try.prog 53 #[.int .i64 20, .func (.func 23) #[] #[], .slice (some ⟨lb, 0, none⟩) 1 lc] (w.alloc (.cells #[.slice A n c] e))
      fun e w' => e = .returned (.int .i64 (madesCode l)) ∧ Below w.heap.size w w' := by
  subst hlb
  have hb0 : Below w.heap.size w (w.alloc (.cells #[.slice A n c] e)) := (Below.refl _ _).alloc (Nat.le_refl _) _
  refine (checkListsM_any (q := 1) (A := fun _ => A) (n := fun _ => n) (c := fun _ => c) (X := fun _ => l) (by omega) _ ?_ ?_ ?_).mono fun e' w' ⟨he, hw⟩ => ⟨?_, hb0.trans (hw.mono (by simp))⟩
  · intro k hk
    rw [World.cell?_alloc_new]
    match k, hk with
    | 0, _ => rfl
  · intro k hk; exact hA.below hb0
  · intro k hk; exact hn
  · rw [he]; simp [catN]
/-- Two pairs of numbers in memory. -/
structure TwoB (w wr : World) (R B : Nat) (a b : Int) : Prop where
  r0 : wr.cell? ⟨R, 0, none⟩ = some (.int .i64 0)
  r1 : wr.cell? ⟨R, 1, none⟩ = some (.int .i64 0)
  g0 : wr.frozen? ⟨R, 0, none⟩ = false
  g1 : wr.frozen? ⟨R, 1, none⟩ = false
  c0 : wr.cell? ⟨B, 0, none⟩ = some (.int .i64 a)
  c1 : wr.cell? ⟨B, 1, none⟩ = some (.int .i64 b)
  f0 : wr.frozen? ⟨B, 0, none⟩ = false
  f1 : wr.frozen? ⟨B, 1, none⟩ = false
  bel : Below w.heap.size w wr
theorem TwoB.below {w wr w' : World} {R B : Nat} {a b : Int} (h : TwoB w wr R B a b) (hb : Below wr.heap.size wr w') : TwoB w w' R B a b := by
  obtain ⟨r0, r1, g0, g1, c0, c1, f0, f1, bel⟩ := h
  obtain ⟨k, kf⟩ := bcell hb
  have lR := World.block_lt_of_cell? wr _ r0
  have lB := World.block_lt_of_cell? wr _ c0
  exact ⟨(k _ _ lR).trans r0, (k _ _ lR).trans r1, (kf _ _ lR).trans g0, (kf _ _ lR).trans g1, (k _ _ lB).trans c0, (k _ _ lB).trans c1, (kf _ _ lB).trans f0, (kf _ _ lB).trans f1, bel.trans (hb.mono bel.size)⟩
theorem TwoB.set {w wr : World} {R B : Nat} {a b : Int} (h : TwoB w wr R B a b) (hB : w.heap.size ≤ B) (hne : B ≠ R) (a' b' : Int) : TwoB w ((wr.setCell ⟨B, 0, none⟩ (.int .i64 a')).setCell ⟨B, 1, none⟩ (.int .i64 b')) R B a' b' := by
  obtain ⟨r0, r1, g0, g1, c0, c1, f0, f1, bel⟩ := h
  have far : ∀ (wx : World) (b o j : Nat) (v : Value), B ≠ b → (wx.setCell ⟨B, j, none⟩ v).cell? ⟨b, o, none⟩ = wx.cell? ⟨b, o, none⟩ := fun wx b o j v hne => World.cell?_setCell_far wx ⟨B, j, none⟩ ⟨b, o, none⟩ v hne
  refine ⟨?_, ?_, ?_, ?_, ?_, ?_, ?_, ?_, ?_⟩
  · rw [far _ _ _ _ _ hne, far _ _ _ _ _ hne]; exact r0
  · rw [far _ _ _ _ _ hne, far _ _ _ _ _ hne]; exact r1
  · rw [World.frozen?_setCell, World.frozen?_setCell]; exact g0
  · rw [World.frozen?_setCell, World.frozen?_setCell]; exact g1
  · rw [World.cell?_setCell_other _ _ _ _ (by simp)]; exact World.cell?_setCell_same _ _ _ c0
  · exact World.cell?_setCell_same _ _ _ ((World.cell?_setCell_other _ _ _ _ (by simp)).trans c1)
  · rw [World.frozen?_setCell, World.frozen?_setCell]; exact f0
  · rw [World.frozen?_setCell, World.frozen?_setCell]; exact f1
  · exact (bel.setCell (p := ⟨B, 0, none⟩) hB _).setCell (p := ⟨B, 1, none⟩) hB _
set_option maxHeartbeats 2000000 in
theorem stack_bad {A : Option Addr} {n c : Nat} {l : List Md} {cd : Int} (hc : madesCode l = cd) (h0 : cd ≠ 0) (hn : n ≤ 1000000) (w : World) (hA : MdRow w A n l) :
    Calls Try.prog 32 #[.slice A n c] w fun e w' => e = .returned (.tuple #[.agg #[.int .i64 0, .int .i64 0], .int .i64 cd]) ∧ Below w.heap.size w w' := by
  have HMD := Lib.hid (fun wx (hb : Below w.heap.size w wx) => hA.below hb)
  have CL := Lib.hid (fun wx (hb : Below w.heap.size w wx) (e : TypeId) lb (hlb : lb = wx.heap.size) => fit1 (c := c) wx e (HMD.out wx hb) hn hlb 1)
  have hB1 : Hid (∀ o, Below w.heap.size w (w.alloc o)) := Lib.hid (fun o => (Below.refl _ _).alloc (Nat.le_refl _) _)
  rw [hc] at CL
  have hcb : (cd == 0) = false := beq_eq_false_iff_ne.2 h0
  have hcb' : (cd != 0) = true := bne_iff_ne.2 h0
  clear hA hc
  go_enter Try.func32, Try.ntmps32
  go_wp2_with (go_at_call 53; refine Calls.mono (CL.out _ (hB1.out _) _ _ (by simp)) ?_; rintro e w2 ⟨rfl, hb2⟩; obtain ⟨hc2, hf2⟩ := bcell hb2)
  refine bodyPost_ret (v := .tuple #[.agg #[.int .i64 0, .int .i64 0], .int .i64 cd]) (by simp [results, Try.results32, go_sem, hc2]) rfl ⟨rfl, ?_⟩
  repeat (refine Below.setCell ?_ (by simp) _)
  exact (hB1.out _).trans (hb2.mono (by simp))
set_option maxHeartbeats 4000000 in
set_option maxRecDepth 20000 in
theorem stack_ok {A : Option Addr} {n c : Nat} {l : List Md} (hc : madesCode l = 0) (w : World) (hA : MdRow w A n l) :
    Calls Try.prog 32 #[.slice A n c] w fun e w' => e = .returned (.tuple #[.agg #[.int .i64 (sumLo l), .int .i64 (sumHi l)], .int .i64 0]) ∧ Below w.heap.size w w' := by
  have HMD := Lib.hid (fun wx (hb : Below w.heap.size w wx) => hA.below hb)
  obtain ⟨h20, hok⟩ := madesCode_ok hc
  have hln := hA.1
  have hn : n ≤ 1000000 := by omega
  have CL := Lib.hid (fun wx (hb : Below w.heap.size w wx) (e : TypeId) lb (hlb : lb = wx.heap.size) => fit1 (c := c) wx e (HMD.out wx hb) hn hlb 1)
  have hB1 : Hid (∀ o, Below w.heap.size w (w.alloc o)) := Lib.hid (fun o => (Below.refl _ _).alloc (Nat.le_refl _) _)
  rw [hc] at CL
  have HOK := Lib.hid hok
  have HSB := Lib.hid (fun k => sums_bd (l := l.take k) (fun x hx => hok x (List.mem_of_mem_take hx)) (by rw [List.length_take]; omega))
  have HR := Lib.hid hA
  clear hA hc hok
  go_enter Try.func32, Try.ntmps32
  go_wp2_with (go_at_call 53; refine Calls.mono (CL.out _ (hB1.out _) _ _ (by simp)) ?_; rintro e w2 ⟨rfl, hb2⟩; obtain ⟨hc2, hf2⟩ := bcell hb2; have hs2 := hb2.size)
  have HT : TwoB w (w2.alloc (.cells #[.int .i64 0, .int .i64 0] 48)) w.heap.size w2.heap.size 0 0 := by
    have hz : w.heap.size < w2.heap.size := by simp at hs2; omega
    have kc := (bcell ((Below.refl w2.heap.size w2).alloc (Nat.le_refl _) (.cells #[.int .i64 0, .int .i64 0] 48)))
    refine ⟨?_, ?_, ?_, ?_, ?_, ?_, ?_, ?_, ((hB1.out _).trans (hb2.mono (by simp))).alloc (by omega) _⟩
    · rw [kc.1 _ _ hz, hc2 _ _ (by simp), World.cell?_alloc_new]; rfl
    · rw [kc.1 _ _ hz, hc2 _ _ (by simp), World.cell?_alloc_new]; rfl
    · rw [kc.2 _ _ hz, hf2 _ _ (by simp)]; simp [go_sem]
    · rw [kc.2 _ _ hz, hf2 _ _ (by simp)]; simp [go_sem]
    · rw [World.cell?_alloc_new]; rfl
    · rw [World.cell?_alloc_new]; rfl
    · simp [go_sem]
    · simp [go_sem]
  have hz : w.heap.size < w2.heap.size := by simp at hs2; omega
  generalize hR : w2.heap.size = B at HT hz ⊢
  generalize (w2.alloc (.cells #[.int .i64 0, .int .i64 0] 48)) = W0 at HT ⊢
  clear hc2 hf2 hs2 hb2 hR CL
  go_loopw [17] (fun i wr => ∃ k : Nat, k ≤ n ∧ i = .int .i64 k ∧ TwoB w wr w.heap.size B (sumLo (l.take k)) (sumHi (l.take k))) (fun i _ => n - (intOf i).toNat)
  case atStart => exact ⟨0, Nat.zero_le _, rfl, HT⟩
  case round =>
    obtain ⟨k, hk, rfl, HB⟩ := hrel
    have HBH := Lib.hid HB
    by_cases hlt : k < n
    · have hkl : k < l.length := by omega
      obtain ⟨blk, off, rfl, hblk, hx⟩ := HR.out.2 (by omega)
      have hxx := (hx k hkl).below HB.bel hblk
      have hok := md_bd (HOK.out l[k] (List.getElem_mem hkl))
      have H1 := Lib.hid (sumL_take_succ (fun x : Md => x.s - x.lo) l hkl)
      have H2 := Lib.hid (sumL_take_succ (fun x : Md => x.s + x.hi) l hkl)
      have hbd := HSB.out k
      clear hx
      obtain ⟨x, hxe⟩ : ∃ x, l[k] = x := ⟨_, rfl⟩
      rw [hxe] at hxx H1 H2 hok
      clear hxe
      obtain ⟨s0, r0', m0, g0', l0, h0⟩ := x
      obtain ⟨x0, x1, x2, x3, x4, x5⟩ := hxx
      simp only at x0 x1 x2 x3 x4 x5 H1 H2 hok
      change Hid (sumLo (l.take (k + 1)) = sumLo (l.take k) + (s0 - l0)) at H1
      change Hid (sumHi (l.take (k + 1)) = sumHi (l.take k) + (s0 + h0)) at H2
      obtain ⟨a, ha⟩ : ∃ a, sumLo (l.take k) = a := ⟨_, rfl⟩
      obtain ⟨b, hb⟩ : ∃ b, sumHi (l.take k) = b := ⟨_, rfl⟩
      rw [ha] at H1 hbd HB HBH
      rw [hb] at H2 hbd HB HBH
      clear ha hb
      obtain ⟨⟨k1, k2⟩, ⟨k3, k4⟩, -, -⟩ := hok
      obtain ⟨⟨k5, k6⟩, ⟨k7, k8⟩, -⟩ := hbd
      have hw1 : wrap64 (s0 - l0) = s0 - l0 := w64 (by omega)
      have hw2 : wrap64 (a + (s0 - l0)) = a + (s0 - l0) := w64 (by omega)
      have hw3 : wrap64 (s0 + h0) = s0 + h0 := w64 (by omega)
      have hw4 : wrap64 (b + (s0 + h0)) = b + (s0 + h0) := w64 (by omega)
      have hlB := World.block_lt_of_cell? wr _ HB.c0
      simp only at hlB
      have HN : TwoB w (wr.alloc (.cells #[.int .i64 s0, .int .i64 r0', .int .i64 m0, .int .i64 g0', .int .i64 l0, .int .i64 h0] 44)) w.heap.size B a b := HB.below ((Below.refl _ _).alloc (Nat.le_refl _) _)
      have HNH := Lib.hid (HN.set (by omega) (by omega) (a + (s0 - l0)) (b + (s0 + h0)))
      have e0 : (wr.alloc (.cells #[.int .i64 s0, .int .i64 r0', .int .i64 m0, .int .i64 g0', .int .i64 l0, .int .i64 h0] 44)).cell? ⟨wr.heap.size, 0, none⟩ = some (.int .i64 s0) := by rw [World.cell?_alloc_new]; rfl
      have e4 : (wr.alloc (.cells #[.int .i64 s0, .int .i64 r0', .int .i64 m0, .int .i64 g0', .int .i64 l0, .int .i64 h0] 44)).cell? ⟨wr.heap.size, 4, none⟩ = some (.int .i64 l0) := by rw [World.cell?_alloc_new]; rfl
      have e5 : (wr.alloc (.cells #[.int .i64 s0, .int .i64 r0', .int .i64 m0, .int .i64 g0', .int .i64 l0, .int .i64 h0] 44)).cell? ⟨wr.heap.size, 5, none⟩ = some (.int .i64 h0) := by rw [World.cell?_alloc_new]; rfl
      have hne : B ≠ wr.heap.size := by omega
      clear HB
      go_upto_region 8 with fail
      generalize (wr.alloc (.cells #[.int .i64 s0, .int .i64 r0', .int .i64 m0, .int .i64 g0', .int .i64 l0, .int .i64 h0] 44)) = W1 at HN HNH e0 e4 e5 ⊢
      obtain ⟨r0, r1, g0, g1, c0, c1, f0, f1, bel⟩ := HN
      have n1 : (W1.setCell ⟨B, 0, none⟩ (.int .i64 (a + (s0 - l0)))).cell? ⟨B, 1, none⟩ = some (.int .i64 b) := (World.cell?_setCell_other _ _ _ _ (by simp)).trans c1
      have n2 : (W1.setCell ⟨B, 0, none⟩ (.int .i64 (a + (s0 - l0)))).cell? ⟨wr.heap.size, 0, none⟩ = some (.int .i64 s0) := (World.cell?_setCell_far W1 ⟨B, 0, none⟩ ⟨wr.heap.size, 0, none⟩ _ hne).trans e0
      have n3 : (W1.setCell ⟨B, 0, none⟩ (.int .i64 (a + (s0 - l0)))).cell? ⟨wr.heap.size, 5, none⟩ = some (.int .i64 h0) := (World.cell?_setCell_far W1 ⟨B, 0, none⟩ ⟨wr.heap.size, 5, none⟩ _ hne).trans e5
      have n4 : (W1.setCell ⟨B, 0, none⟩ (.int .i64 (a + (s0 - l0)))).frozen? ⟨B, 1, none⟩ = false := by rw [World.frozen?_setCell]; exact f1
      clear bel
      go_wp2
      go_roundw
      case rel => exact ⟨k + 1, by omega, by go_num, by rw [H1.out, H2.out]; exact HNH.out⟩
      case measure => simp [intOf]; omega
    · have hk' : k = n := by omega
      have hfull : l.take k = l := List.take_of_length_le (by omega)
      rw [hfull] at HB HBH
      obtain ⟨r0, r1, g0, g1, c0, c1, f0, f1, bel⟩ := HB
      subst hk'
      go_wp2
      refine bodyPost_ret (v := .tuple #[.agg #[.int .i64 (sumLo l), .int .i64 (sumHi l)], .int .i64 0]) (by simp [results, Try.results32, go_sem, r0, r1]) rfl ⟨rfl, ?_⟩
      repeat (refine Below.setCell ?_ (by simp) _)
      exact bel
end Go.Proofs.Ytcjhodlimpgegaa
