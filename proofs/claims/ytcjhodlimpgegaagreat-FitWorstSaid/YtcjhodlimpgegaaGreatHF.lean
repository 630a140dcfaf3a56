/- Walks over the fits: the worst seasons. -/
import Derived.Test.YtcjhodlimpgegaaGreatHE
namespace Go.Proofs.YtcjhodlimpgegaaGreat
open Go.RowKit Go.Maps

def sn0 : Sn := ⟨ByteArray.empty, 0, 0⟩
def wsI (v : Sn → Int) (l : List Sn) : Nat → Nat
  | 0 => 0
  | k + 1 => if k = 0 then 0 else if v (l.getD k sn0) < v (l.getD (wsI v l k) sn0) then k else wsI v l k
def wsV (v : Sn → Int) (l : List Sn) (k : Nat) : Int := if k = 0 then 0 else v (l.getD (wsI v l k) sn0)
theorem ws_one (v : Sn → Int) (l : List Sn) : wsI v l 1 = 0 ∧ wsV v l 1 = v (l.getD 0 sn0) := by unfold wsV; simp [wsI]
theorem ws_less {v : Sn → Int} {l : List Sn} {k : Nat} (hk : k ≠ 0) (h : v (l.getD k sn0) < wsV v l k) : wsI v l (k + 1) = k ∧ wsV v l (k + 1) = v (l.getD k sn0) := by
  unfold wsV at h
  rw [if_neg hk] at h
  have e : wsI v l (k + 1) = k := by show (if k = 0 then 0 else if _ then k else _) = k; rw [if_neg hk, if_pos h]
  refine ⟨e, ?_⟩
  unfold wsV
  rw [if_neg (by omega), e]
theorem ws_more {v : Sn → Int} {l : List Sn} {k : Nat} (hk : k ≠ 0) (h : ¬ v (l.getD k sn0) < wsV v l k) : wsI v l (k + 1) = wsI v l k ∧ wsV v l (k + 1) = wsV v l k := by
  unfold wsV at h ⊢
  rw [if_neg hk] at h
  have e : wsI v l (k + 1) = wsI v l k := by show (if k = 0 then 0 else if _ then k else _) = _; rw [if_neg hk, if_neg h]
  rw [e, if_neg hk, if_neg (by omega)]
  exact ⟨rfl, rfl⟩
theorem wsI_lt (v : Sn → Int) (l : List Sn) : ∀ k, wsI v l k ≤ k
  | 0 => Nat.le_refl _
  | k + 1 => by
    have := wsI_lt v l k
    show (if k = 0 then 0 else if _ then k else _) ≤ k + 1
    split
    · omega
    · split <;> omega
theorem getD_snAt {l : List Sn} {k : Nat} (h : k < l.length) : l.getD k sn0 = l[k] := getD_at h
set_option maxHeartbeats 4000000 in
set_option maxRecDepth 20000 in
theorem leastOfAll_any {nm : ByteArray} {A A' S : Option Addr} {n c n' c' m d : Nat} {le mo : Int} {o i0 : List Md} {l : List Sn} (ho : ∀ x ∈ o, MdOk x) (hi' : ∀ x ∈ i0, MdOk x) (hn : n + n' ≤ 20) (hs : ∀ s ∈ l, SnOk s) (hmm : m ≤ 1000000)
    (w : World) (hA : MdRow w A n o) (hA' : MdRow w A' n' i0) (hS : SnRow w S m l) :
    Calls Tryz.prog 82 #[ftV nm A n c A' n' c' le mo, .slice S m d] w fun e w' => e = .returned (.tuple #[.int .i64 (wsI (fun s => leastS o i0 s.lo s.hi) l m), .int .i64 (wsV (fun s => leastS o i0 s.lo s.hi) l m)]) ∧ Below w.heap.size w w' := by
  have hln := hS.1
  have HMD := Lib.hid (fun wx (hb : Below w.heap.size w wx) => And.intro (hA.below hb) (hA'.below hb))
  have LO := Lib.hid (fun wx (sn : ByteArray) lo hi (l0 : 0 ≤ lo) (l1 : lo ≤ 400) (h0 : 0 ≤ hi) (h1 : hi ≤ 400) (hb : Below w.heap.size w wx) => leastOver_any (nm := nm) (sn := sn) (c := c) (c' := c') (le := le) (mo := mo) ho hi' hn l0 l1 h0 h1 wx (HMD.out wx hb).1 (HMD.out wx hb).2)
  have HR := Lib.hid hS
  have HSO := Lib.hid hs
  have hB0 : Below w.heap.size w (w.alloc (.cells #[.string nm, .slice A n c, .slice A' n' c', .int .i64 le, .int .i64 mo] 24)) := (Below.refl _ _).alloc (Nat.le_refl _) _
  have hq : ∀ j (hj : j < 5), (w.alloc (.cells #[.string nm, .slice A n c, .slice A' n' c', .int .i64 le, .int .i64 mo] 24)).cell? ⟨w.heap.size, j, none⟩ = #[Value.string nm, .slice A n c, .slice A' n' c', .int .i64 le, .int .i64 mo][j]? := by
    intro j hj; rw [World.cell?_alloc_new]
  have hs0 : (w.alloc (.cells #[.string nm, .slice A n c, .slice A' n' c', .int .i64 le, .int .i64 mo] 24)).heap.size = w.heap.size + 1 := by simp
  clear hA hA' hS ho hi' hs HMD
  obtain ⟨f, hf⟩ : ∃ f : Sn → Int, f = fun s => leastS o i0 s.lo s.hi := ⟨_, rfl⟩
  have HF : Hid (∀ s, leastS o i0 s.lo s.hi = f s) := Lib.hid (fun s => by rw [hf])
  rw [← hf]
  clear hf
  unfold ftV
  go_enter Tryz.func82, Tryz.ntmps82
  go_wp2
  generalize (w.alloc (.cells #[.string nm, .slice A n c, .slice A' n' c', .int .i64 le, .int .i64 mo] 24)) = W0 at hB0 hq hs0 ⊢
  have HB0 := Lib.hid hB0
  have KS := Lib.hid (fun wx (hb : Below W0.heap.size W0 wx) => (show wx.cell? ⟨w.heap.size, 0, none⟩ = some (.string nm) ∧ wx.cell? ⟨w.heap.size, 1, none⟩ = some (.slice A n c) ∧ wx.cell? ⟨w.heap.size, 2, none⟩ = some (.slice A' n' c') ∧ wx.cell? ⟨w.heap.size, 3, none⟩ = some (.int .i64 le) ∧ wx.cell? ⟨w.heap.size, 4, none⟩ = some (.int .i64 mo) from by
    have k := (bcell hb).1
    exact ⟨(k _ _ (by omega)).trans (hq 0 (by omega)), (k _ _ (by omega)).trans (hq 1 (by omega)), (k _ _ (by omega)).trans (hq 2 (by omega)), (k _ _ (by omega)).trans (hq 3 (by omega)), (k _ _ (by omega)).trans (hq 4 (by omega))⟩))
  clear hq hs0 hB0
  go_loopw [6, 7, 14] (fun a b i wr => ∃ k : Nat, k ≤ m ∧ i = .int .i64 k ∧ a = .int .i64 (wsI f l k) ∧ b = .int .i64 (wsV f l k) ∧ Hid (Below W0.heap.size W0 wr)) (fun _ _ i _ => m - (intOf i).toNat)
  case atStart => exact ⟨0, Nat.zero_le _, rfl, rfl, rfl, Lib.hid (Below.refl _ _)⟩
  case round =>
    obtain ⟨k, hk, rfl, rfl, rfl, HB⟩ := hrel
    have hsw := HB.out.size
    by_cases hlt : k < m
    · have hkl : k < l.length := by omega
      obtain ⟨blk, off, rfl, hblk, hx⟩ := HR.out.2 (by omega)
      have hxx := (hx k hkl).below (HB0.out.trans (HB.out.mono HB0.out.size)) hblk
      have hok := HSO.out l[k] (List.getElem_mem hkl)
      have HLS := Lib.hid (fun (h0 : k ≠ 0) h => ws_less (v := f) (l := l) h0 h)
      have HMR := Lib.hid (fun (h0 : k ≠ 0) h => ws_more (v := f) (l := l) h0 h)
      have HGD := Lib.hid (getD_snAt hkl)
      clear hx
      obtain ⟨x, hxe⟩ : ∃ x, l[k] = x := ⟨_, rfl⟩
      rw [hxe] at hxx hok HGD
      clear hxe
      rw [HGD.out] at HLS HMR
      obtain ⟨sn, lo, hi⟩ := x
      obtain ⟨q0, q1, q2, -⟩ := hxx
      have k0 := hok.l0; have k1 := hok.l1; have k2 := hok.h1
      simp only at q0 q1 q2 k0 k1 k2
      have LC := Lib.hid (fun wx (hb : Below w.heap.size w wx) => LO.out wx sn lo hi k0 (by omega) (by omega) k2 hb)
      have HFS := HF.out ⟨sn, lo, hi⟩
      simp only at HFS
      rw [HFS] at LC
      clear HFS hok
      obtain ⟨y, hy⟩ : ∃ y, f ⟨sn, lo, hi⟩ = y := ⟨_, rfl⟩
      have HY := Lib.hid hy
      rw [hy] at LC HLS HMR
      clear hy
      have HBA := Lib.hid (HB.out.alloc hsw (.cells #[.string sn, .int .i64 lo, .int .i64 hi] 27))
      obtain ⟨e0, e1, e2, e3, e4⟩ := KS.out _ HBA.out
      have HBW := Lib.hid (HB0.out.trans (HBA.out.mono HB0.out.size))
      obtain ⟨a, ha⟩ : ∃ a, wsI f l k = a := ⟨_, rfl⟩
      obtain ⟨b, hb⟩ : ∃ b, wsV f l k = b := ⟨_, rfl⟩
      rw [ha] at HMR ⊢
      rw [hb] at HLS HMR ⊢
      clear ha hb
      by_cases hk0 : k = 0
      · have HN : Hid (wsI f l (k + 1) = k ∧ wsV f l (k + 1) = y) := Lib.hid (by
          have h1 := ws_one f l
          have h2 := HGD.out
          rw [hk0] at h2 ⊢
          rw [h2, HY.out] at h1
          exact h1)
        have hkb : ((k : Int) == 0) = true := by rw [hk0]; rfl
        have hkb2 : (k == 0) = true := by rw [hk0]; rfl
        clear HLS HMR HGD hk0
        go_wp2_with (go_at_call 102; refine Calls.mono (LC.out _ HBW.out) ?_; rintro e w1 ⟨v1, rfl, -, hb1⟩)
        go_roundw
        case rel => exact ⟨k + 1, by omega, by go_num, by rw [HN.out.1], by rw [HN.out.2], Lib.hid (HBA.out.trans (hb1.mono HBA.out.size))⟩
        case measure => simp [intOf]; omega
      · have hkb : ((k : Int) == 0) = false := beq_eq_false_iff_ne.2 (by omega)
        have hkb2 : (k == 0) = false := beq_eq_false_iff_ne.2 hk0
        by_cases hcmp : y < b
        · have HN := Lib.hid (HLS.out hk0 hcmp)
          clear HLS HMR
          go_wp2_with (go_at_call 102; refine Calls.mono (LC.out _ HBW.out) ?_; rintro e w1 ⟨v1, rfl, -, hb1⟩)
          go_roundw
          case rel => exact ⟨k + 1, by omega, by go_num, by rw [HN.out.1], by rw [HN.out.2], Lib.hid (HBA.out.trans (hb1.mono HBA.out.size))⟩
          case measure => simp [intOf]; omega
        · have HN := Lib.hid (HMR.out hk0 hcmp)
          clear HLS HMR
          go_wp2_with (go_at_call 102; refine Calls.mono (LC.out _ HBW.out) ?_; rintro e w1 ⟨v1, rfl, -, hb1⟩)
          go_roundw
          case rel => exact ⟨k + 1, by omega, by go_num, by rw [HN.out.1], by rw [HN.out.2], Lib.hid (HBA.out.trans (hb1.mono HBA.out.size))⟩
          case measure => simp [intOf]; omega
    · have hk' : k = m := by omega
      subst hk'
      go_wp2
      go_ret2
      exact ⟨rfl, HB0.out.trans (HB.out.mono HB0.out.size)⟩
/-- The error of the worst seasons. -/
def wcode (nm : ByteArray) (F : FitD) (l : List Sn) : Int := bif decide (bothCode nm F l = 0) then (bif decide (l.length = 0) then 12 else 0) else bothCode nm F l
set_option maxHeartbeats 4000000 in
set_option maxRecDepth 20000 in
theorem worst_bad {nm : ByteArray} {A A' S : Option Addr} {n c n' c' m d : Nat} {F : FitD} {l : List Sn} {cd : Int} (hc : wcode nm F l = cd) (h0 : cd ≠ 0) (hsz : nm.size ≤ maxLen) (hn : n ≤ 1000000) (hn' : n' ≤ 1000000) (hmm : m ≤ maxLen) (w : World) (hA : MdRow w A n F.o) (hA' : MdRow w A' n' F.i) (hS : SnRow w S m l) :
    Calls Tryz.prog 39 #[ftV nm A n c A' n' c' F.le F.mo, .slice S m d] w fun e w' => e = .returned (.tuple #[.agg #[.int .i64 0, .int .i64 0], .agg #[.int .i64 0, .int .i64 0], .int .i64 cd]) ∧ Below w.heap.size w w' := by
  have hln := hS.1
  have HMD := Lib.hid (fun wx (hb : Below w.heap.size w wx) => And.intro (hA.below hb) (And.intro (hA'.below hb) (hS.below hb)))
  obtain ⟨bc, hbc⟩ : ∃ bc, bothCode nm F l = bc := ⟨_, rfl⟩
  have CB := Lib.hid (fun wx (hb : Below w.heap.size w wx) => checkFitOver_any (c := c) (c' := c') (d := d) hbc hsz hn hn' hmm wx (HMD.out wx hb).1 (HMD.out wx hb).2.1 (HMD.out wx hb).2.2)
  unfold wcode at hc
  rw [hbc, hln] at hc
  clear hA hA' hS hbc HMD
  have hB1 : Hid (∀ o o1 o2, Below w.heap.size w (((w.alloc o).alloc o1).alloc o2)) := Lib.hid (fun o o1 o2 => (((Below.refl _ _).alloc (Nat.le_refl _) _).alloc (by simp) _).alloc (by simp; omega) _)
  unfold ftV at CB ⊢
  by_cases hb0 : bc = 0
  · subst hb0
    by_cases hm0 : m = 0
    · subst hm0
      simp only [decide_true, cond_true] at hc
      subst hc
      go_enter Tryz.func39, Tryz.ntmps39
      go_wp2_with (go_at_call 68; refine Calls.mono (CB.out _ (hB1.out _ _ _)) ?_; rintro e w1 ⟨rfl, hb1⟩; obtain ⟨hc1, hf1⟩ := bcell hb1)
      refine bodyPost_ret (v := .tuple #[.agg #[.int .i64 0, .int .i64 0], .agg #[.int .i64 0, .int .i64 0], .int .i64 12]) (by simp [results, Tryz.results39, go_sem, hc1]) rfl ⟨rfl, ?_⟩
      repeat (refine Below.setCell ?_ (by first | (simp; done) | (simp; omega)) _)
      exact (hB1.out _ _ _).trans (hb1.mono (by simp; omega))
    · rw [decide_eq_false hm0] at hc
      simp only [decide_true, cond_true, cond_false] at hc
      exact absurd hc.symm h0
  · rw [decide_eq_false hb0] at hc
    simp only [cond_false] at hc
    subst hc
    have hcb : (bc == 0) = false := beq_eq_false_iff_ne.2 hb0
    have hcb' : (bc != 0) = true := bne_iff_ne.2 hb0
    go_enter Tryz.func39, Tryz.ntmps39
    go_wp2_with (go_at_call 68; refine Calls.mono (CB.out _ (hB1.out _ _ _)) ?_; rintro e w1 ⟨rfl, hb1⟩; obtain ⟨hc1, hf1⟩ := bcell hb1)
    refine bodyPost_ret (v := .tuple #[.agg #[.int .i64 0, .int .i64 0], .agg #[.int .i64 0, .int .i64 0], .int .i64 bc]) (by simp [results, Tryz.results39, go_sem, hc1]) rfl ⟨rfl, ?_⟩
    repeat (refine Below.setCell ?_ (by first | (simp; done) | (simp; omega)) _)
    exact (hB1.out _ _ _).trans (hb1.mono (by simp; omega))
end Go.Proofs.YtcjhodlimpgegaaGreat
