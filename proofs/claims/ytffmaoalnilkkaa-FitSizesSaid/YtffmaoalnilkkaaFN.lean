/- Walks over the fits: the range of the numbers with which all fits hold. -/
import Derived.Test.YtffmaoalnilkkaaFM
namespace Go.Proofs.Ytffmaoalnilkkaa
open Go.RowKit Go.Maps

def Up (p : Int → Bool) (lo hi : Int) : Prop := ∀ a b, lo ≤ a → a ≤ b → b ≤ hi → p a = true → p b = true
def Dn (p : Int → Bool) (lo hi : Int) : Prop := ∀ a b, lo ≤ a → a ≤ b → b ≤ hi → p b = true → p a = true
theorem narrow_iff {p : Int → Bool} {lo hi lo' hi' : Int} (hlh : lo ≤ hi) (hm : Up p lo hi ∨ Dn p lo hi) (h : Narrow p lo hi lo' hi') :
    lo ≤ lo' ∧ hi' ≤ hi ∧ lo' ≤ hi + 1 ∧ lo - 1 ≤ hi' ∧ ∀ n, (lo' ≤ n ∧ n ≤ hi') ↔ (lo ≤ n ∧ n ≤ hi ∧ p n = true) := by
  obtain ⟨r, ⟨hr, h1, h2⟩, hc⟩ := h
  have hN : (((hi - lo + 1).toNat : Nat) : Int) = hi - lo + 1 := by omega
  have r1 : 1 ≤ r := by
    cases r with
    | zero =>
      rcases h2 with h2 | h2
      · omega
      · simp at h2
    | succ r => omega
  have h1' : (p (lo + ((r - 1 : Nat) : Int)) != p lo) = false := h1.resolve_left (by omega)
  have e1 : lo + ((r - 1 : Nat) : Int) = lo + r - 1 := by omega
  rw [e1] at h1'
  rcases hc with ⟨hp, rfl, rfl⟩ | ⟨hp, rfl, rfl⟩
  · rw [hp] at h1' h2
    have hpr : p (lo' + r - 1) = true := by simpa using h1'
    have h2' : (r : Int) = hi - lo' + 1 ∨ p (lo' + r) = false := h2.imp (fun h => by omega) (fun h => by simpa using h)
    refine ⟨by omega, by omega, by omega, by omega, fun n => ⟨fun ⟨a, b⟩ => ⟨a, by omega, ?_⟩, fun ⟨a, b, c⟩ => ⟨a, ?_⟩⟩⟩
    · rcases hm with hm | hm
      · exact hm lo' n (Int.le_refl _) a (by omega) hp
      · exact hm n (lo' + r - 1) a b (by omega) hpr
    · rcases h2' with h2' | h2'
      · omega
      · rcases hm with hm | hm
        · by_cases hx : lo' + r ≤ hi
          · rw [hm lo' (lo' + r) (Int.le_refl _) (by omega) hx hp] at h2'; cases h2'
          · omega
        · by_cases hx : n ≤ lo' + r - 1
          · exact hx
          · rw [hm (lo' + r) n (by omega) (by omega) b c] at h2'; cases h2'
  · rw [hp] at h1' h2
    have hpr : p (lo + r - 1) = false := by simpa using h1'
    have h2' : (r : Int) = hi' - lo + 1 ∨ p (lo + r) = true := h2.imp (fun h => by omega) (fun h => by simpa using h)
    refine ⟨by omega, by omega, by omega, by omega, fun n => ⟨fun ⟨a, b⟩ => ⟨by omega, b, ?_⟩, fun ⟨a, b, c⟩ => ⟨?_, b⟩⟩⟩
    · rcases h2' with h2' | h2'
      · omega
      · rcases hm with hm | hm
        · exact hm (lo + r) n (by omega) a b h2'
        · rw [hm lo (lo + r) (Int.le_refl _) (by omega) (by omega) h2'] at hp; cases hp
    · rcases hm with hm | hm
      · by_cases hx : lo + r ≤ n
        · exact hx
        · rw [hm n (lo + r - 1) a (by omega) (by omega) c] at hpr; cases hpr
      · rw [hm lo n (Int.le_refl _) a b c] at hp; cases hp
/-- The four questions of two fits, in their order. -/
def Kp (F : Int → Nat → FitD) (l : List Sn) : Nat → Int → Bool
  | 0, n => kepB (-1) (F n 0) l
  | 1, n => kepB 1 (F n 0) l
  | 2, n => kepB (-1) (F n 1) l
  | _, n => kepB 1 (F n 1) l
structure Rng (F : Int → Nat → FitD) (l : List Sn) (lo hi : Int) (t : Nat) (a b : Int) : Prop where
  l0 : lo ≤ a
  ab : a ≤ b
  h1 : b ≤ hi
  iff : ∀ n, (a ≤ n ∧ n ≤ b) ↔ (lo ≤ n ∧ n ≤ hi ∧ ∀ s, s < t → Kp F l s n = true)
theorem Rng.start {F : Int → Nat → FitD} {l : List Sn} {lo hi : Int} (h : lo ≤ hi) : Rng F l lo hi 0 lo hi := ⟨Int.le_refl _, h, Int.le_refl _, fun n => ⟨fun ⟨a, b⟩ => ⟨a, b, fun s hs => absurd hs (by omega)⟩, fun ⟨a, b, _⟩ => ⟨a, b⟩⟩⟩
theorem Rng.step {F : Int → Nat → FitD} {l : List Sn} {lo hi : Int} {t : Nat} {a b a' b' : Int} (h : Rng F l lo hi t a b) (hm : Up (Kp F l t) lo hi ∨ Dn (Kp F l t) lo hi) (hn : Narrow (Kp F l t) a b a' b') :
    lo ≤ a' ∧ b' ≤ hi ∧ a' ≤ hi + 1 ∧ lo - 1 ≤ b' ∧ (a' ≤ b' → Rng F l lo hi (t + 1) a' b') ∧ (b' < a' → ∀ n, lo ≤ n → n ≤ hi → ¬ ∀ s, s < t + 1 → Kp F l s n = true) := by
  have l0 := h.l0; have h1 := h.h1; have hab := h.ab
  obtain ⟨c1, c2, c3, c4, c5⟩ := narrow_iff h.ab (hm.imp (fun hu x y hx hxy hy => hu x y (by omega) hxy (by omega)) (fun hd x y hx hxy hy => hd x y (by omega) hxy (by omega))) hn
  have key : ∀ n, (a' ≤ n ∧ n ≤ b') ↔ (lo ≤ n ∧ n ≤ hi ∧ ∀ s, s < t + 1 → Kp F l s n = true) := fun n => by
    rw [c5 n]
    constructor
    · rintro ⟨x, y, z⟩
      obtain ⟨u, v, k⟩ := (h.iff n).1 ⟨x, y⟩
      exact ⟨u, v, fun s hs => by rcases Nat.lt_or_eq_of_le (Nat.le_of_lt_succ hs) with g | g; exact k s g; rw [g]; exact z⟩
    · rintro ⟨u, v, k⟩
      obtain ⟨x, y⟩ := (h.iff n).2 ⟨u, v, fun s hs => k s (by omega)⟩
      exact ⟨x, y, k t (by omega)⟩
  refine ⟨by omega, by omega, by omega, by omega, fun hle => ⟨by omega, hle, by omega, key⟩, fun hlt n u v k => ?_⟩
  obtain ⟨x, y⟩ := (key n).2 ⟨u, v, k⟩
  omega
/-- What 'holding' hands back. -/
def HoldsOut (F : Int → Nat → FitD) (l : List Sn) (lo hi : Int) (v : Value) : Prop :=
  (∃ a b, v = .tuple #[.agg #[.int .i64 a, .int .i64 b], .int .i64 0] ∧ Rng F l lo hi 4 a b) ∨ (v = .tuple #[.agg #[.int .i64 0, .int .i64 0], .int .i64 12] ∧ ∀ n, lo ≤ n → n ≤ hi → ¬ ∀ s, s < 4 → Kp F l s n = true)
set_option maxHeartbeats 1000000 in
theorem sides_any (w : World) : Calls Try.prog 87 #[] w fun e w' => e = .returned (.agg #[.int .i64 (-1), .int .i64 1]) ∧ Below w.heap.size w w' := by
  go_enter Try.func87, Try.ntmps87
  go_wp2
  refine bodyPost_ret (v := .agg #[.int .i64 (-1), .int .i64 1]) (by simp [results, Try.results87, go_sem]) rfl ⟨rfl, ?_⟩
  exact (Below.refl _ _).alloc (Nat.le_refl _) _
/-- The cells of 'holding': the range, the seasons, the function that makes the fits, the result. -/
structure HC (w wr : World) (B : Nat) (a b : Int) (S : Option Addr) (m d : Nat) (fv : Value) : Prop where
  c0 : wr.cell? ⟨B, 0, none⟩ = some (.int .i64 a)
  c1 : wr.cell? ⟨B, 1, none⟩ = some (.int .i64 b)
  f0 : wr.frozen? ⟨B, 0, none⟩ = false
  f1 : wr.frozen? ⟨B, 1, none⟩ = false
  c2 : wr.cell? ⟨B + 1, 0, none⟩ = some (.slice S m d)
  c3 : wr.cell? ⟨B + 1 + 1, 0, none⟩ = some fv
  c4 : wr.cell? ⟨B + 1 + 1 + 1, 0, none⟩ = some (.int .i64 0)
  c5 : wr.cell? ⟨B + 1 + 1 + 1, 1, none⟩ = some (.int .i64 0)
  f4 : wr.frozen? ⟨B + 1 + 1 + 1, 0, none⟩ = false
  f5 : wr.frozen? ⟨B + 1 + 1 + 1, 1, none⟩ = false
  lt : B + 3 < wr.heap.size
  bel : Below w.heap.size w wr
theorem HC.below {w wr w' : World} {B : Nat} {a b : Int} {S : Option Addr} {m d : Nat} {fv : Value} (h : HC w wr B a b S m d fv) (hb : Below wr.heap.size wr w') : HC w w' B a b S m d fv := by
  obtain ⟨c0, c1, f0, f1, c2, c3, c4, c5, f4, f5, lt, bel⟩ := h
  obtain ⟨k, kf⟩ := bcell hb
  have hs := hb.size
  exact ⟨(k _ _ (by omega)).trans c0, (k _ _ (by omega)).trans c1, (kf _ _ (by omega)).trans f0, (kf _ _ (by omega)).trans f1, (k _ _ (by omega)).trans c2, (k _ _ (by omega)).trans c3, (k _ _ (by omega)).trans c4, (k _ _ (by omega)).trans c5, (kf _ _ (by omega)).trans f4, (kf _ _ (by omega)).trans f5, by omega, bel.trans (hb.mono bel.size)⟩
theorem HC.set {w wr : World} {B : Nat} {a b : Int} {S : Option Addr} {m d : Nat} {fv : Value} (h : HC w wr B a b S m d fv) (hB : w.heap.size ≤ B) (a' b' : Int) : HC w ((wr.setCell ⟨B, 0, none⟩ (.int .i64 a')).setCell ⟨B, 1, none⟩ (.int .i64 b')) B a' b' S m d fv := by
  obtain ⟨c0, c1, f0, f1, c2, c3, c4, c5, f4, f5, lt, bel⟩ := h
  have far : ∀ (wx : World) (b o j : Nat) (v : Value), B ≠ b → (wx.setCell ⟨B, j, none⟩ v).cell? ⟨b, o, none⟩ = wx.cell? ⟨b, o, none⟩ := fun wx b o j v hne => World.cell?_setCell_far wx ⟨B, j, none⟩ ⟨b, o, none⟩ v hne
  refine ⟨?_, ?_, ?_, ?_, ?_, ?_, ?_, ?_, ?_, ?_, ?_, ?_⟩
  · rw [World.cell?_setCell_other _ _ _ _ (by simp)]; exact World.cell?_setCell_same _ _ _ c0
  · exact World.cell?_setCell_same _ _ _ ((World.cell?_setCell_other _ _ _ _ (by simp)).trans c1)
  · rw [World.frozen?_setCell, World.frozen?_setCell]; exact f0
  · rw [World.frozen?_setCell, World.frozen?_setCell]; exact f1
  · rw [far _ _ _ _ _ (by omega), far _ _ _ _ _ (by omega)]; exact c2
  · rw [far _ _ _ _ _ (by omega), far _ _ _ _ _ (by omega)]; exact c3
  · rw [far _ _ _ _ _ (by omega), far _ _ _ _ _ (by omega)]; exact c4
  · rw [far _ _ _ _ _ (by omega), far _ _ _ _ _ (by omega)]; exact c5
  · rw [World.frozen?_setCell, World.frozen?_setCell]; exact f4
  · rw [World.frozen?_setCell, World.frozen?_setCell]; exact f5
  · simpa using lt
  · exact (bel.setCell (p := ⟨B, 0, none⟩) hB _).setCell (p := ⟨B, 1, none⟩) hB _

set_option maxHeartbeats 4000000 in
set_option maxRecDepth 20000 in
theorem holding_LG {F : Int → Nat → FitD} {lo hi : Int} {S : Option Addr} {m d : Nat} {q : Addr} {l : List Sn} (hl0 : 0 ≤ lo) (hlh : lo ≤ hi) (hh : hi ≤ 600000) (hF : ∀ n j, lo ≤ n → n ≤ hi → FdOk (F n j)) (hs : ∀ s ∈ l, SnOk s) (hmm : m ≤ 1000) (hmo : ∀ t, t < 4 → Up (Kp F l t) lo hi ∨ Dn (Kp F l t) lo hi)
    (w : World) (hS : SnRow w S m l)
    (CG : ∀ wx n, lo ≤ n → n ≤ hi → Below w.heap.size w wx → Calls Try.prog 67 #[.int .i64 n, .pointer (some q)] wx fun e w' => ∃ blk, e = .returned (.slice (some ⟨blk, 0, none⟩) 2 2) ∧ FitAt w' blk 0 (F n 0) ∧ FitAt w' blk 5 (F n 1) ∧ Below wx.heap.size wx w') :
    Calls Try.prog 66 #[.agg #[.int .i64 lo, .int .i64 hi], .slice S m d, .func (.func 67) #[] #[.pointer (some q)]] w fun e w' => ∃ v, e = .returned v ∧ HoldsOut F l lo hi v ∧ Below w.heap.size w w' := by
  have HCG := Lib.hid CG
  have HFO := Lib.hid (fun n j h1 h2 => hF n j h1 h2)
  have HSO := Lib.hid hs
  have HMO := Lib.hid hmo
  have HSR := Lib.hid (fun wx (hb : Below w.heap.size w wx) => hS.below hb)
  have hixs := fun w => index_two (x := .int .i64 (-1)) (y := .int .i64 1) Try.underlying131 Try.sizeOf3 Try.isAgg3 w
  have hB0 : Below w.heap.size w ((((w.alloc (.cells #[.int .i64 lo, .int .i64 hi] 48)).alloc (.cells #[.slice S m d] 23)).alloc (.cells #[(.func (.func 67) #[] #[.pointer (some q)])] 107)).alloc (.cells #[.int .i64 0, .int .i64 0] 48)) := (((((Below.refl _ _).alloc (Nat.le_refl _) _).alloc (by simp) _).alloc (by simp; omega) _).alloc (by simp; omega) _)
  have CG0 := Lib.hid (CG ((((w.alloc (.cells #[.int .i64 lo, .int .i64 hi] 48)).alloc (.cells #[.slice S m d] 23)).alloc (.cells #[(.func (.func 67) #[] #[.pointer (some q)])] 107)).alloc (.cells #[.int .i64 0, .int .i64 0] 48)) lo (Int.le_refl _) hlh hB0)
  clear CG hF hs hmo hS hB0
  go_enter Try.func66, Try.ntmps66
  go_wp2_with (go_at_call 67; refine Calls.mono CG0.out ?_; rintro e w1 ⟨blk, rfl, -, -, hb1⟩)
  have hc1 : HC w w1 w.heap.size lo hi S m d (.func (.func 67) #[] #[.pointer (some q)]) := by
    have hsz : ((((w.alloc (.cells #[.int .i64 lo, .int .i64 hi] 48)).alloc (.cells #[.slice S m d] 23)).alloc (.cells #[(.func (.func 67) #[] #[.pointer (some q)])] 107)).alloc (.cells #[.int .i64 0, .int .i64 0] 48)).heap.size = w.heap.size + 4 := by simp
    have h0 : HC w ((((w.alloc (.cells #[.int .i64 lo, .int .i64 hi] 48)).alloc (.cells #[.slice S m d] 23)).alloc (.cells #[(.func (.func 67) #[] #[.pointer (some q)])] 107)).alloc (.cells #[.int .i64 0, .int .i64 0] 48)) w.heap.size lo hi S m d (.func (.func 67) #[] #[.pointer (some q)]) := ⟨by simp [go_sem], by simp [go_sem], by simp [go_sem], by simp [go_sem], by simp [go_sem], by simp [go_sem], by simp [go_sem], by simp [go_sem], by simp [go_sem], by simp [go_sem], by rw [hsz]; omega, (((((Below.refl _ _).alloc (Nat.le_refl _) _).alloc (by simp) _).alloc (by simp; omega) _).alloc (by simp; omega) _)⟩
    exact h0.below hb1
  clear hb1 CG0
  go_loopw [16] (fun i wr => ∃ (k : Nat) (a b : Int), k ≤ 2 ∧ i = .int .i64 k ∧ Rng F l lo hi (2 * k) a b ∧ HC w wr w.heap.size a b S m d (.func (.func 67) #[] #[.pointer (some q)])) (fun i _ => 2 - (intOf i).toNat)
  case atStart => exact ⟨0, lo, hi, by omega, rfl, Rng.start hlh, hc1⟩
  case round =>
    obtain ⟨k, a, b, hk, rfl, hr, hc⟩ := hrel
    obtain rfl | rfl | rfl : k = 0 ∨ k = 1 ∨ k = 2 := by omega
    · have HR0 := Lib.hid hr
      have hcB := hc.lt
      have H1 := Lib.hid hc
      clear hr hc
      obtain ⟨wq, hwq⟩ : ∃ wq, wq = wr := ⟨_, rfl⟩
      rw [← hwq] at H1 hcB ⊢
      clear hwq
      go_wp2_with (go_at_call 87; refine (sides_any _).mono ?_; rintro e w3 ⟨rfl, hb3⟩)
      have h8 : w3.cell? ⟨wq.heap.size, 0, none⟩ = some (.int .i64 0) := (hb3.cell (p := ⟨wq.heap.size, 0, none⟩) (by simp)).trans (by rw [World.cell?_alloc_new]; rfl)
      have hb8 : wq.heap.size < w3.heap.size := by have := hb3.size; simp at this; omega
      have hc3 : HC w w3 w.heap.size a b S m d (.func (.func 67) #[] #[.pointer (some q)]) := H1.out.below (((Below.refl wq.heap.size wq).alloc (Nat.le_refl _) _).trans (hb3.mono (by simp)))
      obtain ⟨b8, hb8e⟩ : ∃ b8, wq.heap.size = b8 := ⟨_, rfl⟩
      rw [hb8e] at h8 hb8 hcB ⊢
      clear hb3 H1 hb8e
      go_loopw [20] (fun j wr => ∃ (k2 : Nat) (a b : Int), k2 ≤ 2 ∧ j = .int .i64 k2 ∧ Hid (Rng F l lo hi (0 + k2) a b) ∧ Hid (HC w wr w.heap.size a b S m d (.func (.func 67) #[] #[.pointer (some q)])) ∧ wr.cell? ⟨b8, 0, none⟩ = some (.int .i64 0) ∧ b8 < wr.heap.size) (fun j _ => 2 - (intOf j).toNat)
      case atStart => exact ⟨0, a, b, by omega, rfl, HR0, Lib.hid hc3, h8, hb8⟩
      case round =>
        clear HR0 hc3 h8 hb8
        obtain ⟨k2, a, b, hk2, rfl, hr', hc', h8, hb8⟩ := hrel
        obtain rfl | rfl | rfl : k2 = 0 ∨ k2 = 1 ∨ k2 = 2 := by omega
        · have hr := hr'.out; have hc := hc'.out; clear hr' hc'

          have HR := Lib.hid hr
          obtain ⟨c0, c1, f0, f1, c2, c3, c4, c5, f4, f5, lt, bel⟩ := hc
          have hab := hr.ab
          have la := hr.l0
          have lb := hr.h1
          clear hr
          have hix := hixs wr
          obtain ⟨hix0, hix1⟩ := hix
          obtain ⟨wn, hwn⟩ : ∃ wn, wn = wr.alloc (.cells #[.int .i64 (-1)] 3) := ⟨_, rfl⟩
          have hcn : HC w wn w.heap.size a b S m d (.func (.func 67) #[] #[.pointer (some q)]) := by rw [hwn]; exact HC.below ⟨c0, c1, f0, f1, c2, c3, c4, c5, f4, f5, lt, bel⟩ ((Below.refl _ _).alloc (Nat.le_refl _) _)
          have hsd : wn.cell? ⟨wr.heap.size, 0, none⟩ = some (.int .i64 (-1)) := by rw [hwn, World.cell?_alloc_new]; rfl
          have h8n : wn.cell? ⟨b8, 0, none⟩ = some (.int .i64 0) := by rw [hwn]; exact (((Below.refl wr.heap.size wr).alloc (Nat.le_refl _) _).cell (p := ⟨b8, 0, none⟩) hb8).trans h8
          have hszn : wr.heap.size < wn.heap.size := by rw [hwn]; simp
          have NA := Lib.hid (narrowed_any (p := Kp F l 0) (pa := ⟨w.heap.size + 1 + 1, 0, none⟩) (pb := ⟨b8, 0, none⟩) (pc := ⟨w.heap.size + 1, 0, none⟩) (pd := ⟨wr.heap.size, 0, none⟩) (lo := a) (hi := b) (by omega) hab (by omega) wn (fun wx n hn1 hn2 hbx => by
            have hcx := hcn.below hbx
            have k := (bcell hbx).1
            exact holding1_LG_0 (n := n) (side := (-1)) (F := F n 0) (HFO.out n 0 (by omega) (by omega)) HSO.out hmm wx hcx.c3 ((k _ _ (by omega)).trans h8n) hcx.c2 ((k _ _ hszn).trans hsd) (HSR.out wx hcx.bel) (fun wy hby => (HCG.out wy n (by omega) (by omega) (hcx.bel.trans (hby.mono hcx.bel.size))).mono (fun e w' ⟨blk, he, h0, h1, hb⟩ => ⟨blk, he, h0, hb⟩))))
          have HCN := Lib.hid hcn
          have HST := Lib.hid (fun a' b' (hna : Narrow (Kp F l 0) a b a' b') => HR.out.step (HMO.out 0 (by omega)) hna)
          unfold rightFn at NA
          rw [hwn] at NA
          clear hcn hsd h8n hwn hszn
          have hlt0 : w.heap.size < wr.heap.size := by omega
          have hlt1 : w.heap.size + 1 < wr.heap.size := by omega
          have hlt2 : w.heap.size + 1 + 1 < wr.heap.size := by omega
          have hlt3 : w.heap.size + 1 + 1 + 1 < wr.heap.size := by omega
          go_wp2_with (go_at_call 89; refine Calls.mono NA.out ?_; rintro e w2 ⟨a', b', rfl, hna, hb2⟩; obtain ⟨n1, n2, n3, n4, hgo, hno⟩ := HST.out a' b' hna; have HGO := Lib.hid hgo; have HNO := Lib.hid hno; clear hgo hno hna; have hc2 : HC w w2 w.heap.size a b S m d (.func (.func 67) #[] #[.pointer (some q)]) := HC.below ⟨c0, c1, f0, f1, c2, c3, c4, c5, f4, f5, lt, bel⟩ (((Below.refl wr.heap.size wr).alloc (Nat.le_refl _) _).trans (hb2.mono (by simp))); have H2 := Lib.hid hc2; obtain ⟨x0, x1, y0, y1, x2, x3, x4, x5, y4, y5, lt2, bel2⟩ := hc2; have h82 : w2.cell? ⟨b8, 0, none⟩ = some (.int .i64 0) := ((((Below.refl wr.heap.size wr).alloc (Nat.le_refl _) (.cells #[.int .i64 (-1)] 3)).trans (hb2.mono (by simp))).cell (p := ⟨b8, 0, none⟩) hb8).trans h8; have hs2 : wr.heap.size < w2.heap.size := (by have := hb2.size; simp at this; omega); clear hb2)
          · refine bodyPost_ret (v := .tuple #[.agg #[.int .i64 0, .int .i64 0], .int .i64 12]) (by simp [results, Try.results66, go_sem, x4, x5]) rfl ⟨_, rfl, .inr ⟨rfl, fun n u v k => HNO.out (by omega) n u v (fun s hs => k s (by omega))⟩, ?_⟩
            exact ((((bel2.setCell (p := ⟨w.heap.size, 0, none⟩) (Nat.le_refl _) _).setCell (p := ⟨w.heap.size, 1, none⟩) (Nat.le_refl _) _).setCell (p := ⟨w.heap.size + 1 + 1 + 1, 0, none⟩) (by show w.heap.size ≤ w.heap.size + 1 + 1 + 1; omega) _).setCell (p := ⟨w.heap.size + 1 + 1 + 1, 1, none⟩) (by show w.heap.size ≤ w.heap.size + 1 + 1 + 1; omega) _)
          · refine ⟨⟨1, a', b', by omega, by go_num, Lib.hid (HGO.out (by omega)), Lib.hid (H2.out.set (Nat.le_refl _) a' b'), ?_, ?_⟩, ?_⟩
            · rw [World.cell?_setCell_far _ _ _ _ (by show w.heap.size ≠ b8; omega), World.cell?_setCell_far _ _ _ _ (by show w.heap.size ≠ b8; omega)]; exact h82
            · simp; omega
            · simp [intOf]

        · have hr := hr'.out; have hc := hc'.out; clear hr' hc'

          have HR := Lib.hid hr
          obtain ⟨c0, c1, f0, f1, c2, c3, c4, c5, f4, f5, lt, bel⟩ := hc
          have hab := hr.ab
          have la := hr.l0
          have lb := hr.h1
          clear hr
          have hix := hixs wr
          obtain ⟨hix0, hix1⟩ := hix
          obtain ⟨wn, hwn⟩ : ∃ wn, wn = wr.alloc (.cells #[.int .i64 1] 3) := ⟨_, rfl⟩
          have hcn : HC w wn w.heap.size a b S m d (.func (.func 67) #[] #[.pointer (some q)]) := by rw [hwn]; exact HC.below ⟨c0, c1, f0, f1, c2, c3, c4, c5, f4, f5, lt, bel⟩ ((Below.refl _ _).alloc (Nat.le_refl _) _)
          have hsd : wn.cell? ⟨wr.heap.size, 0, none⟩ = some (.int .i64 1) := by rw [hwn, World.cell?_alloc_new]; rfl
          have h8n : wn.cell? ⟨b8, 0, none⟩ = some (.int .i64 0) := by rw [hwn]; exact (((Below.refl wr.heap.size wr).alloc (Nat.le_refl _) _).cell (p := ⟨b8, 0, none⟩) hb8).trans h8
          have hszn : wr.heap.size < wn.heap.size := by rw [hwn]; simp
          have NA := Lib.hid (narrowed_any (p := Kp F l 1) (pa := ⟨w.heap.size + 1 + 1, 0, none⟩) (pb := ⟨b8, 0, none⟩) (pc := ⟨w.heap.size + 1, 0, none⟩) (pd := ⟨wr.heap.size, 0, none⟩) (lo := a) (hi := b) (by omega) hab (by omega) wn (fun wx n hn1 hn2 hbx => by
            have hcx := hcn.below hbx
            have k := (bcell hbx).1
            exact holding1_LG_0 (n := n) (side := 1) (F := F n 0) (HFO.out n 0 (by omega) (by omega)) HSO.out hmm wx hcx.c3 ((k _ _ (by omega)).trans h8n) hcx.c2 ((k _ _ hszn).trans hsd) (HSR.out wx hcx.bel) (fun wy hby => (HCG.out wy n (by omega) (by omega) (hcx.bel.trans (hby.mono hcx.bel.size))).mono (fun e w' ⟨blk, he, h0, h1, hb⟩ => ⟨blk, he, h0, hb⟩))))
          have HCN := Lib.hid hcn
          have HST := Lib.hid (fun a' b' (hna : Narrow (Kp F l 1) a b a' b') => HR.out.step (HMO.out 1 (by omega)) hna)
          unfold rightFn at NA
          rw [hwn] at NA
          clear hcn hsd h8n hwn hszn
          have hlt0 : w.heap.size < wr.heap.size := by omega
          have hlt1 : w.heap.size + 1 < wr.heap.size := by omega
          have hlt2 : w.heap.size + 1 + 1 < wr.heap.size := by omega
          have hlt3 : w.heap.size + 1 + 1 + 1 < wr.heap.size := by omega
          go_wp2_with (go_at_call 89; refine Calls.mono NA.out ?_; rintro e w2 ⟨a', b', rfl, hna, hb2⟩; obtain ⟨n1, n2, n3, n4, hgo, hno⟩ := HST.out a' b' hna; have HGO := Lib.hid hgo; have HNO := Lib.hid hno; clear hgo hno hna; have hc2 : HC w w2 w.heap.size a b S m d (.func (.func 67) #[] #[.pointer (some q)]) := HC.below ⟨c0, c1, f0, f1, c2, c3, c4, c5, f4, f5, lt, bel⟩ (((Below.refl wr.heap.size wr).alloc (Nat.le_refl _) _).trans (hb2.mono (by simp))); have H2 := Lib.hid hc2; obtain ⟨x0, x1, y0, y1, x2, x3, x4, x5, y4, y5, lt2, bel2⟩ := hc2; have h82 : w2.cell? ⟨b8, 0, none⟩ = some (.int .i64 0) := ((((Below.refl wr.heap.size wr).alloc (Nat.le_refl _) (.cells #[.int .i64 1] 3)).trans (hb2.mono (by simp))).cell (p := ⟨b8, 0, none⟩) hb8).trans h8; have hs2 : wr.heap.size < w2.heap.size := (by have := hb2.size; simp at this; omega); clear hb2)
          · refine bodyPost_ret (v := .tuple #[.agg #[.int .i64 0, .int .i64 0], .int .i64 12]) (by simp [results, Try.results66, go_sem, x4, x5]) rfl ⟨_, rfl, .inr ⟨rfl, fun n u v k => HNO.out (by omega) n u v (fun s hs => k s (by omega))⟩, ?_⟩
            exact ((((bel2.setCell (p := ⟨w.heap.size, 0, none⟩) (Nat.le_refl _) _).setCell (p := ⟨w.heap.size, 1, none⟩) (Nat.le_refl _) _).setCell (p := ⟨w.heap.size + 1 + 1 + 1, 0, none⟩) (by show w.heap.size ≤ w.heap.size + 1 + 1 + 1; omega) _).setCell (p := ⟨w.heap.size + 1 + 1 + 1, 1, none⟩) (by show w.heap.size ≤ w.heap.size + 1 + 1 + 1; omega) _)
          · refine ⟨⟨2, a', b', by omega, by go_num, Lib.hid (HGO.out (by omega)), Lib.hid (H2.out.set (Nat.le_refl _) a' b'), ?_, ?_⟩, ?_⟩
            · rw [World.cell?_setCell_far _ _ _ _ (by show w.heap.size ≠ b8; omega), World.cell?_setCell_far _ _ _ _ (by show w.heap.size ≠ b8; omega)]; exact h82
            · simp; omega
            · simp [intOf]

        · go_wp2
          go_roundw
          case rel => exact ⟨1, a, b, by omega, rfl, hr'.out, hc'.out⟩
          case measure => simp [intOf]
    · have HR0 := Lib.hid hr
      have hcB := hc.lt
      have H1 := Lib.hid hc
      clear hr hc
      obtain ⟨wq, hwq⟩ : ∃ wq, wq = wr := ⟨_, rfl⟩
      rw [← hwq] at H1 hcB ⊢
      clear hwq
      go_wp2_with (go_at_call 87; refine (sides_any _).mono ?_; rintro e w3 ⟨rfl, hb3⟩)
      have h8 : w3.cell? ⟨wq.heap.size, 0, none⟩ = some (.int .i64 1) := (hb3.cell (p := ⟨wq.heap.size, 0, none⟩) (by simp)).trans (by rw [World.cell?_alloc_new]; rfl)
      have hb8 : wq.heap.size < w3.heap.size := by have := hb3.size; simp at this; omega
      have hc3 : HC w w3 w.heap.size a b S m d (.func (.func 67) #[] #[.pointer (some q)]) := H1.out.below (((Below.refl wq.heap.size wq).alloc (Nat.le_refl _) _).trans (hb3.mono (by simp)))
      obtain ⟨b8, hb8e⟩ : ∃ b8, wq.heap.size = b8 := ⟨_, rfl⟩
      rw [hb8e] at h8 hb8 hcB ⊢
      clear hb3 H1 hb8e
      go_loopw [20] (fun j wr => ∃ (k2 : Nat) (a b : Int), k2 ≤ 2 ∧ j = .int .i64 k2 ∧ Hid (Rng F l lo hi (2 + k2) a b) ∧ Hid (HC w wr w.heap.size a b S m d (.func (.func 67) #[] #[.pointer (some q)])) ∧ wr.cell? ⟨b8, 0, none⟩ = some (.int .i64 1) ∧ b8 < wr.heap.size) (fun j _ => 2 - (intOf j).toNat)
      case atStart => exact ⟨0, a, b, by omega, rfl, HR0, Lib.hid hc3, h8, hb8⟩
      case round =>
        clear HR0 hc3 h8 hb8
        obtain ⟨k2, a, b, hk2, rfl, hr', hc', h8, hb8⟩ := hrel
        obtain rfl | rfl | rfl : k2 = 0 ∨ k2 = 1 ∨ k2 = 2 := by omega
        · have hr := hr'.out; have hc := hc'.out; clear hr' hc'

          have HR := Lib.hid hr
          obtain ⟨c0, c1, f0, f1, c2, c3, c4, c5, f4, f5, lt, bel⟩ := hc
          have hab := hr.ab
          have la := hr.l0
          have lb := hr.h1
          clear hr
          have hix := hixs wr
          obtain ⟨hix0, hix1⟩ := hix
          obtain ⟨wn, hwn⟩ : ∃ wn, wn = wr.alloc (.cells #[.int .i64 (-1)] 3) := ⟨_, rfl⟩
          have hcn : HC w wn w.heap.size a b S m d (.func (.func 67) #[] #[.pointer (some q)]) := by rw [hwn]; exact HC.below ⟨c0, c1, f0, f1, c2, c3, c4, c5, f4, f5, lt, bel⟩ ((Below.refl _ _).alloc (Nat.le_refl _) _)
          have hsd : wn.cell? ⟨wr.heap.size, 0, none⟩ = some (.int .i64 (-1)) := by rw [hwn, World.cell?_alloc_new]; rfl
          have h8n : wn.cell? ⟨b8, 0, none⟩ = some (.int .i64 1) := by rw [hwn]; exact (((Below.refl wr.heap.size wr).alloc (Nat.le_refl _) _).cell (p := ⟨b8, 0, none⟩) hb8).trans h8
          have hszn : wr.heap.size < wn.heap.size := by rw [hwn]; simp
          have NA := Lib.hid (narrowed_any (p := Kp F l 2) (pa := ⟨w.heap.size + 1 + 1, 0, none⟩) (pb := ⟨b8, 0, none⟩) (pc := ⟨w.heap.size + 1, 0, none⟩) (pd := ⟨wr.heap.size, 0, none⟩) (lo := a) (hi := b) (by omega) hab (by omega) wn (fun wx n hn1 hn2 hbx => by
            have hcx := hcn.below hbx
            have k := (bcell hbx).1
            exact holding1_LG_1 (n := n) (side := (-1)) (F := F n 1) (HFO.out n 1 (by omega) (by omega)) HSO.out hmm wx hcx.c3 ((k _ _ (by omega)).trans h8n) hcx.c2 ((k _ _ hszn).trans hsd) (HSR.out wx hcx.bel) (fun wy hby => (HCG.out wy n (by omega) (by omega) (hcx.bel.trans (hby.mono hcx.bel.size))).mono (fun e w' ⟨blk, he, h0, h1, hb⟩ => ⟨blk, he, h1, hb⟩))))
          have HCN := Lib.hid hcn
          have HST := Lib.hid (fun a' b' (hna : Narrow (Kp F l 2) a b a' b') => HR.out.step (HMO.out 2 (by omega)) hna)
          unfold rightFn at NA
          rw [hwn] at NA
          clear hcn hsd h8n hwn hszn
          have hlt0 : w.heap.size < wr.heap.size := by omega
          have hlt1 : w.heap.size + 1 < wr.heap.size := by omega
          have hlt2 : w.heap.size + 1 + 1 < wr.heap.size := by omega
          have hlt3 : w.heap.size + 1 + 1 + 1 < wr.heap.size := by omega
          go_wp2_with (go_at_call 89; refine Calls.mono NA.out ?_; rintro e w2 ⟨a', b', rfl, hna, hb2⟩; obtain ⟨n1, n2, n3, n4, hgo, hno⟩ := HST.out a' b' hna; have HGO := Lib.hid hgo; have HNO := Lib.hid hno; clear hgo hno hna; have hc2 : HC w w2 w.heap.size a b S m d (.func (.func 67) #[] #[.pointer (some q)]) := HC.below ⟨c0, c1, f0, f1, c2, c3, c4, c5, f4, f5, lt, bel⟩ (((Below.refl wr.heap.size wr).alloc (Nat.le_refl _) _).trans (hb2.mono (by simp))); have H2 := Lib.hid hc2; obtain ⟨x0, x1, y0, y1, x2, x3, x4, x5, y4, y5, lt2, bel2⟩ := hc2; have h82 : w2.cell? ⟨b8, 0, none⟩ = some (.int .i64 1) := ((((Below.refl wr.heap.size wr).alloc (Nat.le_refl _) (.cells #[.int .i64 (-1)] 3)).trans (hb2.mono (by simp))).cell (p := ⟨b8, 0, none⟩) hb8).trans h8; have hs2 : wr.heap.size < w2.heap.size := (by have := hb2.size; simp at this; omega); clear hb2)
          · refine bodyPost_ret (v := .tuple #[.agg #[.int .i64 0, .int .i64 0], .int .i64 12]) (by simp [results, Try.results66, go_sem, x4, x5]) rfl ⟨_, rfl, .inr ⟨rfl, fun n u v k => HNO.out (by omega) n u v (fun s hs => k s (by omega))⟩, ?_⟩
            exact ((((bel2.setCell (p := ⟨w.heap.size, 0, none⟩) (Nat.le_refl _) _).setCell (p := ⟨w.heap.size, 1, none⟩) (Nat.le_refl _) _).setCell (p := ⟨w.heap.size + 1 + 1 + 1, 0, none⟩) (by show w.heap.size ≤ w.heap.size + 1 + 1 + 1; omega) _).setCell (p := ⟨w.heap.size + 1 + 1 + 1, 1, none⟩) (by show w.heap.size ≤ w.heap.size + 1 + 1 + 1; omega) _)
          · refine ⟨⟨1, a', b', by omega, by go_num, Lib.hid (HGO.out (by omega)), Lib.hid (H2.out.set (Nat.le_refl _) a' b'), ?_, ?_⟩, ?_⟩
            · rw [World.cell?_setCell_far _ _ _ _ (by show w.heap.size ≠ b8; omega), World.cell?_setCell_far _ _ _ _ (by show w.heap.size ≠ b8; omega)]; exact h82
            · simp; omega
            · simp [intOf]

        · have hr := hr'.out; have hc := hc'.out; clear hr' hc'

          have HR := Lib.hid hr
          obtain ⟨c0, c1, f0, f1, c2, c3, c4, c5, f4, f5, lt, bel⟩ := hc
          have hab := hr.ab
          have la := hr.l0
          have lb := hr.h1
          clear hr
          have hix := hixs wr
          obtain ⟨hix0, hix1⟩ := hix
          obtain ⟨wn, hwn⟩ : ∃ wn, wn = wr.alloc (.cells #[.int .i64 1] 3) := ⟨_, rfl⟩
          have hcn : HC w wn w.heap.size a b S m d (.func (.func 67) #[] #[.pointer (some q)]) := by rw [hwn]; exact HC.below ⟨c0, c1, f0, f1, c2, c3, c4, c5, f4, f5, lt, bel⟩ ((Below.refl _ _).alloc (Nat.le_refl _) _)
          have hsd : wn.cell? ⟨wr.heap.size, 0, none⟩ = some (.int .i64 1) := by rw [hwn, World.cell?_alloc_new]; rfl
          have h8n : wn.cell? ⟨b8, 0, none⟩ = some (.int .i64 1) := by rw [hwn]; exact (((Below.refl wr.heap.size wr).alloc (Nat.le_refl _) _).cell (p := ⟨b8, 0, none⟩) hb8).trans h8
          have hszn : wr.heap.size < wn.heap.size := by rw [hwn]; simp
          have NA := Lib.hid (narrowed_any (p := Kp F l 3) (pa := ⟨w.heap.size + 1 + 1, 0, none⟩) (pb := ⟨b8, 0, none⟩) (pc := ⟨w.heap.size + 1, 0, none⟩) (pd := ⟨wr.heap.size, 0, none⟩) (lo := a) (hi := b) (by omega) hab (by omega) wn (fun wx n hn1 hn2 hbx => by
            have hcx := hcn.below hbx
            have k := (bcell hbx).1
            exact holding1_LG_1 (n := n) (side := 1) (F := F n 1) (HFO.out n 1 (by omega) (by omega)) HSO.out hmm wx hcx.c3 ((k _ _ (by omega)).trans h8n) hcx.c2 ((k _ _ hszn).trans hsd) (HSR.out wx hcx.bel) (fun wy hby => (HCG.out wy n (by omega) (by omega) (hcx.bel.trans (hby.mono hcx.bel.size))).mono (fun e w' ⟨blk, he, h0, h1, hb⟩ => ⟨blk, he, h1, hb⟩))))
          have HCN := Lib.hid hcn
          have HST := Lib.hid (fun a' b' (hna : Narrow (Kp F l 3) a b a' b') => HR.out.step (HMO.out 3 (by omega)) hna)
          unfold rightFn at NA
          rw [hwn] at NA
          clear hcn hsd h8n hwn hszn
          have hlt0 : w.heap.size < wr.heap.size := by omega
          have hlt1 : w.heap.size + 1 < wr.heap.size := by omega
          have hlt2 : w.heap.size + 1 + 1 < wr.heap.size := by omega
          have hlt3 : w.heap.size + 1 + 1 + 1 < wr.heap.size := by omega
          go_wp2_with (go_at_call 89; refine Calls.mono NA.out ?_; rintro e w2 ⟨a', b', rfl, hna, hb2⟩; obtain ⟨n1, n2, n3, n4, hgo, hno⟩ := HST.out a' b' hna; have HGO := Lib.hid hgo; have HNO := Lib.hid hno; clear hgo hno hna; have hc2 : HC w w2 w.heap.size a b S m d (.func (.func 67) #[] #[.pointer (some q)]) := HC.below ⟨c0, c1, f0, f1, c2, c3, c4, c5, f4, f5, lt, bel⟩ (((Below.refl wr.heap.size wr).alloc (Nat.le_refl _) _).trans (hb2.mono (by simp))); have H2 := Lib.hid hc2; obtain ⟨x0, x1, y0, y1, x2, x3, x4, x5, y4, y5, lt2, bel2⟩ := hc2; have h82 : w2.cell? ⟨b8, 0, none⟩ = some (.int .i64 1) := ((((Below.refl wr.heap.size wr).alloc (Nat.le_refl _) (.cells #[.int .i64 1] 3)).trans (hb2.mono (by simp))).cell (p := ⟨b8, 0, none⟩) hb8).trans h8; have hs2 : wr.heap.size < w2.heap.size := (by have := hb2.size; simp at this; omega); clear hb2)
          · refine bodyPost_ret (v := .tuple #[.agg #[.int .i64 0, .int .i64 0], .int .i64 12]) (by simp [results, Try.results66, go_sem, x4, x5]) rfl ⟨_, rfl, .inr ⟨rfl, fun n u v k => HNO.out (by omega) n u v (fun s hs => k s (by omega))⟩, ?_⟩
            exact ((((bel2.setCell (p := ⟨w.heap.size, 0, none⟩) (Nat.le_refl _) _).setCell (p := ⟨w.heap.size, 1, none⟩) (Nat.le_refl _) _).setCell (p := ⟨w.heap.size + 1 + 1 + 1, 0, none⟩) (by show w.heap.size ≤ w.heap.size + 1 + 1 + 1; omega) _).setCell (p := ⟨w.heap.size + 1 + 1 + 1, 1, none⟩) (by show w.heap.size ≤ w.heap.size + 1 + 1 + 1; omega) _)
          · refine ⟨⟨2, a', b', by omega, by go_num, Lib.hid (HGO.out (by omega)), Lib.hid (H2.out.set (Nat.le_refl _) a' b'), ?_, ?_⟩, ?_⟩
            · rw [World.cell?_setCell_far _ _ _ _ (by show w.heap.size ≠ b8; omega), World.cell?_setCell_far _ _ _ _ (by show w.heap.size ≠ b8; omega)]; exact h82
            · simp; omega
            · simp [intOf]

        · go_wp2
          go_roundw
          case rel => exact ⟨2, a, b, by omega, rfl, hr'.out, hc'.out⟩
          case measure => simp [intOf]
    · obtain ⟨c0, c1, f0, f1, c2, c3, c4, c5, f4, f5, lt, bel⟩ := hc
      have HR := Lib.hid hr
      clear hr
      go_wp2
      refine bodyPost_ret (v := .tuple #[.agg #[.int .i64 a, .int .i64 b], .int .i64 0]) (by simp [results, Try.results66, go_sem, c4, c5]) rfl ⟨_, rfl, .inl ⟨a, b, rfl, HR.out⟩, ?_⟩
      exact (bel.setCell (p := ⟨w.heap.size + 1 + 1 + 1, 0, none⟩) (by show w.heap.size ≤ w.heap.size + 1 + 1 + 1; omega) _).setCell (p := ⟨w.heap.size + 1 + 1 + 1, 1, none⟩) (by show w.heap.size ≤ w.heap.size + 1 + 1 + 1; omega) _

set_option maxHeartbeats 4000000 in
set_option maxRecDepth 20000 in
theorem holding_GP {F : Int → Nat → FitD} {lo hi : Int} {S : Option Addr} {m d : Nat} {q q2 : Addr} {l : List Sn} (hl0 : 0 ≤ lo) (hlh : lo ≤ hi) (hh : hi ≤ 600000) (hF : ∀ n j, lo ≤ n → n ≤ hi → FdOk (F n j)) (hs : ∀ s ∈ l, SnOk s) (hmm : m ≤ 1000) (hmo : ∀ t, t < 4 → Up (Kp F l t) lo hi ∨ Dn (Kp F l t) lo hi)
    (w : World) (hS : SnRow w S m l)
    (CG : ∀ wx n, lo ≤ n → n ≤ hi → Below w.heap.size w wx → Calls Try.prog 71 #[.int .i64 n, .pointer (some q), .pointer (some q2)] wx fun e w' => ∃ blk, e = .returned (.slice (some ⟨blk, 0, none⟩) 2 2) ∧ FitAt w' blk 0 (F n 0) ∧ FitAt w' blk 5 (F n 1) ∧ Below wx.heap.size wx w') :
    Calls Try.prog 66 #[.agg #[.int .i64 lo, .int .i64 hi], .slice S m d, .func (.func 71) #[] #[.pointer (some q), .pointer (some q2)]] w fun e w' => ∃ v, e = .returned v ∧ HoldsOut F l lo hi v ∧ Below w.heap.size w w' := by
  have HCG := Lib.hid CG
  have HFO := Lib.hid (fun n j h1 h2 => hF n j h1 h2)
  have HSO := Lib.hid hs
  have HMO := Lib.hid hmo
  have HSR := Lib.hid (fun wx (hb : Below w.heap.size w wx) => hS.below hb)
  have hixs := fun w => index_two (x := .int .i64 (-1)) (y := .int .i64 1) Try.underlying131 Try.sizeOf3 Try.isAgg3 w
  have hB0 : Below w.heap.size w ((((w.alloc (.cells #[.int .i64 lo, .int .i64 hi] 48)).alloc (.cells #[.slice S m d] 23)).alloc (.cells #[(.func (.func 71) #[] #[.pointer (some q), .pointer (some q2)])] 107)).alloc (.cells #[.int .i64 0, .int .i64 0] 48)) := (((((Below.refl _ _).alloc (Nat.le_refl _) _).alloc (by simp) _).alloc (by simp; omega) _).alloc (by simp; omega) _)
  have CG0 := Lib.hid (CG ((((w.alloc (.cells #[.int .i64 lo, .int .i64 hi] 48)).alloc (.cells #[.slice S m d] 23)).alloc (.cells #[(.func (.func 71) #[] #[.pointer (some q), .pointer (some q2)])] 107)).alloc (.cells #[.int .i64 0, .int .i64 0] 48)) lo (Int.le_refl _) hlh hB0)
  clear CG hF hs hmo hS hB0
  go_enter Try.func66, Try.ntmps66
  go_wp2_with (go_at_call 71; refine Calls.mono CG0.out ?_; rintro e w1 ⟨blk, rfl, -, -, hb1⟩)
  have hc1 : HC w w1 w.heap.size lo hi S m d (.func (.func 71) #[] #[.pointer (some q), .pointer (some q2)]) := by
    have hsz : ((((w.alloc (.cells #[.int .i64 lo, .int .i64 hi] 48)).alloc (.cells #[.slice S m d] 23)).alloc (.cells #[(.func (.func 71) #[] #[.pointer (some q), .pointer (some q2)])] 107)).alloc (.cells #[.int .i64 0, .int .i64 0] 48)).heap.size = w.heap.size + 4 := by simp
    have h0 : HC w ((((w.alloc (.cells #[.int .i64 lo, .int .i64 hi] 48)).alloc (.cells #[.slice S m d] 23)).alloc (.cells #[(.func (.func 71) #[] #[.pointer (some q), .pointer (some q2)])] 107)).alloc (.cells #[.int .i64 0, .int .i64 0] 48)) w.heap.size lo hi S m d (.func (.func 71) #[] #[.pointer (some q), .pointer (some q2)]) := ⟨by simp [go_sem], by simp [go_sem], by simp [go_sem], by simp [go_sem], by simp [go_sem], by simp [go_sem], by simp [go_sem], by simp [go_sem], by simp [go_sem], by simp [go_sem], by rw [hsz]; omega, (((((Below.refl _ _).alloc (Nat.le_refl _) _).alloc (by simp) _).alloc (by simp; omega) _).alloc (by simp; omega) _)⟩
    exact h0.below hb1
  clear hb1 CG0
  go_loopw [16] (fun i wr => ∃ (k : Nat) (a b : Int), k ≤ 2 ∧ i = .int .i64 k ∧ Rng F l lo hi (2 * k) a b ∧ HC w wr w.heap.size a b S m d (.func (.func 71) #[] #[.pointer (some q), .pointer (some q2)])) (fun i _ => 2 - (intOf i).toNat)
  case atStart => exact ⟨0, lo, hi, by omega, rfl, Rng.start hlh, hc1⟩
  case round =>
    obtain ⟨k, a, b, hk, rfl, hr, hc⟩ := hrel
    obtain rfl | rfl | rfl : k = 0 ∨ k = 1 ∨ k = 2 := by omega
    · have HR0 := Lib.hid hr
      have hcB := hc.lt
      have H1 := Lib.hid hc
      clear hr hc
      obtain ⟨wq, hwq⟩ : ∃ wq, wq = wr := ⟨_, rfl⟩
      rw [← hwq] at H1 hcB ⊢
      clear hwq
      go_wp2_with (go_at_call 87; refine (sides_any _).mono ?_; rintro e w3 ⟨rfl, hb3⟩)
      have h8 : w3.cell? ⟨wq.heap.size, 0, none⟩ = some (.int .i64 0) := (hb3.cell (p := ⟨wq.heap.size, 0, none⟩) (by simp)).trans (by rw [World.cell?_alloc_new]; rfl)
      have hb8 : wq.heap.size < w3.heap.size := by have := hb3.size; simp at this; omega
      have hc3 : HC w w3 w.heap.size a b S m d (.func (.func 71) #[] #[.pointer (some q), .pointer (some q2)]) := H1.out.below (((Below.refl wq.heap.size wq).alloc (Nat.le_refl _) _).trans (hb3.mono (by simp)))
      obtain ⟨b8, hb8e⟩ : ∃ b8, wq.heap.size = b8 := ⟨_, rfl⟩
      rw [hb8e] at h8 hb8 hcB ⊢
      clear hb3 H1 hb8e
      go_loopw [20] (fun j wr => ∃ (k2 : Nat) (a b : Int), k2 ≤ 2 ∧ j = .int .i64 k2 ∧ Hid (Rng F l lo hi (0 + k2) a b) ∧ Hid (HC w wr w.heap.size a b S m d (.func (.func 71) #[] #[.pointer (some q), .pointer (some q2)])) ∧ wr.cell? ⟨b8, 0, none⟩ = some (.int .i64 0) ∧ b8 < wr.heap.size) (fun j _ => 2 - (intOf j).toNat)
      case atStart => exact ⟨0, a, b, by omega, rfl, HR0, Lib.hid hc3, h8, hb8⟩
      case round =>
        clear HR0 hc3 h8 hb8
        obtain ⟨k2, a, b, hk2, rfl, hr', hc', h8, hb8⟩ := hrel
        obtain rfl | rfl | rfl : k2 = 0 ∨ k2 = 1 ∨ k2 = 2 := by omega
        · have hr := hr'.out; have hc := hc'.out; clear hr' hc'

          have HR := Lib.hid hr
          obtain ⟨c0, c1, f0, f1, c2, c3, c4, c5, f4, f5, lt, bel⟩ := hc
          have hab := hr.ab
          have la := hr.l0
          have lb := hr.h1
          clear hr
          have hix := hixs wr
          obtain ⟨hix0, hix1⟩ := hix
          obtain ⟨wn, hwn⟩ : ∃ wn, wn = wr.alloc (.cells #[.int .i64 (-1)] 3) := ⟨_, rfl⟩
          have hcn : HC w wn w.heap.size a b S m d (.func (.func 71) #[] #[.pointer (some q), .pointer (some q2)]) := by rw [hwn]; exact HC.below ⟨c0, c1, f0, f1, c2, c3, c4, c5, f4, f5, lt, bel⟩ ((Below.refl _ _).alloc (Nat.le_refl _) _)
          have hsd : wn.cell? ⟨wr.heap.size, 0, none⟩ = some (.int .i64 (-1)) := by rw [hwn, World.cell?_alloc_new]; rfl
          have h8n : wn.cell? ⟨b8, 0, none⟩ = some (.int .i64 0) := by rw [hwn]; exact (((Below.refl wr.heap.size wr).alloc (Nat.le_refl _) _).cell (p := ⟨b8, 0, none⟩) hb8).trans h8
          have hszn : wr.heap.size < wn.heap.size := by rw [hwn]; simp
          have NA := Lib.hid (narrowed_any (p := Kp F l 0) (pa := ⟨w.heap.size + 1 + 1, 0, none⟩) (pb := ⟨b8, 0, none⟩) (pc := ⟨w.heap.size + 1, 0, none⟩) (pd := ⟨wr.heap.size, 0, none⟩) (lo := a) (hi := b) (by omega) hab (by omega) wn (fun wx n hn1 hn2 hbx => by
            have hcx := hcn.below hbx
            have k := (bcell hbx).1
            exact holding1_GP_0 (n := n) (side := (-1)) (F := F n 0) (HFO.out n 0 (by omega) (by omega)) HSO.out hmm wx hcx.c3 ((k _ _ (by omega)).trans h8n) hcx.c2 ((k _ _ hszn).trans hsd) (HSR.out wx hcx.bel) (fun wy hby => (HCG.out wy n (by omega) (by omega) (hcx.bel.trans (hby.mono hcx.bel.size))).mono (fun e w' ⟨blk, he, h0, h1, hb⟩ => ⟨blk, he, h0, hb⟩))))
          have HCN := Lib.hid hcn
          have HST := Lib.hid (fun a' b' (hna : Narrow (Kp F l 0) a b a' b') => HR.out.step (HMO.out 0 (by omega)) hna)
          unfold rightFn at NA
          rw [hwn] at NA
          clear hcn hsd h8n hwn hszn
          have hlt0 : w.heap.size < wr.heap.size := by omega
          have hlt1 : w.heap.size + 1 < wr.heap.size := by omega
          have hlt2 : w.heap.size + 1 + 1 < wr.heap.size := by omega
          have hlt3 : w.heap.size + 1 + 1 + 1 < wr.heap.size := by omega
          go_wp2_with (go_at_call 89; refine Calls.mono NA.out ?_; rintro e w2 ⟨a', b', rfl, hna, hb2⟩; obtain ⟨n1, n2, n3, n4, hgo, hno⟩ := HST.out a' b' hna; have HGO := Lib.hid hgo; have HNO := Lib.hid hno; clear hgo hno hna; have hc2 : HC w w2 w.heap.size a b S m d (.func (.func 71) #[] #[.pointer (some q), .pointer (some q2)]) := HC.below ⟨c0, c1, f0, f1, c2, c3, c4, c5, f4, f5, lt, bel⟩ (((Below.refl wr.heap.size wr).alloc (Nat.le_refl _) _).trans (hb2.mono (by simp))); have H2 := Lib.hid hc2; obtain ⟨x0, x1, y0, y1, x2, x3, x4, x5, y4, y5, lt2, bel2⟩ := hc2; have h82 : w2.cell? ⟨b8, 0, none⟩ = some (.int .i64 0) := ((((Below.refl wr.heap.size wr).alloc (Nat.le_refl _) (.cells #[.int .i64 (-1)] 3)).trans (hb2.mono (by simp))).cell (p := ⟨b8, 0, none⟩) hb8).trans h8; have hs2 : wr.heap.size < w2.heap.size := (by have := hb2.size; simp at this; omega); clear hb2)
          · refine bodyPost_ret (v := .tuple #[.agg #[.int .i64 0, .int .i64 0], .int .i64 12]) (by simp [results, Try.results66, go_sem, x4, x5]) rfl ⟨_, rfl, .inr ⟨rfl, fun n u v k => HNO.out (by omega) n u v (fun s hs => k s (by omega))⟩, ?_⟩
            exact ((((bel2.setCell (p := ⟨w.heap.size, 0, none⟩) (Nat.le_refl _) _).setCell (p := ⟨w.heap.size, 1, none⟩) (Nat.le_refl _) _).setCell (p := ⟨w.heap.size + 1 + 1 + 1, 0, none⟩) (by show w.heap.size ≤ w.heap.size + 1 + 1 + 1; omega) _).setCell (p := ⟨w.heap.size + 1 + 1 + 1, 1, none⟩) (by show w.heap.size ≤ w.heap.size + 1 + 1 + 1; omega) _)
          · refine ⟨⟨1, a', b', by omega, by go_num, Lib.hid (HGO.out (by omega)), Lib.hid (H2.out.set (Nat.le_refl _) a' b'), ?_, ?_⟩, ?_⟩
            · rw [World.cell?_setCell_far _ _ _ _ (by show w.heap.size ≠ b8; omega), World.cell?_setCell_far _ _ _ _ (by show w.heap.size ≠ b8; omega)]; exact h82
            · simp; omega
            · simp [intOf]

        · have hr := hr'.out; have hc := hc'.out; clear hr' hc'

          have HR := Lib.hid hr
          obtain ⟨c0, c1, f0, f1, c2, c3, c4, c5, f4, f5, lt, bel⟩ := hc
          have hab := hr.ab
          have la := hr.l0
          have lb := hr.h1
          clear hr
          have hix := hixs wr
          obtain ⟨hix0, hix1⟩ := hix
          obtain ⟨wn, hwn⟩ : ∃ wn, wn = wr.alloc (.cells #[.int .i64 1] 3) := ⟨_, rfl⟩
          have hcn : HC w wn w.heap.size a b S m d (.func (.func 71) #[] #[.pointer (some q), .pointer (some q2)]) := by rw [hwn]; exact HC.below ⟨c0, c1, f0, f1, c2, c3, c4, c5, f4, f5, lt, bel⟩ ((Below.refl _ _).alloc (Nat.le_refl _) _)
          have hsd : wn.cell? ⟨wr.heap.size, 0, none⟩ = some (.int .i64 1) := by rw [hwn, World.cell?_alloc_new]; rfl
          have h8n : wn.cell? ⟨b8, 0, none⟩ = some (.int .i64 0) := by rw [hwn]; exact (((Below.refl wr.heap.size wr).alloc (Nat.le_refl _) _).cell (p := ⟨b8, 0, none⟩) hb8).trans h8
          have hszn : wr.heap.size < wn.heap.size := by rw [hwn]; simp
          have NA := Lib.hid (narrowed_any (p := Kp F l 1) (pa := ⟨w.heap.size + 1 + 1, 0, none⟩) (pb := ⟨b8, 0, none⟩) (pc := ⟨w.heap.size + 1, 0, none⟩) (pd := ⟨wr.heap.size, 0, none⟩) (lo := a) (hi := b) (by omega) hab (by omega) wn (fun wx n hn1 hn2 hbx => by
            have hcx := hcn.below hbx
            have k := (bcell hbx).1
            exact holding1_GP_0 (n := n) (side := 1) (F := F n 0) (HFO.out n 0 (by omega) (by omega)) HSO.out hmm wx hcx.c3 ((k _ _ (by omega)).trans h8n) hcx.c2 ((k _ _ hszn).trans hsd) (HSR.out wx hcx.bel) (fun wy hby => (HCG.out wy n (by omega) (by omega) (hcx.bel.trans (hby.mono hcx.bel.size))).mono (fun e w' ⟨blk, he, h0, h1, hb⟩ => ⟨blk, he, h0, hb⟩))))
          have HCN := Lib.hid hcn
          have HST := Lib.hid (fun a' b' (hna : Narrow (Kp F l 1) a b a' b') => HR.out.step (HMO.out 1 (by omega)) hna)
          unfold rightFn at NA
          rw [hwn] at NA
          clear hcn hsd h8n hwn hszn
          have hlt0 : w.heap.size < wr.heap.size := by omega
          have hlt1 : w.heap.size + 1 < wr.heap.size := by omega
          have hlt2 : w.heap.size + 1 + 1 < wr.heap.size := by omega
          have hlt3 : w.heap.size + 1 + 1 + 1 < wr.heap.size := by omega
          go_wp2_with (go_at_call 89; refine Calls.mono NA.out ?_; rintro e w2 ⟨a', b', rfl, hna, hb2⟩; obtain ⟨n1, n2, n3, n4, hgo, hno⟩ := HST.out a' b' hna; have HGO := Lib.hid hgo; have HNO := Lib.hid hno; clear hgo hno hna; have hc2 : HC w w2 w.heap.size a b S m d (.func (.func 71) #[] #[.pointer (some q), .pointer (some q2)]) := HC.below ⟨c0, c1, f0, f1, c2, c3, c4, c5, f4, f5, lt, bel⟩ (((Below.refl wr.heap.size wr).alloc (Nat.le_refl _) _).trans (hb2.mono (by simp))); have H2 := Lib.hid hc2; obtain ⟨x0, x1, y0, y1, x2, x3, x4, x5, y4, y5, lt2, bel2⟩ := hc2; have h82 : w2.cell? ⟨b8, 0, none⟩ = some (.int .i64 0) := ((((Below.refl wr.heap.size wr).alloc (Nat.le_refl _) (.cells #[.int .i64 1] 3)).trans (hb2.mono (by simp))).cell (p := ⟨b8, 0, none⟩) hb8).trans h8; have hs2 : wr.heap.size < w2.heap.size := (by have := hb2.size; simp at this; omega); clear hb2)
          · refine bodyPost_ret (v := .tuple #[.agg #[.int .i64 0, .int .i64 0], .int .i64 12]) (by simp [results, Try.results66, go_sem, x4, x5]) rfl ⟨_, rfl, .inr ⟨rfl, fun n u v k => HNO.out (by omega) n u v (fun s hs => k s (by omega))⟩, ?_⟩
            exact ((((bel2.setCell (p := ⟨w.heap.size, 0, none⟩) (Nat.le_refl _) _).setCell (p := ⟨w.heap.size, 1, none⟩) (Nat.le_refl _) _).setCell (p := ⟨w.heap.size + 1 + 1 + 1, 0, none⟩) (by show w.heap.size ≤ w.heap.size + 1 + 1 + 1; omega) _).setCell (p := ⟨w.heap.size + 1 + 1 + 1, 1, none⟩) (by show w.heap.size ≤ w.heap.size + 1 + 1 + 1; omega) _)
          · refine ⟨⟨2, a', b', by omega, by go_num, Lib.hid (HGO.out (by omega)), Lib.hid (H2.out.set (Nat.le_refl _) a' b'), ?_, ?_⟩, ?_⟩
            · rw [World.cell?_setCell_far _ _ _ _ (by show w.heap.size ≠ b8; omega), World.cell?_setCell_far _ _ _ _ (by show w.heap.size ≠ b8; omega)]; exact h82
            · simp; omega
            · simp [intOf]

        · go_wp2
          go_roundw
          case rel => exact ⟨1, a, b, by omega, rfl, hr'.out, hc'.out⟩
          case measure => simp [intOf]
    · have HR0 := Lib.hid hr
      have hcB := hc.lt
      have H1 := Lib.hid hc
      clear hr hc
      obtain ⟨wq, hwq⟩ : ∃ wq, wq = wr := ⟨_, rfl⟩
      rw [← hwq] at H1 hcB ⊢
      clear hwq
      go_wp2_with (go_at_call 87; refine (sides_any _).mono ?_; rintro e w3 ⟨rfl, hb3⟩)
      have h8 : w3.cell? ⟨wq.heap.size, 0, none⟩ = some (.int .i64 1) := (hb3.cell (p := ⟨wq.heap.size, 0, none⟩) (by simp)).trans (by rw [World.cell?_alloc_new]; rfl)
      have hb8 : wq.heap.size < w3.heap.size := by have := hb3.size; simp at this; omega
      have hc3 : HC w w3 w.heap.size a b S m d (.func (.func 71) #[] #[.pointer (some q), .pointer (some q2)]) := H1.out.below (((Below.refl wq.heap.size wq).alloc (Nat.le_refl _) _).trans (hb3.mono (by simp)))
      obtain ⟨b8, hb8e⟩ : ∃ b8, wq.heap.size = b8 := ⟨_, rfl⟩
      rw [hb8e] at h8 hb8 hcB ⊢
      clear hb3 H1 hb8e
      go_loopw [20] (fun j wr => ∃ (k2 : Nat) (a b : Int), k2 ≤ 2 ∧ j = .int .i64 k2 ∧ Hid (Rng F l lo hi (2 + k2) a b) ∧ Hid (HC w wr w.heap.size a b S m d (.func (.func 71) #[] #[.pointer (some q), .pointer (some q2)])) ∧ wr.cell? ⟨b8, 0, none⟩ = some (.int .i64 1) ∧ b8 < wr.heap.size) (fun j _ => 2 - (intOf j).toNat)
      case atStart => exact ⟨0, a, b, by omega, rfl, HR0, Lib.hid hc3, h8, hb8⟩
      case round =>
        clear HR0 hc3 h8 hb8
        obtain ⟨k2, a, b, hk2, rfl, hr', hc', h8, hb8⟩ := hrel
        obtain rfl | rfl | rfl : k2 = 0 ∨ k2 = 1 ∨ k2 = 2 := by omega
        · have hr := hr'.out; have hc := hc'.out; clear hr' hc'

          have HR := Lib.hid hr
          obtain ⟨c0, c1, f0, f1, c2, c3, c4, c5, f4, f5, lt, bel⟩ := hc
          have hab := hr.ab
          have la := hr.l0
          have lb := hr.h1
          clear hr
          have hix := hixs wr
          obtain ⟨hix0, hix1⟩ := hix
          obtain ⟨wn, hwn⟩ : ∃ wn, wn = wr.alloc (.cells #[.int .i64 (-1)] 3) := ⟨_, rfl⟩
          have hcn : HC w wn w.heap.size a b S m d (.func (.func 71) #[] #[.pointer (some q), .pointer (some q2)]) := by rw [hwn]; exact HC.below ⟨c0, c1, f0, f1, c2, c3, c4, c5, f4, f5, lt, bel⟩ ((Below.refl _ _).alloc (Nat.le_refl _) _)
          have hsd : wn.cell? ⟨wr.heap.size, 0, none⟩ = some (.int .i64 (-1)) := by rw [hwn, World.cell?_alloc_new]; rfl
          have h8n : wn.cell? ⟨b8, 0, none⟩ = some (.int .i64 1) := by rw [hwn]; exact (((Below.refl wr.heap.size wr).alloc (Nat.le_refl _) _).cell (p := ⟨b8, 0, none⟩) hb8).trans h8
          have hszn : wr.heap.size < wn.heap.size := by rw [hwn]; simp
          have NA := Lib.hid (narrowed_any (p := Kp F l 2) (pa := ⟨w.heap.size + 1 + 1, 0, none⟩) (pb := ⟨b8, 0, none⟩) (pc := ⟨w.heap.size + 1, 0, none⟩) (pd := ⟨wr.heap.size, 0, none⟩) (lo := a) (hi := b) (by omega) hab (by omega) wn (fun wx n hn1 hn2 hbx => by
            have hcx := hcn.below hbx
            have k := (bcell hbx).1
            exact holding1_GP_1 (n := n) (side := (-1)) (F := F n 1) (HFO.out n 1 (by omega) (by omega)) HSO.out hmm wx hcx.c3 ((k _ _ (by omega)).trans h8n) hcx.c2 ((k _ _ hszn).trans hsd) (HSR.out wx hcx.bel) (fun wy hby => (HCG.out wy n (by omega) (by omega) (hcx.bel.trans (hby.mono hcx.bel.size))).mono (fun e w' ⟨blk, he, h0, h1, hb⟩ => ⟨blk, he, h1, hb⟩))))
          have HCN := Lib.hid hcn
          have HST := Lib.hid (fun a' b' (hna : Narrow (Kp F l 2) a b a' b') => HR.out.step (HMO.out 2 (by omega)) hna)
          unfold rightFn at NA
          rw [hwn] at NA
          clear hcn hsd h8n hwn hszn
          have hlt0 : w.heap.size < wr.heap.size := by omega
          have hlt1 : w.heap.size + 1 < wr.heap.size := by omega
          have hlt2 : w.heap.size + 1 + 1 < wr.heap.size := by omega
          have hlt3 : w.heap.size + 1 + 1 + 1 < wr.heap.size := by omega
          go_wp2_with (go_at_call 89; refine Calls.mono NA.out ?_; rintro e w2 ⟨a', b', rfl, hna, hb2⟩; obtain ⟨n1, n2, n3, n4, hgo, hno⟩ := HST.out a' b' hna; have HGO := Lib.hid hgo; have HNO := Lib.hid hno; clear hgo hno hna; have hc2 : HC w w2 w.heap.size a b S m d (.func (.func 71) #[] #[.pointer (some q), .pointer (some q2)]) := HC.below ⟨c0, c1, f0, f1, c2, c3, c4, c5, f4, f5, lt, bel⟩ (((Below.refl wr.heap.size wr).alloc (Nat.le_refl _) _).trans (hb2.mono (by simp))); have H2 := Lib.hid hc2; obtain ⟨x0, x1, y0, y1, x2, x3, x4, x5, y4, y5, lt2, bel2⟩ := hc2; have h82 : w2.cell? ⟨b8, 0, none⟩ = some (.int .i64 1) := ((((Below.refl wr.heap.size wr).alloc (Nat.le_refl _) (.cells #[.int .i64 (-1)] 3)).trans (hb2.mono (by simp))).cell (p := ⟨b8, 0, none⟩) hb8).trans h8; have hs2 : wr.heap.size < w2.heap.size := (by have := hb2.size; simp at this; omega); clear hb2)
          · refine bodyPost_ret (v := .tuple #[.agg #[.int .i64 0, .int .i64 0], .int .i64 12]) (by simp [results, Try.results66, go_sem, x4, x5]) rfl ⟨_, rfl, .inr ⟨rfl, fun n u v k => HNO.out (by omega) n u v (fun s hs => k s (by omega))⟩, ?_⟩
            exact ((((bel2.setCell (p := ⟨w.heap.size, 0, none⟩) (Nat.le_refl _) _).setCell (p := ⟨w.heap.size, 1, none⟩) (Nat.le_refl _) _).setCell (p := ⟨w.heap.size + 1 + 1 + 1, 0, none⟩) (by show w.heap.size ≤ w.heap.size + 1 + 1 + 1; omega) _).setCell (p := ⟨w.heap.size + 1 + 1 + 1, 1, none⟩) (by show w.heap.size ≤ w.heap.size + 1 + 1 + 1; omega) _)
          · refine ⟨⟨1, a', b', by omega, by go_num, Lib.hid (HGO.out (by omega)), Lib.hid (H2.out.set (Nat.le_refl _) a' b'), ?_, ?_⟩, ?_⟩
            · rw [World.cell?_setCell_far _ _ _ _ (by show w.heap.size ≠ b8; omega), World.cell?_setCell_far _ _ _ _ (by show w.heap.size ≠ b8; omega)]; exact h82
            · simp; omega
            · simp [intOf]

        · have hr := hr'.out; have hc := hc'.out; clear hr' hc'

          have HR := Lib.hid hr
          obtain ⟨c0, c1, f0, f1, c2, c3, c4, c5, f4, f5, lt, bel⟩ := hc
          have hab := hr.ab
          have la := hr.l0
          have lb := hr.h1
          clear hr
          have hix := hixs wr
          obtain ⟨hix0, hix1⟩ := hix
          obtain ⟨wn, hwn⟩ : ∃ wn, wn = wr.alloc (.cells #[.int .i64 1] 3) := ⟨_, rfl⟩
          have hcn : HC w wn w.heap.size a b S m d (.func (.func 71) #[] #[.pointer (some q), .pointer (some q2)]) := by rw [hwn]; exact HC.below ⟨c0, c1, f0, f1, c2, c3, c4, c5, f4, f5, lt, bel⟩ ((Below.refl _ _).alloc (Nat.le_refl _) _)
          have hsd : wn.cell? ⟨wr.heap.size, 0, none⟩ = some (.int .i64 1) := by rw [hwn, World.cell?_alloc_new]; rfl
          have h8n : wn.cell? ⟨b8, 0, none⟩ = some (.int .i64 1) := by rw [hwn]; exact (((Below.refl wr.heap.size wr).alloc (Nat.le_refl _) _).cell (p := ⟨b8, 0, none⟩) hb8).trans h8
          have hszn : wr.heap.size < wn.heap.size := by rw [hwn]; simp
          have NA := Lib.hid (narrowed_any (p := Kp F l 3) (pa := ⟨w.heap.size + 1 + 1, 0, none⟩) (pb := ⟨b8, 0, none⟩) (pc := ⟨w.heap.size + 1, 0, none⟩) (pd := ⟨wr.heap.size, 0, none⟩) (lo := a) (hi := b) (by omega) hab (by omega) wn (fun wx n hn1 hn2 hbx => by
            have hcx := hcn.below hbx
            have k := (bcell hbx).1
            exact holding1_GP_1 (n := n) (side := 1) (F := F n 1) (HFO.out n 1 (by omega) (by omega)) HSO.out hmm wx hcx.c3 ((k _ _ (by omega)).trans h8n) hcx.c2 ((k _ _ hszn).trans hsd) (HSR.out wx hcx.bel) (fun wy hby => (HCG.out wy n (by omega) (by omega) (hcx.bel.trans (hby.mono hcx.bel.size))).mono (fun e w' ⟨blk, he, h0, h1, hb⟩ => ⟨blk, he, h1, hb⟩))))
          have HCN := Lib.hid hcn
          have HST := Lib.hid (fun a' b' (hna : Narrow (Kp F l 3) a b a' b') => HR.out.step (HMO.out 3 (by omega)) hna)
          unfold rightFn at NA
          rw [hwn] at NA
          clear hcn hsd h8n hwn hszn
          have hlt0 : w.heap.size < wr.heap.size := by omega
          have hlt1 : w.heap.size + 1 < wr.heap.size := by omega
          have hlt2 : w.heap.size + 1 + 1 < wr.heap.size := by omega
          have hlt3 : w.heap.size + 1 + 1 + 1 < wr.heap.size := by omega
          go_wp2_with (go_at_call 89; refine Calls.mono NA.out ?_; rintro e w2 ⟨a', b', rfl, hna, hb2⟩; obtain ⟨n1, n2, n3, n4, hgo, hno⟩ := HST.out a' b' hna; have HGO := Lib.hid hgo; have HNO := Lib.hid hno; clear hgo hno hna; have hc2 : HC w w2 w.heap.size a b S m d (.func (.func 71) #[] #[.pointer (some q), .pointer (some q2)]) := HC.below ⟨c0, c1, f0, f1, c2, c3, c4, c5, f4, f5, lt, bel⟩ (((Below.refl wr.heap.size wr).alloc (Nat.le_refl _) _).trans (hb2.mono (by simp))); have H2 := Lib.hid hc2; obtain ⟨x0, x1, y0, y1, x2, x3, x4, x5, y4, y5, lt2, bel2⟩ := hc2; have h82 : w2.cell? ⟨b8, 0, none⟩ = some (.int .i64 1) := ((((Below.refl wr.heap.size wr).alloc (Nat.le_refl _) (.cells #[.int .i64 1] 3)).trans (hb2.mono (by simp))).cell (p := ⟨b8, 0, none⟩) hb8).trans h8; have hs2 : wr.heap.size < w2.heap.size := (by have := hb2.size; simp at this; omega); clear hb2)
          · refine bodyPost_ret (v := .tuple #[.agg #[.int .i64 0, .int .i64 0], .int .i64 12]) (by simp [results, Try.results66, go_sem, x4, x5]) rfl ⟨_, rfl, .inr ⟨rfl, fun n u v k => HNO.out (by omega) n u v (fun s hs => k s (by omega))⟩, ?_⟩
            exact ((((bel2.setCell (p := ⟨w.heap.size, 0, none⟩) (Nat.le_refl _) _).setCell (p := ⟨w.heap.size, 1, none⟩) (Nat.le_refl _) _).setCell (p := ⟨w.heap.size + 1 + 1 + 1, 0, none⟩) (by show w.heap.size ≤ w.heap.size + 1 + 1 + 1; omega) _).setCell (p := ⟨w.heap.size + 1 + 1 + 1, 1, none⟩) (by show w.heap.size ≤ w.heap.size + 1 + 1 + 1; omega) _)
          · refine ⟨⟨2, a', b', by omega, by go_num, Lib.hid (HGO.out (by omega)), Lib.hid (H2.out.set (Nat.le_refl _) a' b'), ?_, ?_⟩, ?_⟩
            · rw [World.cell?_setCell_far _ _ _ _ (by show w.heap.size ≠ b8; omega), World.cell?_setCell_far _ _ _ _ (by show w.heap.size ≠ b8; omega)]; exact h82
            · simp; omega
            · simp [intOf]

        · go_wp2
          go_roundw
          case rel => exact ⟨2, a, b, by omega, rfl, hr'.out, hc'.out⟩
          case measure => simp [intOf]
    · obtain ⟨c0, c1, f0, f1, c2, c3, c4, c5, f4, f5, lt, bel⟩ := hc
      have HR := Lib.hid hr
      clear hr
      go_wp2
      refine bodyPost_ret (v := .tuple #[.agg #[.int .i64 a, .int .i64 b], .int .i64 0]) (by simp [results, Try.results66, go_sem, c4, c5]) rfl ⟨_, rfl, .inl ⟨a, b, rfl, HR.out⟩, ?_⟩
      exact (bel.setCell (p := ⟨w.heap.size + 1 + 1 + 1, 0, none⟩) (by show w.heap.size ≤ w.heap.size + 1 + 1 + 1; omega) _).setCell (p := ⟨w.heap.size + 1 + 1 + 1, 1, none⟩) (by show w.heap.size ≤ w.heap.size + 1 + 1 + 1; omega) _
end Go.Proofs.Ytffmaoalnilkkaa
