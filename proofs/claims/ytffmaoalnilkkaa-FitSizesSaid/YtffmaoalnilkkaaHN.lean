/- Walks over the fits: the least clearance at the moistures of a map. -/
import Derived.Test.YtffmaoalnilkkaaHM
import Derived.Test.YtffmaoalnilkkaaFG
import Derived.Maps.RangeWalk
namespace Go.Proofs.Ytffmaoalnilkkaa
open Go.RowKit Go.Maps

def leastAtS (tf : Int → Int) (o i : List Md) : Int := sumL (fun g => share (tf g) o i g) (gsOf (o ++ i))
def doneS (left : Lit → Bool) (f : Int → Int) (gs : List Int) : Int := sumL (fun g => bif left (intL g) then 0 else f g) gs
theorem doneS_start {left : Lit → Bool} {f : Int → Int} : ∀ {gs : List Int}, (∀ g ∈ gs, left (intL g) = true) → doneS left f gs = 0
  | [], _ => rfl
  | g :: r, h => by
    have ih := doneS_start (f := f) (gs := r) (fun x hx => h x (List.mem_cons_of_mem _ hx))
    unfold doneS at ih ⊢
    simp only [sumL]
    rw [h g (List.mem_cons_self ..), ih]
    rfl
theorem doneS_end {left : Lit → Bool} {f : Int → Int} {gs : List Int} (h : ∀ kl, left kl = false) : doneS left f gs = sumL f gs := by
  unfold doneS
  exact sumL_congr fun g _ => by rw [h]; rfl
theorem doneS_bd {left : Lit → Bool} {f : Int → Int} {gs : List Int} (h : ∀ g, -20000000000000 ≤ f g ∧ f g ≤ 20000000000000) (hl : gs.length ≤ 20) : -400000000000000 ≤ doneS left f gs ∧ doneS left f gs ≤ 400000000000000 := by
  have := sumL_bd (B := 20000000000000) (f := fun g => bif left (intL g) then 0 else f g) (l := gs) (fun g _ => by
    show -20000000000000 ≤ (bif left (intL g) then 0 else f g) ∧ (bif left (intL g) then 0 else f g) ≤ 20000000000000
    cases left (intL g)
    · exact h g
    · exact ⟨by show (-20000000000000 : Int) ≤ 0; decide, by show (0 : Int) ≤ 20000000000000; decide⟩)
  unfold doneS
  omega
theorem sameKey_int (a b : Int) : (intL a).sameKey (intL b) = decide (a = b) := by
  show decide (IntKind.i64 = IntKind.i64 ∧ a = b) = decide (a = b)
  simp
theorem doneS_struck {left : Lit → Bool} {f : Int → Int} {x : Int} (hl : left (intL x) = true) : ∀ {gs : List Int}, gs.Nodup → x ∈ gs → doneS (fun z => left z && !z.sameKey (intL x)) f gs = doneS left f gs + f x
  | [], _, hx => absurd hx (by simp)
  | g :: r, hn, hx => by
    obtain ⟨h1, h2⟩ := List.nodup_cons.1 hn
    unfold doneS
    simp only [sumL]
    by_cases e : g = x
    · subst e
      have : sumL (fun y => bif (left (intL y) && !(intL y).sameKey (intL g)) then 0 else f y) r = sumL (fun y => bif left (intL y) then 0 else f y) r := sumL_congr fun y hy => by
        have : y ≠ g := fun e => h1 (e ▸ hy)
        rw [sameKey_int, decide_eq_false this]
        simp
      rw [this, sameKey_int, hl]
      simp
      omega
    · have ih := doneS_struck (f := f) hl h2 ((List.mem_cons.1 hx).resolve_left (fun h => e h.symm))
      unfold doneS at ih
      rw [ih, sameKey_int, decide_eq_false e]
      simp
      omega
theorem moist_at {w : World} {qb mb nm : Nat} {DM : DataW Unit} {t g : Int} (hq : w.cell? ⟨qb, 0, none⟩ = some (.map (some mb))) (hown : w.ownsMap Try.prog 3 (plainElem Try.prog 3) mb nm DM) (h0 : 0 ≤ g) (h1 : g ≤ 19) (hat : DM.atKey (intL g) (.lit (.int .i64 0)) = .lit (.int .i64 t)) :
    Calls Try.prog 97 #[.int .i64 g, .pointer (some ⟨qb, 0, none⟩)] w fun e w' => e = .returned (.int .i64 t) ∧ w = w' := by
  have hl := look_int hown (by omega) hat
  go_enter Try.func97, Try.ntmps97
  go_wp2
  go_ret
  exact ⟨rfl, rfl⟩
set_option maxHeartbeats 8000000 in
set_option maxRecDepth 20000 in
theorem leastAt_any {nm : ByteArray} {A A' : Option Addr} {n c n' c' : Nat} {le mo : Int} {o i0 : List Md} {mb mn : Nat} {DM : DataW Unit} {tf : Int → Int} (HT : Hid (∀ g, 0 ≤ tf g ∧ tf g ≤ 400)) (HD : Hid (∀ g, DM.atKey (intL g) (.lit (.int .i64 0)) = .lit (.int .i64 (tf g)))) (ho : ∀ x ∈ o, MdOk x) (hi : ∀ x ∈ i0, MdOk x) (hn : n + n' ≤ 20)
    (w : World) (hm : w.ownsMap Try.prog 3 (plainElem Try.prog 3) mb mn DM) (hA : MdRow w A n o) (hA' : MdRow w A' n' i0) :
    Calls Try.prog 80 #[.agg #[.string nm, .slice A n c, .slice A' n' c', .int .i64 le, .int .i64 mo], .map (some mb)] w
      fun e w' => e = .returned (.int .i64 (leastAtS tf o i0)) ∧ Below w.heap.size w w' := by
  have hol := hA.1
  have hil := hA'.1
  have hmb := hm.lt
  have GL := gsOf_length (o ++ i0)
  have hok : ∀ x ∈ o ++ i0, MdOk x := fun x hx => (List.mem_append.1 hx).elim (ho x) (hi x)
  have HF : Hid (∀ g, -20000000000000 ≤ share (tf g) o i0 g ∧ share (tf g) o i0 g ≤ 20000000000000) := Lib.hid (fun g => share_bd ho hi (HT.out g).1 (HT.out g).2 (by omega) (by omega))
  have HG : Hid (∀ g, g ∈ gsOf (o ++ i0) ↔ (hasG o g || hasG i0 g) = true) := Lib.hid (fun g => by rw [mem_gsOf hok]; unfold hasG; rw [List.any_append])
  have HBD : Hid (∀ left, -400000000000000 ≤ doneS left (fun g => share (tf g) o i0 g) (gsOf (o ++ i0)) ∧ doneS left (fun g => share (tf g) o i0 g) (gsOf (o ++ i0)) ≤ 400000000000000) := Lib.hid (fun left => doneS_bd HF.out GL)
  have hB0 : Below w.heap.size w ((w.alloc (.cells #[.string nm, .slice A n c, .slice A' n' c', .int .i64 le, .int .i64 mo] 37)).alloc (.cells #[.map (some mb)] 94)) := ((Below.refl _ _).alloc (Nat.le_refl _) _).alloc (by simp) _
  go_enter Try.func80, Try.ntmps80
  go_upto_region 1 with fail
  have hs0 : ((w.alloc (.cells #[.string nm, .slice A n c, .slice A' n' c', .int .i64 le, .int .i64 mo] 37)).alloc (.cells #[.map (some mb)] 94)).heap.size = w.heap.size + 2 := by simp
  have hm0 : ((w.alloc (.cells #[.string nm, .slice A n c, .slice A' n' c', .int .i64 le, .int .i64 mo] 37)).alloc (.cells #[.map (some mb)] 94)).ownsMap Try.prog 3 (plainElem Try.prog 3) mb mn DM := (hm.alloc _).alloc _
  have e0 : ((w.alloc (.cells #[.string nm, .slice A n c, .slice A' n' c', .int .i64 le, .int .i64 mo] 37)).alloc (.cells #[.map (some mb)] 94)).cell? ⟨w.heap.size, 0, none⟩ = some (.string nm) := by simp [go_sem]
  have e1 : ((w.alloc (.cells #[.string nm, .slice A n c, .slice A' n' c', .int .i64 le, .int .i64 mo] 37)).alloc (.cells #[.map (some mb)] 94)).cell? ⟨w.heap.size, 1, none⟩ = some (.slice A n c) := by simp [go_sem]
  have e2 : ((w.alloc (.cells #[.string nm, .slice A n c, .slice A' n' c', .int .i64 le, .int .i64 mo] 37)).alloc (.cells #[.map (some mb)] 94)).cell? ⟨w.heap.size, 2, none⟩ = some (.slice A' n' c') := by simp [go_sem]
  have e3 : ((w.alloc (.cells #[.string nm, .slice A n c, .slice A' n' c', .int .i64 le, .int .i64 mo] 37)).alloc (.cells #[.map (some mb)] 94)).cell? ⟨w.heap.size, 3, none⟩ = some (.int .i64 le) := by simp [go_sem]
  have e4 : ((w.alloc (.cells #[.string nm, .slice A n c, .slice A' n' c', .int .i64 le, .int .i64 mo] 37)).alloc (.cells #[.map (some mb)] 94)).cell? ⟨w.heap.size, 4, none⟩ = some (.int .i64 mo) := by simp [go_sem]
  have q0 : ((w.alloc (.cells #[.string nm, .slice A n c, .slice A' n' c', .int .i64 le, .int .i64 mo] 37)).alloc (.cells #[.map (some mb)] 94)).cell? ⟨w.heap.size + 1, 0, none⟩ = some (.map (some mb)) := by simp [go_sem]
  generalize ((w.alloc (.cells #[.string nm, .slice A n c, .slice A' n' c', .int .i64 le, .int .i64 mo] 37)).alloc (.cells #[.map (some mb)] 94)) = W0 at hB0 hs0 hm0 e0 e1 e2 e3 e4 q0 ⊢
  have HB0 := Lib.hid hB0
  have SH := Lib.hid (shares_at (nm := nm) (A := A) (A' := A') (n := n) (c := c) (n' := n') (c' := c') (le := le) (mo := mo) (o := o) (i0 := i0) (qb := w.heap.size + 1) (tf := tf) (MZ := fun wx => wx.cell? ⟨w.heap.size + 1, 0, none⟩ = some (.map (some mb)) ∧ wx.ownsMap Try.prog 3 (plainElem Try.prog 3) mb mn DM)
    (Lib.hid (fun wx w' h hb => ⟨(hb.cell (p := ⟨w.heap.size + 1, 0, none⟩) (World.block_lt_of_cell? wx ⟨w.heap.size + 1, 0, none⟩ h.1)).trans h.1, h.2.kept (below_grown hb none) (by simp)⟩))
    (Lib.hid (fun wx g h h0 h1 => moist_at h.1 h.2 h0 h1 (HD.out g))) HT ho hi hn W0
    (Lib.hid (fun wx w' m2 h hg hle => ⟨(hg.cell_far ⟨w.heap.size + 1, 0, none⟩ (World.block_lt_of_cell? wx ⟨w.heap.size + 1, 0, none⟩ h.1) (fun e => by have : w.heap.size + 1 = m2 := (by injection e); omega)).trans h.1, h.2.kept hg (fun e => by have : mb = m2 := (by injection e); omega)⟩))
    ⟨q0, hm0⟩ (hA.below hB0) (hA'.below hB0))
  have HS0 := Lib.hid hs0
  clear hB0 hm0 hA hA' ho hi hm hs0 q0
  go_wp2_with (first
    | (go_at_call 96; refine Calls.mono SH.out ?_; rintro e w1 ⟨D, rfl, hown, hsh, hb1⟩; have HSH := Lib.hid hsh; clear hsh)
    | (at_range; refine wpList_range_own _ rfl _ 94 rfl 3 3 lawI Try.underlying94 _ (W0.heap.size + 1) 20 _ rfl hown ?_; intro w0 hrg0 hg0 hs0)
    | go_in)
  go_frame
  have hsz1 := hb1.size
  have HB1 := Lib.hid hb1
  clear hb1
  go_loopw [5] (fun v wr => ∃ (left : Lit → Bool) (cnt : Nat), v = .int .i64 (doneS left (fun g => share (tf g) o i0 g) (gsOf (o ++ i0))) ∧ wr.ranges Try.prog 3 (plainElem Try.prog 3) (W0.heap.size + 1) w1.heap.size 20 D left cnt ∧ (∀ kl, left kl = true → Maps.has D kl = true) ∧ Below W0.heap.size W0 wr)
    (fun _ wr => wr.rangeLeft (W0.heap.size + 1) w1.heap.size)
  case atStart =>
    refine ⟨_, _, ?_, hrg0, fun kl h => h, HB1.out.grown hg0 (by omega) (fun j hj => by cases hj)⟩
    rw [doneS_start (fun g hg => by rw [HSH.out.has]; exact (HG.out g).1 hg)]
  case round =>
    obtain ⟨left, cnt, rfl, hrg, hhas, hbw⟩ := hrel
    have HBW := Lib.hid hbw
    have HHAS := Lib.hid hhas
    clear hbw hhas
    have bd1 := HBD.out left
    go_wp2_with (first
      | (at_next; refine wpList_next_ranges_ii _ rfl _ rfl 3 3 .i64 .i64 lawI Try.underlying3 Try.underlying3 (W0.heap.size + 1) w1.heap.size 20 _ _ _ rfl hrg ?_ ?_)
      | go_in)
    · intro _ hl0
      have HE := Lib.hid (doneS_end (f := fun g => share (tf g) o i0 g) (gs := gsOf (o ++ i0)) hl0)
      go_wp2
      go_ret
      exact ⟨by rw [HE.out]; rfl, HB0.out.trans (HBW.out.mono HB0.out.size)⟩
    · intro x y w2 cnt1 hwx hwc hlx hat hrg1 hlt hg1 hs1 hen
      have hxg : x ∈ gsOf (o ++ i0) := (HG.out x).2 (by rw [← HSH.out.has]; exact HHAS.out _ hlx)
      have hy : y = share (tf x) o i0 x := by
        have h1 := HSH.out.at_ x
        have h2 := hat (.lit (.int .i64 0))
        rw [show (Lit.int .i64 x) = intL x from rfl, h1] at h2
        simp only [DataW.lit.injEq, Lit.int.injEq, true_and] at h2
        exact h2.symm
      have hst := doneS_struck (f := fun g => share (tf g) o i0 g) (show left (intL x) = true from hlx) (gsOf_nodup (o ++ i0)) hxg
      have bd2 := HBD.out (fun z => left z && !z.sameKey (intL x))
      have hnew : doneS left (fun g => share (tf g) o i0 g) (gsOf (o ++ i0)) + y = doneS (fun z => left z && !z.sameKey (intL x)) (fun g => share (tf g) o i0 g) (gsOf (o ++ i0)) := by rw [hst, hy]
      have HNEW := Lib.hid hnew
      have hw : IntKind.i64.wrap (doneS left (fun g => share (tf g) o i0 g) (gsOf (o ++ i0)) + y) = doneS left (fun g => share (tf g) o i0 g) (gsOf (o ++ i0)) + y := by rw [IntKind.wrap_i64, hnew]; omega
      clear hst hnew hy hat
      go_wp2
      go_roundw
      case rel => exact ⟨_, cnt1, by rw [HNEW.out]; rfl, hrg1, fun kl h => HHAS.out kl (by simp only [Bool.and_eq_true] at h; exact h.1), HBW.out.grown hg1 (by have := HBW.out.size; omega) (fun j hj => by cases hj; omega)⟩
      case measure => rw [hrg1.left_eq, hrg.left_eq]; exact hlt
end Go.Proofs.Ytffmaoalnilkkaa
