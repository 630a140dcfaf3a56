/- Cabinets: lumps, drawers, balances: the mathematics. -/
import Derived.Test.YtablphoicidlkaaSD
import Derived.Test.YtablphoicidlkaaSG
import Derived.Test.YtablphoicidlkaaRF
import Derived.Test.YtablphoicidlkaaRI
namespace Go.Proofs.Ytablphoicidlkaa
open Go.RowKit

structure Lp where
  a : Int
  g : Int
structure Dw where
  a : Int
  g : Int
  t : Int
def LpAt (w : World) (blk off : Nat) (x : Lp) : Prop := w.cell? ⟨blk, off, none⟩ = some (.int .i64 x.a) ∧ w.cell? ⟨blk, off + 1, none⟩ = some (.int .i64 x.g)
def DwAt (w : World) (blk off : Nat) (x : Dw) : Prop := w.cell? ⟨blk, off, none⟩ = some (.int .i64 x.a) ∧ w.cell? ⟨blk, off + 1, none⟩ = some (.int .i64 x.g) ∧ w.cell? ⟨blk, off + 2, none⟩ = some (.int .i64 x.t)
theorem LpAt.below {w w' : World} {B blk off : Nat} {s : Lp} (h : LpAt w blk off s) (hb : Below B w w') (hlt : blk < B) : LpAt w' blk off s :=
  ⟨(hb.cell (p := ⟨blk, off, none⟩) hlt).trans h.1, (hb.cell (p := ⟨blk, off + 1, none⟩) hlt).trans h.2⟩
theorem DwAt.below {w w' : World} {B blk off : Nat} {s : Dw} (h : DwAt w blk off s) (hb : Below B w w') (hlt : blk < B) : DwAt w' blk off s :=
  ⟨(hb.cell (p := ⟨blk, off, none⟩) hlt).trans h.1, (hb.cell (p := ⟨blk, off + 1, none⟩) hlt).trans h.2.1, (hb.cell (p := ⟨blk, off + 2, none⟩) hlt).trans h.2.2⟩
abbrev LpRow (w : World) (A : Option Addr) (n : Nat) (l : List Lp) : Prop := RowOf (LpAt w) 2 A n l w.heap.size
abbrev DwRow (w : World) (A : Option Addr) (n : Nat) (l : List Dw) : Prop := RowOf (DwAt w) 3 A n l w.heap.size
theorem LpRow.below {w w' : World} {A : Option Addr} {n : Nat} {l : List Lp} (h : LpRow w A n l) (hb : Below w.heap.size w w') : LpRow w' A n l :=
  RowOf.keep h hb.size (fun _ _ _ hlt hx => LpAt.below hx hb hlt)
theorem DwRow.below {w w' : World} {A : Option Addr} {n : Nat} {l : List Dw} (h : DwRow w A n l) (hb : Below w.heap.size w w') : DwRow w' A n l :=
  RowOf.keep h hb.size (fun _ _ _ hlt hx => DwAt.below hx hb hlt)
def cbV (D : Int) (A : Option Addr) (n c : Nat) (A' : Option Addr) (n' c' : Nat) : Value := .agg #[.int .i64 D, .slice A n c, .slice A' n' c']

/-! ### Errors -/
def mssE (a g : Int) : Int := firstE [rngE (-3000) 3000 [a], rngE 0 1000000 [g]]
def dwE (d : Dw) : Int := firstE [mssE d.a d.g, rngE 0 3000 [d.t]]
theorem mssE_two (a g : Int) : mssE a g = 0 ∨ mssE a g = 2 := by
  unfold mssE
  refine firstE_two fun x hx => ?_
  simp only [List.mem_cons, List.not_mem_nil, or_false] at hx
  rcases hx with rfl | rfl <;> exact rngE_two
theorem dwE_two (d : Dw) : dwE d = 0 ∨ dwE d = 2 := by
  unfold dwE
  refine firstE_two fun x hx => ?_
  simp only [List.mem_cons, List.not_mem_nil, or_false] at hx
  rcases hx with rfl | rfl
  · exact mssE_two _ _
  · exact rngE_two
theorem mssE_ok {a g : Int} : mssE a g = 0 ↔ (-3000 ≤ a ∧ a ≤ 3000) ∧ (0 ≤ g ∧ g ≤ 1000000) := by
  unfold mssE
  rw [firstE_ok]
  simp only [List.mem_cons, List.not_mem_nil, or_false, forall_eq_or_imp, forall_eq, rngE_ok]
theorem dwE_ok {d : Dw} : dwE d = 0 ↔ ((-3000 ≤ d.a ∧ d.a ≤ 3000) ∧ (0 ≤ d.g ∧ d.g ≤ 1000000)) ∧ (0 ≤ d.t ∧ d.t ≤ 3000) := by
  unfold dwE
  rw [firstE_ok]
  simp only [List.mem_cons, List.not_mem_nil, or_false, forall_eq_or_imp, forall_eq, rngE_ok, mssE_ok]
def cabE (D : Int) (ls : List Lp) (ds : List Dw) : Int :=
  bif rngE 1 3000 [D] == 0 then (bif decide (12 < ls.length) || decide (12 < ds.length) then 8 else bif ls.any (fun p => mssE p.a p.g != 0) then 2 else bif ds.any (fun d => dwE d != 0) then 2 else 0) else 2
structure CabOk (D : Int) (ls : List Lp) (ds : List Dw) : Prop where
  d0 : 1 ≤ D
  d1 : D ≤ 3000
  nl : ls.length ≤ 12
  nd : ds.length ≤ 12
  lp : ∀ p ∈ ls, (-3000 ≤ p.a ∧ p.a ≤ 3000) ∧ (0 ≤ p.g ∧ p.g ≤ 1000000)
  dw : ∀ d ∈ ds, ((-3000 ≤ d.a ∧ d.a ≤ 3000) ∧ (0 ≤ d.g ∧ d.g ≤ 1000000)) ∧ (0 ≤ d.t ∧ d.t ≤ 3000)
theorem cabE_ok {D : Int} {ls : List Lp} {ds : List Dw} (h : cabE D ls ds = 0) : CabOk D ls ds := by
  unfold cabE at h
  cases h1 : (rngE 1 3000 [D] == 0)
  · rw [h1] at h; cases h
  · rw [h1, cond_true] at h
    have e1 := rngE_ok.1 (by simpa using h1) D (List.mem_cons_self ..)
    cases h2 : decide (12 < ls.length) || decide (12 < ds.length)
    · rw [h2, cond_false] at h
      rw [Bool.or_eq_false_iff, decide_eq_false_iff_not, decide_eq_false_iff_not] at h2
      cases h3 : ls.any (fun p => mssE p.a p.g != 0)
      · rw [h3, cond_false] at h
        cases h4 : ds.any (fun d => dwE d != 0)
        · rw [List.any_eq_false] at h3 h4
          exact ⟨e1.1, e1.2, by omega, by omega, fun p hp => mssE_ok.1 (by have := h3 p hp; simpa using this), fun d hd => dwE_ok.1 (by have := h4 d hd; simpa using this)⟩
        · rw [h4] at h; cases h
      · rw [h3] at h; cases h
    · rw [h2] at h; cases h
def ascB : List Int → Bool
  | x :: y :: r => decide (x < y) && ascB (y :: r)
  | _ => true
theorem ascB_iff : ∀ {l : List Int}, ascB l = true ↔ ∀ i (h : i + 1 < l.length), l[i] < l[i + 1]
  | [] => by simp [ascB]
  | [x] => by simp [ascB]
  | x :: y :: r => by
    unfold ascB
    rw [Bool.and_eq_true, decide_eq_true_iff, ascB_iff (l := y :: r)]
    constructor
    · rintro ⟨h1, h2⟩ i hi
      cases i with
      | zero => exact h1
      | succ j => exact h2 j (by simpa using hi)
    · intro h
      exact ⟨h 0 (by simp), fun i hi => h (i + 1) (by simpa using hi)⟩
/-- The error of a list of open ones of c drawers. -/
def opnE (op : List Int) (c : Int) : Int := bif op.any (fun x => decide (x < 0) || decide (c ≤ x)) then 6 else bif ascB op then 0 else 9
theorem opnE_ok {op : List Int} {c : Int} (h : opnE op c = 0) : (∀ x ∈ op, 0 ≤ x ∧ x < c) ∧ ascB op = true := by
  unfold opnE at h
  cases h1 : op.any (fun x => decide (x < 0) || decide (c ≤ x))
  · rw [h1, cond_false] at h
    rw [List.any_eq_false] at h1
    cases h2 : ascB op
    · rw [h2] at h; cases h
    · exact ⟨fun x hx => by have := h1 x hx; simp at this; omega, rfl⟩
  · rw [h1] at h; cases h

/-! ### Balances -/
def lssP (ds : List Dw) (i : Int) : Int := match ds[i.toNat]? with
  | some d => d.g * d.t
  | none => 0
def bal (D : Int) (ls : List Lp) (ds : List Dw) (op : List Int) : Int := sumL (fun p => p.g * (D - p.a)) ls + sumL (fun d => d.g * (D - d.a)) ds - sumL (lssP ds) op
/-- The term of the drawer k as the reference tells it. -/
def refT (D : Int) (op : List Int) (k : Nat) (d : Dw) : Int := d.g * (D - (bif op.any (· == (k : Int)) then d.a + d.t else d.a))
def sumI (f : Nat → Dw → Int) : Nat → List Dw → Int
  | _, [] => 0
  | k, d :: r => f k d + sumI f (k + 1) r
theorem sumI_take (f : Nat → Dw → Int) : ∀ (l : List Dw) (j k : Nat) (h : k < l.length), sumI f j (l.take (k + 1)) = sumI f j (l.take k) + f (j + k) l[k]
  | x :: r, j, 0, _ => by simp [sumI]
  | x :: r, j, k + 1, h => by
    have := sumI_take f r (j + 1) k (by simpa using h)
    show f j x + sumI f (j + 1) (r.take (k + 1)) = f j x + sumI f (j + 1) (r.take k) + f (j + (k + 1)) (r[k]'(by simpa using h))
    rw [this, show j + 1 + k = j + (k + 1) by omega]
    omega
theorem sumI_add {f g h : Nat → Dw → Int} : ∀ (l : List Dw) (j : Nat), (∀ k d, f k d = g k d + h k d) → sumI f j l = sumI g j l + sumI h j l
  | [], _, _ => rfl
  | d :: r, j, he => by
    show f j d + sumI f (j + 1) r = (g j d + sumI g (j + 1) r) + (h j d + sumI h (j + 1) r)
    rw [he j d, sumI_add r (j + 1) he]
    omega
theorem sumI_zero : ∀ (l : List Dw) (j : Nat), sumI (fun _ _ => 0) j l = 0
  | [], _ => rfl
  | _ :: r, j => by show 0 + sumI _ (j + 1) r = 0; rw [sumI_zero r (j + 1)]; rfl
theorem sumI_plain (f : Dw → Int) : ∀ (l : List Dw) (j : Nat), sumI (fun _ d => f d) j l = sumL f l
  | [], _ => rfl
  | d :: r, j => by show f d + sumI _ (j + 1) r = f d + sumL f r; rw [sumI_plain f r (j + 1)]
/-- One drawer's loss. -/
def oneT (i : Int) (k : Nat) (d : Dw) : Int := bif i == (k : Int) then d.g * d.t else 0
theorem sumI_far (i : Int) : ∀ (l : List Dw) (j : Nat), (i < j ∨ (j : Int) + l.length ≤ i) → sumI (oneT i) j l = 0
  | [], _, _ => rfl
  | d :: r, j, h => by
    show oneT i j d + sumI (oneT i) (j + 1) r = 0
    rw [sumI_far i r (j + 1) (by simp only [List.length_cons] at h; omega)]
    unfold oneT
    rw [show (i == (j : Int)) = false by simp only [List.length_cons] at h; simp; omega]
    rfl
theorem sumI_one (i : Int) : ∀ (l : List Dw) (j : Nat), (j : Int) ≤ i → i < (j : Int) + l.length → sumI (oneT i) j l = lssP l (i - j)
  | [], j, h0, h1 => by simp at h1; omega
  | d :: r, j, h0, h1 => by
    simp only [List.length_cons] at h1
    show oneT i j d + sumI (oneT i) (j + 1) r = lssP (d :: r) (i - j)
    by_cases e : i = j
    · rw [sumI_far i r (j + 1) (by omega)]
      unfold oneT lssP
      rw [show (i == (j : Int)) = true by simpa using e, show (i - j).toNat = 0 by omega]
      simp
    · rw [sumI_one i r (j + 1) (by omega) (by omega)]
      unfold oneT lssP
      rw [show (i == (j : Int)) = false by simpa using e, show (i - j).toNat = (i - ((j + 1 : Nat) : Int)).toNat + 1 by omega]
      simp
theorem lss_sum (ds : List Dw) : ∀ (op : List Int), (∀ x ∈ op, 0 ≤ x ∧ x < ds.length) → op.Nodup → sumI (fun k d => bif op.any (· == (k : Int)) then d.g * d.t else 0) 0 ds = sumL (lssP ds) op
  | [], _, _ => by simp [sumL]; exact sumI_zero ds 0
  | i :: r, h, hn => by
    have h1 := lss_sum ds r (fun x hx => h x (List.mem_cons_of_mem _ hx)) (List.nodup_cons.1 hn).2
    have hi := h i (List.mem_cons_self ..)
    have h2 := sumI_one i ds 0 (by omega) (by omega)
    rw [show i - ((0 : Nat) : Int) = i by omega] at h2
    show _ = lssP ds i + sumL (lssP ds) r
    rw [← h1, ← h2]
    refine sumI_add ds 0 fun k d => ?_
    unfold oneT
    rw [List.any_cons]
    by_cases e : i = k
    · have hr : r.any (· == (k : Int)) = false := by
        rw [List.any_eq_false]
        intro x hx hxk
        have : x = i := by simp at hxk; omega
        exact (List.nodup_cons.1 hn).1 (this ▸ hx)
      rw [hr, show (i == (k : Int)) = true by simpa using e]
      simp
    · rw [show (i == (k : Int)) = false by simpa using e]
      simp
theorem asc_from : ∀ {l : List Int} {x : Int}, ascB (x :: l) = true → ∀ y ∈ l, x < y
  | [], _, _, y, hy => by cases hy
  | z :: r, x, h, y, hy => by
    unfold ascB at h
    rw [Bool.and_eq_true, decide_eq_true_iff] at h
    rcases List.mem_cons.1 hy with rfl | hy
    · exact h.1
    · have := asc_from h.2 y hy
      omega
theorem asc_nodup : ∀ {l : List Int}, ascB l = true → l.Nodup
  | [], _ => List.nodup_nil
  | x :: r, h => by
    refine List.nodup_cons.2 ⟨fun hx => by have := asc_from h x hx; omega, ?_⟩
    cases r with
    | nil => exact List.nodup_nil
    | cons y r =>
      unfold ascB at h
      rw [Bool.and_eq_true] at h
      exact asc_nodup h.2
/-- The reference's balance is the program's. -/
theorem bal_ref {D : Int} {ls : List Lp} {ds : List Dw} {op : List Int} (h : ∀ x ∈ op, 0 ≤ x ∧ x < ds.length) (ha : ascB op = true) : sumL (fun p => p.g * (D - p.a)) ls + sumI (refT D op) 0 ds = bal D ls ds op := by
  have h1 := lss_sum ds op h (asc_nodup ha)
  have h2 : sumI (fun _ d => d.g * (D - d.a)) 0 ds = sumI (refT D op) 0 ds + sumI (fun k d => bif op.any (· == (k : Int)) then d.g * d.t else 0) 0 ds := sumI_add ds 0 fun k d => by
    unfold refT
    cases op.any (· == (k : Int))
    · simp
    · simp only [cond_true]; grind
  rw [sumI_plain, h1] at h2
  unfold bal
  omega
end Go.Proofs.Ytablphoicidlkaa
namespace Go.Proofs.Ytablphoicidlkaa
open Go.RowKit

theorem firstNew_any {x y : Int} (w : World) (t : TypeId) {blk : Nat} (hblk : blk = w.heap.size) :
    Calls Try.prog 95 #[.slice (some ⟨blk, 0, none⟩) 2 2] (w.alloc (.cells #[.int .i64 x, .int .i64 y] t)) fun e w' => e = .returned (.int .i64 (firstE [x, y])) ∧ Below w.heap.size w w' := by
  subst hblk
  exact (firstError_any (n := 2) (c := 2) _ (intRow_new w [x, y] t _ rfl rfl) (by decide)).mono fun e w' ⟨he, hw⟩ => ⟨he, hw ▸ (Below.refl _ _).alloc (Nat.le_refl _) _⟩
set_option maxHeartbeats 2000000 in
set_option maxRecDepth 20000 in
theorem checkMass_any (a g : Int) (w : World) : Calls Try.prog 132 #[.int .i64 a, .int .i64 g] w fun e w' => e = .returned (.int .i64 (mssE a g)) ∧ Below w.heap.size w w' := by
  have HE : Hid (mssE a g = firstE [rngE (-3000) 3000 [a], rngE 0 1000000 [g]]) := Lib.hid rfl
  have HX := Lib.hid (Below.refl w.heap.size w)
  go_enter Try.func132, Try.ntmps132
  go_wp2_with (first | (go_at_call 96; (refine (checkNew_any _ _ (by simp)).mono ?_); rintro e w9 ⟨rfl, hb⟩; have HX := Lib.hid (HX.out.trans (hb.mono HX.out.size)); clear hb) | (go_at_call 95; (refine (firstNew_any _ _ (by simp)).mono ?_); rintro e w9 ⟨rfl, hb⟩; have HX := Lib.hid (HX.out.trans (hb.mono HX.out.size)); clear hb) | fail)
  go_ret
  exact ⟨ret_int HE.out.symm, HX.out⟩
set_option maxHeartbeats 2000000 in
theorem loss_any {d : Dw} (h : ((-3000 ≤ d.a ∧ d.a ≤ 3000) ∧ (0 ≤ d.g ∧ d.g ≤ 1000000)) ∧ (0 ≤ d.t ∧ d.t ≤ 3000)) (w : World) :
    Calls Try.prog 156 #[.agg #[.int .i64 d.a, .int .i64 d.g, .int .i64 d.t]] w fun e w' => e = .returned (.int .i64 (d.g * d.t)) ∧ Below w.heap.size w w' := by
  obtain ⟨a, g, t⟩ := d
  simp only at h ⊢
  have E1 : Ev g g 1000000 := .of (by omega)
  have E2 : Ev t t 3000 := .of (by omega)
  have h1 : (g * t).natAbs ≤ 3000000000 := ev_bd (Ev.mul E1 E2) (by decide +kernel)
  have h2 : wrap64 (g * t) = g * t := w64 (by omega)
  clear h E1 E2 h1
  go_enter Try.func156, Try.ntmps156
  go_wp2
  go_ret
  exact ⟨ret_int (by first | rfl | exact h2), (Below.refl _ _).alloc (Nat.le_refl _) _⟩
end Go.Proofs.Ytablphoicidlkaa
namespace Go.Proofs.Ytablphoicidlkaa
open Go.RowKit

theorem cab_vals {D : Int} {ls : List Lp} {ds : List Dw} {n n' : Nat} (h1 : ls.length = n) (h2 : ds.length = n') :
    (rngE 1 3000 [D] ≠ 0 → cabE D ls ds = rngE 1 3000 [D]) ∧ (rngE 1 3000 [D] = 0 → (12 < n ∨ 12 < n') → cabE D ls ds = 8) ∧ (rngE 1 3000 [D] = 0 → n ≤ 12 → n' ≤ 12 → ls.any (fun p => mssE p.a p.g != 0) = true → cabE D ls ds = 2) ∧
    (rngE 1 3000 [D] = 0 → n ≤ 12 → n' ≤ 12 → ls.any (fun p => mssE p.a p.g != 0) = false → ds.any (fun d => dwE d != 0) = true → cabE D ls ds = 2) ∧ (rngE 1 3000 [D] = 0 → n ≤ 12 → n' ≤ 12 → ls.any (fun p => mssE p.a p.g != 0) = false → ds.any (fun d => dwE d != 0) = false → cabE D ls ds = 0) := by
  unfold cabE
  rw [h1, h2]
  refine ⟨fun h => ?_, fun h hh => ?_, fun h a b e => ?_, fun h a b e f => ?_, fun h a b e f => ?_⟩
  · rw [show (rngE 1 3000 [D] == 0) = false by simpa using h]
    rcases rngE_two (lo := 1) (hi := 3000) (zs := [D]) with e | e
    · exact absurd e h
    · rw [e]; rfl
  · rw [h]
    rcases hh with hh | hh
    · rw [decide_eq_true hh]; rfl
    · rw [decide_eq_true hh, Bool.or_true]; rfl
  · rw [h, decide_eq_false (by omega : ¬ 12 < n), decide_eq_false (by omega : ¬ 12 < n'), e]; rfl
  · rw [h, decide_eq_false (by omega : ¬ 12 < n), decide_eq_false (by omega : ¬ 12 < n'), e, f]; rfl
  · rw [h, decide_eq_false (by omega : ¬ 12 < n), decide_eq_false (by omega : ¬ 12 < n'), e, f]; rfl
set_option maxHeartbeats 8000000 in
set_option maxRecDepth 20000 in
theorem checkCabinet_any {D : Int} {A A' : Option Addr} {n c n' c' : Nat} {ls : List Lp} {ds : List Dw} (w : World) (R1 : LpRow w A n ls) (R2 : DwRow w A' n' ds) (hn : n ≤ maxLen) (hn' : n' ≤ maxLen) :
    Calls Try.prog 75 #[cbV D A n c A' n' c'] w fun e w' => e = .returned (.int .i64 (cabE D ls ds)) ∧ Below w.heap.size w w' := by
  obtain ⟨V1, V2, V3, V4, V5⟩ := cab_vals (D := D) R1.1 R2.1
  have HV1 := Lib.hid V1
  have HV2 := Lib.hid V2
  have HV3 := Lib.hid V3
  have HV4 := Lib.hid V4
  have HV5 := Lib.hid V5
  have HR1 := Lib.hid R1
  have HR2 := Lib.hid R2
  have hl1 : ls.length ≤ n := by have := R1.1; omega
  have hl2 : ds.length ≤ n' := by have := R2.1; omega
  have hg1 : n ≤ ls.length := by have := R1.1; omega
  have hg2 : n' ≤ ds.length := by have := R2.1; omega
  clear V1 V2 V3 V4 V5 R1 R2
  unfold cbV
  unfold maxLen at hn hn'
  generalize cabE D ls ds = ce at *
  go_enter Try.func75, Try.ntmps75
  go_upto_region 1 with fail
  obtain ⟨w0, hw0⟩ : ∃ w0, (w.alloc (.cells #[.int .i64 D, .slice A n c, .slice A' n' c'] 119)) = w0 := ⟨_, rfl⟩
  have HB0 : Hid (Below w.heap.size w w0) := Lib.hid (by rw [← hw0]; exact ((Below.refl _ _).alloc (Nat.le_refl _) _))
  have HC := Lib.hid (fun wx (hb : Below w0.heap.size w0 wx) => (show wx.cell? ⟨w.heap.size, 0, none⟩ = some (.int .i64 D) ∧ wx.cell? ⟨w.heap.size, 1, none⟩ = some (.slice A n c) ∧ wx.cell? ⟨w.heap.size, 2, none⟩ = some (.slice A' n' c') from by
    subst hw0
    obtain ⟨k, kf⟩ := bcell hb
    exact ⟨(k _ _ (by simp; try omega)).trans (by simp [go_sem]), (k _ _ (by simp; try omega)).trans (by simp [go_sem]), (k _ _ (by simp; try omega)).trans (by simp [go_sem])⟩))
  rw [hw0]
  clear hw0
  have HZ0 := Lib.hid (Below.refl w0.heap.size w0)
  obtain ⟨c0, c1, c2⟩ := HC.out w0 HZ0.out
  have CD := fun (wx : World) (t : TypeId) (blk : Nat) (hb : blk = wx.heap.size) => Lib.hid (checkNew_any (lo := 1) (hi := 3000) (x := D) wx t hb)
  generalize rngE 1 3000 [D] = e1 at *
  go_upto_region 2 with (go_at_call 96; (refine (CD _ _ _ (by simp)).out.mono ?_); rintro e w1 ⟨rfl, hb1⟩; have H1 := Lib.hid hb1; clear hb1)
  clear c0 c1 c2 CD
  obtain ⟨c0, c1, c2⟩ := HC.out w1 H1.out
  have HW1 := Lib.hid (HB0.out.trans (H1.out.mono HB0.out.size))
  by_cases he : e1 = 0
  rotate_left
  · have e1' : (e1 == 0) = false := by simpa using he
    have e2' : (e1 != 0) = true := by simpa using he
    have hv := Lib.hid (HV1.out he)
    go_wp2
    go_ret
    exact ⟨ret_int hv.out.symm, HW1.out⟩
  subst he
  by_cases h12 : 12 < n
  · have g1 : (12 : Int) < (n : Int) := by omega
    have g2 : decide ((12 : Int) < (n : Int)) = true := decide_eq_true g1
    have hv := Lib.hid (HV2.out rfl (.inl h12))
    go_wp2
    go_ret
    exact ⟨ret_int hv.out.symm, HW1.out⟩
  have g1 : ¬ (12 : Int) < (n : Int) := by omega
  have g2 : decide ((12 : Int) < (n : Int)) = false := decide_eq_false g1
  by_cases h13 : 12 < n'
  · have g3 : (12 : Int) < (n' : Int) := by omega
    have g4 : decide ((12 : Int) < (n' : Int)) = true := decide_eq_true g3
    have hv := Lib.hid (HV2.out rfl (.inr h13))
    go_wp2
    go_ret
    exact ⟨ret_int hv.out.symm, HW1.out⟩
  have g3 : ¬ (12 : Int) < (n' : Int) := by omega
  have g4 : decide ((12 : Int) < (n' : Int)) = false := decide_eq_false g3
  have K3 := Lib.hid (HV3.out rfl (by omega) (by omega))
  have K4 := Lib.hid (HV4.out rfl (by omega) (by omega))
  have K5 := Lib.hid (HV5.out rfl (by omega) (by omega))
  clear HV1 HV2 HV3 HV4 HV5 h12 h13
  have hn1 : n ≤ 12 := by omega
  have hn2 : n' ≤ 12 := by omega
  go_wp2
  go_loopw [30] (fun i wr => ∃ k : Nat, k ≤ n ∧ i = .int .i64 k ∧ (ls.take k).any (fun p => mssE p.a p.g != 0) = false ∧ Below w0.heap.size w0 wr) (fun i _ => n - (intOf i).toNat)
  case atStart => exact ⟨0, Nat.zero_le _, rfl, by simp, H1.out⟩
  case round =>
    obtain ⟨k, hk, rfl, hany, hbw⟩ := hrel
    clear c0 c1 c2
    have HB := Lib.hid hbw
    have HBW := Lib.hid (HB0.out.trans (hbw.mono HB0.out.size))
    obtain ⟨d0, d1, d2⟩ := HC.out wr hbw
    have HA := Lib.hid hany
    clear hbw hany
    have hk64 : IntKind.i64.wrap ((k : Int) + 1) = (k : Int) + 1 := by rw [IntKind.wrap_i64]; omega
    by_cases hlt : k < n
    · have hkl : k < ls.length := by omega
      have hki : (k : Int) < (n : Int) := by omega
      obtain ⟨blk, off, rfl, hblk, hx⟩ := HR1.out.2 (by omega)
      have PP := (hx k hkl).below HBW.out hblk
      have HS := Lib.hid (fun h1 => any_takeP (fun p : Lp => mssE p.a p.g != 0) ls k hkl HA.out h1)
      have HS2 := Lib.hid (fun h1 => any_atP (fun p : Lp => mssE p.a p.g != 0) ls k hkl h1)
      obtain ⟨pt, hpe⟩ : ∃ x, ls[k] = x := ⟨_, rfl⟩
      rw [hpe] at PP HS HS2
      obtain ⟨a, g⟩ := pt
      unfold LpAt at PP
      simp only at PP HS HS2
      obtain ⟨p0, p1⟩ := PP
      have CM := fun wx => Lib.hid (checkMass_any a g wx)
      have HT := Lib.hid (mssE_two a g)
      clear hpe hx
      generalize mssE a g = em at *
      by_cases hem : em = 0
      · subst hem
        have HSN := Lib.hid (HS.out rfl)
        clear HS HS2 HT
        go_wp2_with (go_at_call 132; (with_reducible refine Calls.mono (CM _).out ?_); rintro e w5 ⟨rfl, hb5⟩; have H5 := Lib.hid ((HB.out.alloc HB.out.size _).trans (hb5.mono (by have := HB.out.size; simp; omega))); clear hb5)
        go_roundw
        case rel => exact ⟨k + 1, by omega, by go_num, HSN.out, H5.out⟩
        case measure => simp [intOf]; omega
      · have e1' : (em == 0) = false := by simpa using hem
        have e2' : (em != 0) = true := by simpa using hem
        have hv := Lib.hid (K3.out (HS2.out e2'))
        have h2 : em = 2 := by rcases HT.out with h | h; exact absurd h hem; exact h
        have HV := Lib.hid (show em = ce by rw [h2, hv.out])
        clear h2 hv HS HS2 HT
        go_wp2_with (go_at_call 132; (with_reducible refine Calls.mono (CM _).out ?_); rintro e w5 ⟨rfl, hb5⟩; have H5 := Lib.hid ((HB.out.alloc HB.out.size _).trans (hb5.mono (by have := HB.out.size; simp; omega))); clear hb5)
        go_ret
        exact ⟨ret_int HV.out, HB0.out.trans (H5.out.mono HB0.out.size)⟩
    · obtain rfl : k = n := by omega
      have hall := HA.out
      rw [List.take_of_length_le hl1] at hall
      have K4b := Lib.hid (K4.out hall)
      have K5b := Lib.hid (K5.out hall)
      clear K3 K4 K5 hall HA
      have hki : ¬ (k : Int) < (k : Int) := by omega
      go_wp2
      obtain ⟨wq, rfl⟩ : ∃ wq, wq = wr := ⟨_, rfl⟩
      go_loopw [46] (fun i wq => ∃ j : Nat, j ≤ n' ∧ i = .int .i64 j ∧ (ds.take j).any (fun d => dwE d != 0) = false ∧ Below w0.heap.size w0 wq) (fun i _ => n' - (intOf i).toNat)
      case atStart => exact ⟨0, Nat.zero_le _, rfl, by simp, HB.out⟩
      case round =>
        obtain ⟨j, hj, rfl, hany, hbw⟩ := hrel
        clear d0 d1 d2
        have HBq := Lib.hid hbw
        have HBQ := Lib.hid (HB0.out.trans (hbw.mono HB0.out.size))
        obtain ⟨d0, d1, d2⟩ := HC.out _ hbw
        have HA := Lib.hid hany
        clear hbw hany
        have hj64 : IntKind.i64.wrap ((j : Int) + 1) = (j : Int) + 1 := by rw [IntKind.wrap_i64]; omega
        by_cases hlt2 : j < n'
        · have hjl : j < ds.length := by omega
          have hji : (j : Int) < (n' : Int) := by omega
          obtain ⟨blk, off, rfl, hblk, hx⟩ := HR2.out.2 (by omega)
          have PP := (hx j hjl).below HBQ.out hblk
          have HS := Lib.hid (fun h1 => any_takeP (fun d : Dw => dwE d != 0) ds j hjl HA.out h1)
          have HS2 := Lib.hid (fun h1 => any_atP (fun d : Dw => dwE d != 0) ds j hjl h1)
          obtain ⟨pt, hpe⟩ : ∃ x, ds[j] = x := ⟨_, rfl⟩
          rw [hpe] at PP HS HS2
          obtain ⟨a, g, t⟩ := pt
          unfold DwAt at PP
          simp only at PP HS HS2
          obtain ⟨p0, p1, p2⟩ := PP
          have CM := fun wx => Lib.hid (checkMass_any a g wx)
          have HT := Lib.hid (dwE_two ⟨a, g, t⟩)
          have HWE : Hid (dwE ⟨a, g, t⟩ = firstE [mssE a g, rngE 0 3000 [t]]) := Lib.hid rfl
          clear hpe hx
          have C1 := fun wx b (h : IntRow wx (some ⟨b, 0, none⟩) 1 [t]) => Lib.hid (checkRange_any (c := 1) (lo := 0) (hi := 3000) wx h (by decide))
          generalize dwE ⟨a, g, t⟩ = ew at *
          generalize mssE a g = em at *
          generalize rngE 0 3000 [t] = et at *
          have C3 := fun wx b (h : IntRow wx (some ⟨b, 0, none⟩) 2 [em, et]) => Lib.hid (firstError_any (c := 2) wx h (by decide))
          rw [← HWE.out] at C3
          clear HWE
          go_upto_region 16 with fail
          obtain ⟨w3, hw3⟩ : ∃ w3, wr.alloc (.cells #[.int .i64 a, .int .i64 g, .int .i64 t] 178) = w3 := ⟨_, rfl⟩
          have H3 : Hid (Below wr.heap.size wr w3) := Lib.hid (by rw [← hw3]; exact (Below.refl _ _).alloc (Nat.le_refl _) _)
          have H03 := Lib.hid (HBq.out.trans (H3.out.mono HBq.out.size))
          have HL : Hid (w3.cell? ⟨wr.heap.size, 0, none⟩ = some (.int .i64 a) ∧ w3.cell? ⟨wr.heap.size, 1, none⟩ = some (.int .i64 g) ∧ w3.cell? ⟨wr.heap.size, 2, none⟩ = some (.int .i64 t) ∧ wr.heap.size < w3.heap.size) := Lib.hid (by rw [← hw3]; exact ⟨by simp [go_sem], by simp [go_sem], by simp [go_sem], by simp⟩)
          have HC3 := Lib.hid (fun wx (hy : Below w3.heap.size w3 wx) => And.intro (((bcell hy).1 _ _ HL.out.2.2.2).trans HL.out.1) (And.intro (((bcell hy).1 _ _ HL.out.2.2.2).trans HL.out.2.1) (((bcell hy).1 _ _ HL.out.2.2.2).trans HL.out.2.2.1)))
          rw [hw3]
          clear hw3 p0 p1 p2
          refine wp_region_rk [50, 51, 52, 53, 54, 55, 56, 57, 58, 59, 60, 9] [rEq (.pointer (some ⟨wr.heap.size, 0, none⟩)), rEq (.int .i64 a), rEq (.pointer (some ⟨wr.heap.size, 1, none⟩)), rEq (.int .i64 g), rEq (.int .i64 em), rEq (.pointer (some ⟨wr.heap.size, 2, none⟩)), rEq (.int .i64 t), rRow [t] 1, rEq (.int .i64 et), rRow [em, et] 2, rEq (.int .i64 ew), rEq (.int .i64 ew)] (by kernel_rfl) (by kernel_rfl) (by decide) rfl ⟨?_, ?_, ?_, ?_, ?_, ?_, ?_, ?_, ?_, ?_, ?_, ?_, trivial⟩ ?_
          · intro ac wx hf hb hd -- 0
            have f8 : ac.tmps[8]?.getD undef = .pointer (some ⟨wr.heap.size, 0, none⟩) := by rw [← Array.getD_eq_getD_getElem?]; exact hf.same 8 (by decide)
            exact rstep_eq (by simp [execOp, Act.eval, f8, go_sem]) rfl
          · intro ac wx hf hb hd -- 1
            have d0 : ac.tmps[50]?.getD undef = .pointer (some ⟨wr.heap.size, 0, none⟩) := by rw [← Array.getD_eq_getD_getElem?]; exact hd 0 (by decide)
            obtain ⟨m0, m1, m2⟩ := HC3.out wx hb
            exact rstep_eq (by simp [execOp, Act.eval, d0, m0, go_sem]) rfl
          · intro ac wx hf hb hd -- 2
            have f8 : ac.tmps[8]?.getD undef = .pointer (some ⟨wr.heap.size, 0, none⟩) := by rw [← Array.getD_eq_getD_getElem?]; exact hf.same 8 (by decide)
            exact rstep_eq (by simp [execOp, Act.eval, f8, go_sem]) rfl
          · intro ac wx hf hb hd -- 3
            have d2 : ac.tmps[52]?.getD undef = .pointer (some ⟨wr.heap.size, 1, none⟩) := by rw [← Array.getD_eq_getD_getElem?]; exact hd 2 (by decide)
            obtain ⟨m0, m1, m2⟩ := HC3.out wx hb
            exact rstep_eq (by simp [execOp, Act.eval, d2, m1, go_sem]) rfl
          · intro ac wx hf hb hd -- 4
            have d1 : ac.tmps[51]?.getD undef = .int .i64 a := by rw [← Array.getD_eq_getD_getElem?]; exact hd 1 (by decide)
            have d3 : ac.tmps[53]?.getD undef = .int .i64 g := by rw [← Array.getD_eq_getD_getElem?]; exact hd 3 (by decide)
            refine rstep_call (f := 132) (args := #[.int .i64 a, .int .i64 g]) (by simp [Act.eval, d1, d3, go_sem]) ?_ rfl
            exact (CM wx).out
          · intro ac wx hf hb hd -- 5
            have f8 : ac.tmps[8]?.getD undef = .pointer (some ⟨wr.heap.size, 0, none⟩) := by rw [← Array.getD_eq_getD_getElem?]; exact hf.same 8 (by decide)
            exact rstep_eq (by simp [execOp, Act.eval, f8, go_sem]) rfl
          · intro ac wx hf hb hd -- 6
            have d5 : ac.tmps[55]?.getD undef = .pointer (some ⟨wr.heap.size, 2, none⟩) := by rw [← Array.getD_eq_getD_getElem?]; exact hd 5 (by decide)
            obtain ⟨m0, m1, m2⟩ := HC3.out wx hb
            exact rstep_eq (by simp [execOp, Act.eval, d5, m2, go_sem]) rfl
          · intro ac wx hf hb hd -- 7
            have d6 : ac.tmps[56]?.getD undef = .int .i64 t := by rw [← Array.getD_eq_getD_getElem?]; exact hd 6 (by decide)
            exact rstep_row (t := 3) (zs := [t]) rfl rfl (by simp [execOp, Act.eval, d6, go_sem]) rfl
          · intro ac wx hf hb hd -- 8
            obtain ⟨b7, d7, r7⟩ : ∃ b, ac.tmps[57]?.getD undef = .slice (some ⟨b, 0, none⟩) 1 1 ∧ IntRow wx (some ⟨b, 0, none⟩) 1 [t] := by rw [← Array.getD_eq_getD_getElem?]; exact hd 7 (by decide)
            refine rstep_call (f := 96) (args := #[.int .i64 0, .int .i64 3000, .slice (some ⟨b7, 0, none⟩) 1 1]) (by simp [Act.eval, d7, go_sem]) ?_ rfl
            exact (C1 wx b7 r7).out.mono fun e w' ⟨he, hw⟩ => ⟨he, hw ▸ Below.refl _ _⟩
          · intro ac wx hf hb hd -- 9
            have d4 : ac.tmps[54]?.getD undef = .int .i64 em := by rw [← Array.getD_eq_getD_getElem?]; exact hd 4 (by decide)
            have d8 : ac.tmps[58]?.getD undef = .int .i64 et := by rw [← Array.getD_eq_getD_getElem?]; exact hd 8 (by decide)
            exact rstep_row (t := 31) (zs := [em, et]) rfl rfl (by simp [execOp, Act.eval, d4, d8, go_sem]) rfl
          · intro ac wx hf hb hd -- 10
            obtain ⟨b9, d9, r9⟩ : ∃ b, ac.tmps[59]?.getD undef = .slice (some ⟨b, 0, none⟩) 2 2 ∧ IntRow wx (some ⟨b, 0, none⟩) 2 [em, et] := by rw [← Array.getD_eq_getD_getElem?]; exact hd 9 (by decide)
            refine rstep_call (f := 95) (args := #[.slice (some ⟨b9, 0, none⟩) 2 2]) (by simp [Act.eval, d9, go_sem]) ?_ rfl
            exact (C3 wx b9 r9).out.mono fun e w' ⟨he, hw⟩ => ⟨he, hw ▸ Below.refl _ _⟩
          · intro ac wx hf hb hd -- 11
            have d10 : ac.tmps[60]?.getD undef = .int .i64 ew := by rw [← Array.getD_eq_getD_getElem?]; exact hd 10 (by decide)
            exact rstep_eq (by simp [execOp, Act.eval, d10, go_sem]) rfl
          rintro ⟨⟨ll⟩, df⟩ wx hf hb hall
          have hdf : df = [] := hf.defers
          subst hdf
          have hsz : ll.length = 65 := hf.size
          obtain ⟨x0, ll0, rfl, hsz0⟩ := cons_of hsz
          obtain ⟨x1, ll1, rfl, hsz1⟩ := cons_of hsz0
          obtain ⟨x2, ll2, rfl, hsz2⟩ := cons_of hsz1
          obtain ⟨x3, ll3, rfl, hsz3⟩ := cons_of hsz2
          obtain ⟨x4, ll4, rfl, hsz4⟩ := cons_of hsz3
          obtain ⟨x5, ll5, rfl, hsz5⟩ := cons_of hsz4
          obtain ⟨x6, ll6, rfl, hsz6⟩ := cons_of hsz5
          obtain ⟨x7, ll7, rfl, hsz7⟩ := cons_of hsz6
          obtain ⟨x8, ll8, rfl, hsz8⟩ := cons_of hsz7
          obtain ⟨x9, ll9, rfl, hsz9⟩ := cons_of hsz8
          obtain ⟨x10, ll10, rfl, hsz10⟩ := cons_of hsz9
          obtain ⟨x11, ll11, rfl, hsz11⟩ := cons_of hsz10
          obtain ⟨x12, ll12, rfl, hsz12⟩ := cons_of hsz11
          obtain ⟨x13, ll13, rfl, hsz13⟩ := cons_of hsz12
          obtain ⟨x14, ll14, rfl, hsz14⟩ := cons_of hsz13
          obtain ⟨x15, ll15, rfl, hsz15⟩ := cons_of hsz14
          obtain ⟨x16, ll16, rfl, hsz16⟩ := cons_of hsz15
          obtain ⟨x17, ll17, rfl, hsz17⟩ := cons_of hsz16
          obtain ⟨x18, ll18, rfl, hsz18⟩ := cons_of hsz17
          obtain ⟨x19, ll19, rfl, hsz19⟩ := cons_of hsz18
          obtain ⟨x20, ll20, rfl, hsz20⟩ := cons_of hsz19
          obtain ⟨x21, ll21, rfl, hsz21⟩ := cons_of hsz20
          obtain ⟨x22, ll22, rfl, hsz22⟩ := cons_of hsz21
          obtain ⟨x23, ll23, rfl, hsz23⟩ := cons_of hsz22
          obtain ⟨x24, ll24, rfl, hsz24⟩ := cons_of hsz23
          obtain ⟨x25, ll25, rfl, hsz25⟩ := cons_of hsz24
          obtain ⟨x26, ll26, rfl, hsz26⟩ := cons_of hsz25
          obtain ⟨x27, ll27, rfl, hsz27⟩ := cons_of hsz26
          obtain ⟨x28, ll28, rfl, hsz28⟩ := cons_of hsz27
          obtain ⟨x29, ll29, rfl, hsz29⟩ := cons_of hsz28
          obtain ⟨x30, ll30, rfl, hsz30⟩ := cons_of hsz29
          obtain ⟨x31, ll31, rfl, hsz31⟩ := cons_of hsz30
          obtain ⟨x32, ll32, rfl, hsz32⟩ := cons_of hsz31
          obtain ⟨x33, ll33, rfl, hsz33⟩ := cons_of hsz32
          obtain ⟨x34, ll34, rfl, hsz34⟩ := cons_of hsz33
          obtain ⟨x35, ll35, rfl, hsz35⟩ := cons_of hsz34
          obtain ⟨x36, ll36, rfl, hsz36⟩ := cons_of hsz35
          obtain ⟨x37, ll37, rfl, hsz37⟩ := cons_of hsz36
          obtain ⟨x38, ll38, rfl, hsz38⟩ := cons_of hsz37
          obtain ⟨x39, ll39, rfl, hsz39⟩ := cons_of hsz38
          obtain ⟨x40, ll40, rfl, hsz40⟩ := cons_of hsz39
          obtain ⟨x41, ll41, rfl, hsz41⟩ := cons_of hsz40
          obtain ⟨x42, ll42, rfl, hsz42⟩ := cons_of hsz41
          obtain ⟨x43, ll43, rfl, hsz43⟩ := cons_of hsz42
          obtain ⟨x44, ll44, rfl, hsz44⟩ := cons_of hsz43
          obtain ⟨x45, ll45, rfl, hsz45⟩ := cons_of hsz44
          obtain ⟨x46, ll46, rfl, hsz46⟩ := cons_of hsz45
          obtain ⟨x47, ll47, rfl, hsz47⟩ := cons_of hsz46
          obtain ⟨x48, ll48, rfl, hsz48⟩ := cons_of hsz47
          obtain ⟨x49, ll49, rfl, hsz49⟩ := cons_of hsz48
          obtain ⟨x50, ll50, rfl, hsz50⟩ := cons_of hsz49
          obtain ⟨x51, ll51, rfl, hsz51⟩ := cons_of hsz50
          obtain ⟨x52, ll52, rfl, hsz52⟩ := cons_of hsz51
          obtain ⟨x53, ll53, rfl, hsz53⟩ := cons_of hsz52
          obtain ⟨x54, ll54, rfl, hsz54⟩ := cons_of hsz53
          obtain ⟨x55, ll55, rfl, hsz55⟩ := cons_of hsz54
          obtain ⟨x56, ll56, rfl, hsz56⟩ := cons_of hsz55
          obtain ⟨x57, ll57, rfl, hsz57⟩ := cons_of hsz56
          obtain ⟨x58, ll58, rfl, hsz58⟩ := cons_of hsz57
          obtain ⟨x59, ll59, rfl, hsz59⟩ := cons_of hsz58
          obtain ⟨x60, ll60, rfl, hsz60⟩ := cons_of hsz59
          obtain ⟨x61, ll61, rfl, hsz61⟩ := cons_of hsz60
          obtain ⟨x62, ll62, rfl, hsz62⟩ := cons_of hsz61
          obtain ⟨x63, ll63, rfl, hsz63⟩ := cons_of hsz62
          obtain ⟨x64, ll64, rfl, hsz64⟩ := cons_of hsz63
          obtain rfl := List.eq_nil_of_length_eq_zero hsz64
          obtain rfl : x0 = .agg #[.int .i64 D, .slice A k c, .slice (some ⟨blk, off, none⟩) n' c'] := hf.same 0 (by decide)
          obtain rfl : x1 = .pointer (some ⟨w.heap.size, 0, none⟩) := hf.same 1 (by decide)
          obtain rfl : x2 = u2 := hf.same 2 (by decide)
          obtain rfl : x3 = .int .i64 0 := hf.same 3 (by decide)
          obtain rfl : x4 = undef := hf.same 4 (by decide)
          obtain rfl : x5 = u5 := hf.same 5 (by decide)
          obtain rfl : x6 = u6 := hf.same 6 (by decide)
          obtain rfl : x7 = undef := hf.same 7 (by decide)
          obtain rfl : x8 = .pointer (some ⟨wr.heap.size, 0, none⟩) := hf.same 8 (by decide)
          obtain rfl : x9 = .int .i64 ew := hall 11 9 rfl
          obtain rfl : x10 = .pointer (some ⟨w.heap.size, 0, none⟩) := hf.same 10 (by decide)
          obtain rfl : x11 = .int .i64 D := hf.same 11 (by decide)
          obtain rfl : x12 = .slice (some ⟨w0.heap.size, 0, none⟩) 1 1 := hf.same 12 (by decide)
          obtain rfl : x13 = .int .i64 0 := hf.same 13 (by decide)
          obtain rfl : x14 = .int .i64 0 := hf.same 14 (by decide)
          obtain rfl : x15 = .bool false := hf.same 15 (by decide)
          obtain rfl : x16 = undef := hf.same 16 (by decide)
          obtain rfl : x17 = .pointer (some ⟨w.heap.size, 1, none⟩) := hf.same 17 (by decide)
          obtain rfl : x18 = .slice A k c := hf.same 18 (by decide)
          obtain rfl : x19 = .int .i64 (k : Int) := hf.same 19 (by decide)
          obtain rfl : x20 = .bool false := hf.same 20 (by decide)
          obtain rfl : x21 = .bool false := hf.same 21 (by decide)
          obtain rfl : x22 = .pointer (some ⟨w.heap.size, 2, none⟩) := hf.same 22 (by decide)
          obtain rfl : x23 = .slice (some ⟨blk, off, none⟩) n' c' := hf.same 23 (by decide)
          obtain rfl : x24 = .int .i64 (n' : Int) := hf.same 24 (by decide)
          obtain rfl : x25 = .bool false := hf.same 25 (by decide)
          obtain rfl : x26 = .bool false := hf.same 26 (by decide)
          obtain rfl : x27 = .pointer (some ⟨w.heap.size, 1, none⟩) := hf.same 27 (by decide)
          obtain rfl : x28 = .slice A k c := hf.same 28 (by decide)
          obtain rfl : x29 = .int .i64 (k : Int) := hf.same 29 (by decide)
          obtain rfl : x30 = .int .i64 (k : Int) := hf.same 30 (by decide)
          obtain rfl : x31 = .bool false := hf.same 31 (by decide)
          obtain rfl : x32 = u32 := hf.same 32 (by decide)
          obtain rfl : x33 = u33 := hf.same 33 (by decide)
          obtain rfl : x34 = u34 := hf.same 34 (by decide)
          obtain rfl : x35 = u35 := hf.same 35 (by decide)
          obtain rfl : x36 = u36 := hf.same 36 (by decide)
          obtain rfl : x37 = u37 := hf.same 37 (by decide)
          obtain rfl : x38 = u38 := hf.same 38 (by decide)
          obtain rfl : x39 = u39 := hf.same 39 (by decide)
          obtain rfl : x40 = u40 := hf.same 40 (by decide)
          obtain rfl : x41 = u41 := hf.same 41 (by decide)
          obtain rfl : x42 = u42 := hf.same 42 (by decide)
          obtain rfl : x43 = .pointer (some ⟨w.heap.size, 2, none⟩) := hf.same 43 (by decide)
          obtain rfl : x44 = .slice (some ⟨blk, off, none⟩) n' c' := hf.same 44 (by decide)
          obtain rfl : x45 = .int .i64 (n' : Int) := hf.same 45 (by decide)
          obtain rfl : x46 = .int .i64 (j : Int) := hf.same 46 (by decide)
          obtain rfl : x50 = .pointer (some ⟨wr.heap.size, 0, none⟩) := hall 0 50 rfl
          obtain rfl : x51 = .int .i64 a := hall 1 51 rfl
          obtain rfl : x52 = .pointer (some ⟨wr.heap.size, 1, none⟩) := hall 2 52 rfl
          obtain rfl : x53 = .int .i64 g := hall 3 53 rfl
          obtain rfl : x54 = .int .i64 em := hall 4 54 rfl
          obtain rfl : x55 = .pointer (some ⟨wr.heap.size, 2, none⟩) := hall 5 55 rfl
          obtain rfl : x56 = .int .i64 t := hall 6 56 rfl
          obtain rfl : x58 = .int .i64 et := hall 8 58 rfl
          obtain rfl : x60 = .int .i64 ew := hall 10 60 rfl
          clear hall hf
          have H5 := Lib.hid (H03.out.trans (hb.mono H03.out.size))
          clear hb hsz hsz0 hsz1 hsz2 hsz3 hsz4 hsz5 hsz6 hsz7 hsz8 hsz9 hsz10 hsz11 hsz12 hsz13 hsz14 hsz15 hsz16 hsz17 hsz18 hsz19 hsz20 hsz21 hsz22 hsz23 hsz24 hsz25 hsz26 hsz27 hsz28 hsz29 hsz30 hsz31 hsz32 hsz33 hsz34 hsz35 hsz36 hsz37 hsz38 hsz39 hsz40 hsz41 hsz42 hsz43 hsz44 hsz45 hsz46 hsz47 hsz48 hsz49 hsz50 hsz51 hsz52 hsz53 hsz54 hsz55 hsz56 hsz57 hsz58 hsz59 hsz60 hsz61 hsz62 hsz63 hsz64
          by_cases hew : ew = 0
          · subst hew
            have HSN := Lib.hid (HS.out rfl)
            clear HS HS2 HT
            obtain ⟨f0, f1, f2⟩ := HC.out _ H5.out
            go_wp2
            go_roundw
            case rel => exact ⟨j + 1, by omega, by go_num, HSN.out, H5.out⟩
            case measure => simp [intOf]; omega
          · have e1' : (ew == 0) = false := by simpa using hew
            have e2' : (ew != 0) = true := by simpa using hew
            have hv := Lib.hid (K4b.out (HS2.out e2'))
            have h2 : ew = 2 := by rcases HT.out with h | h; exact absurd h hew; exact h
            have HV := Lib.hid (show ew = ce by rw [h2, hv.out])
            clear h2 hv HS HS2 HT
            go_wp2
            go_ret
            exact ⟨ret_int HV.out, HB0.out.trans (H5.out.mono HB0.out.size)⟩
        · obtain rfl : j = n' := by omega
          have hall := HA.out
          rw [List.take_of_length_le hl2] at hall
          have hv := Lib.hid (K5b.out hall)
          clear hall HA
          have hji : ¬ (j : Int) < (j : Int) := by omega
          go_wp2
          go_ret
          exact ⟨ret_int hv.out.symm, HBQ.out⟩
end Go.Proofs.Ytablphoicidlkaa
namespace Go.Proofs.Ytablphoicidlkaa
open Go.RowKit

theorem opn_vals {op : List Int} {c : Int} : (op.any (fun x => decide (x < 0) || decide (c ≤ x)) = true → opnE op c = 6) ∧ (op.any (fun x => decide (x < 0) || decide (c ≤ x)) = false → ascB op = true → opnE op c = 0) ∧ (op.any (fun x => decide (x < 0) || decide (c ≤ x)) = false → ascB op = false → opnE op c = 9) := by
  unfold opnE
  refine ⟨fun h => ?_, fun h e => ?_, fun h e => ?_⟩
  · rw [h]; rfl
  · rw [h, e]; rfl
  · rw [h, e]; rfl
theorem asc_no {l : List Int} {i : Nat} (h : i + 1 < l.length) (hx : l[i + 1] ≤ l[i]) : ascB l = false := by
  cases hc : ascB l
  · rfl
  · have := ascB_iff.1 hc i h
    omega
theorem asc_no2 {l : List Int} {i j : Nat} (hij : i + 1 = j) (h : j < l.length) (hx : l[j] ≤ l[i]'(by omega)) : ascB l = false := by
  subst hij
  exact asc_no h hx
theorem asc_step {l : List Int} {i j : Nat} (hs : ∀ q (h : q + 1 < l.length), q + 1 < j → l[q] < l[q + 1]) (hij : i + 1 = j) (h : j < l.length) (hx : ¬ l[j] ≤ l[i]'(by omega)) : ∀ q (h : q + 1 < l.length), q + 1 < j + 1 → l[q] < l[q + 1] := by
  subst hij
  intro q h1 h2
  by_cases hq : q < i
  · exact hs q h1 (by omega)
  · obtain rfl : q = i := by omega
    omega
set_option maxHeartbeats 8000000 in
set_option maxRecDepth 20000 in
theorem checkOpen_any {A : Option Addr} {n c : Nat} {op : List Int} {m : Nat} (w : World) (R : IntRow w A n op) (hn : n ≤ maxLen) (_hm : m ≤ maxLen) :
    Calls Try.prog 130 #[.slice A n c, .int .i64 (m : Int)] w fun e w' => e = .returned (.int .i64 (opnE op m)) ∧ Below w.heap.size w w' := by
  obtain ⟨V1, V2, V3⟩ := opn_vals (op := op) (c := m)
  have HV1 := Lib.hid V1
  have HV2 := Lib.hid V2
  have HV3 := Lib.hid V3
  have HR := Lib.hid R
  have hle : op.length ≤ n := by have := R.1; omega
  have hge : n ≤ op.length := by have := R.1; omega
  clear V1 V2 V3 R
  unfold maxLen at hn
  generalize opnE op m = ce at *
  go_enter Try.func130, Try.ntmps130
  go_wp2
  go_loopw [10] (fun i wr => ∃ k : Nat, k ≤ n ∧ i = .int .i64 k ∧ (op.take k).any (fun x => decide (x < 0) || decide ((m : Int) ≤ x)) = false ∧ Below w.heap.size w wr) (fun i _ => n - (intOf i).toNat)
  case atStart => exact ⟨0, Nat.zero_le _, rfl, by simp, Below.refl _ _⟩
  case round =>
    obtain ⟨k, hk, rfl, hany, hbw⟩ := hrel
    have HB := Lib.hid hbw
    have HA := Lib.hid hany
    clear hbw hany
    by_cases hlt : k < n
    · have hkl : k < op.length := by omega
      have hki : (k : Int) < (n : Int) := by omega
      obtain ⟨blk, off, rfl, hblk, hx⟩ := HR.out.2 (by omega)
      have PP : wr.cell? ⟨blk, off + k * 1, none⟩ = _ := ((bcell HB.out).1 _ _ hblk).trans (hx k hkl)
      rw [Nat.mul_one] at PP
      have HS := Lib.hid (fun h1 => any_takeP (fun x : Int => decide (x < 0) || decide ((m : Int) ≤ x)) op k hkl HA.out h1)
      have HS2 := Lib.hid (fun h1 => any_atP (fun x : Int => decide (x < 0) || decide ((m : Int) ≤ x)) op k hkl h1)
      obtain ⟨x, hpe⟩ : ∃ x, op[k] = x := ⟨_, rfl⟩
      rw [hpe] at PP HS HS2
      clear hpe hx
      by_cases h0 : x < 0
      · have d0 : decide (x < 0) = true := decide_eq_true h0
        have hv := Lib.hid (HV1.out (HS2.out (by rw [d0]; rfl)))
        clear HS HS2
        go_wp2
        go_ret
        exact ⟨ret_int hv.out.symm, HB.out⟩
      have d0 : decide (x < 0) = false := decide_eq_false h0
      by_cases h1 : (m : Int) ≤ x
      · have d1 : decide ((m : Int) ≤ x) = true := decide_eq_true h1
        have hv := Lib.hid (HV1.out (HS2.out (by rw [d0, d1]; rfl)))
        clear HS HS2
        go_wp2
        go_ret
        exact ⟨ret_int hv.out.symm, HB.out⟩
      have d1 : decide ((m : Int) ≤ x) = false := decide_eq_false h1
      have HSN := Lib.hid (HS.out (by rw [d0, d1]; rfl))
      clear HS HS2
      go_wp2
      go_roundw
      case rel => exact ⟨k + 1, by omega, by go_num, HSN.out, HB.out⟩
      case measure => simp [intOf]; omega
    · obtain rfl : k = n := by omega
      have hall := HA.out
      rw [List.take_of_length_le hle] at hall
      have K2 := Lib.hid (HV2.out hall)
      have K3 := Lib.hid (HV3.out hall)
      clear HV1 HV2 HV3 hall HA
      have hki : ¬ (k : Int) < (k : Int) := by omega
      go_wp2
      obtain ⟨wq, rfl⟩ : ∃ wq, wq = wr := ⟨_, rfl⟩
      go_loopw [24] (fun i wr => ∃ j : Nat, j ≤ k ∧ i = .int .i64 j ∧ (∀ i (h : i + 1 < op.length), i + 1 < j → op[i] < op[i + 1]) ∧ Below w.heap.size w wr) (fun i _ => k - (intOf i).toNat)
      case atStart => exact ⟨0, Nat.zero_le _, rfl, fun i h hi => absurd hi (by omega), HB.out⟩
      case round =>
        obtain ⟨j, hj, rfl, hasc, hbw⟩ := hrel
        have HBq := Lib.hid hbw
        have HS := Lib.hid hasc
        clear hbw hasc
        by_cases hlt2 : j < k
        · have hjl : j < op.length := by omega
          have hji : (j : Int) < (k : Int) := by omega
          obtain ⟨blk, off, rfl, hblk, hx⟩ := HR.out.2 (by omega)
          have hnn : (0 : Int) ≤ (j : Int) := by omega
          by_cases hj0 : j = 0
          · have hgt : decide ((0 : Int) < (j : Int)) = false := decide_eq_false (by omega)
            go_upto_region 10 with fail
            refine wp_region_rkg [27, 28, 29, 30, 31, 32, 33, 34, 35, 36, 37, 38, 39, 40] [rEq (.int .i64 (j : Int)), rEq (.bool false), rEq (.bool false), (rAny), (rAny), (rAny), (rAny), (rAny), (rAny), (rAny), (rAny), (rAny), (rAny), rEq (.bool false)] (by kernel_rfl) (by kernel_rfl) (by decide) rfl ⟨?_, ?_, ?_, ?_, ?_, ?_, ?_, ?_, ?_, ?_, ?_, ?_, ?_, ?_, trivial⟩ ?_
            · intro ac wx hf hb hd -- 0
              refine .inl ⟨wanted_free rfl, ?_⟩
              have f7 : ac.tmps[7]?.getD undef = .int .i64 (j : Int) := by rw [← Array.getD_eq_getD_getElem?]; exact hf.same 7 (by decide)
              exact rstep_eq (by simp [execOp, Act.eval, f7, go_sem]) rfl
            · intro ac wx hf hb hd -- 1
              refine .inl ⟨wanted_free rfl, ?_⟩
              have d0 : ac.tmps[27]?.getD undef = .int .i64 (j : Int) := by rw [← Array.getD_eq_getD_getElem?]; exact hd 0 (by decide)
              exact rstep_eq (by simp [execOp, Act.eval, d0, hj0, go_sem]) rfl
            · intro ac wx hf hb hd -- 2
              refine .inl ⟨wanted_free rfl, ?_⟩
              have d1 : ac.tmps[28]?.getD undef = .bool false := by rw [← Array.getD_eq_getD_getElem?]; exact hd 1 (by decide)
              exact rstep_eq (by simp [execOp, Act.eval, d1, go_sem]) rfl
            · intro ac wx hf hb hd -- 3
              exact .inr ⟨wanted_not (j := 2) (d := 29) (b := true) rfl rfl (hd 2 (by decide)), by first | exact trivial | rfl⟩
            · intro ac wx hf hb hd -- 4
              exact .inr ⟨wanted_not (j := 2) (d := 29) (b := true) rfl rfl (hd 2 (by decide)), by first | exact trivial | rfl⟩
            · intro ac wx hf hb hd -- 5
              exact .inr ⟨wanted_not (j := 2) (d := 29) (b := true) rfl rfl (hd 2 (by decide)), by first | exact trivial | rfl⟩
            · intro ac wx hf hb hd -- 6
              exact .inr ⟨wanted_not (j := 2) (d := 29) (b := true) rfl rfl (hd 2 (by decide)), by first | exact trivial | rfl⟩
            · intro ac wx hf hb hd -- 7
              exact .inr ⟨wanted_not (j := 2) (d := 29) (b := true) rfl rfl (hd 2 (by decide)), by first | exact trivial | rfl⟩
            · intro ac wx hf hb hd -- 8
              exact .inr ⟨wanted_not (j := 2) (d := 29) (b := true) rfl rfl (hd 2 (by decide)), by first | exact trivial | rfl⟩
            · intro ac wx hf hb hd -- 9
              exact .inr ⟨wanted_not (j := 2) (d := 29) (b := true) rfl rfl (hd 2 (by decide)), by first | exact trivial | rfl⟩
            · intro ac wx hf hb hd -- 10
              exact .inr ⟨wanted_not (j := 2) (d := 29) (b := true) rfl rfl (hd 2 (by decide)), by first | exact trivial | rfl⟩
            · intro ac wx hf hb hd -- 11
              exact .inr ⟨wanted_not (j := 2) (d := 29) (b := true) rfl rfl (hd 2 (by decide)), by first | exact trivial | rfl⟩
            · intro ac wx hf hb hd -- 12
              exact .inr ⟨wanted_not (j := 2) (d := 29) (b := true) rfl rfl (hd 2 (by decide)), by first | exact trivial | rfl⟩
            · intro ac wx hf hb hd -- 13
              refine .inl ⟨wanted_free rfl, ?_⟩
              have d2 : ac.tmps[29]?.getD undef = .bool false := by rw [← Array.getD_eq_getD_getElem?]; exact hd 2 (by decide)
              exact rstep_eq (by simp [execOp, Act.eval, d2, go_sem]) rfl
            rintro ⟨⟨ll⟩, df⟩ wx hf hb hall
            have hdf : df = [] := hf.defers
            subst hdf
            have hsz : ll.length = 42 := hf.size
            obtain ⟨x0, ll0, rfl, hsz0⟩ := cons_of hsz
            obtain ⟨x1, ll1, rfl, hsz1⟩ := cons_of hsz0
            obtain ⟨x2, ll2, rfl, hsz2⟩ := cons_of hsz1
            obtain ⟨x3, ll3, rfl, hsz3⟩ := cons_of hsz2
            obtain ⟨x4, ll4, rfl, hsz4⟩ := cons_of hsz3
            obtain ⟨x5, ll5, rfl, hsz5⟩ := cons_of hsz4
            obtain ⟨x6, ll6, rfl, hsz6⟩ := cons_of hsz5
            obtain ⟨x7, ll7, rfl, hsz7⟩ := cons_of hsz6
            obtain ⟨x8, ll8, rfl, hsz8⟩ := cons_of hsz7
            obtain ⟨x9, ll9, rfl, hsz9⟩ := cons_of hsz8
            obtain ⟨x10, ll10, rfl, hsz10⟩ := cons_of hsz9
            obtain ⟨x11, ll11, rfl, hsz11⟩ := cons_of hsz10
            obtain ⟨x12, ll12, rfl, hsz12⟩ := cons_of hsz11
            obtain ⟨x13, ll13, rfl, hsz13⟩ := cons_of hsz12
            obtain ⟨x14, ll14, rfl, hsz14⟩ := cons_of hsz13
            obtain ⟨x15, ll15, rfl, hsz15⟩ := cons_of hsz14
            obtain ⟨x16, ll16, rfl, hsz16⟩ := cons_of hsz15
            obtain ⟨x17, ll17, rfl, hsz17⟩ := cons_of hsz16
            obtain ⟨x18, ll18, rfl, hsz18⟩ := cons_of hsz17
            obtain ⟨x19, ll19, rfl, hsz19⟩ := cons_of hsz18
            obtain ⟨x20, ll20, rfl, hsz20⟩ := cons_of hsz19
            obtain ⟨x21, ll21, rfl, hsz21⟩ := cons_of hsz20
            obtain ⟨x22, ll22, rfl, hsz22⟩ := cons_of hsz21
            obtain ⟨x23, ll23, rfl, hsz23⟩ := cons_of hsz22
            obtain ⟨x24, ll24, rfl, hsz24⟩ := cons_of hsz23
            obtain ⟨x25, ll25, rfl, hsz25⟩ := cons_of hsz24
            obtain ⟨x26, ll26, rfl, hsz26⟩ := cons_of hsz25
            obtain ⟨x27, ll27, rfl, hsz27⟩ := cons_of hsz26
            obtain ⟨x28, ll28, rfl, hsz28⟩ := cons_of hsz27
            obtain ⟨x29, ll29, rfl, hsz29⟩ := cons_of hsz28
            obtain ⟨x30, ll30, rfl, hsz30⟩ := cons_of hsz29
            obtain ⟨x31, ll31, rfl, hsz31⟩ := cons_of hsz30
            obtain ⟨x32, ll32, rfl, hsz32⟩ := cons_of hsz31
            obtain ⟨x33, ll33, rfl, hsz33⟩ := cons_of hsz32
            obtain ⟨x34, ll34, rfl, hsz34⟩ := cons_of hsz33
            obtain ⟨x35, ll35, rfl, hsz35⟩ := cons_of hsz34
            obtain ⟨x36, ll36, rfl, hsz36⟩ := cons_of hsz35
            obtain ⟨x37, ll37, rfl, hsz37⟩ := cons_of hsz36
            obtain ⟨x38, ll38, rfl, hsz38⟩ := cons_of hsz37
            obtain ⟨x39, ll39, rfl, hsz39⟩ := cons_of hsz38
            obtain ⟨x40, ll40, rfl, hsz40⟩ := cons_of hsz39
            obtain ⟨x41, ll41, rfl, hsz41⟩ := cons_of hsz40
            obtain rfl := List.eq_nil_of_length_eq_zero hsz41
            obtain rfl : x0 = .slice (some ⟨blk, off, none⟩) k c := hf.same 0 (by decide)
            obtain rfl : x1 = .int .i64 (m : Int) := hf.same 1 (by decide)
            obtain rfl : x2 = undef := hf.same 2 (by decide)
            obtain rfl : x3 = undef := hf.same 3 (by decide)
            obtain rfl : x5 = undef := hf.same 5 (by decide)
            obtain rfl : x6 = u6 := hf.same 6 (by decide)
            obtain rfl : x7 = .int .i64 (j : Int) := hf.same 7 (by decide)
            obtain rfl : x8 = .slice (some ⟨blk, off, none⟩) k c := hf.same 8 (by decide)
            obtain rfl : x9 = .int .i64 (k : Int) := hf.same 9 (by decide)
            obtain rfl : x10 = .int .i64 (k : Int) := hf.same 10 (by decide)
            obtain rfl : x11 = .bool false := hf.same 11 (by decide)
            obtain rfl : x12 = u12 := hf.same 12 (by decide)
            obtain rfl : x13 = u13 := hf.same 13 (by decide)
            obtain rfl : x14 = u14 := hf.same 14 (by decide)
            obtain rfl : x15 = u15 := hf.same 15 (by decide)
            obtain rfl : x16 = u16 := hf.same 16 (by decide)
            obtain rfl : x17 = u17 := hf.same 17 (by decide)
            obtain rfl : x18 = u18 := hf.same 18 (by decide)
            obtain rfl : x19 = u19 := hf.same 19 (by decide)
            obtain rfl : x20 = u20 := hf.same 20 (by decide)
            obtain rfl : x21 = u21 := hf.same 21 (by decide)
            obtain rfl : x22 = .slice (some ⟨blk, off, none⟩) k c := hf.same 22 (by decide)
            obtain rfl : x23 = .int .i64 (k : Int) := hf.same 23 (by decide)
            obtain rfl : x24 = .int .i64 (j : Int) := hf.same 24 (by decide)
            obtain rfl : x27 = .int .i64 (j : Int) := hall 0 27 rfl
            obtain rfl : x28 = .bool false := hall 1 28 rfl
            obtain rfl : x29 = .bool false := hall 2 29 rfl
            obtain rfl : x40 = .bool false := hall 13 40 rfl
            clear hall hf
            have H5 := Lib.hid (HBq.out.trans (hb.mono HBq.out.size))
            clear hb hsz hsz0 hsz1 hsz2 hsz3 hsz4 hsz5 hsz6 hsz7 hsz8 hsz9 hsz10 hsz11 hsz12 hsz13 hsz14 hsz15 hsz16 hsz17 hsz18 hsz19 hsz20 hsz21 hsz22 hsz23 hsz24 hsz25 hsz26 hsz27 hsz28 hsz29 hsz30 hsz31 hsz32 hsz33 hsz34 hsz35 hsz36 hsz37 hsz38 hsz39 hsz40 hsz41
            go_wp2
            go_roundw
            case rel => exact ⟨j + 1, by omega, by go_num, fun i h hi => absurd hi (by omega), H5.out⟩
            case measure => simp [intOf]; omega
          · have hgt : decide ((0 : Int) < (j : Int)) = true := decide_eq_true (by omega)
            obtain ⟨i, hi1⟩ : ∃ i, i + 1 = j := ⟨j - 1, by omega⟩
            have HI := Lib.hid hi1
            have hil : i < op.length := by omega
            have hii : (i : Int) < (k : Int) := by omega
            have hjp : 0 < j := by omega
            have hi0 : (0 : Int) ≤ (i : Int) := by omega
            have hsub : IntKind.i64.wrap ((j : Int) - 1) = (i : Int) := by rw [IntKind.wrap_i64]; omega
            have P1 : wr.cell? ⟨blk, off + i * 1, none⟩ = _ := ((bcell HBq.out).1 _ _ hblk).trans (hx i hil)
            have P2 : wr.cell? ⟨blk, off + j * 1, none⟩ = _ := ((bcell HBq.out).1 _ _ hblk).trans (hx j hjl)
            rw [Nat.mul_one] at P1 P2
            have HAS := Lib.hid (fun (h : ¬ op[j] ≤ op[i]) => asc_step HS.out HI.out hjl h)
            have HNO := Lib.hid (fun (h : op[j] ≤ op[i]) => K3.out (asc_no2 HI.out hjl h))
            obtain ⟨x, hxe⟩ : ∃ x, op[i] = x := ⟨_, rfl⟩
            obtain ⟨y, hye⟩ : ∃ y, op[j] = y := ⟨_, rfl⟩
            rw [hxe] at P1
            rw [hye] at P2
            rw [hxe, hye] at HAS HNO
            clear hxe hye hx hi1
            have HP := Lib.hid (And.intro P1 P2)
            have lb : blk < wr.heap.size := World.block_lt_of_cell? wr _ P1
            have HCB := Lib.hid (fun wx (hy : Below wr.heap.size wr wx) => And.intro (((bcell hy).1 _ _ lb).trans HP.out.1) (((bcell hy).1 _ _ lb).trans HP.out.2))
            clear P1 P2
            obtain ⟨vv, hvv⟩ : ∃ vv, decide (y ≤ x) = vv := ⟨_, rfl⟩
            go_upto_region 10 with fail
            refine wp_region_rkg [27, 28, 29, 30, 31, 32, 33, 34, 35, 36, 37, 38, 39, 40] [rEq (.int .i64 (j : Int)), rEq (.bool true), rEq (.bool true), rEq (.slice (some ⟨blk, off, none⟩) k c), rEq (.int .i64 (j : Int)), rEq (.int .i64 (i : Int)), rEq (.pointer (some ⟨blk, off + i, none⟩)), rEq (.int .i64 x), rEq (.slice (some ⟨blk, off, none⟩) k c), rEq (.int .i64 (j : Int)), rEq (.pointer (some ⟨blk, off + j, none⟩)), rEq (.int .i64 y), rEq (.bool vv), rEq (.bool vv)] (by kernel_rfl) (by kernel_rfl) (by decide) rfl ⟨?_, ?_, ?_, ?_, ?_, ?_, ?_, ?_, ?_, ?_, ?_, ?_, ?_, ?_, trivial⟩ ?_
            · intro ac wx hf hb hd -- 0
              refine .inl ⟨wanted_free rfl, ?_⟩
              have f7 : ac.tmps[7]?.getD undef = .int .i64 (j : Int) := by rw [← Array.getD_eq_getD_getElem?]; exact hf.same 7 (by decide)
              exact rstep_eq (by simp [execOp, Act.eval, f7, go_sem]) rfl
            · intro ac wx hf hb hd -- 1
              refine .inl ⟨wanted_free rfl, ?_⟩
              have d0 : ac.tmps[27]?.getD undef = .int .i64 (j : Int) := by rw [← Array.getD_eq_getD_getElem?]; exact hd 0 (by decide)
              exact rstep_eq (by simp [execOp, Act.eval, d0, hjp, go_sem]) rfl
            · intro ac wx hf hb hd -- 2
              refine .inl ⟨wanted_free rfl, ?_⟩
              have d1 : ac.tmps[28]?.getD undef = .bool true := by rw [← Array.getD_eq_getD_getElem?]; exact hd 1 (by decide)
              exact rstep_eq (by simp [execOp, Act.eval, d1, go_sem]) rfl
            · intro ac wx hf hb hd -- 3
              refine .inl ⟨wanted_by (j := 2) (d := 29) (b := true) rfl rfl (hd 2 (by decide)), ?_⟩
              have f0 : ac.tmps[0]?.getD undef = .slice (some ⟨blk, off, none⟩) k c := by rw [← Array.getD_eq_getD_getElem?]; exact hf.same 0 (by decide)
              exact rstep_eq (by simp [execOp, Act.eval, f0, go_sem]) rfl
            · intro ac wx hf hb hd -- 4
              refine .inl ⟨wanted_by (j := 2) (d := 29) (b := true) rfl rfl (hd 2 (by decide)), ?_⟩
              have f7 : ac.tmps[7]?.getD undef = .int .i64 (j : Int) := by rw [← Array.getD_eq_getD_getElem?]; exact hf.same 7 (by decide)
              exact rstep_eq (by simp [execOp, Act.eval, f7, go_sem]) rfl
            · intro ac wx hf hb hd -- 5
              refine .inl ⟨wanted_by (j := 2) (d := 29) (b := true) rfl rfl (hd 2 (by decide)), ?_⟩
              have d4 : ac.tmps[31]?.getD undef = .int .i64 (j : Int) := by rw [← Array.getD_eq_getD_getElem?]; exact hd 4 (by decide)
              exact rstep_eq (by simp [execOp, Act.eval, d4, hsub, go_sem]) rfl
            · intro ac wx hf hb hd -- 6
              refine .inl ⟨wanted_by (j := 2) (d := 29) (b := true) rfl rfl (hd 2 (by decide)), ?_⟩
              have d3 : ac.tmps[30]?.getD undef = .slice (some ⟨blk, off, none⟩) k c := by rw [← Array.getD_eq_getD_getElem?]; exact hd 3 (by decide)
              have d5 : ac.tmps[32]?.getD undef = .int .i64 (i : Int) := by rw [← Array.getD_eq_getD_getElem?]; exact hd 5 (by decide)
              exact rstep_eq (by simp [execOp, Act.eval, d3, d5, hii, hi0, go_sem]) rfl
            · intro ac wx hf hb hd -- 7
              refine .inl ⟨wanted_by (j := 2) (d := 29) (b := true) rfl rfl (hd 2 (by decide)), ?_⟩
              have d6 : ac.tmps[33]?.getD undef = .pointer (some ⟨blk, off + i, none⟩) := by rw [← Array.getD_eq_getD_getElem?]; exact hd 6 (by decide)
              obtain ⟨p1, p2⟩ := HCB.out wx hb
              exact rstep_eq (by simp [execOp, Act.eval, d6, p1, go_sem]) rfl
            · intro ac wx hf hb hd -- 8
              refine .inl ⟨wanted_by (j := 2) (d := 29) (b := true) rfl rfl (hd 2 (by decide)), ?_⟩
              have f0 : ac.tmps[0]?.getD undef = .slice (some ⟨blk, off, none⟩) k c := by rw [← Array.getD_eq_getD_getElem?]; exact hf.same 0 (by decide)
              exact rstep_eq (by simp [execOp, Act.eval, f0, go_sem]) rfl
            · intro ac wx hf hb hd -- 9
              refine .inl ⟨wanted_by (j := 2) (d := 29) (b := true) rfl rfl (hd 2 (by decide)), ?_⟩
              have f7 : ac.tmps[7]?.getD undef = .int .i64 (j : Int) := by rw [← Array.getD_eq_getD_getElem?]; exact hf.same 7 (by decide)
              exact rstep_eq (by simp [execOp, Act.eval, f7, go_sem]) rfl
            · intro ac wx hf hb hd -- 10
              refine .inl ⟨wanted_by (j := 2) (d := 29) (b := true) rfl rfl (hd 2 (by decide)), ?_⟩
              have d8 : ac.tmps[35]?.getD undef = .slice (some ⟨blk, off, none⟩) k c := by rw [← Array.getD_eq_getD_getElem?]; exact hd 8 (by decide)
              have d9 : ac.tmps[36]?.getD undef = .int .i64 (j : Int) := by rw [← Array.getD_eq_getD_getElem?]; exact hd 9 (by decide)
              exact rstep_eq (by simp [execOp, Act.eval, d8, d9, hji, hnn, go_sem]) rfl
            · intro ac wx hf hb hd -- 11
              refine .inl ⟨wanted_by (j := 2) (d := 29) (b := true) rfl rfl (hd 2 (by decide)), ?_⟩
              have d10 : ac.tmps[37]?.getD undef = .pointer (some ⟨blk, off + j, none⟩) := by rw [← Array.getD_eq_getD_getElem?]; exact hd 10 (by decide)
              obtain ⟨p1, p2⟩ := HCB.out wx hb
              exact rstep_eq (by simp [execOp, Act.eval, d10, p2, go_sem]) rfl
            · intro ac wx hf hb hd -- 12
              refine .inl ⟨wanted_by (j := 2) (d := 29) (b := true) rfl rfl (hd 2 (by decide)), ?_⟩
              have d7 : ac.tmps[34]?.getD undef = .int .i64 x := by rw [← Array.getD_eq_getD_getElem?]; exact hd 7 (by decide)
              have d11 : ac.tmps[38]?.getD undef = .int .i64 y := by rw [← Array.getD_eq_getD_getElem?]; exact hd 11 (by decide)
              exact rstep_eq (by simp [execOp, Act.eval, d7, d11, hvv, go_sem]) rfl
            · intro ac wx hf hb hd -- 13
              refine .inl ⟨wanted_free rfl, ?_⟩
              have d2 : ac.tmps[29]?.getD undef = .bool true := by rw [← Array.getD_eq_getD_getElem?]; exact hd 2 (by decide)
              have d12 : ac.tmps[39]?.getD undef = .bool vv := by rw [← Array.getD_eq_getD_getElem?]; exact hd 12 (by decide)
              exact rstep_eq (by simp [execOp, Act.eval, d2, d12, go_sem]) rfl
            rintro ⟨⟨ll⟩, df⟩ wx hf hb hall
            have hdf : df = [] := hf.defers
            subst hdf
            have hsz : ll.length = 42 := hf.size
            obtain ⟨x0, ll0, rfl, hsz0⟩ := cons_of hsz
            obtain ⟨x1, ll1, rfl, hsz1⟩ := cons_of hsz0
            obtain ⟨x2, ll2, rfl, hsz2⟩ := cons_of hsz1
            obtain ⟨x3, ll3, rfl, hsz3⟩ := cons_of hsz2
            obtain ⟨x4, ll4, rfl, hsz4⟩ := cons_of hsz3
            obtain ⟨x5, ll5, rfl, hsz5⟩ := cons_of hsz4
            obtain ⟨x6, ll6, rfl, hsz6⟩ := cons_of hsz5
            obtain ⟨x7, ll7, rfl, hsz7⟩ := cons_of hsz6
            obtain ⟨x8, ll8, rfl, hsz8⟩ := cons_of hsz7
            obtain ⟨x9, ll9, rfl, hsz9⟩ := cons_of hsz8
            obtain ⟨x10, ll10, rfl, hsz10⟩ := cons_of hsz9
            obtain ⟨x11, ll11, rfl, hsz11⟩ := cons_of hsz10
            obtain ⟨x12, ll12, rfl, hsz12⟩ := cons_of hsz11
            obtain ⟨x13, ll13, rfl, hsz13⟩ := cons_of hsz12
            obtain ⟨x14, ll14, rfl, hsz14⟩ := cons_of hsz13
            obtain ⟨x15, ll15, rfl, hsz15⟩ := cons_of hsz14
            obtain ⟨x16, ll16, rfl, hsz16⟩ := cons_of hsz15
            obtain ⟨x17, ll17, rfl, hsz17⟩ := cons_of hsz16
            obtain ⟨x18, ll18, rfl, hsz18⟩ := cons_of hsz17
            obtain ⟨x19, ll19, rfl, hsz19⟩ := cons_of hsz18
            obtain ⟨x20, ll20, rfl, hsz20⟩ := cons_of hsz19
            obtain ⟨x21, ll21, rfl, hsz21⟩ := cons_of hsz20
            obtain ⟨x22, ll22, rfl, hsz22⟩ := cons_of hsz21
            obtain ⟨x23, ll23, rfl, hsz23⟩ := cons_of hsz22
            obtain ⟨x24, ll24, rfl, hsz24⟩ := cons_of hsz23
            obtain ⟨x25, ll25, rfl, hsz25⟩ := cons_of hsz24
            obtain ⟨x26, ll26, rfl, hsz26⟩ := cons_of hsz25
            obtain ⟨x27, ll27, rfl, hsz27⟩ := cons_of hsz26
            obtain ⟨x28, ll28, rfl, hsz28⟩ := cons_of hsz27
            obtain ⟨x29, ll29, rfl, hsz29⟩ := cons_of hsz28
            obtain ⟨x30, ll30, rfl, hsz30⟩ := cons_of hsz29
            obtain ⟨x31, ll31, rfl, hsz31⟩ := cons_of hsz30
            obtain ⟨x32, ll32, rfl, hsz32⟩ := cons_of hsz31
            obtain ⟨x33, ll33, rfl, hsz33⟩ := cons_of hsz32
            obtain ⟨x34, ll34, rfl, hsz34⟩ := cons_of hsz33
            obtain ⟨x35, ll35, rfl, hsz35⟩ := cons_of hsz34
            obtain ⟨x36, ll36, rfl, hsz36⟩ := cons_of hsz35
            obtain ⟨x37, ll37, rfl, hsz37⟩ := cons_of hsz36
            obtain ⟨x38, ll38, rfl, hsz38⟩ := cons_of hsz37
            obtain ⟨x39, ll39, rfl, hsz39⟩ := cons_of hsz38
            obtain ⟨x40, ll40, rfl, hsz40⟩ := cons_of hsz39
            obtain ⟨x41, ll41, rfl, hsz41⟩ := cons_of hsz40
            obtain rfl := List.eq_nil_of_length_eq_zero hsz41
            obtain rfl : x0 = .slice (some ⟨blk, off, none⟩) k c := hf.same 0 (by decide)
            obtain rfl : x1 = .int .i64 (m : Int) := hf.same 1 (by decide)
            obtain rfl : x2 = undef := hf.same 2 (by decide)
            obtain rfl : x3 = undef := hf.same 3 (by decide)
            obtain rfl : x5 = undef := hf.same 5 (by decide)
            obtain rfl : x6 = u6 := hf.same 6 (by decide)
            obtain rfl : x7 = .int .i64 (j : Int) := hf.same 7 (by decide)
            obtain rfl : x8 = .slice (some ⟨blk, off, none⟩) k c := hf.same 8 (by decide)
            obtain rfl : x9 = .int .i64 (k : Int) := hf.same 9 (by decide)
            obtain rfl : x10 = .int .i64 (k : Int) := hf.same 10 (by decide)
            obtain rfl : x11 = .bool false := hf.same 11 (by decide)
            obtain rfl : x12 = u12 := hf.same 12 (by decide)
            obtain rfl : x13 = u13 := hf.same 13 (by decide)
            obtain rfl : x14 = u14 := hf.same 14 (by decide)
            obtain rfl : x15 = u15 := hf.same 15 (by decide)
            obtain rfl : x16 = u16 := hf.same 16 (by decide)
            obtain rfl : x17 = u17 := hf.same 17 (by decide)
            obtain rfl : x18 = u18 := hf.same 18 (by decide)
            obtain rfl : x19 = u19 := hf.same 19 (by decide)
            obtain rfl : x20 = u20 := hf.same 20 (by decide)
            obtain rfl : x21 = u21 := hf.same 21 (by decide)
            obtain rfl : x22 = .slice (some ⟨blk, off, none⟩) k c := hf.same 22 (by decide)
            obtain rfl : x23 = .int .i64 (k : Int) := hf.same 23 (by decide)
            obtain rfl : x24 = .int .i64 (j : Int) := hf.same 24 (by decide)
            obtain rfl : x27 = .int .i64 (j : Int) := hall 0 27 rfl
            obtain rfl : x28 = .bool true := hall 1 28 rfl
            obtain rfl : x29 = .bool true := hall 2 29 rfl
            obtain rfl : x30 = .slice (some ⟨blk, off, none⟩) k c := hall 3 30 rfl
            obtain rfl : x31 = .int .i64 (j : Int) := hall 4 31 rfl
            obtain rfl : x32 = .int .i64 (i : Int) := hall 5 32 rfl
            obtain rfl : x33 = .pointer (some ⟨blk, off + i, none⟩) := hall 6 33 rfl
            obtain rfl : x34 = .int .i64 x := hall 7 34 rfl
            obtain rfl : x35 = .slice (some ⟨blk, off, none⟩) k c := hall 8 35 rfl
            obtain rfl : x36 = .int .i64 (j : Int) := hall 9 36 rfl
            obtain rfl : x37 = .pointer (some ⟨blk, off + j, none⟩) := hall 10 37 rfl
            obtain rfl : x38 = .int .i64 y := hall 11 38 rfl
            obtain rfl : x39 = .bool vv := hall 12 39 rfl
            obtain rfl : x40 = .bool vv := hall 13 40 rfl
            clear hall hf
            have H5 := Lib.hid (HBq.out.trans (hb.mono HBq.out.size))
            clear hb hsz hsz0 hsz1 hsz2 hsz3 hsz4 hsz5 hsz6 hsz7 hsz8 hsz9 hsz10 hsz11 hsz12 hsz13 hsz14 hsz15 hsz16 hsz17 hsz18 hsz19 hsz20 hsz21 hsz22 hsz23 hsz24 hsz25 hsz26 hsz27 hsz28 hsz29 hsz30 hsz31 hsz32 hsz33 hsz34 hsz35 hsz36 hsz37 hsz38 hsz39 hsz40 hsz41
            cases vv
            · have HSN := Lib.hid (HAS.out (of_decide_eq_false hvv))
              clear HAS HNO hvv
              go_wp2
              go_roundw
              case rel => exact ⟨j + 1, by omega, by go_num, HSN.out, H5.out⟩
              case measure => simp [intOf]; omega
            · have hv := Lib.hid (HNO.out (of_decide_eq_true hvv))
              clear HAS HNO hvv
              go_wp2
              go_ret
              exact ⟨ret_int hv.out.symm, H5.out⟩
        · obtain rfl : j = k := by omega
          have ha : ascB op = true := ascB_iff.2 fun i h => HS.out i h (by omega)
          have hv := Lib.hid (K2.out ha)
          clear ha HS
          have hji : ¬ (j : Int) < (j : Int) := by omega
          go_wp2
          go_ret
          exact ⟨ret_int hv.out.symm, HBq.out⟩
end Go.Proofs.Ytablphoicidlkaa
namespace Go.Proofs.Ytablphoicidlkaa
open Go.RowKit

theorem wI {x : Int} (h : x.natAbs ≤ 9000000000000000000) : wrap64 x = x ∧ IntKind.i64.wrap x = x := by
  have e := w64 (x := x) (by omega)
  refine ⟨e, ?_⟩
  rw [IntKind.wrap_i64]
  unfold wrap64 at e
  exact e
theorem term_bd {D a g : Int} (d0 : 1 ≤ D) (d1 : D ≤ 3000) (h : (-3000 ≤ a ∧ a ≤ 3000) ∧ (0 ≤ g ∧ g ≤ 1000000)) : (g * (D - a)).natAbs ≤ 6000000000 := by
  have E1 : Ev g g 1000000 := .of (by omega)
  have E2 : Ev (D - a) (D - a) 6000 := .of (by omega)
  exact ev_bd (Ev.mul E1 E2) (by decide +kernel)
theorem lss_bd {ds : List Dw} (h : ∀ d ∈ ds, ((-3000 ≤ d.a ∧ d.a ≤ 3000) ∧ (0 ≤ d.g ∧ d.g ≤ 1000000)) ∧ (0 ≤ d.t ∧ d.t ≤ 3000)) (i : Int) : (lssP ds i).natAbs ≤ 3000000000 := by
  unfold lssP
  cases hd : ds[i.toNat]? with
  | none => show (0 : Int).natAbs ≤ _; decide
  | some d =>
    have hm := h d (List.mem_of_getElem? hd)
    have E1 : Ev d.g d.g 1000000 := .of (by omega)
    have E2 : Ev d.t d.t 3000 := .of (by omega)
    exact ev_bd (Ev.mul E1 E2) (by decide +kernel)
theorem sum_small {α : Type} {f : α → Int} {l : List α} {B N : Nat} (hl : l.length ≤ N) (h : ∀ x ∈ l, (f x).natAbs ≤ B) (k : Nat) : (sumL f (l.take k)).natAbs ≤ N * B :=
  Nat.le_trans (sumL_bd fun x hx => h x (List.mem_of_mem_take hx)) (Nat.mul_le_mul_right _ (by rw [List.length_take]; omega))
set_option maxHeartbeats 8000000 in
set_option maxRecDepth 20000 in
theorem balanceOf_any {D : Int} {A A' A3 : Option Addr} {n c n' c' n3 c3 : Nat} {ls : List Lp} {ds : List Dw} {op : List Int} (h : CabOk D ls ds) (ho : ∀ x ∈ op, 0 ≤ x ∧ x < ds.length) (hn3 : n3 ≤ 20) (w : World) (R1 : LpRow w A n ls) (R2 : DwRow w A' n' ds) (R3 : IntRow w A3 n3 op) :
    Calls Try.prog 131 #[cbV D A n c A' n' c', .slice A3 n3 c3] w fun e w' => e = .returned (.int .i64 (bal D ls ds op)) ∧ Below w.heap.size w w' := by
  have HR1 := Lib.hid R1
  have HR2 := Lib.hid R2
  have HR3 := Lib.hid R3
  have hl1 : ls.length ≤ n := by have := R1.1; omega
  have hl2 : ds.length ≤ n' := by have := R2.1; omega
  have hl3 : op.length ≤ n3 := by have := R3.1; omega
  have hg1 : n ≤ ls.length := by have := R1.1; omega
  have hg2 : n' ≤ ds.length := by have := R2.1; omega
  have hg3 : n3 ≤ op.length := by have := R3.1; omega
  have hn1 : n ≤ 12 := by have := h.nl; omega
  have hn2 : n' ≤ 12 := by have := h.nd; omega
  have B1 := Lib.hid (sum_small (f := fun p : Lp => p.g * (D - p.a)) (l := ls) (B := 6000000000) (N := 12) (by omega) (fun p hp => term_bd h.d0 h.d1 (h.lp p hp)))
  have B2 := Lib.hid (sum_small (f := fun d : Dw => d.g * (D - d.a)) (l := ds) (B := 6000000000) (N := 12) (by omega) (fun d hd => term_bd h.d0 h.d1 (h.dw d hd).1))
  have B3 := Lib.hid (sum_small (f := lssP ds) (l := op) (B := 3000000000) (N := 20) (by omega) (fun i _ => lss_bd h.dw i))
  have HL := Lib.hid h.lp
  have HDw := Lib.hid h.dw
  have HO := Lib.hid ho
  have hd0 := h.d0; have hd1 := h.d1
  have HBL : Hid (bal D ls ds op = sumL (fun p => p.g * (D - p.a)) ls + sumL (fun d => d.g * (D - d.a)) ds - sumL (lssP ds) op) := Lib.hid rfl
  clear R1 R2 R3 h ho
  unfold cbV
  generalize bal D ls ds op = bb at *
  go_enter Try.func131, Try.ntmps131
  go_upto_region 1 with fail
  obtain ⟨w0, hw0⟩ : ∃ w0, (w.alloc (.cells #[.int .i64 D, .slice A n c, .slice A' n' c'] 119)) = w0 := ⟨_, rfl⟩
  have HB0 : Hid (Below w.heap.size w w0) := Lib.hid (by rw [← hw0]; exact ((Below.refl _ _).alloc (Nat.le_refl _) _))
  have HC := Lib.hid (fun wx (hb : Below w0.heap.size w0 wx) => (show wx.cell? ⟨w.heap.size, 0, none⟩ = some (.int .i64 D) ∧ wx.cell? ⟨w.heap.size, 1, none⟩ = some (.slice A n c) ∧ wx.cell? ⟨w.heap.size, 2, none⟩ = some (.slice A' n' c') from by
    subst hw0
    obtain ⟨k, kf⟩ := bcell hb
    exact ⟨(k _ _ (by simp; try omega)).trans (by simp [go_sem]), (k _ _ (by simp; try omega)).trans (by simp [go_sem]), (k _ _ (by simp; try omega)).trans (by simp [go_sem])⟩))
  rw [hw0]
  clear hw0
  have HZ0 := Lib.hid (Below.refl w0.heap.size w0)
  obtain ⟨c0, c1, c2⟩ := HC.out w0 HZ0.out
  go_wp2
  go_loopw [5, 15] (fun b i wr => ∃ k : Nat, k ≤ n ∧ i = .int .i64 k ∧ b = .int .i64 (sumL (fun p => p.g * (D - p.a)) (ls.take k)) ∧ Below w0.heap.size w0 wr) (fun _ i _ => n - (intOf i).toNat)
  case atStart => exact ⟨0, Nat.zero_le _, rfl, rfl, HZ0.out⟩
  case round =>
    obtain ⟨k, hk, rfl, rfl, hbw⟩ := hrel
    clear c0 c1 c2
    have HB := Lib.hid hbw
    have HBW := Lib.hid (HB0.out.trans (hbw.mono HB0.out.size))
    obtain ⟨d0, d1, d2⟩ := HC.out wr hbw
    clear hbw
    by_cases hlt : k < n
    · have hkl : k < ls.length := by omega
      have hki : (k : Int) < (n : Int) := by omega
      obtain ⟨blk, off, rfl, hblk, hx⟩ := HR1.out.2 (by omega)
      have PP := (hx k hkl).below HBW.out hblk
      have hm := HL.out _ (List.getElem_mem hkl)
      have HST := Lib.hid (sumL_take_succ (fun p : Lp => p.g * (D - p.a)) ls hkl)
      have b1 := B1.out k
      obtain ⟨pt, hpe⟩ : ∃ x, ls[k] = x := ⟨_, rfl⟩
      rw [hpe] at PP HST hm
      obtain ⟨a, g⟩ := pt
      unfold LpAt at PP
      simp only at PP HST hm
      obtain ⟨p0, p1⟩ := PP
      clear hpe hx
      have t1 := term_bd hd0 hd1 hm
      generalize sumL (fun p : Lp => p.g * (D - p.a)) (ls.take k) = sk at *
      obtain ⟨x1, x2⟩ := wI (x := D - a) (by omega)
      obtain ⟨x3, x4⟩ := wI (x := g * (D - a)) (by omega)
      obtain ⟨x5, x6⟩ := wI (x := sk + g * (D - a)) (by omega)
      go_upto_region 5 with fail
      obtain ⟨w3, hw3⟩ : ∃ w3, wr.alloc (.cells #[.int .i64 a, .int .i64 g] 176) = w3 := ⟨_, rfl⟩
      have H3 : Hid (Below wr.heap.size wr w3) := Lib.hid (by rw [← hw3]; exact (Below.refl _ _).alloc (Nat.le_refl _) _)
      have q0 : w3.cell? ⟨wr.heap.size, 0, none⟩ = some (.int .i64 a) := by rw [← hw3]; simp [go_sem]
      have q1 : w3.cell? ⟨wr.heap.size, 1, none⟩ = some (.int .i64 g) := by rw [← hw3]; simp [go_sem]
      rw [hw3]
      have H03 := Lib.hid (HB.out.trans (H3.out.mono HB.out.size))
      clear hw3 p0 p1 d0 d1 d2
      obtain ⟨d0, d1, d2⟩ := HC.out w3 H03.out
      go_wp2
      go_roundw
      case rel => exact ⟨k + 1, by omega, by go_num, by rw [HST.out], H03.out⟩
      case measure => simp [intOf]; omega
    · obtain rfl : k = n := by omega
      rw [List.take_of_length_le hl1]
      have b1 := B1.out k
      rw [List.take_of_length_le hl1] at b1
      clear HL B1
      generalize sumL (fun p : Lp => p.g * (D - p.a)) ls = s1 at *
      have hki : ¬ (k : Int) < (k : Int) := by omega
      go_wp2
      obtain ⟨wq, rfl⟩ : ∃ wq, wq = wr := ⟨_, rfl⟩
      go_loopw [5, 33] (fun b i wr => ∃ j : Nat, j ≤ n' ∧ i = .int .i64 j ∧ b = .int .i64 (s1 + sumL (fun d => d.g * (D - d.a)) (ds.take j)) ∧ Below w0.heap.size w0 wr) (fun _ i _ => n' - (intOf i).toNat)
      case atStart => exact ⟨0, Nat.zero_le _, rfl, by show Value.int .i64 s1 = .int .i64 (s1 + 0); rw [Int.add_zero], HB.out⟩
      case round =>
        obtain ⟨j, hj, rfl, rfl, hbw⟩ := hrel
        clear d0 d1 d2
        have HBq := Lib.hid hbw
        have HBQ := Lib.hid (HB0.out.trans (hbw.mono HB0.out.size))
        obtain ⟨d0, d1, d2⟩ := HC.out wr hbw
        clear hbw
        by_cases hlt2 : j < n'
        · have hjl : j < ds.length := by omega
          have hji : (j : Int) < (n' : Int) := by omega
          obtain ⟨blk, off, rfl, hblk, hx⟩ := HR2.out.2 (by omega)
          have PP := (hx j hjl).below HBQ.out hblk
          have hm := (HDw.out _ (List.getElem_mem hjl)).1
          have HST := Lib.hid (sumL_take_succ (fun d : Dw => d.g * (D - d.a)) ds hjl)
          have b2 := B2.out j
          obtain ⟨pt, hpe⟩ : ∃ x, ds[j] = x := ⟨_, rfl⟩
          rw [hpe] at PP HST hm
          obtain ⟨a, g, t⟩ := pt
          unfold DwAt at PP
          simp only at PP HST hm
          obtain ⟨p0, p1, p2⟩ := PP
          clear hpe hx
          have t1 := term_bd hd0 hd1 hm
          generalize sumL (fun d : Dw => d.g * (D - d.a)) (ds.take j) = sj at *
          obtain ⟨x1, x2⟩ := wI (x := D - a) (by omega)
          obtain ⟨x3, x4⟩ := wI (x := g * (D - a)) (by omega)
          obtain ⟨x5, x6⟩ := wI (x := s1 + sj + g * (D - a)) (by omega)
          go_upto_region 10 with fail
          obtain ⟨w3, hw3⟩ : ∃ w3, wr.alloc (.cells #[.int .i64 a, .int .i64 g, .int .i64 t] 178) = w3 := ⟨_, rfl⟩
          have H3 : Hid (Below wr.heap.size wr w3) := Lib.hid (by rw [← hw3]; exact (Below.refl _ _).alloc (Nat.le_refl _) _)
          have q0 : w3.cell? ⟨wr.heap.size, 0, none⟩ = some (.int .i64 a) := by rw [← hw3]; simp [go_sem]
          have q1 : w3.cell? ⟨wr.heap.size, 1, none⟩ = some (.int .i64 g) := by rw [← hw3]; simp [go_sem]
          rw [hw3]
          have H03 := Lib.hid (HBq.out.trans (H3.out.mono HBq.out.size))
          clear hw3 p0 p1 p2 d0 d1 d2
          obtain ⟨d0, d1, d2⟩ := HC.out w3 H03.out
          go_wp2
          go_roundw
          case rel => exact ⟨j + 1, by omega, by go_num, by rw [HST.out, ← Int.add_assoc], H03.out⟩
          case measure => simp [intOf]; omega
        · obtain rfl : j = n' := by omega
          rw [List.take_of_length_le hl2]
          have b2 := B2.out j
          rw [List.take_of_length_le hl2] at b2
          clear B2
          generalize sumL (fun d : Dw => d.g * (D - d.a)) ds = s2 at *
          have hji : ¬ (j : Int) < (j : Int) := by omega
          go_wp2
          obtain ⟨wp, rfl⟩ : ∃ wp, wp = wr := ⟨_, rfl⟩
          go_loopw [5, 50] (fun b i wr => ∃ q : Nat, q ≤ n3 ∧ i = .int .i64 q ∧ b = .int .i64 (s1 + s2 - sumL (lssP ds) (op.take q)) ∧ Below w0.heap.size w0 wr) (fun _ i _ => n3 - (intOf i).toNat)
          case atStart => exact ⟨0, Nat.zero_le _, rfl, by show Value.int .i64 (s1 + s2) = .int .i64 (s1 + s2 - 0); rw [Int.sub_zero], HBq.out⟩
          case round =>
            obtain ⟨q, hq, rfl, rfl, hbw⟩ := hrel
            clear d0 d1 d2
            have HBr := Lib.hid hbw
            have HBR := Lib.hid (HB0.out.trans (hbw.mono HB0.out.size))
            obtain ⟨d0, d1, d2⟩ := HC.out wr hbw
            clear hbw
            by_cases hlt3 : q < n3
            · have hql : q < op.length := by omega
              have hqi : (q : Int) < (n3 : Int) := by omega
              obtain ⟨blk3, off3, rfl, hblk3, hx3⟩ := HR3.out.2 (by omega)
              have P3 : wr.cell? ⟨blk3, off3 + q * 1, none⟩ = _ := ((bcell HBR.out).1 _ _ hblk3).trans (hx3 q hql)
              rw [Nat.mul_one] at P3
              have hm3 := HO.out _ (List.getElem_mem hql)
              have HST := Lib.hid (sumL_take_succ (lssP ds) op hql)
              have b3 := B3.out q
              obtain ⟨y, hye⟩ : ∃ y, op[q] = y := ⟨_, rfl⟩
              rw [hye] at P3 hm3 HST
              obtain ⟨i, rfl⟩ : ∃ i : Nat, y = (i : Int) := ⟨y.toNat, by omega⟩
              clear hye hx3
              have hil : i < ds.length := by omega
              have hii : (i : Int) < (j : Int) := by omega
              have hi0 : (0 : Int) ≤ (i : Int) := by omega
              obtain ⟨blk, off, rfl, hblk, hx⟩ := HR2.out.2 (by omega)
              have PP := (hx i hil).below HBR.out hblk
              have hm := HDw.out _ (List.getElem_mem hil)
              have hle : lssP ds (i : Int) = ds[i].g * ds[i].t := by unfold lssP; rw [Int.toNat_natCast, List.getElem?_eq_getElem hil]
              rw [hle] at HST
              obtain ⟨pt, hpe⟩ : ∃ x, ds[i] = x := ⟨_, rfl⟩
              rw [hpe] at PP HST hm
              clear hpe hx hle
              have LS := fun wx => Lib.hid (loss_any hm wx)
              have hgt : (pt.g * pt.t).natAbs ≤ 3000000000 := by
                have E1 : Ev pt.g pt.g 1000000 := .of (by omega)
                have E2 : Ev pt.t pt.t 3000 := .of (by omega)
                exact ev_bd (Ev.mul E1 E2) (by decide +kernel)
              obtain ⟨a, g, t⟩ := pt
              unfold DwAt at PP
              simp only at PP HST LS hgt
              obtain ⟨p0, p1, p2⟩ := PP
              generalize sumL (lssP ds) (op.take q) = sq at *
              obtain ⟨gt, hgte⟩ : ∃ gt, g * t = gt := ⟨_, rfl⟩
              rw [hgte] at LS HST hgt
              clear hgte hm
              obtain ⟨x5, x6⟩ := wI (x := s1 + s2 - sq - gt) (by omega)
              go_wp2_with (go_at_call 156; (with_reducible refine Calls.mono (LS _).out ?_); rintro e w5 ⟨rfl, hb5⟩; have H5 := Lib.hid (HBr.out.trans (hb5.mono HBr.out.size)); clear hb5)
              go_roundw
              case rel => exact ⟨q + 1, by omega, by go_num, by rw [HST.out, Int.sub_sub], H5.out⟩
              case measure => simp [intOf]; omega
            · obtain rfl : q = n3 := by omega
              have hv := HBL.out
              rw [List.take_of_length_le hl3]
              have hqi : ¬ (q : Int) < (q : Int) := by omega
              have HV := Lib.hid hv
              clear hv HBL
              generalize sumL (lssP ds) op = s3 at *
              go_wp2
              go_ret
              exact ⟨ret_int HV.out.symm, HBR.out⟩
def balE (D : Int) (ls : List Lp) (ds : List Dw) (op : List Int) : Int := firstE [cabE D ls ds, opnE op ds.length]
def balV (e b : Int) : Value := bif e == 0 then .tuple #[.int .i64 b, .int .i64 0] else .tuple #[.int .i64 0, .int .i64 e]
set_option maxHeartbeats 4000000 in
set_option maxRecDepth 20000 in
theorem balance_any {D : Int} {A A' A3 : Option Addr} {n c n' c' n3 c3 : Nat} {ls : List Lp} {ds : List Dw} {op : List Int} (hn : n ≤ maxLen) (hn' : n' ≤ maxLen) (hn3 : n3 ≤ 20) (w : World) (R1 : LpRow w A n ls) (R2 : DwRow w A' n' ds) (R3 : IntRow w A3 n3 op) :
    Calls Try.prog 71 #[cbV D A n c A' n' c', .slice A3 n3 c3] w fun e w' => e = .returned (balV (balE D ls ds op) (bal D ls ds op)) ∧ Below w.heap.size w w' := by
  have CC := Lib.hid (fun wx (hx : Below w.heap.size w wx) => checkCabinet_any (D := D) (c := c) (c' := c') wx (R1.below hx) (R2.below hx) hn hn')
  have CO := Lib.hid (fun wx (hx : Below w.heap.size w wx) => checkOpen_any (c := c3) (m := n') wx (R3.below hx) (by unfold maxLen; omega) hn')
  have BO := Lib.hid (fun (he : balE D ls ds op = 0) wx (hx : Below w.heap.size w wx) => by
    have h1 : cabE D ls ds = 0 ∧ opnE op ds.length = 0 := by
      unfold balE at he
      rw [firstE_ok] at he
      exact ⟨he _ (by simp), he _ (by simp)⟩
    exact balanceOf_any (c := c) (c' := c') (c3 := c3) (cabE_ok h1.1) (opnE_ok h1.2).1 hn3 wx (R1.below hx) (R2.below hx) (R3.below hx))
  have HE : Hid (balE D ls ds op = firstE [cabE D ls ds, opnE op n']) := Lib.hid (by unfold balE; rw [R2.1])
  clear R1 R2 R3 hn hn' hn3
  unfold cbV at *
  generalize balE D ls ds op = ee at *
  generalize bal D ls ds op = bb at *
  generalize cabE D ls ds = e1 at *
  generalize opnE op n' = e2 at *
  have C3 := fun wx b (h : IntRow wx (some ⟨b, 0, none⟩) 2 [e1, e2]) => Lib.hid (firstError_any (c := 2) wx h (by decide))
  rw [← HE.out] at C3
  clear HE
  go_enter Try.func71, Try.ntmps71
  go_upto_region 1 with fail
  obtain ⟨w0, hw0⟩ : ∃ w0, (w.alloc (.cells #[.int .i64 D, .slice A n c, .slice A' n' c'] 119)) = w0 := ⟨_, rfl⟩
  have HB0 : Hid (Below w.heap.size w w0) := Lib.hid (by rw [← hw0]; exact ((Below.refl _ _).alloc (Nat.le_refl _) _))
  have HC := Lib.hid (fun wx (hb : Below w0.heap.size w0 wx) => (show wx.cell? ⟨w.heap.size, 0, none⟩ = some (.int .i64 D) ∧ wx.cell? ⟨w.heap.size, 1, none⟩ = some (.slice A n c) ∧ wx.cell? ⟨w.heap.size, 2, none⟩ = some (.slice A' n' c') from by
    subst hw0
    obtain ⟨k, kf⟩ := bcell hb
    exact ⟨(k _ _ (by simp; try omega)).trans (by simp [go_sem]), (k _ _ (by simp; try omega)).trans (by simp [go_sem]), (k _ _ (by simp; try omega)).trans (by simp [go_sem])⟩))
  rw [hw0]
  clear hw0
  refine wp_region_rk [7, 8, 9, 10, 11, 12, 13, 14, 15, 6] [rEq (.agg #[.int .i64 D, .slice A n c, .slice A' n' c']), rEq (.int .i64 e1), rEq (.slice A3 n3 c3), rEq (.pointer (some ⟨w.heap.size, 2, none⟩)), rEq (.slice A' n' c'), rEq (.int .i64 (n' : Int)), rEq (.int .i64 e2), rRow [e1, e2] 2, rEq (.int .i64 ee), rEq (.int .i64 ee)] (by kernel_rfl) (by kernel_rfl) (by decide) rfl ⟨?_, ?_, ?_, ?_, ?_, ?_, ?_, ?_, ?_, ?_, trivial⟩ ?_
  · intro ac wx hf hb hd -- 0
    have f2 : ac.tmps[2]?.getD undef = .pointer (some ⟨w.heap.size, 0, none⟩) := by rw [← Array.getD_eq_getD_getElem?]; exact hf.same 2 (by decide)
    obtain ⟨c0, c1, c2⟩ := HC.out wx hb
    exact rstep_eq (by simp [execOp, Act.eval, f2, c0, c1, c2, go_sem]) rfl
  · intro ac wx hf hb hd -- 1
    have d0 : ac.tmps[7]?.getD undef = .agg #[.int .i64 D, .slice A n c, .slice A' n' c'] := by rw [← Array.getD_eq_getD_getElem?]; exact hd 0 (by decide)
    refine rstep_call (f := 75) (args := #[.agg #[.int .i64 D, .slice A n c, .slice A' n' c']]) (by simp [Act.eval, d0, go_sem]) ?_ rfl
    exact CC.out wx (HB0.out.trans (hb.mono HB0.out.size))
  · intro ac wx hf hb hd -- 2
    have f1 : ac.tmps[1]?.getD undef = .slice A3 n3 c3 := by rw [← Array.getD_eq_getD_getElem?]; exact hf.same 1 (by decide)
    exact rstep_eq (by simp [execOp, Act.eval, f1, go_sem]) rfl
  · intro ac wx hf hb hd -- 3
    have f2 : ac.tmps[2]?.getD undef = .pointer (some ⟨w.heap.size, 0, none⟩) := by rw [← Array.getD_eq_getD_getElem?]; exact hf.same 2 (by decide)
    exact rstep_eq (by simp [execOp, Act.eval, f2, go_sem]) rfl
  · intro ac wx hf hb hd -- 4
    have d3 : ac.tmps[10]?.getD undef = .pointer (some ⟨w.heap.size, 2, none⟩) := by rw [← Array.getD_eq_getD_getElem?]; exact hd 3 (by decide)
    obtain ⟨c0, c1, c2⟩ := HC.out wx hb
    exact rstep_eq (by simp [execOp, Act.eval, d3, c2, go_sem]) rfl
  · intro ac wx hf hb hd -- 5
    have d4 : ac.tmps[11]?.getD undef = .slice A' n' c' := by rw [← Array.getD_eq_getD_getElem?]; exact hd 4 (by decide)
    exact rstep_eq (by simp [Act.eval, d4, go_sem]) rfl
  · intro ac wx hf hb hd -- 6
    have d2 : ac.tmps[9]?.getD undef = .slice A3 n3 c3 := by rw [← Array.getD_eq_getD_getElem?]; exact hd 2 (by decide)
    have d5 : ac.tmps[12]?.getD undef = .int .i64 (n' : Int) := by rw [← Array.getD_eq_getD_getElem?]; exact hd 5 (by decide)
    refine rstep_call (f := 130) (args := #[.slice A3 n3 c3, .int .i64 (n' : Int)]) (by simp [Act.eval, d2, d5, go_sem]) ?_ rfl
    exact CO.out wx (HB0.out.trans (hb.mono HB0.out.size))
  · intro ac wx hf hb hd -- 7
    have d1 : ac.tmps[8]?.getD undef = .int .i64 e1 := by rw [← Array.getD_eq_getD_getElem?]; exact hd 1 (by decide)
    have d6 : ac.tmps[13]?.getD undef = .int .i64 e2 := by rw [← Array.getD_eq_getD_getElem?]; exact hd 6 (by decide)
    exact rstep_row (t := 31) (zs := [e1, e2]) rfl rfl (by simp [execOp, Act.eval, d1, d6, go_sem]) rfl
  · intro ac wx hf hb hd -- 8
    obtain ⟨b7, d7, r7⟩ : ∃ b, ac.tmps[14]?.getD undef = .slice (some ⟨b, 0, none⟩) 2 2 ∧ IntRow wx (some ⟨b, 0, none⟩) 2 [e1, e2] := by rw [← Array.getD_eq_getD_getElem?]; exact hd 7 (by decide)
    refine rstep_call (f := 95) (args := #[.slice (some ⟨b7, 0, none⟩) 2 2]) (by simp [Act.eval, d7, go_sem]) ?_ rfl
    exact (C3 wx b7 r7).out.mono fun e w' ⟨he, hw⟩ => ⟨he, hw ▸ Below.refl _ _⟩
  · intro ac wx hf hb hd -- 9
    have d8 : ac.tmps[15]?.getD undef = .int .i64 ee := by rw [← Array.getD_eq_getD_getElem?]; exact hd 8 (by decide)
    exact rstep_eq (by simp [execOp, Act.eval, d8, go_sem]) rfl
  rintro ⟨⟨ll⟩, df⟩ wx hf hb hall
  have hdf : df = [] := hf.defers
  subst hdf
  have hsz : ll.length = 22 := hf.size
  obtain ⟨x0, ll0, rfl, hsz0⟩ := cons_of hsz
  obtain ⟨x1, ll1, rfl, hsz1⟩ := cons_of hsz0
  obtain ⟨x2, ll2, rfl, hsz2⟩ := cons_of hsz1
  obtain ⟨x3, ll3, rfl, hsz3⟩ := cons_of hsz2
  obtain ⟨x4, ll4, rfl, hsz4⟩ := cons_of hsz3
  obtain ⟨x5, ll5, rfl, hsz5⟩ := cons_of hsz4
  obtain ⟨x6, ll6, rfl, hsz6⟩ := cons_of hsz5
  obtain ⟨x7, ll7, rfl, hsz7⟩ := cons_of hsz6
  obtain ⟨x8, ll8, rfl, hsz8⟩ := cons_of hsz7
  obtain ⟨x9, ll9, rfl, hsz9⟩ := cons_of hsz8
  obtain ⟨x10, ll10, rfl, hsz10⟩ := cons_of hsz9
  obtain ⟨x11, ll11, rfl, hsz11⟩ := cons_of hsz10
  obtain ⟨x12, ll12, rfl, hsz12⟩ := cons_of hsz11
  obtain ⟨x13, ll13, rfl, hsz13⟩ := cons_of hsz12
  obtain ⟨x14, ll14, rfl, hsz14⟩ := cons_of hsz13
  obtain ⟨x15, ll15, rfl, hsz15⟩ := cons_of hsz14
  obtain ⟨x16, ll16, rfl, hsz16⟩ := cons_of hsz15
  obtain ⟨x17, ll17, rfl, hsz17⟩ := cons_of hsz16
  obtain ⟨x18, ll18, rfl, hsz18⟩ := cons_of hsz17
  obtain ⟨x19, ll19, rfl, hsz19⟩ := cons_of hsz18
  obtain ⟨x20, ll20, rfl, hsz20⟩ := cons_of hsz19
  obtain ⟨x21, ll21, rfl, hsz21⟩ := cons_of hsz20
  obtain rfl := List.eq_nil_of_length_eq_zero hsz21
  obtain rfl : x0 = .agg #[.int .i64 D, .slice A n c, .slice A' n' c'] := hf.same 0 (by decide)
  obtain rfl : x1 = .slice A3 n3 c3 := hf.same 1 (by decide)
  obtain rfl : x2 = .pointer (some ⟨w.heap.size, 0, none⟩) := hf.same 2 (by decide)
  obtain rfl : x4 = .int .i64 0 := hf.same 4 (by decide)
  obtain rfl : x5 = .int .i64 0 := hf.same 5 (by decide)
  obtain rfl : x6 = .int .i64 ee := hall 9 6 rfl
  obtain rfl : x7 = .agg #[.int .i64 D, .slice A n c, .slice A' n' c'] := hall 0 7 rfl
  obtain rfl : x8 = .int .i64 e1 := hall 1 8 rfl
  obtain rfl : x9 = .slice A3 n3 c3 := hall 2 9 rfl
  obtain rfl : x10 = .pointer (some ⟨w.heap.size, 2, none⟩) := hall 3 10 rfl
  obtain rfl : x11 = .slice A' n' c' := hall 4 11 rfl
  obtain rfl : x12 = .int .i64 (n' : Int) := hall 5 12 rfl
  obtain rfl : x13 = .int .i64 e2 := hall 6 13 rfl
  obtain rfl : x15 = .int .i64 ee := hall 8 15 rfl
  clear hall hf
  have HBX := Lib.hid (HB0.out.trans (hb.mono HB0.out.size))
  obtain ⟨c0, c1, c2⟩ := HC.out wx hb
  by_cases he : ee = 0
  · subst he
    have BO2 := Lib.hid (BO.out rfl)
    clear BO
    go_wp2_with (go_at_call 131; (with_reducible refine Calls.mono (BO2.out _ HBX.out) ?_); rintro e w2 ⟨rfl, hb2⟩; have H2 := Lib.hid (HBX.out.trans (hb2.mono HBX.out.size)); clear hb2)
    refine bodyPost_ret (v := .tuple #[.int .i64 bb, .int .i64 0]) (by simp [results, Try.results71, go_sem]) rfl ⟨rfl, H2.out⟩
  · have e1' : (ee == 0) = false := by simpa using he
    have e2' : (ee != 0) = true := by simpa using he
    have hv : balV ee bb = .tuple #[.int .i64 0, .int .i64 ee] := by unfold balV; rw [e1']; rfl
    go_wp2
    refine bodyPost_ret (v := .tuple #[.int .i64 0, .int .i64 ee]) (by simp [results, Try.results71, go_sem]) rfl ⟨ret_v hv.symm, HBX.out⟩
end Go.Proofs.Ytablphoicidlkaa
