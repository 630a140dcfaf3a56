/- Ranges of moments: mathematics. -/
import Derived.BigQuiet
import Derived.Test.YtablphoicidlkaaFA
import Derived.Test.YtablphoicidlkaaSE
import Derived.Test.YtablphoicidlkaaCA
namespace Go.Proofs.Ytablphoicidlkaa
open Go.RowKit

theorem mom_one (b : Bm) (p : Pt) (x : Int) : mom b [p] 0 x = p.n * momC b x p.a := by
  rw [mom_lin, sumL_one]
  simp
theorem mom_nil (b : Bm) (S x : Int) : mom b [] S x = S * momS b x := by
  rw [mom_lin]
  simp [sumL]
theorem mom_parts (b : Bm) (l : List Pt) (S x : Int) : sumL (fun p => mom b [p] 0 x) l + mom b [] S x = mom b l S x := by
  rw [mom_nil, mom_lin b l S x, sumL_congr (g := fun p => p.n * momC b x p.a) fun p _ => mom_one b p x]
  omega
/-- The weights with the least moments, and with the greatest ones. -/
def rgA {α : Type} (b : Bm) (lo hi : α) : α := bif b.e == 1 then hi else lo
def rgZ {α : Type} (b : Bm) (lo hi : α) : α := bif b.e == 1 then lo else hi
theorem mul_sgn {b : Bm} {n m c : Int} (h : n ≤ m) (hc : 0 ≤ sgn b * c) : (b.e == 1) = true ∧ m * c ≤ n * c ∨ (b.e == 1) = false ∧ n * c ≤ m * c := by
  unfold sgn at hc
  cases he : b.e == 1
  · rw [he] at hc
    simp only [cond_false, Int.one_mul] at hc
    exact .inr ⟨rfl, Int.mul_le_mul_of_nonneg_right h hc⟩
  · rw [he] at hc
    simp only [cond_true] at hc
    refine .inl ⟨rfl, ?_⟩
    have := Int.mul_le_mul_of_nonneg_right h (show 0 ≤ -c by omega)
    rw [Int.mul_neg, Int.mul_neg] at this
    omega
theorem one_min {b : Bm} {p q : Pt} {x : Int} (h0 : 0 ≤ x) (h1 : x ≤ b.s) (hp : PtOk b.s p) (ha : p.a = q.a) (hn : p.n ≤ q.n) :
    min (mom b [p] 0 x) (mom b [q] 0 x) = mom b [rgA b p q] 0 x ∧ max (mom b [p] 0 x) (mom b [q] 0 x) = mom b [rgZ b p q] 0 x := by
  have hc := momC_sgn (b := b) h0 h1 hp.a0 hp.a1
  unfold rgA rgZ
  rcases mul_sgn hn hc with ⟨he, h⟩ | ⟨he, h⟩ <;> rw [he] <;> simp only [cond_true, cond_false] <;> rw [mom_one, mom_one, ← ha] <;> omega
theorem spread_min {b : Bm} {S T x : Int} (h0 : 0 ≤ x) (h1 : x ≤ b.s) (hn : S ≤ T) :
    min (mom b [] S x) (mom b [] T x) = mom b [] (rgA b S T) x ∧ max (mom b [] S x) (mom b [] T x) = mom b [] (rgZ b S T) x := by
  have hc := momS_sgn (b := b) h0 h1
  unfold rgA rgZ
  rcases mul_sgn hn hc with ⟨he, h⟩ | ⟨he, h⟩ <;> rw [he] <;> simp only [cond_true, cond_false] <;> rw [mom_nil, mom_nil] <;> omega
/-- Burdens of the same places with weights that are no less. -/
inductive Under : List Pt → List Pt → Prop
  | nil : Under [] []
  | cons {p q : Pt} {r s : List Pt} : p.a = q.a → p.n ≤ q.n → Under r s → Under (p :: r) (q :: s)
theorem sum_under {b : Bm} {x : Int} (h0 : 0 ≤ x) (h1 : x ≤ b.s) : ∀ {l m : List Pt}, (∀ p ∈ l, PtOk b.s p) → Under l m → sumL (fun p => mom b [p] 0 x) (rgA b l m) ≤ sumL (fun p => mom b [p] 0 x) (rgZ b l m)
  | [], [], _, .nil => by unfold rgA rgZ; cases b.e == 1 <;> exact Int.le_refl _
  | p :: r, q :: s, hp, .cons ha hn h => by
    have h2 := sum_under h0 h1 (fun p hq => hp p (List.mem_cons_of_mem _ hq)) h
    obtain ⟨k1, k2⟩ := one_min h0 h1 (hp p (List.mem_cons_self ..)) ha hn
    unfold rgA rgZ at *
    cases he : b.e == 1 <;> rw [he] at k1 k2 h2 <;> simp only [cond_true, cond_false] at * <;> simp only [sumL] <;> omega
theorem mom_under {b : Bm} {l m : List Pt} {S T x : Int} (h0 : 0 ≤ x) (h1 : x ≤ b.s) (hp : ∀ p ∈ l, PtOk b.s p) (h : Under l m) (hS : S ≤ T) : rgA b (mom b l S x) (mom b m T x) ≤ rgZ b (mom b l S x) (mom b m T x) := by
  have h2 := sum_under h0 h1 hp h
  obtain ⟨k1, k2⟩ := spread_min (b := b) h0 h1 hS
  rw [← mom_parts b l S, ← mom_parts b m T]
  unfold rgA rgZ at *
  cases he : b.e == 1 <;> rw [he] at k1 k2 h2 <;> simp only [cond_true, cond_false] at * <;> omega
theorem low_cmp {x y d : Int} (hd : 0 < d) (h : x ≤ y) : Int.sign (lowN x d * lowD y d - lowN y d * lowD x d) ≤ 0 := by
  rcases Int.lt_or_le 0 (Int.sign (lowN x d * lowD y d - lowN y d * lowD x d)) with hs | hs
  · exfalso
    have hp := Int.sign_pos_iff.1 hs
    have g1 : (0 : Int) < lowG x d := by have := lowG_pos (n := x) hd; omega
    have g2 : (0 : Int) < lowG y d := by have := lowG_pos (n := y) hd; omega
    have h3 := Int.mul_pos (Int.mul_pos hp g1) g2
    have e1 := lowN_mul x d
    have e2 := lowD_mul x d
    have e3 := lowN_mul y d
    have e4 := lowD_mul y d
    have e5 : (lowN x d * lowD y d - lowN y d * lowD x d) * (lowG x d : Int) * (lowG y d : Int) = (lowN x d * lowG x d) * (lowD y d * lowG y d) - (lowN y d * lowG y d) * (lowD x d * lowG x d) := by grind
    rw [e1, e2, e3, e4] at e5
    rw [e5] at h3
    have := Int.mul_le_mul_of_nonneg_right h (Int.le_of_lt hd)
    omega
  · exact hs
end Go.Proofs.Ytablphoicidlkaa
namespace Go.Proofs.Ytablphoicidlkaa
open Go.RowKit

def plB (l m : List Pt) : Bool := l.map (·.a) == m.map (·.a)
def wtB (l m : List Pt) : Bool := (l.zip m).any (fun x => decide (x.2.n < x.1.n))
/-- The error of two burdens between which others are. -/
def btwE (l m : List Pt) (S T : Int) : Int := bif plB l m then (bif decide (T < S) then 9 else bif wtB l m then 9 else 0) else 10
theorem plB_iff {l m : List Pt} : plB l m = true ↔ l.length = m.length ∧ ∀ k (h : k < l.length) (h' : k < m.length), (l[k]).a = (m[k]).a := by
  unfold plB
  rw [beq_iff_eq]
  constructor
  · intro h
    have hl := congrArg List.length h
    rw [List.length_map, List.length_map] at hl
    refine ⟨hl, fun k h1 h2 => ?_⟩
    have := congrArg (·[k]?) h
    simpa [h1, h2] using this
  · rintro ⟨hl, h⟩
    refine List.ext_getElem (by simpa using hl) fun k h1 h2 => ?_
    simp only [List.getElem_map]
    exact h k (by simpa using h1) (by simpa using h2)
theorem plB_len {l m : List Pt} (h : l.length ≠ m.length) : plB l m = false := by
  cases hc : plB l m
  · rfl
  · exact absurd (plB_iff.1 hc).1 h
theorem plB_at {l m : List Pt} {k : Nat} (h : k < l.length) (h' : k < m.length) (hx : (l[k]).a ≠ (m[k]).a) : plB l m = false := by
  cases hc : plB l m
  · rfl
  · exact absurd ((plB_iff.1 hc).2 k h h') hx
theorem wtB_at {l m : List Pt} {k : Nat} (h : k < l.length) (h' : k < m.length) (hx : (m[k]).n < (l[k]).n) : wtB l m = true := by
  unfold wtB
  rw [List.any_eq_true]
  refine ⟨(l[k], m[k]), ?_, decide_eq_true hx⟩
  exact List.mem_iff_getElem.2 ⟨k, by simp; omega, by simp⟩
theorem wtB_none {l m : List Pt} (hx : ∀ k (h : k < l.length) (h' : k < m.length), (l[k]).n ≤ (m[k]).n) : wtB l m = false := by
  unfold wtB
  rw [List.any_eq_false]
  intro x hm
  obtain ⟨k, hk, rfl⟩ := List.mem_iff_getElem.1 hm
  have h1 := hx k (by simp at hk; omega) (by simp at hk; omega)
  simp
  omega
theorem btw_vals {l m : List Pt} {S T : Int} : (plB l m = false → btwE l m S T = 10) ∧ (plB l m = true → T < S → btwE l m S T = 9) ∧ (plB l m = true → wtB l m = true → btwE l m S T = 9) ∧ (plB l m = true → ¬ T < S → wtB l m = false → btwE l m S T = 0) := by
  unfold btwE
  refine ⟨fun h => ?_, fun h e => ?_, fun h e => ?_, fun h e g => ?_⟩
  · rw [h]; rfl
  · rw [h, decide_eq_true e]; rfl
  · rw [h, e]; cases decide (T < S) <;> rfl
  · rw [h, decide_eq_false e, g]; rfl
theorem btwE_ok {l m : List Pt} {S T : Int} (h : btwE l m S T = 0) : plB l m = true ∧ S ≤ T ∧ wtB l m = false := by
  obtain ⟨V1, V2, V3, -⟩ := btw_vals (l := l) (m := m) (S := S) (T := T)
  cases hp : plB l m
  · rw [V1 hp] at h; cases h
  · refine ⟨rfl, ?_, ?_⟩
    · rcases Int.lt_or_le T S with e | e
      · rw [V2 hp e] at h; cases h
      · exact e
    · cases hw : wtB l m
      · rfl
      · rw [V3 hp hw] at h; cases h
theorem under_of : ∀ {l m : List Pt}, plB l m = true → wtB l m = false → Under l m
  | [], [], _, _ => .nil
  | p :: r, [], h, _ => absurd (plB_iff.1 h).1 (by simp)
  | [], q :: s, h, _ => absurd (plB_iff.1 h).1 (by simp)
  | p :: r, q :: s, h, g => by
    unfold plB at h
    simp only [List.map_cons, beq_iff_eq, List.cons.injEq] at h
    unfold wtB at g
    rw [List.zip_cons_cons, List.any_cons, Bool.or_eq_false_iff, decide_eq_false_iff_not] at g
    exact .cons h.1 (by have := g.1; simp only at this; omega) (under_of (by unfold plB; rw [beq_iff_eq]; exact h.2) g.2)
theorem btw_under {l m : List Pt} {S T : Int} (h : btwE l m S T = 0) : Under l m ∧ S ≤ T :=
  let g := btwE_ok h
  ⟨under_of g.1 g.2.2, g.2.1⟩
set_option maxRecDepth 20000 in
theorem placeSame_any {a b x y : Int} (w : World) :
    Calls Try.prog 151 #[.agg #[.int .i64 a, .int .i64 b], .agg #[.int .i64 x, .int .i64 y]] w fun e w' => e = .returned (.bool (a == x)) ∧ Below w.heap.size w w' := by
  go_enter Try.func151, Try.ntmps151
  go_wp2
  go_ret
  exact ⟨rfl, ((Below.refl _ _).alloc (Nat.le_refl _) _).alloc (by simp; try omega) _⟩
end Go.Proofs.Ytablphoicidlkaa
namespace Go.Proofs.Ytablphoicidlkaa
open Go.RowKit

set_option maxHeartbeats 8000000 in
set_option maxRecDepth 20000 in
theorem equalPts_any {A A' : Option Addr} {n c n' c' : Nat} {l m : List Pt} (hn : n ≤ maxLen) (w : World) (R : PtRow w A n l) (R' : PtRow w A' n' m) :
    Calls Try.prog 150 #[.slice A n c, .slice A' n' c', .func (.func 151) #[] #[]] w fun e w' => e = .returned (.bool (plB l m)) ∧ Below w.heap.size w w' := by
  have hl : l.length = n := R.1
  have hm : m.length = n' := R'.1
  have V1 := Lib.hid (fun (h : n ≠ n') => plB_len (l := l) (m := m) (by omega))
  have V2 := Lib.hid (fun k (h : k < l.length) (h' : k < m.length) => plB_at (l := l) (m := m) h h')
  have V3 := Lib.hid (fun (h : n = n') (h2 : ∀ k (h : k < l.length) (h' : k < m.length), (l[k]).a = (m[k]).a) => plB_iff.2 ⟨by omega, h2⟩)
  have HR := Lib.hid R
  have HR' := Lib.hid R'
  have PS := Lib.hid (fun (a b x y : Int) wx => placeSame_any (a := a) (b := b) (x := x) (y := y) wx)
  have hll := Lib.hid hl
  have hmm := Lib.hid hm
  clear R R' hl hm
  unfold maxLen at hn
  generalize plB l m = pb at *
  by_cases he : n = n'
  · subst he
    have V3' := Lib.hid (V3.out rfl)
    clear V1 V3
    go_enter Try.func150, Try.ntmps150
    go_wp2
    go_loopw [17] (fun i wr => ∃ k : Nat, k ≤ n ∧ i = .int .i64 k ∧ (∀ j (h : j < l.length) (h' : j < m.length), j < k → (l[j]).a = (m[j]).a) ∧ Below w.heap.size w wr) (fun i _ => n - (intOf i).toNat)
    case atStart => exact ⟨0, Nat.zero_le _, rfl, fun j _ _ h => absurd h (by omega), Below.refl _ _⟩
    case round =>
      obtain ⟨k, hk, rfl, hall, hbw⟩ := hrel
      have HA := Lib.hid hall
      have HB := Lib.hid hbw
      clear hall hbw
      by_cases hlt : k < n
      · have hkl : k < l.length := by have := hll.out; omega
        have hkm : k < m.length := by have := hmm.out; omega
        obtain ⟨blk, off, rfl, hblk, hx⟩ := HR.out.2 (by omega)
        obtain ⟨blk', off', rfl, hblk', hx'⟩ := HR'.out.2 (by omega)
        have HP := Lib.hid (fun wx (hb : Below wr.heap.size wr wx) => let hB := HB.out.trans (hb.mono HB.out.size); And.intro ((hx k hkl).below hB hblk) ((hx' k hkm).below hB hblk'))
        have W2 := Lib.hid (V2.out k hkl hkm)
        have W3 := Lib.hid (fun (he : (l[k]).a = (m[k]).a) j (h : j < l.length) (h' : j < m.length) (hj : j < k + 1) => (show (l[j]).a = (m[j]).a from by
          by_cases e : j < k
          · exact HA.out j h h' e
          · obtain rfl : j = k := by omega
            exact he))
        obtain ⟨p, hp⟩ : ∃ x, l[k] = x := ⟨_, rfl⟩
        obtain ⟨q, hq⟩ : ∃ x, m[k] = x := ⟨_, rfl⟩
        rw [hp, hq] at HP W2 W3
        clear hp hq hx hx'
        obtain ⟨a, b⟩ := p
        obtain ⟨x, y⟩ := q
        unfold PtAt at HP
        simp only at HP W2 W3
        have hki : (k : Int) < (n : Int) := by omega
        have hk0 : (0 : Int) ≤ (k : Int) := by omega
        have hk64 : IntKind.i64.wrap (k : Int) = k := (by rw [IntKind.wrap_i64]; omega)
        obtain ⟨⟨c0, c1⟩, -, -⟩ := HP.out wr (Below.refl _ _)
        go_upto_region 6 with fail
        obtain ⟨w1, hw1⟩ : ∃ w1, wr.alloc (.cells #[.int .i64 a, .int .i64 b] 90) = w1 := ⟨_, rfl⟩
        have HB1 : Hid (Below wr.heap.size wr w1) := Lib.hid (by rw [← hw1]; exact (Below.refl _ _).alloc (Nat.le_refl _) _)
        have HC1 := Lib.hid (fun wx (hb : Below w1.heap.size w1 wx) => (show wx.cell? ⟨wr.heap.size, 0, none⟩ = some (.int .i64 a) ∧ wx.cell? ⟨wr.heap.size, 1, none⟩ = some (.int .i64 b) from by
          subst hw1
          have k := (bcell hb).1
          exact ⟨(k _ _ (by simp)).trans (by rw [World.cell?_alloc_new]; rfl), (k _ _ (by simp)).trans (by rw [World.cell?_alloc_new]; rfl)⟩))
        rw [hw1]
        clear hw1 c0 c1
        obtain ⟨-, c2, c3⟩ := HP.out w1 HB1.out
        go_upto_region 7 with fail
        obtain ⟨w2, hw2⟩ : ∃ w2, w1.alloc (.cells #[.int .i64 x, .int .i64 y] 90) = w2 := ⟨_, rfl⟩
        have HB2 : Hid (Below w1.heap.size w1 w2) := Lib.hid (by rw [← hw2]; exact (Below.refl _ _).alloc (Nat.le_refl _) _)
        obtain ⟨e2, e3⟩ : w2.cell? ⟨w1.heap.size, 0, none⟩ = some (.int .i64 x) ∧ w2.cell? ⟨w1.heap.size, 1, none⟩ = some (.int .i64 y) := by
          subst hw2
          exact ⟨by rw [World.cell?_alloc_new]; rfl, by rw [World.cell?_alloc_new]; rfl⟩
        rw [hw2]
        clear hw2 c2 c3
        obtain ⟨e0, e1⟩ := HC1.out w2 HB2.out
        have HBW := Lib.hid (HB.out.trans ((HB1.out.trans (HB2.out.mono HB1.out.size)).mono HB.out.size))
        by_cases hax : a = x
        · have hv : (a == x) = true := by simpa using hax
          have W3' := Lib.hid (W3.out hax)
          have P1 := PS.out a b x y
          rw [hv] at P1
          have PP := Lib.hid P1
          clear P1 PS W2 W3 hv hax
          go_wp2_with (go_at_call 151; (refine Calls.mono (PP.out _) ?_); rintro e w3 ⟨rfl, hb⟩; have HB3 := Lib.hid (HBW.out.trans (hb.mono HBW.out.size)); clear hb)
          go_roundw
          case rel => exact ⟨k + 1, by omega, by go_num, W3'.out, HB3.out⟩
          case measure => simp [intOf]; omega
        · have hv : (a == x) = false := by simpa using hax
          have hpb := Lib.hid (W2.out hax)
          have P1 := PS.out a b x y
          rw [hv] at P1
          have PP := Lib.hid P1
          clear P1 PS W2 W3 hv hax
          go_wp2_with (go_at_call 151; (refine Calls.mono (PP.out _) ?_); rintro e w3 ⟨rfl, hb⟩; have HB3 := Lib.hid (HBW.out.trans (hb.mono HBW.out.size)); clear hb)
          go_ret
          exact ⟨by rw [hpb.out]; rfl, HB3.out⟩
      · obtain rfl : k = n := by omega
        have hpb := Lib.hid (V3'.out (fun j h h' => HA.out j h h' (by have := hll.out; omega)))
        have hki : ¬ (k : Int) < (k : Int) := by omega
        clear V2 V3' HA
        go_wp2
        go_ret
        exact ⟨by rw [hpb.out]; rfl, HB.out⟩
  · have hpb := Lib.hid (V1.out he)
    have hne : ¬ (n : Int) = (n' : Int) := by omega
    clear V1 V2 V3
    go_enter Try.func150, Try.ntmps150
    go_wp2
    go_ret
    exact ⟨by rw [hpb.out]; rfl, Below.refl _ _⟩
end Go.Proofs.Ytablphoicidlkaa
namespace Go.Proofs.Ytablphoicidlkaa
open Go.RowKit

set_option maxHeartbeats 8000000 in
set_option maxRecDepth 20000 in
theorem checkBetween_any {A A' : Option Addr} {n c n' c' : Nat} {S T : Int} {l m : List Pt} (hn : n ≤ maxLen) (w : World) (R : PtRow w A n l) (R' : PtRow w A' n' m) :
    Calls Try.prog 113 #[buV A n c S, buV A' n' c' T] w fun e w' => e = .returned (.int .i64 (btwE l m S T)) ∧ Below w.heap.size w w' := by
  obtain ⟨V1, V2, V3, V4⟩ := btw_vals (l := l) (m := m) (S := S) (T := T)
  have HV1 := Lib.hid V1
  have HV2 := Lib.hid V2
  have HV3 := Lib.hid V3
  have HV4 := Lib.hid V4
  have hl : Hid (l.length = n) := Lib.hid R.1
  have hm : Hid (m.length = n') := Lib.hid R'.1
  have HWT := Lib.hid (fun k (h : k < l.length) (h' : k < m.length) => wtB_at (l := l) (m := m) h h')
  have HWN := Lib.hid (fun (hx : ∀ k (h : k < l.length) (h' : k < m.length), (l[k]).n ≤ (m[k]).n) => wtB_none hx)
  have HPL := Lib.hid (fun (h : plB l m = true) => (plB_iff.1 h).1)
  have HR := Lib.hid R
  have HR' := Lib.hid R'
  have EQ0 := Lib.hid (fun wx (hb : Below w.heap.size w wx) => equalPts_any (c := c) (c' := c') hn wx (R.below hb) (R'.below hb))
  clear R R' V1 V2 V3 V4
  unfold maxLen at hn
  unfold buV
  generalize btwE l m S T = ce at *
  cases hp : plB l m
  · have hv := Lib.hid (HV1.out hp)
    have EQ1 := EQ0.out
    rw [hp] at EQ1
    have EQ := Lib.hid EQ1
    clear EQ0 EQ1 HV1 HV2 HV3 HV4 HWT HWN HPL hp
    go_enter Try.func113, Try.ntmps113
    go_upto_region 1 with fail
    obtain ⟨w0, hw0⟩ : ∃ w0, ((w.alloc (.cells #[.slice A n c, .int .i64 S] 26)).alloc (.cells #[.slice A' n' c', .int .i64 T] 26)) = w0 := ⟨_, rfl⟩
    have HB0 : Hid (Below w.heap.size w w0) := Lib.hid (by rw [← hw0]; exact (((Below.refl _ _).alloc (Nat.le_refl _) _).alloc (by simp; try omega) _))
    have HC := Lib.hid (fun wx (hb : Below w0.heap.size w0 wx) => (show wx.cell? ⟨w.heap.size, 0, none⟩ = some (.slice A n c) ∧ wx.cell? ⟨w.heap.size, 1, none⟩ = some (.int .i64 S) ∧ wx.cell? ⟨w.heap.size + 1, 0, none⟩ = some (.slice A' n' c') ∧ wx.cell? ⟨w.heap.size + 1, 1, none⟩ = some (.int .i64 T) from by
      subst hw0
      obtain ⟨k, kf⟩ := bcell hb
      exact ⟨(k _ _ (by simp; try omega)).trans (by simp [go_sem]), (k _ _ (by simp; try omega)).trans (by simp [go_sem]), (k _ _ (by simp; try omega)).trans (by simp [go_sem]), (k _ _ (by simp; try omega)).trans (by simp [go_sem])⟩))
    rw [hw0]
    clear hw0
    have H0 := HB0
    obtain ⟨c0, c1, c2, c3⟩ := HC.out w0 (Below.refl _ _)
    go_wp2_with (go_at_call 150; (with_reducible refine Calls.mono (EQ.out _ H0.out) ?_); rintro e w1 ⟨rfl, hb⟩; have HBx := Lib.hid hb; clear hb)
    go_ret
    exact ⟨ret_int hv.out.symm, HB0.out.trans (HBx.out.mono HB0.out.size)⟩
  · have EQ1 := EQ0.out
    rw [hp] at EQ1
    have EQ := Lib.hid EQ1
    have W2 := Lib.hid (HV2.out hp)
    have W3 := Lib.hid (HV3.out hp)
    have W4 := Lib.hid (HV4.out hp)
    have hnn : n = n' := by have := HPL.out hp; have := hl.out; have := hm.out; omega
    clear EQ0 EQ1 HV1 HV2 HV3 HV4 HPL hp
    subst hnn
    generalize wtB l m = wb at *
    go_enter Try.func113, Try.ntmps113
    go_upto_region 1 with fail
    obtain ⟨w0, hw0⟩ : ∃ w0, ((w.alloc (.cells #[.slice A n c, .int .i64 S] 26)).alloc (.cells #[.slice A' n c', .int .i64 T] 26)) = w0 := ⟨_, rfl⟩
    have HB0 : Hid (Below w.heap.size w w0) := Lib.hid (by rw [← hw0]; exact (((Below.refl _ _).alloc (Nat.le_refl _) _).alloc (by simp; try omega) _))
    have HC := Lib.hid (fun wx (hb : Below w0.heap.size w0 wx) => (show wx.cell? ⟨w.heap.size, 0, none⟩ = some (.slice A n c) ∧ wx.cell? ⟨w.heap.size, 1, none⟩ = some (.int .i64 S) ∧ wx.cell? ⟨w.heap.size + 1, 0, none⟩ = some (.slice A' n c') ∧ wx.cell? ⟨w.heap.size + 1, 1, none⟩ = some (.int .i64 T) from by
      subst hw0
      obtain ⟨k, kf⟩ := bcell hb
      exact ⟨(k _ _ (by simp; try omega)).trans (by simp [go_sem]), (k _ _ (by simp; try omega)).trans (by simp [go_sem]), (k _ _ (by simp; try omega)).trans (by simp [go_sem]), (k _ _ (by simp; try omega)).trans (by simp [go_sem])⟩))
    rw [hw0]
    clear hw0
    have H0 := HB0
    obtain ⟨c0, c1, c2, c3⟩ := HC.out w0 (Below.refl _ _)
    go_upto_region 3 with (go_at_call 150; (with_reducible refine Calls.mono (EQ.out _ H0.out) ?_); rintro e w1 ⟨rfl, hb⟩; have HBx := Lib.hid hb; clear hb)
    have HB1 := Lib.hid (HB0.out.trans (HBx.out.mono HB0.out.size))
    obtain ⟨d0, d1, d2, d3⟩ := HC.out w1 HBx.out
    clear c0 c1 c2 c3
    by_cases hST : T < S
    · have hv := Lib.hid (W2.out hST)
      go_wp2
      go_ret
      exact ⟨ret_int hv.out.symm, HB1.out⟩
    · have W4' := Lib.hid (W4.out (by omega))
      clear W2 W4
      go_wp2
      go_loopw [21] (fun i wr => ∃ k : Nat, k ≤ n ∧ i = .int .i64 k ∧ (∀ j (h : j < l.length) (h' : j < m.length), j < k → (l[j]).n ≤ (m[j]).n) ∧ Below w0.heap.size w0 wr) (fun i _ => n - (intOf i).toNat)
      case atStart => exact ⟨0, Nat.zero_le _, rfl, fun j _ _ h => absurd h (by omega), HBx.out⟩
      case round =>
        obtain ⟨k, hk, rfl, hall, hbw⟩ := hrel
        have HA := Lib.hid hall
        have HB := Lib.hid hbw
        have HBW := Lib.hid (HB0.out.trans (hbw.mono HB0.out.size))
        clear hall hbw d0 d1 d2 d3
        by_cases hlt : k < n
        · have hkl : k < l.length := by have := hl.out; omega
          have hkm : k < m.length := by have := hm.out; omega
          obtain ⟨blk, off, rfl, hblk, hx⟩ := HR.out.2 (by omega)
          obtain ⟨blk', off', rfl, hblk', hx'⟩ := HR'.out.2 (by omega)
          have HP := Lib.hid (fun wx (hb : Below wr.heap.size wr wx) => let hB := HBW.out.trans (hb.mono HBW.out.size); And.intro ((hx k hkl).below hB hblk) ((hx' k hkm).below hB hblk'))
          have X2 := Lib.hid (fun h => W3.out (HWT.out k hkl hkm h))
          have X3 := Lib.hid (fun (he : (l[k]).n ≤ (m[k]).n) j (h : j < l.length) (h' : j < m.length) (hj : j < k + 1) => (show (l[j]).n ≤ (m[j]).n from by
            by_cases e : j < k
            · exact HA.out j h h' e
            · obtain rfl : j = k := by omega
              exact he))
          obtain ⟨p, hp⟩ : ∃ x, l[k] = x := ⟨_, rfl⟩
          obtain ⟨q, hq⟩ : ∃ x, m[k] = x := ⟨_, rfl⟩
          rw [hp, hq] at HP X2 X3
          clear hp hq hx hx' W3 W4' HWT HWN
          obtain ⟨a, b⟩ := p
          obtain ⟨x, y⟩ := q
          unfold PtAt at HP
          simp only at HP X2 X3
          have hki : (k : Int) < (n : Int) := by omega
          have hk0 : (0 : Int) ≤ (k : Int) := by omega
          have hk64 : IntKind.i64.wrap (k : Int) = k := (by rw [IntKind.wrap_i64]; omega)
          obtain ⟨d0, d1, d2, d3⟩ := HC.out wr HB.out
          obtain ⟨⟨p0, p1⟩, -, -⟩ := HP.out wr (Below.refl _ _)
          go_upto_region 8 with fail
          obtain ⟨w2, hw2⟩ : ∃ w2, wr.alloc (.cells #[.int .i64 a, .int .i64 b] 90) = w2 := ⟨_, rfl⟩
          have HB2 : Hid (Below wr.heap.size wr w2) := Lib.hid (by rw [← hw2]; exact (Below.refl _ _).alloc (Nat.le_refl _) _)
          obtain ⟨g0, g1⟩ : w2.cell? ⟨wr.heap.size, 0, none⟩ = some (.int .i64 a) ∧ w2.cell? ⟨wr.heap.size, 1, none⟩ = some (.int .i64 b) := by
            subst hw2
            exact ⟨by rw [World.cell?_alloc_new]; rfl, by rw [World.cell?_alloc_new]; rfl⟩
          rw [hw2]
          clear hw2 p0 p1 d0 d1 d2 d3
          have HBV := Lib.hid (HB.out.trans (HB2.out.mono HB.out.size))
          have HBU := Lib.hid (HBW.out.trans (HB2.out.mono HBW.out.size))
          obtain ⟨-, q0, q1⟩ := HP.out w2 HB2.out
          obtain ⟨d0, d1, d2, d3⟩ := HC.out w2 HBV.out
          by_cases hyb : y < b
          · have hv := Lib.hid (X2.out hyb)
            have hyd : decide (y < b) = true := decide_eq_true hyb
            clear X2 X3 HP
            go_quiet (fail)
            go_wp2
            go_ret
            exact ⟨ret_int hv.out.symm, below_drewN HBU.out _⟩
          · have hv := Lib.hid (X3.out (by omega))
            have hyd : decide (y < b) = false := decide_eq_false hyb
            clear X2 X3 HP
            go_quiet (fail)
            go_wp2
            go_roundw
            case rel => exact ⟨k + 1, by omega, by go_num, hv.out, below_drewN HBV.out _⟩
            case measure => simp [intOf]; omega
        · obtain rfl : k = n := by omega
          have hv := Lib.hid (W4'.out (HWN.out (fun j h h' => HA.out j h h' (by have := hl.out; omega))))
          have hki : ¬ (k : Int) < (k : Int) := by omega
          clear W3 W4' HWT HWN HA
          go_wp2
          go_ret
          exact ⟨ret_int hv.out.symm, HBW.out⟩
end Go.Proofs.Ytablphoicidlkaa
namespace Go.Proofs.Ytablphoicidlkaa
open Go.RowKit

def rgE (b : Bm) (l m : List Pt) (S T : Int) : Int := firstE [burE b l S, burE b m T, btwE l m S T]
theorem rgE_ok {b : Bm} {l m : List Pt} {S T : Int} (h : rgE b l m S T = 0) : burE b l S = 0 ∧ burE b m T = 0 ∧ btwE l m S T = 0 := by
  unfold rgE at h
  rw [firstE_ok] at h
  simp only [List.mem_cons, List.not_mem_nil, or_false, forall_eq_or_imp, forall_eq] at h
  exact h
theorem rgE_vals {e1 e2 e3 : Int} : (¬ e1 = 0 → firstE [e1, e2, e3] = e1) ∧ (e1 = 0 → ¬ e2 = 0 → firstE [e1, e2, e3] = e2) ∧ (e1 = 0 → e2 = 0 → firstE [e1, e2, e3] = e3) := by
  refine ⟨fun h => ?_, fun h g => ?_, fun h g => ?_⟩
  · rw [firstE_cons, show (e1 == 0) = false by simpa using h]; rfl
  · subst h; rw [firstE_cons, firstE_cons, show (e2 == 0) = false by simpa using g]; rfl
  · subst h; subst g
    rw [firstE_cons, firstE_cons, firstE_cons]
    cases hc : e3 == 0
    · rfl
    · simp at hc; subst hc; rfl
set_option maxHeartbeats 8000000 in
set_option maxRecDepth 20000 in
theorem rcheckRange_any {b : Bm} {A A' : Option Addr} {n c n' c' : Nat} {S T : Int} {l m : List Pt} (hn : n ≤ maxLen) (hn' : n' ≤ maxLen) (w : World) (R : PtRow w A n l) (R' : PtRow w A' n' m) :
    Calls Try.prog 48 #[bmV b, buV A n c S, buV A' n' c' T] w fun e w' => e = .returned (.int .i64 (rgE b l m S T)) ∧ Below w.heap.size w w' := by
  have C1 := Lib.hid (fun wx (hb : Below w.heap.size w wx) => rcheckBurden_any (b := b) (c := c) (S := S) wx (R.below hb) hn)
  have C2 := Lib.hid (fun wx (hb : Below w.heap.size w wx) => rcheckBurden_any (b := b) (c := c') (S := T) wx (R'.below hb) hn')
  obtain ⟨X1, X2, X3⟩ := rgE_vals (e1 := burE b l S) (e2 := burE b m T) (e3 := btwE l m S T)
  obtain ⟨V1, V2, V3, V4⟩ := btw_vals (l := l) (m := m) (S := S) (T := T)
  have hl : Hid (l.length = n) := Lib.hid R.1
  have hm : Hid (m.length = n') := Lib.hid R'.1
  have HWT := Lib.hid (fun k (h : k < l.length) (h' : k < m.length) => wtB_at (l := l) (m := m) h h')
  have HWN := Lib.hid (fun (hx : ∀ k (h : k < l.length) (h' : k < m.length), (l[k]).n ≤ (m[k]).n) => wtB_none hx)
  have P1 := Lib.hid (fun (h : n ≠ n') => plB_len (l := l) (m := m) (by rw [hl.out, hm.out]; exact h))
  have P2 := Lib.hid (fun k (h : k < l.length) (h' : k < m.length) => plB_at (l := l) (m := m) h h')
  have P3 := Lib.hid (fun (h : n = n') (h2 : ∀ k (h : k < l.length) (h' : k < m.length), (l[k]).a = (m[k]).a) => plB_iff.2 ⟨by rw [hl.out, hm.out]; exact h, h2⟩)
  have HR := Lib.hid R
  have HR' := Lib.hid R'
  have hr : Hid (rgE b l m S T = firstE [burE b l S, burE b m T, btwE l m S T]) := Lib.hid rfl
  clear R R'
  unfold maxLen at hn hn'
  obtain ⟨s, ww, t, en⟩ := b
  unfold bmV buV at *
  simp only at C1 C2 ⊢
  generalize rgE ⟨s, ww, t, en⟩ l m S T = rr at *
  generalize burE ⟨s, ww, t, en⟩ l S = e1 at *
  generalize burE ⟨s, ww, t, en⟩ m T = e2 at *
  generalize btwE l m S T = e3 at *
  rw [Hid.out hr]
  generalize firstE [e1, e2, e3] = rv at *
  generalize plB l m = pb at *
  generalize wtB l m = wb at *
  have HX1 := Lib.hid X1
  have HX2 := Lib.hid X2
  have HX3 := Lib.hid X3
  have HV1 := Lib.hid V1
  have HV2 := Lib.hid V2
  have HV3 := Lib.hid V3
  have HV4 := Lib.hid V4
  clear X1 X2 X3 V1 V2 V3 V4 hr
  by_cases h1 : e1 = 0
  · subst h1
    by_cases h2 : e2 = 0
    · subst h2
      have HX := Lib.hid (HX3.out rfl rfl)
      clear HX1 HX2 HX3
      go_enter Try.func48, Try.ntmps48
      go_upto_region 1 with fail
      obtain ⟨w0, hw0⟩ : ∃ w0, (((w.alloc (.cells #[.int .i64 s, .int .i64 ww, .int .i64 t, .int .i64 en] 23)).alloc (.cells #[.slice A n c, .int .i64 S] 26)).alloc (.cells #[.slice A' n' c', .int .i64 T] 26)) = w0 := ⟨_, rfl⟩
      have HB0 : Hid (Below w.heap.size w w0) := Lib.hid (by rw [← hw0]; exact ((((Below.refl _ _).alloc (Nat.le_refl _) _).alloc (by simp; try omega) _).alloc (by simp; try omega) _))
      have HC := Lib.hid (fun wx (hb : Below w0.heap.size w0 wx) => (show wx.cell? ⟨w.heap.size, 0, none⟩ = some (.int .i64 s) ∧ wx.cell? ⟨w.heap.size, 1, none⟩ = some (.int .i64 ww) ∧ wx.cell? ⟨w.heap.size, 2, none⟩ = some (.int .i64 t) ∧ wx.cell? ⟨w.heap.size, 3, none⟩ = some (.int .i64 en) ∧ wx.cell? ⟨w.heap.size + 1, 0, none⟩ = some (.slice A n c) ∧ wx.cell? ⟨w.heap.size + 1, 1, none⟩ = some (.int .i64 S) ∧ wx.cell? ⟨w.heap.size + 2, 0, none⟩ = some (.slice A' n' c') ∧ wx.cell? ⟨w.heap.size + 2, 1, none⟩ = some (.int .i64 T) from by
        subst hw0
        obtain ⟨k, kf⟩ := bcell hb
        exact ⟨(k _ _ (by simp; try omega)).trans (by simp [go_sem]), (k _ _ (by simp; try omega)).trans (by simp [go_sem]), (k _ _ (by simp; try omega)).trans (by simp [go_sem]), (k _ _ (by simp; try omega)).trans (by simp [go_sem]), (k _ _ (by simp; try omega)).trans (by simp [go_sem]), (k _ _ (by simp; try omega)).trans (by simp [go_sem]), (k _ _ (by simp; try omega)).trans (by simp [go_sem]), (k _ _ (by simp; try omega)).trans (by simp [go_sem])⟩))
      rw [hw0]
      clear hw0
      obtain ⟨c0, c1, c2, c3, c4, c5, c6, c7⟩ := HC.out w0 (Below.refl _ _)
      go_upto_region 4 with (go_at_call 23; (with_reducible refine Calls.mono (C1.out _ HB0.out) ?_); rintro e w1 ⟨rfl, hb⟩; have H1 := Lib.hid hb; clear hb)
      have HA1 := Lib.hid (HB0.out.trans (H1.out.mono HB0.out.size))
      clear c0 c1 c2 c3 c4 c5 c6 c7
      obtain ⟨d0, d1, d2, d3, d4, d5, d6, d7⟩ := HC.out w1 H1.out
      go_upto_region 7 with (go_at_call 23; (with_reducible refine Calls.mono (C2.out _ HA1.out) ?_); rintro e w2 ⟨rfl, hb⟩; have H2 := Lib.hid (H1.out.trans (hb.mono H1.out.size)); clear hb)
      have HA2 := Lib.hid (HB0.out.trans (H2.out.mono HB0.out.size))
      clear d0 d1 d2 d3 d4 d5 d6 d7 C1 C2
      obtain ⟨e0, e1, e2, e3, e4, e5, e6, e7⟩ := HC.out w2 H2.out
      by_cases hnn : n = n'
      · subst hnn
        have P3' := Lib.hid (P3.out rfl)
        clear P1 P3
        go_wp2
        go_loopw [9] (fun i wr => ∃ k : Nat, k ≤ n ∧ i = .int .i64 k ∧ (∀ j (h : j < l.length) (h' : j < m.length), j < k → (l[j]).a = (m[j]).a) ∧ Below w0.heap.size w0 wr) (fun i _ => n - (intOf i).toNat)
        case atStart => exact ⟨0, Nat.zero_le _, rfl, fun j _ _ h => absurd h (by omega), H2.out⟩
        case round =>
          obtain ⟨k, hk, rfl, hall, hbw⟩ := hrel
          have HA := Lib.hid hall
          have HB := Lib.hid hbw
          have HBW := Lib.hid (HB0.out.trans (hbw.mono HB0.out.size))
          clear hall hbw e0 e1 e2 e3 e4 e5 e6 e7
          obtain ⟨f0, f1, f2, f3, f4, f5, f6, f7⟩ := HC.out wr HB.out
          by_cases hlt : k < n
          · have hkl : k < l.length := by have := hl.out; omega
            have hkm : k < m.length := by have := hm.out; omega
            obtain ⟨blk, off, rfl, hblk, hx⟩ := HR.out.2 (by omega)
            obtain ⟨blk', off', rfl, hblk', hx'⟩ := HR'.out.2 (by omega)
            have p := (hx k hkl).below HBW.out hblk
            have q := (hx' k hkm).below HBW.out hblk'
            have X2 := Lib.hid (P2.out k hkl hkm)
            have X3 := Lib.hid (fun (he : (l[k]).a = (m[k]).a) j (h : j < l.length) (h' : j < m.length) (hj : j < k + 1) => (show (l[j]).a = (m[j]).a from by
              by_cases e : j < k
              · exact HA.out j h h' e
              · obtain rfl : j = k := by omega
                exact he))
            obtain ⟨pp, hp⟩ : ∃ x, l[k] = x := ⟨_, rfl⟩
            obtain ⟨qq, hq⟩ : ∃ x, m[k] = x := ⟨_, rfl⟩
            rw [hp] at p
            rw [hq] at q
            rw [hp, hq] at X2 X3
            clear hp hq hx hx' P2 P3' HWT HWN
            obtain ⟨a, b⟩ := pp
            obtain ⟨x, y⟩ := qq
            unfold PtAt at p q
            simp only at p q X2 X3
            obtain ⟨p0, p1⟩ := p
            obtain ⟨q0, q1⟩ := q
            have hki : (k : Int) < (n : Int) := by omega
            have hk0 : (0 : Int) ≤ (k : Int) := by omega
            have hk64 : IntKind.i64.wrap (k : Int) = k := (by rw [IntKind.wrap_i64]; omega)
            by_cases hax : a = x
            · have hv := Lib.hid (X3.out hax)
              have hax2 : (a == x) = true := by simpa using hax
              clear X2 X3
              subst hax
              go_upto_region 12 with fail
              go_quiet (fail)
              go_wp2
              go_roundw
              case rel => exact ⟨k + 1, by omega, by go_num, hv.out, below_drewN HB.out _⟩
              case measure => simp [intOf]; omega
            · have hv := Lib.hid (HX.out.trans (HV1.out (X2.out hax)))
              have hax2 : (a == x) = false := by simpa using hax
              clear X2 X3
              go_upto_region 12 with fail
              go_quiet (fail)
              go_wp2
              go_ret
              exact ⟨ret_int hv.out.symm, below_drewN HBW.out _⟩
          · obtain rfl : k = n := by omega
            have hpb := P3'.out (fun j h h' => HA.out j h h' (by have := hl.out; omega))
            have W2 := Lib.hid (HV2.out hpb)
            have W3 := Lib.hid (HV3.out hpb)
            have W4 := Lib.hid (HV4.out hpb)
            clear HV1 HV2 HV3 HV4 P2 P3' HA hpb
            have hki : ¬ (k : Int) < (k : Int) := by omega
            by_cases hST : T < S
            · have hv := Lib.hid (HX.out.trans (W2.out hST))
              clear W2 W3 W4
              go_wp2
              go_ret
              exact ⟨ret_int hv.out.symm, HBW.out⟩
            · have W4' := Lib.hid (fun h => HX.out.trans (W4.out (by omega) h))
              have W3' := Lib.hid (fun h => HX.out.trans (W3.out h))
              clear W2 W4 W3
              go_wp2
              obtain ⟨wq, rfl⟩ : ∃ wq, wq = wr := ⟨_, rfl⟩
              go_loopw [10] (fun i wr => ∃ j : Nat, j ≤ k ∧ i = .int .i64 j ∧ (∀ i (h : i < l.length) (h' : i < m.length), i < j → (l[i]).n ≤ (m[i]).n) ∧ Below w0.heap.size w0 wr) (fun i _ => k - (intOf i).toNat)
              case atStart => exact ⟨0, Nat.zero_le _, rfl, fun j _ _ h => absurd h (by omega), HB.out⟩
              case round =>
                obtain ⟨j, hj, rfl, hall, hbw⟩ := hrel
                have HA := Lib.hid hall
                have HBq := Lib.hid hbw
                have HBQ := Lib.hid (HB0.out.trans (hbw.mono HB0.out.size))
                clear hall hbw f0 f1 f2 f3 f4 f5 f6 f7
                obtain ⟨f0, f1, f2, f3, f4, f5, f6, f7⟩ := HC.out wr HBq.out
                by_cases hlt2 : j < k
                · have hkl : j < l.length := by have := hl.out; omega
                  have hkm : j < m.length := by have := hm.out; omega
                  obtain ⟨blk, off, rfl, hblk, hx⟩ := HR.out.2 (by omega)
                  obtain ⟨blk', off', rfl, hblk', hx'⟩ := HR'.out.2 (by omega)
                  have p := (hx j hkl).below HBQ.out hblk
                  have q := (hx' j hkm).below HBQ.out hblk'
                  have X2 := Lib.hid (fun h => W3'.out (HWT.out j hkl hkm h))
                  have X3 := Lib.hid (fun (he : (l[j]).n ≤ (m[j]).n) i (h : i < l.length) (h' : i < m.length) (hj : i < j + 1) => (show (l[i]).n ≤ (m[i]).n from by
                    by_cases e : i < j
                    · exact HA.out i h h' e
                    · obtain rfl : i = j := by omega
                      exact he))
                  obtain ⟨pp, hp⟩ : ∃ x, l[j] = x := ⟨_, rfl⟩
                  obtain ⟨qq, hq⟩ : ∃ x, m[j] = x := ⟨_, rfl⟩
                  rw [hp] at p
                  rw [hq] at q
                  rw [hp, hq] at X2 X3
                  clear hp hq hx hx' W3' W4' HWT HWN
                  obtain ⟨a, b⟩ := pp
                  obtain ⟨x, y⟩ := qq
                  unfold PtAt at p q
                  simp only at p q X2 X3
                  obtain ⟨p0, p1⟩ := p
                  obtain ⟨q0, q1⟩ := q
                  have hji : (j : Int) < (k : Int) := by omega
                  have hk0 : (0 : Int) ≤ (j : Int) := by omega
                  have hk64 : IntKind.i64.wrap (j : Int) = j := (by rw [IntKind.wrap_i64]; omega)
                  by_cases hyb : y < b
                  · have hv := Lib.hid (X2.out hyb)
                    have hyd : decide (y < b) = true := decide_eq_true hyb
                    clear X2 X3
                    go_upto_region 19 with fail
                    go_quiet (fail)
                    go_wp2
                    go_ret
                    exact ⟨ret_int hv.out.symm, below_drewN HBQ.out _⟩
                  · have hv := Lib.hid (X3.out (by omega))
                    have hyd : decide (y < b) = false := decide_eq_false hyb
                    clear X2 X3
                    go_upto_region 19 with fail
                    go_quiet (fail)
                    go_wp2
                    go_roundw
                    case rel => exact ⟨j + 1, by omega, by go_num, hv.out, below_drewN HBq.out _⟩
                    case measure => simp [intOf]; omega
                · obtain rfl : j = k := by omega
                  have hv := Lib.hid (W4'.out (HWN.out (fun i h h' => HA.out i h h' (by have := hl.out; omega))))
                  have hji : ¬ (j : Int) < (j : Int) := by omega
                  clear W3' W4' HWT HWN HA
                  go_wp2
                  go_ret
                  exact ⟨ret_int hv.out.symm, HBQ.out⟩
      · have hv := Lib.hid (HX.out.trans (HV1.out (P1.out hnn)))
        have hne : ¬ (n : Int) = (n' : Int) := by omega
        clear P1 P2 P3 HV1 HV2 HV3 HV4 HX
        go_wp2
        go_ret
        exact ⟨ret_int hv.out.symm, HA2.out⟩
    · have hv := Lib.hid (HX2.out rfl h2)
      clear HX1 HX2 HX3
      go_enter Try.func48, Try.ntmps48
      go_upto_region 1 with fail
      obtain ⟨w0, hw0⟩ : ∃ w0, (((w.alloc (.cells #[.int .i64 s, .int .i64 ww, .int .i64 t, .int .i64 en] 23)).alloc (.cells #[.slice A n c, .int .i64 S] 26)).alloc (.cells #[.slice A' n' c', .int .i64 T] 26)) = w0 := ⟨_, rfl⟩
      have HB0 : Hid (Below w.heap.size w w0) := Lib.hid (by rw [← hw0]; exact ((((Below.refl _ _).alloc (Nat.le_refl _) _).alloc (by simp; try omega) _).alloc (by simp; try omega) _))
      have HC := Lib.hid (fun wx (hb : Below w0.heap.size w0 wx) => (show wx.cell? ⟨w.heap.size, 0, none⟩ = some (.int .i64 s) ∧ wx.cell? ⟨w.heap.size, 1, none⟩ = some (.int .i64 ww) ∧ wx.cell? ⟨w.heap.size, 2, none⟩ = some (.int .i64 t) ∧ wx.cell? ⟨w.heap.size, 3, none⟩ = some (.int .i64 en) ∧ wx.cell? ⟨w.heap.size + 1, 0, none⟩ = some (.slice A n c) ∧ wx.cell? ⟨w.heap.size + 1, 1, none⟩ = some (.int .i64 S) ∧ wx.cell? ⟨w.heap.size + 2, 0, none⟩ = some (.slice A' n' c') ∧ wx.cell? ⟨w.heap.size + 2, 1, none⟩ = some (.int .i64 T) from by
        subst hw0
        obtain ⟨k, kf⟩ := bcell hb
        exact ⟨(k _ _ (by simp; try omega)).trans (by simp [go_sem]), (k _ _ (by simp; try omega)).trans (by simp [go_sem]), (k _ _ (by simp; try omega)).trans (by simp [go_sem]), (k _ _ (by simp; try omega)).trans (by simp [go_sem]), (k _ _ (by simp; try omega)).trans (by simp [go_sem]), (k _ _ (by simp; try omega)).trans (by simp [go_sem]), (k _ _ (by simp; try omega)).trans (by simp [go_sem]), (k _ _ (by simp; try omega)).trans (by simp [go_sem])⟩))
      rw [hw0]
      clear hw0
      obtain ⟨c0, c1, c2, c3, c4, c5, c6, c7⟩ := HC.out w0 (Below.refl _ _)
      go_upto_region 4 with (go_at_call 23; (with_reducible refine Calls.mono (C1.out _ HB0.out) ?_); rintro e w1 ⟨rfl, hb⟩; have H1 := Lib.hid hb; clear hb)
      have HA1 := Lib.hid (HB0.out.trans (H1.out.mono HB0.out.size))
      clear c0 c1 c2 c3 c4 c5 c6 c7
      obtain ⟨d0, d1, d2, d3, d4, d5, d6, d7⟩ := HC.out w1 H1.out
      go_wp2_with (go_at_call 23; (with_reducible refine Calls.mono (C2.out _ HA1.out) ?_); rintro e w2 ⟨rfl, hb⟩; have H2 := Lib.hid (H1.out.trans (hb.mono H1.out.size)); clear hb)
      go_ret
      exact ⟨ret_int hv.out.symm, HB0.out.trans (H2.out.mono HB0.out.size)⟩
  · have hv := Lib.hid (HX1.out h1)
    clear HX1 HX2 HX3
    go_enter Try.func48, Try.ntmps48
    go_upto_region 1 with fail
    obtain ⟨w0, hw0⟩ : ∃ w0, (((w.alloc (.cells #[.int .i64 s, .int .i64 ww, .int .i64 t, .int .i64 en] 23)).alloc (.cells #[.slice A n c, .int .i64 S] 26)).alloc (.cells #[.slice A' n' c', .int .i64 T] 26)) = w0 := ⟨_, rfl⟩
    have HB0 : Hid (Below w.heap.size w w0) := Lib.hid (by rw [← hw0]; exact ((((Below.refl _ _).alloc (Nat.le_refl _) _).alloc (by simp; try omega) _).alloc (by simp; try omega) _))
    have HC := Lib.hid (fun wx (hb : Below w0.heap.size w0 wx) => (show wx.cell? ⟨w.heap.size, 0, none⟩ = some (.int .i64 s) ∧ wx.cell? ⟨w.heap.size, 1, none⟩ = some (.int .i64 ww) ∧ wx.cell? ⟨w.heap.size, 2, none⟩ = some (.int .i64 t) ∧ wx.cell? ⟨w.heap.size, 3, none⟩ = some (.int .i64 en) ∧ wx.cell? ⟨w.heap.size + 1, 0, none⟩ = some (.slice A n c) ∧ wx.cell? ⟨w.heap.size + 1, 1, none⟩ = some (.int .i64 S) ∧ wx.cell? ⟨w.heap.size + 2, 0, none⟩ = some (.slice A' n' c') ∧ wx.cell? ⟨w.heap.size + 2, 1, none⟩ = some (.int .i64 T) from by
      subst hw0
      obtain ⟨k, kf⟩ := bcell hb
      exact ⟨(k _ _ (by simp; try omega)).trans (by simp [go_sem]), (k _ _ (by simp; try omega)).trans (by simp [go_sem]), (k _ _ (by simp; try omega)).trans (by simp [go_sem]), (k _ _ (by simp; try omega)).trans (by simp [go_sem]), (k _ _ (by simp; try omega)).trans (by simp [go_sem]), (k _ _ (by simp; try omega)).trans (by simp [go_sem]), (k _ _ (by simp; try omega)).trans (by simp [go_sem]), (k _ _ (by simp; try omega)).trans (by simp [go_sem])⟩))
    rw [hw0]
    clear hw0
    obtain ⟨c0, c1, c2, c3, c4, c5, c6, c7⟩ := HC.out w0 (Below.refl _ _)
    go_wp2_with (go_at_call 23; (with_reducible refine Calls.mono (C1.out _ HB0.out) ?_); rintro e w1 ⟨rfl, hb⟩; have H1 := Lib.hid hb; clear hb)
    go_ret
    exact ⟨ret_int hv.out.symm, HB0.out.trans (H1.out.mono HB0.out.size)⟩
end Go.Proofs.Ytablphoicidlkaa
