/- Heavier weights: the lists, an own row in which stores are made. -/
import Derived.Test.YtageiimcmnebmaaEC
import Derived.Test.YtageiimcmnebmaaEA
import Derived.Test.YtageiimcmnebmaaRM
namespace Go.Proofs.Ytageiimcmnebmaa
open Go.RowKit

/-- A point whose weight is multiplied. -/
def hvP (p : Int) (q : Pt) : Pt := ⟨q.a, hvI q.n p⟩
/-- The first k are multiplied. -/
def mixL (p : Int) (k : Nat) (l : List Pt) : List Pt := (l.take k).map (hvP p) ++ l.drop k
theorem mixL_len {p : Int} {k : Nat} {l : List Pt} : (mixL p k l).length = l.length := by
  unfold mixL
  simp
  omega
theorem mixL_zero {p : Int} {l : List Pt} : mixL p 0 l = l := by simp [mixL]
theorem mixL_all {p : Int} {k : Nat} {l : List Pt} (h : l.length ≤ k) : mixL p k l = l.map (hvP p) := by
  unfold mixL
  rw [List.take_of_length_le h, List.drop_eq_nil_of_le h, List.append_nil]
theorem mixL_get {p : Int} {k j : Nat} {l : List Pt} (hj : j < l.length) (hj' : j < (mixL p k l).length) : (mixL p k l)[j] = if j < k then hvP p l[j] else l[j] := by
  have h : (mixL p k l)[j]? = some (if j < k then hvP p l[j] else l[j]) := by
    unfold mixL
    by_cases hjk : j < k
    · rw [if_pos hjk, List.getElem?_append_left (by simp; omega), List.getElem?_map, List.getElem?_take_of_lt hjk, List.getElem?_eq_getElem hj]
      rfl
    · rw [if_neg hjk, List.getElem?_append_right (by simp; omega), List.getElem?_drop]
      simp only [List.length_map, List.length_take]
      rw [show k + (j - min k l.length) = j by omega, List.getElem?_eq_getElem hj]
  rw [List.getElem?_eq_getElem hj'] at h
  exact Option.some.inj h
theorem mix_step {w : World} {g n k : Nat} {p x : Int} {l : List Pt} (h : PtRow w (some ⟨g, 0, none⟩) n (mixL p k l)) (hk : k < l.length) (hx : hvI l[k].n p = x) : PtRow (w.setCell ⟨g, k * 2 + 1, none⟩ (.int .i64 x)) (some ⟨g, 0, none⟩) n (mixL p (k + 1) l) := by
  have hn : 0 < n := by have := h.1; rw [mixL_len] at this; omega
  obtain ⟨hl, hr⟩ := h
  obtain ⟨blk, off, he, hlt, hc⟩ := hr hn
  cases he
  refine ⟨by rw [mixL_len] at hl ⊢; exact hl, fun _ => ⟨g, 0, rfl, by simpa using hlt, fun j hj => ?_⟩⟩
  have hj2 : j < l.length := by rw [mixL_len] at hj; exact hj
  have hj3 : j < (mixL p k l).length := by rw [mixL_len]; exact hj2
  obtain ⟨c0, c1⟩ := hc j hj3
  rw [Nat.zero_add] at c0 c1 ⊢
  rw [mixL_get hj2] at c0 c1
  have hd : ∀ o, o ≠ k * 2 + 1 → (⟨g, k * 2 + 1, none⟩ : Addr) ≠ ⟨g, o, none⟩ := fun o h e => h (by injection e with _ e2 _; exact e2.symm)
  unfold PtAt
  rw [mixL_get hj2]
  by_cases hjk : j = k
  · subst hjk
    rw [if_neg (by omega)] at c0 c1
    rw [if_pos (by omega)]
    refine ⟨(World.cell?_setCell_other _ _ _ _ (hd _ (by omega))).trans c0, (World.cell?_setCell_same _ _ _ c1).trans ?_⟩
    rw [← hx]
    rfl
  · have e : (if j < k then hvP p l[j] else l[j]) = if j < k + 1 then hvP p l[j] else l[j] := by
      by_cases h1 : j < k
      · rw [if_pos h1, if_pos (by omega)]
      · rw [if_neg h1, if_neg (by omega)]
    rw [e] at c0 c1
    exact ⟨(World.cell?_setCell_other _ _ _ _ (hd _ (by omega))).trans c0, (World.cell?_setCell_other _ _ _ _ (hd _ (by omega))).trans c1⟩
/-- A row of the call's own, not frozen. -/
def OwnP (B : Nat) (w : World) (A : Option Addr) : Prop := ∃ g, A = some ⟨g, 0, none⟩ ∧ B ≤ g ∧ g < w.heap.size ∧ ∀ j, w.frozen? ⟨g, j, none⟩ = false
theorem OwnP.below {B : Nat} {w w' : World} {A : Option Addr} (h : OwnP B w A) (hb : Below w.heap.size w w') : OwnP B w' A := by
  obtain ⟨g, e, h1, h2, h3⟩ := h
  exact ⟨g, e, h1, Nat.lt_of_lt_of_le h2 hb.size, fun j => ((bcell hb).2 _ _ h2).trans (h3 j)⟩
theorem OwnP.set {B : Nat} {w : World} {A : Option Addr} {a : Addr} {v : Value} (h : OwnP B w A) : OwnP B (w.setCell a v) A := by
  obtain ⟨g, e, h1, h2, h3⟩ := h
  exact ⟨g, e, h1, by simpa using h2, fun j => by rw [World.frozen?_setCell]; exact h3 j⟩
/-- A row of points that a call may store into. -/
def OwnPts (B : Nat) (w : World) (A : Option Addr) (n : Nat) (l : List Pt) : Prop := PtRow w A n l ∧ (0 < n → OwnP B w A)
theorem OwnPts.below {B n : Nat} {w w' : World} {A : Option Addr} {l : List Pt} (h : OwnPts B w A n l) (hb : Below w.heap.size w w') : OwnPts B w' A n l := ⟨h.1.below hb, fun hn => (h.2 hn).below hb⟩
theorem ptrow_keep2 {w : World} {A : Option Addr} {n pb : Nat} {l : List Pt} {x0 x1 y : Value} (h : PtRow w A n l) (hz : w.cell? ⟨pb, 0, none⟩ = some y) (hy : ∀ z, y ≠ .int .i64 z) (ho : 0 < n → ∃ g, A = some ⟨g, 0, none⟩) : PtRow (set2 w pb x0 x1) A n l := by
  obtain ⟨hl, hr⟩ := h
  refine ⟨hl, fun hn => ?_⟩
  obtain ⟨blk, off, he, hlt, hc⟩ := hr hn
  obtain ⟨g, hg⟩ := ho hn
  subst he
  cases hg
  have hne : pb ≠ blk := fun e => by
    subst e
    obtain ⟨h0, -⟩ := hc 0 (by omega)
    simp only [Nat.zero_mul, Nat.add_zero] at h0
    rw [hz] at h0
    exact hy _ (Option.some.inj h0)
  have hd : ∀ o o' : Nat, (⟨pb, o, none⟩ : Addr) ≠ ⟨blk, o', none⟩ := fun o o' h => hne (by injection h)
  refine ⟨blk, 0, rfl, by unfold set2; simpa using hlt, fun k hk => ?_⟩
  obtain ⟨p1, p2⟩ := hc k hk
  unfold set2
  exact ⟨(World.cell?_setCell_other _ _ _ _ (hd _ _)).trans ((World.cell?_setCell_other _ _ _ _ (hd _ _)).trans p1), (World.cell?_setCell_other _ _ _ _ (hd _ _)).trans ((World.cell?_setCell_other _ _ _ _ (hd _ _)).trans p2)⟩
theorem OwnPts.set2 {B n pb : Nat} {w : World} {A : Option Addr} {l : List Pt} {x0 x1 : Value} (h : OwnPts B w A n l) (hz : w.cell? ⟨pb, 0, none⟩ = some (.slice none 0 0)) : OwnPts B (set2 w pb x0 x1) A n l :=
  ⟨ptrow_keep2 h.1 hz (fun z h => by cases h) (fun hn => let ⟨g, e, _⟩ := h.2 hn; ⟨g, e⟩), fun hn => ((h.2 hn).set).set⟩
def rOwnR (B n : Nat) (l : List Pt) : RK := ⟨fun v w => ∃ A c, v = .slice A n c ∧ OwnPts B w A n l, fun _ _ _ hb ⟨A, c, e, h⟩ => ⟨A, c, e, h.below hb⟩⟩
def rOwnB (B n : Nat) (l : List Pt) (S : Int) : RK := ⟨fun v w => ∃ A c, v = buV A n c S ∧ OwnPts B w A n l, fun _ _ _ hb ⟨A, c, e, h⟩ => ⟨A, c, e, h.below hb⟩⟩
/-- What stands in the struct. -/
def XO (B n : Nat) (l : List Pt) (S : Int) (y0 y1 : Value) (w : World) : Prop := ∃ A c, y0 = .slice A n c ∧ y1 = .int .i64 S ∧ OwnPts B w A n l
theorem rstep_clone {Q : Exit → Act → World → Prop} {L : List RK} {i : Nat} {o : Oper} {a : Act} {w : World} {n c B : Nat} {A : Option Addr} {l : List Pt} (hB : B ≤ w.heap.size)
    (hr : (execOp a.eval o).run Try.prog w = .ok (.enter 110 #[.slice A n c]) w) (hrow : PtRow w A n l) (hn : n ≤ 1000000) (hL : L.getD i rAny = rOwnR B n l) :
    o.wp Try.prog a w (fun a' w' => ∃ v, a' = a.put o.dst v ∧ Below w.heap.size w w' ∧ rkF L i v w') Q := by
  unfold Oper.wp
  rw [hr]
  refine (clone_any hn w hrow).mono fun e w' ⟨A', c', he, hp, ho, hb⟩ => ?_
  subst he
  refine ⟨_, rfl, hb, by
    unfold rkF
    rw [hL]
    refine ⟨A', c', rfl, hp, fun h0 => ?_⟩
    obtain ⟨g, e, h1, h2⟩ := ho h0
    obtain ⟨blk, off, e2, hlt, -⟩ := hp.2 h0
    subst e
    cases e2
    exact ⟨g, rfl, Nat.le_trans hB h1, hlt, h2⟩⟩
theorem rstep_ownB {P : Program} {Q : Exit → Act → World → Prop} {L : List RK} {i : Nat} {o : Oper} {a : Act} {w : World} {n c B : Nat} {A : Option Addr} {l : List Pt} {S : Int} (hr : (execOp a.eval o).run P w = .ok (.value (buV A n c S)) w) (hrow : OwnPts B w A n l) (hL : L.getD i rAny = rOwnB B n l S) :
    o.wp P a w (fun a' w' => ∃ v, a' = a.put o.dst v ∧ Below w.heap.size w w' ∧ rkF L i v w') Q := by
  unfold Oper.wp
  rw [hr]
  exact ⟨_, rfl, Below.refl _ _, by unfold rkF; rw [hL]; exact ⟨A, c, rfl, hrow⟩⟩
/-- What heavier weights are: the error, the spread, the points. -/
def hvE (l : List Pt) (S p : Int) : Int := firstE [wtsE 2000 l S, rngE 1000 5000 [p]]
def hvR (l : List Pt) (S p : Int) : Int × Int × List Pt := if hvE l S p = 0 then (if wtsE 2000 (l.map (hvP p)) (hvI S p) = 0 then (0, hvI S p, l.map (hvP p)) else (8, 0, [])) else (hvE l S p, 0, [])
theorem hvE_ok {l : List Pt} {S p : Int} : hvE l S p = 0 ↔ WtOk 2000 l S ∧ (1000 ≤ p ∧ p ≤ 5000) := by
  unfold hvE
  rw [firstE_ok]
  simp only [List.mem_cons, List.not_mem_nil, or_false, forall_eq_or_imp, forall_eq, wtsE_ok, rngE_ok]
/-- What both functions hand back. -/
def HvOut (l : List Pt) (S p : Int) (w : World) (e : Ending) (w' : World) : Prop := ∃ A n c, e = .returned (.tuple #[buV A n c (hvR l S p).2.1, .int .i64 (hvR l S p).1]) ∧ PtRow w' A n (hvR l S p).2.2 ∧ Below w.heap.size w w'
end Go.Proofs.Ytageiimcmnebmaa
