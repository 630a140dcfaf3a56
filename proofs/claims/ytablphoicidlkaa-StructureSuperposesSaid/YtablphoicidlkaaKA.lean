/- Two lists of points, one behind the other, in a region that draws its order. -/
import Derived.OneCell
import Derived.Test.YtablphoicidlkaaRO
import Derived.Test.YtablphoicidlkaaFG0
namespace Go.Proofs.Ytablphoicidlkaa
open Go.RowKit

theorem own_empty {w : World} {B : Nat} (hB : B ≤ w.heap.size) : (w.alloc (.cells #[] 90)).ownsRow B 90 2 (.slice (some ⟨w.heap.size, 0, none⟩) 0 0) 0 (flatP []) := by
  refine ⟨rfl, .inr ⟨w.heap.size, 0, #[], rfl, hB, ?_, Nat.le_refl _, by decide, rfl, rfl⟩⟩
  show (w.heap.push _)[w.heap.size]? = some _
  simp
def SpR (B n1 n2 : Nat) (l1 l2 : List Pt) (SS : Int) (D : Nat → Bool) (a : Act) (w : World) : Prop :=
  B ≤ w.heap.size ∧ ∃ (vr : Value) (nr : Nat) (lr : List Pt),
    (D 0 = true → w.ownsRow B 90 2 vr nr (flatP lr)) ∧
    (D 0 = true → D 4 = false → a.tmps.getD 65 undef = vr ∧ nr = 0 ∧ lr = []) ∧
    (D 4 = true → D 8 = false → a.tmps.getD 69 undef = vr ∧ nr = n1 ∧ lr = l1) ∧
    (D 8 = true → a.tmps.getD 73 undef = vr ∧ nr = n1 + n2 ∧ lr = l1 ++ l2) ∧
    (D 16 = true → a.tmps.getD 81 undef = .agg #[a.tmps.getD 73 undef, .int .i64 SS]) ∧
    (D 17 = true → ∃ p : Nat, a.tmps.getD 7 undef = .pointer (some ⟨p, 0, none⟩) ∧ B ≤ p ∧ p < w.heap.size ∧ (D 0 = true → vr.ownBlock ≠ some p) ∧ w.frozen? ⟨p, 0, none⟩ = false ∧ w.frozen? ⟨p, 1, none⟩ = false ∧
      (D 18 = false → w.cell? ⟨p, 0, none⟩ = some (.slice none 0 0) ∧ w.cell? ⟨p, 1, none⟩ = some (.int .i64 0)) ∧ (D 18 = true → w.cell? ⟨p, 0, none⟩ = some vr ∧ w.cell? ⟨p, 1, none⟩ = some (.int .i64 SS)))
theorem spR_keep {B n1 n2 : Nat} {l1 l2 : List Pt} {SS : Int} (D D' : Nat → Bool) (a a' : Act) (w : World) (hD : ∀ i, i ∈ [0, 4, 8, 16, 17, 18] → D i = D' i) (h65 : a.tmps.getD 65 undef = a'.tmps.getD 65 undef) (h69 : a.tmps.getD 69 undef = a'.tmps.getD 69 undef) (h73 : a.tmps.getD 73 undef = a'.tmps.getD 73 undef) (h81 : a.tmps.getD 81 undef = a'.tmps.getD 81 undef) (h7 : a.tmps.getD 7 undef = a'.tmps.getD 7 undef)
    (h : SpR B n1 n2 l1 l2 SS D a w) : SpR B n1 n2 l1 l2 SS D' a' w := by
  unfold SpR at *
  rw [← h65, ← h69, ← h73, ← h81, ← h7, ← hD 0 (by decide), ← hD 4 (by decide), ← hD 8 (by decide), ← hD 16 (by decide), ← hD 17 (by decide), ← hD 18 (by decide)]
  exact h
theorem spR_below {B n1 n2 : Nat} {l1 l2 : List Pt} {SS : Int} (D : Nat → Bool) (a : Act) (w w' : World) (hb : Below w.heap.size w w') (h : SpR B n1 n2 l1 l2 SS D a w) : SpR B n1 n2 l1 l2 SS D a w' := by
  obtain ⟨hB, vr, nr, lr, o0, o1, o2, o3, o4, o5⟩ := h
  refine ⟨Nat.le_trans hB hb.size, vr, nr, lr, fun hd => (o0 hd).kept (below_grown5 hb) (own_ne _), o1, o2, o3, o4, fun hd => ?_⟩
  obtain ⟨p, p0, p1, p2, p3, p4, p5, p6, p7⟩ := o5 hd
  obtain ⟨k, kf⟩ := bcell hb
  exact ⟨p, p0, p1, Nat.lt_of_lt_of_le p2 hb.size, p3, (kf _ _ p2).trans p4, (kf _ _ p2).trans p5, fun hx => ⟨(k _ _ p2).trans (p6 hx).1, (k _ _ p2).trans (p6 hx).2⟩, fun hx => ⟨(k _ _ p2).trans (p7 hx).1, (k _ _ p2).trans (p7 hx).2⟩⟩
theorem grown_other {w w' : World} {v : Value} (hg : w.grownBy w' v.ownBlock) {p : Nat} (hp : p < w.heap.size) (hne : v.ownBlock ≠ some p) : (∀ o, w'.cell? ⟨p, o, none⟩ = w.cell? ⟨p, o, none⟩) ∧ (∀ o, w'.frozen? ⟨p, o, none⟩ = w.frozen? ⟨p, o, none⟩) := by
  have hh := hg.block p hp (fun e => hne e.symm)
  exact ⟨fun o => by simp [World.cell?, hh], fun o => by simp [World.frozen?, hh]⟩
theorem add_ne {D : Nat → Bool} {i j : Nat} (h : (i == j) = false) : addD D j i = D i := addD_other (by simpa using h)
theorem spR_op0 {B n1 n2 : Nat} {l1 l2 : List Pt} {SS : Int} {D : Nat → Bool} {a : Act} {w : World} (hz : 65 < a.tmps.size) (d4 : D 4 = false) (d8 : D 8 = false) (d16 : D 16 = false) (d18 : D 18 = false) (h : SpR B n1 n2 l1 l2 SS D a w) :
    SpR B n1 n2 l1 l2 SS (addD D 0) (a.put (some 65) (.slice (some ⟨w.heap.size, 0, none⟩) 0 0)) (w.alloc (.cells #[] 90)) := by
  obtain ⟨hB, vr, nr, lr, o0, o1, o2, o3, o4, o5⟩ := h
  have hb : Below w.heap.size w (w.alloc (.cells #[] 90)) := (Below.refl _ _).alloc (Nat.le_refl _) _
  obtain ⟨k, kf⟩ := bcell hb
  refine ⟨Nat.le_trans hB hb.size, .slice (some ⟨w.heap.size, 0, none⟩) 0 0, 0, [], fun _ => own_empty hB, fun _ _ => ⟨put_at hz, rfl, rfl⟩, fun hd => ?_, fun hd => ?_, fun hd => ?_, fun hd => ?_⟩
  · rw [add_ne rfl, d4] at hd; cases hd
  · rw [add_ne rfl, d8] at hd; cases hd
  · rw [add_ne rfl, d16] at hd; cases hd
  · rw [add_ne rfl] at hd
    rw [addD_self, add_ne rfl, put_far (by decide)]
    obtain ⟨p, p0, p1, p2, p3, p4, p5, p6, p7⟩ := o5 hd
    exact ⟨p, p0, p1, Nat.lt_of_lt_of_le p2 hb.size, fun _ e => by simp [Value.ownBlock] at e; omega, (kf _ _ p2).trans p4, (kf _ _ p2).trans p5, fun hx => ⟨(k _ _ p2).trans (p6 hx).1, (k _ _ p2).trans (p6 hx).2⟩, fun hx => by rw [d18] at hx; cases hx⟩
theorem spR_op4 {B n1 n2 : Nat} {l1 l2 : List Pt} {SS : Int} {D : Nat → Bool} {a : Act} {w : World} {v' : Value} {w' : World} (hz : 69 < a.tmps.size) (d0 : D 0 = true) (d4 : D 4 = false) (d8 : D 8 = false) (d16 : D 16 = false) (d18 : D 18 = false) (hb : w.heap.size ≤ w'.heap.size) (ho : w'.ownsRow B 90 2 v' (n1) (flatP (l1))) (hg : w.grownBy w' (a.tmps.getD 65 undef).ownBlock) (hv : v'.ownBlock = (a.tmps.getD 65 undef).ownBlock ∨ v'.ownBlock = some w.heap.size) (h : SpR B n1 n2 l1 l2 SS D a w) :
    SpR B n1 n2 l1 l2 SS (addD D 4) (a.put (some 69) v') w' := by
  obtain ⟨hB, vr, nr, lr, o0, o1, o2, o3, o4, o5⟩ := h
  obtain ⟨e1, -, -⟩ := o1 d0 d4
  rw [e1] at hg hv
  refine ⟨Nat.le_trans hB hb, v', n1, l1, fun _ => ho, fun _ hd => ?_, fun _ _ => ⟨put_at hz, rfl, rfl⟩, fun hd => ?_, fun hd => ?_, fun hd => ?_⟩
  · rw [addD_self] at hd; cases hd
  · rw [add_ne rfl, d8] at hd; cases hd
  · rw [add_ne rfl, d16] at hd; cases hd
  · rw [add_ne rfl] at hd
    rw [add_ne rfl, add_ne rfl, put_far (by decide)]
    obtain ⟨p, p0, p1, p2, p3, p4, p5, p6, p7⟩ := o5 hd
    obtain ⟨k, kf⟩ := grown_other hg p2 (p3 d0)
    exact ⟨p, p0, p1, Nat.lt_of_lt_of_le p2 hb, fun _ e => by
      rcases hv with hv | hv
      · exact p3 d0 (hv ▸ e)
      · rw [hv] at e; cases e; omega, (kf _).trans p4, (kf _).trans p5, fun hx => ⟨(k _).trans (p6 hx).1, (k _).trans (p6 hx).2⟩, fun hx => by rw [d18] at hx; cases hx⟩
theorem spR_op8 {B n1 n2 : Nat} {l1 l2 : List Pt} {SS : Int} {D : Nat → Bool} {a : Act} {w : World} {v' : Value} {w' : World} (hz : 73 < a.tmps.size) (d0 : D 0 = true) (d4 : D 4 = true) (d8 : D 8 = false) (d16 : D 16 = false) (d18 : D 18 = false) (hb : w.heap.size ≤ w'.heap.size) (ho : w'.ownsRow B 90 2 v' (n1 + n2) (flatP (l1 ++ l2))) (hg : w.grownBy w' (a.tmps.getD 69 undef).ownBlock) (hv : v'.ownBlock = (a.tmps.getD 69 undef).ownBlock ∨ v'.ownBlock = some w.heap.size) (h : SpR B n1 n2 l1 l2 SS D a w) :
    SpR B n1 n2 l1 l2 SS (addD D 8) (a.put (some 73) v') w' := by
  obtain ⟨hB, vr, nr, lr, o0, o1, o2, o3, o4, o5⟩ := h
  obtain ⟨e1, -, -⟩ := o2 d4 d8
  rw [e1] at hg hv
  refine ⟨Nat.le_trans hB hb, v', n1 + n2, l1 ++ l2, fun _ => ho, fun _ hd => ?_, fun _ hd => ?_, fun _ => ⟨put_at hz, rfl, rfl⟩, fun hd => ?_, fun hd => ?_⟩
  · rw [add_ne rfl, d4] at hd; cases hd
  · rw [addD_self] at hd; cases hd
  · rw [add_ne rfl, d16] at hd; cases hd
  · rw [add_ne rfl] at hd
    rw [add_ne rfl, add_ne rfl, put_far (by decide)]
    obtain ⟨p, p0, p1, p2, p3, p4, p5, p6, p7⟩ := o5 hd
    obtain ⟨k, kf⟩ := grown_other hg p2 (p3 d0)
    exact ⟨p, p0, p1, Nat.lt_of_lt_of_le p2 hb, fun _ e => by
      rcases hv with hv | hv
      · exact p3 d0 (hv ▸ e)
      · rw [hv] at e; cases e; omega, (kf _).trans p4, (kf _).trans p5, fun hx => ⟨(k _).trans (p6 hx).1, (k _).trans (p6 hx).2⟩, fun hx => by rw [d18] at hx; cases hx⟩
theorem spR_op16 {B n1 n2 : Nat} {l1 l2 : List Pt} {SS : Int} {D : Nat → Bool} {a : Act} {w : World} (hz : 81 < a.tmps.size) (h : SpR B n1 n2 l1 l2 SS D a w) :
    SpR B n1 n2 l1 l2 SS (addD D 16) (a.put (some 81) (.agg #[a.tmps.getD 73 undef, .int .i64 SS])) w := by
  obtain ⟨hB, vr, nr, lr, o0, o1, o2, o3, o4, o5⟩ := h
  have x0 : addD D 16 0 = D 0 := add_ne rfl
  have x4 : addD D 16 4 = D 4 := add_ne rfl
  have x8 : addD D 16 8 = D 8 := add_ne rfl
  have x16 : addD D 16 16 = true := addD_self _ _
  have x17 : addD D 16 17 = D 17 := add_ne rfl
  have x18 : addD D 16 18 = D 18 := add_ne rfl
  unfold SpR
  rw [x0, x4, x8, x16, x17, x18, put_far (by decide), put_far (by decide), put_far (by decide), put_at hz, put_far (by decide)]
  exact ⟨hB, vr, nr, lr, o0, o1, o2, o3, fun _ => rfl, o5⟩
theorem spR_op17 {B n1 n2 : Nat} {l1 l2 : List Pt} {SS : Int} {D : Nat → Bool} {a : Act} {w : World} {t : TypeId} (hz : 7 < a.tmps.size) (d18 : D 18 = false) (h : SpR B n1 n2 l1 l2 SS D a w) :
    SpR B n1 n2 l1 l2 SS (addD D 17) (a.put (some 7) (.pointer (some ⟨w.heap.size, 0, none⟩))) (w.alloc (.cells #[.slice none 0 0, .int .i64 0] t)) := by
  obtain ⟨hB, vr, nr, lr, o0, o1, o2, o3, o4, o5⟩ := h
  have hb : Below w.heap.size w (w.alloc (.cells #[.slice none 0 0, .int .i64 0] t)) := (Below.refl _ _).alloc (Nat.le_refl _) _
  have x0 : addD D 17 0 = D 0 := add_ne rfl
  have x4 : addD D 17 4 = D 4 := add_ne rfl
  have x8 : addD D 17 8 = D 8 := add_ne rfl
  have x16 : addD D 17 16 = D 16 := add_ne rfl
  have x17 : addD D 17 17 = true := addD_self _ _
  have x18 : addD D 17 18 = D 18 := add_ne rfl
  unfold SpR
  rw [x0, x4, x8, x16, x17, x18, put_far (by decide), put_far (by decide), put_far (by decide), put_far (by decide), put_at hz, d18]
  refine ⟨Nat.le_trans hB hb.size, vr, nr, lr, fun hd => (o0 hd).kept (below_grown5 hb) (own_ne _), o1, o2, o3, o4, fun _ => ⟨w.heap.size, rfl, hB, by simp, fun hd e => ?_, by simp [go_sem], by simp [go_sem], fun _ => ⟨by simp [go_sem], by simp [go_sem]⟩, fun hx => by cases hx⟩⟩
  have := ((o0 hd).lt _ e).1
  have := ((o0 hd).lt _ e).2
  omega
theorem spR_op18 {B n1 n2 : Nat} {l1 l2 : List Pt} {SS : Int} {D : Nat → Bool} {a : Act} {w : World} {p : Nat} (d0 : D 0 = true) (d8 : D 8 = true) (hp : a.tmps.getD 7 undef = .pointer (some ⟨p, 0, none⟩)) (d17 : D 17 = true) (d18 : D 18 = false) (h : SpR B n1 n2 l1 l2 SS D a w) :
    SpR B n1 n2 l1 l2 SS (addD D 18) a ((w.setCell ⟨p, 0, none⟩ (a.tmps.getD 73 undef)).setCell ⟨p, 1, none⟩ (.int .i64 SS)) := by
  obtain ⟨hB, vr, nr, lr, o0, o1, o2, o3, o4, o5⟩ := h
  obtain ⟨p', p0, p1, p2, p3, p4, p5, p6, p7⟩ := o5 d17
  rw [hp] at p0
  cases p0
  obtain ⟨q0, q1⟩ := p6 d18
  have hne := p3 d0
  have e3 := (o3 d8).1
  rw [e3]
  have x0 : addD D 18 0 = D 0 := add_ne rfl
  have x4 : addD D 18 4 = D 4 := add_ne rfl
  have x8 : addD D 18 8 = D 8 := add_ne rfl
  have x16 : addD D 18 16 = D 16 := add_ne rfl
  have x17 : addD D 18 17 = D 17 := add_ne rfl
  have x18 : addD D 18 18 = true := addD_self _ _
  unfold SpR
  rw [x0, x4, x8, x16, x17, x18]
  refine ⟨by simpa using hB, vr, nr, lr, fun hd => ownsRow_setCell_other (ownsRow_setCell_other (o0 hd) hne _) hne _, o1, o2, o3, o4, fun _ => ⟨p, hp, p1, by simpa using p2, fun _ => hne, by rw [World.frozen?_setCell, World.frozen?_setCell]; exact p4, by rw [World.frozen?_setCell, World.frozen?_setCell]; exact p5, (fun hx => by cases hx), fun _ => ⟨?_, ?_⟩⟩⟩
  · exact (World.cell?_setCell_other _ _ _ _ (by simp)).trans (World.cell?_setCell_same _ _ _ q0)
  · exact World.cell?_setCell_same _ _ _ ((World.cell?_setCell_other _ _ _ _ (by simp)).trans q1)
end Go.Proofs.Ytablphoicidlkaa
