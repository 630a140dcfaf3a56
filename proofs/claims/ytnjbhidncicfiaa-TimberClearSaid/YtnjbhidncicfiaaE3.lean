/- Walks over the timber seat: what of a board is taken. -/
import Derived.Test.YtnjbhidncicfiaaE2
import Derived.Maps.AppendAt
import Derived.OwnWalk
namespace Go.Proofs.Ytnjbhidncicfiaa
open Go.RowKit

theorem own_ge {w : World} {base e : Nat} {size n : Nat} {v : Value} {xs : List Value} (h : w.ownsRow base e size v n xs) : ∀ j, v.ownBlock = some j → base ≤ j := by
  intro j hj
  rcases h.2 with ⟨rfl, -⟩ | ⟨g, cap, cur, rfl, hb, -⟩
  · cases hj
  · simp [Value.ownBlock] at hj; omega
theorem cell_two_new (w : World) (x y : Value) (t : TypeId) {blk : Nat} (hblk : blk = w.heap.size) : ∀ j u, [x, y][j]? = some u → (w.alloc (.cells #[x, y] t)).cell? ((⟨blk, 0, none⟩ : Addr).add j) = some u := by
  subst hblk
  intro j u h
  match j, h with
  | 0, h => simp at h; subst h; simp [Addr.add, go_sem]
  | 1, h => simp at h; subst h; simp [Addr.add, go_sem]
  | j + 2, h => simp at h
theorem two_oneCell (a b : Int) : ∀ u ∈ [Value.int .i64 a, .int .i64 b], u.oneCell' = true := by
  intro u hu
  simp at hu
  rcases hu with rfl | rfl <;> rfl
theorem info50 : (Try.prog.info? 50).map (fun i => (i.zero, i.size, i.bytes)) = some (some (.agg #[.int .i64 0, .int .i64 0]), 2, 16) := by kernel_rfl
theorem ivCells_snoc (xs : List Iv) (x : Iv) : ivCells (xs ++ [x]) = ivCells xs ++ [.int .i64 x.1, .int .i64 x.2] := by
  unfold ivCells; rw [List.flatMap_append]; rfl
theorem taken_succ {ds : List Rc} {k : Nat} (h : k < ds.length) : ((ds.take (k + 1)).map fun d => (d.x1, d.x2)) = ((ds.take k).map fun d => (d.x1, d.x2)) ++ [(ds[k].x1, ds[k].x2)] := by
  rw [List.take_succ_eq_append_getElem h, List.map_append]; rfl
/-- What the openings' loop has behind k intervals: the open ones, and from where it is free. -/
def opSt : List Iv → List Iv × Int → List Iv × Int
  | [], s => s
  | t :: r, s => opSt r ((if s.2 < t.1 then s.1 ++ [(s.2, t.1)] else s.1), max s.2 t.2)
theorem opSt_opn : ∀ (ts : List Iv) (acc : List Iv) (free : Int), (opSt ts (acc, free)).1 = acc ++ opn free ts
  | [], acc, free => by show acc = acc ++ []; rw [List.append_nil]
  | t :: r, acc, free => by
    show (opSt r ((if free < t.1 then acc ++ [(free, t.1)] else acc), max free t.2)).1 = acc ++ (bif decide (free < t.1) then (free, t.1) :: opn (max free t.2) r else opn (max free t.2) r)
    rw [opSt_opn]
    by_cases h : free < t.1
    · rw [if_pos h, decide_eq_true h, List.append_assoc]; rfl
    · rw [if_neg h, decide_eq_false h]; rfl
theorem opSt_snoc : ∀ (ts : List Iv) (s : List Iv × Int) (t : Iv), opSt (ts ++ [t]) s = ((if (opSt ts s).2 < t.1 then (opSt ts s).1 ++ [((opSt ts s).2, t.1)] else (opSt ts s).1), max (opSt ts s).2 t.2)
  | [], _, _ => rfl
  | u :: r, s, t => by
    show opSt (r ++ [t]) _ = _
    rw [opSt_snoc]; rfl
theorem opSt_take {ts : List Iv} {k : Nat} (s : List Iv × Int) (h : k < ts.length) : opSt (ts.take (k + 1)) s = ((if (opSt (ts.take k) s).2 < ts[k].1 then (opSt (ts.take k) s).1 ++ [((opSt (ts.take k) s).2, ts[k].1)] else (opSt (ts.take k) s).1), max (opSt (ts.take k) s).2 ts[k].2) := by
  rw [List.take_succ_eq_append_getElem h, opSt_snoc]
theorem opSt_len : ∀ (ts : List Iv) (s : List Iv × Int), (opSt ts s).1.length ≤ s.1.length + ts.length
  | [], s => by simp [opSt]
  | t :: r, s => by
    show (opSt r _).1.length ≤ _
    refine Nat.le_trans (opSt_len r _) ?_
    split
    · simp only [List.length_append, List.length_cons, List.length_nil]; omega
    · simp only [List.length_cons]; omega
/-- The cells of an interval in an owned row. -/
theorem own_cell {w : World} {base n : Nat} {v : Value} {xs : List Iv} (h : w.ownsRow base 50 2 v n (ivCells xs)) (hn : n = xs.length) {k : Nat} (hk : k < xs.length) :
    ∃ g cap, v = .slice (some ⟨g, 0, none⟩) n cap ∧ base ≤ g ∧ g < w.heap.size ∧ n ≤ cap ∧ cap ≤ maxLen ∧ w.cell? ⟨g, 0 + k * 2, none⟩ = some (.int .i64 xs[k].1) ∧ w.cell? ⟨g, 0 + k * 2 + 1, none⟩ = some (.int .i64 xs[k].2) ∧ (∀ o, w.frozen? ⟨g, o, none⟩ = false) := by
  obtain ⟨hl, ⟨-, h0⟩ | ⟨g, cap, cur, rfl, hb, hh, hnc, hcm, hcs, htk⟩⟩ := h
  · omega
  · have get : ∀ t, t < n * 2 → cur[t]? = (ivCells xs)[t]? := fun t ht => by
      rw [← htk, List.getElem?_take_of_lt ht]; simp
    have g0 := get (k * 2) (by omega)
    have g1 := get (k * 2 + 1) (by omega)
    rw [ivCells_get xs _ (by omega), show k * 2 / 2 = k by omega, show k * 2 % 2 = 0 by omega, getElem!_pos xs k hk] at g0
    rw [ivCells_get xs _ (by omega), show (k * 2 + 1) / 2 = k by omega, show (k * 2 + 1) % 2 = 1 by omega, getElem!_pos xs k hk] at g1
    refine ⟨g, cap, rfl, hb, (Array.getElem?_eq_some_iff.1 hh).1, hnc, hcm, ?_, ?_, ?_⟩
    · unfold World.cell?; simp only [hh, Nat.zero_add]; exact g0
    · unfold World.cell?; simp only [hh, Nat.zero_add]; exact g1
    · intro o; unfold World.frozen?; simp [hh]
end Go.Proofs.Ytnjbhidncicfiaa
