/- Walks over the solid seat: the table in a block of its own. -/
import Derived.Test.YtcboppdjjpeeoaaGreatQ5
import Derived.Deep.WholeRow
namespace Go.Proofs.YtcboppdjjpeeoaaGreat
open Go.RowKit
noncomputable section

set_option maxRecDepth 100000 in
theorem tab_len288 : tabI.length = 288 := by kernel_rfl
set_option maxRecDepth 100000 in
theorem zsz131 : Tryz.zeroCells131.size = 288 := by kernel_rfl
theorem info131 : (Tryz.prog.info? 131).map (·.size) = some 288 := by kernel_rfl
def tabA : Array Value := (tabI.map (Value.int .i64)).toArray
theorem tabA_size : tabA.size = 288 := by unfold tabA; rw [List.size_toArray, List.length_map, tab_len288]
theorem ints_one (l : List Int) : (l.map (Value.int .i64)).toArray.all (·.oneCell') = true := by
  rw [Array.all_eq_true]
  intro i hi
  simp only [List.getElem_toArray, List.getElem_map]
  rfl
theorem tabA_one : tabA.all (·.oneCell') = true := by unfold tabA; generalize tabI = l; exact ints_one l
def cellB (k : Nat) : Bool := eqI (tabI.getD (k * 6) 9) (sgAt k).p0 && (eqI (tabI.getD (k * 6 + 1) 9) (sgAt k).p1 && (eqI (tabI.getD (k * 6 + 2) 9) (sgAt k).p2 && (eqI (tabI.getD (k * 6 + 3) 9) (sgAt k).s0 && (eqI (tabI.getD (k * 6 + 4) 9) (sgAt k).s1 && eqI (tabI.getD (k * 6 + 5) 9) (sgAt k).s2))))
def permB (t : Sg) : Bool := (eqI t.p0 0 && eqI t.p1 1 && eqI t.p2 2) || (eqI t.p0 0 && eqI t.p1 2 && eqI t.p2 1) || (eqI t.p0 1 && eqI t.p1 0 && eqI t.p2 2) || (eqI t.p0 1 && eqI t.p1 2 && eqI t.p2 0) || (eqI t.p0 2 && eqI t.p1 0 && eqI t.p2 1) || (eqI t.p0 2 && eqI t.p1 1 && eqI t.p2 0)
def allCells : Bool := (upTo 48).all fun k => cellB k && permB (sgAt k)
set_option maxRecDepth 100000 in
theorem allCells_true : allCells = true := by kernel_rfl
theorem perm_of {t : Sg} (h : permB t = true) : Perm3 t := by
  obtain ⟨p0, p1, p2, s0, s1, s2⟩ := t
  simp only [permB, eqI_eq, Bool.or_eq_true, Bool.and_eq_true, decide_eq_true_eq, and_assoc] at h
  rcases h with ((((h | h) | h) | h) | h) | h
  · exact .inl h
  · exact .inr (.inl h)
  · exact .inr (.inr (.inl h))
  · exact .inr (.inr (.inr (.inl h)))
  · exact .inr (.inr (.inr (.inr (.inl h))))
  · exact .inr (.inr (.inr (.inr (.inr h))))
theorem cells_sg {k : Nat} (h : k < 48) : cellB k = true ∧ permB (sgAt k) = true := by
  have := allCells_true
  unfold allCells at this
  have := List.all_eq_true.1 this k (upTo_mem h)
  exact (Bool.and_eq_true _ _).mp this
theorem perm_sg {k : Nat} (h : k < 48) : Perm3 (sgAt k) := perm_of (cells_sg h).2
theorem tabA_at {j : Nat} (h : j < 288) : tabA[j]? = some (.int .i64 (tabI.getD j 9)) := by
  unfold tabA
  rw [List.getElem?_toArray, List.getElem?_map, List.getD_eq_getElem?_getD, List.getElem?_eq_getElem (by rw [tab_len288]; exact h)]
  rfl
theorem tab_new (w : World) : TabAt (w.alloc (.cells tabA 131)) w.heap.size := by
  intro k hk
  have hc : ∀ j, j < 288 → (w.alloc (.cells tabA 131)).cell? ⟨w.heap.size, j, none⟩ = some (.int .i64 (tabI.getD j 9)) := fun j hj => by
    rw [cell_of_row _ _ j tabA 131 (0, 0) (heap_alloc_last w _), tabA_at hj]
  have := (cells_sg hk).1
  simp only [cellB, eqI_eq, Bool.and_eq_true, decide_eq_true_eq] at this
  obtain ⟨h0, h1, h2, h3, h4, h5⟩ := this
  rw [hc _ (by omega), hc _ (by omega), hc _ (by omega), hc _ (by omega), hc _ (by omega), hc _ (by omega), h0, h1, h2, h3, h4, h5]
  exact ⟨rfl, rfl, rfl, rfl, rfl, rfl⟩
theorem tab_store (w : World) : (storeCells ⟨w.heap.size, 0, none⟩ tabA.toList 0).run Tryz.prog (w.alloc (.cells Tryz.zeroCells131 131)) = .ok () (w.alloc (.cells tabA 131)) :=
  run_storeCells_new w 131 _ _ (by rw [info131, tabA_size]) (by rw [zsz131, tabA_size]) tabA_one
theorem TabAt.below {w w' : World} {g : Nat} (h : TabAt w g) (hg : g < w.heap.size) (hb : Below w.heap.size w w') : TabAt w' g := fun k hk => by
  have e : ∀ o, w'.cell? ⟨g, o, none⟩ = w.cell? ⟨g, o, none⟩ := fun o => hb.cell (p := ⟨g, o, none⟩) hg
  simp only [e]
  exact h k hk
end
end Go.Proofs.YtcboppdjjpeeoaaGreat
