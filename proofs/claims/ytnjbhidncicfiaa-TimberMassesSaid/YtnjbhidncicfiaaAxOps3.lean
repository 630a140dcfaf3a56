/- Each operation of a symbolic run is what the model does, third part: memory. -/
import Derived.Test.YtnjbhidncicfiaaAxOps2
namespace Go.Ax
open Go

variable {P : Program} {B : Nat} {p : Pl} {s s' : St} {w : World} {fr : Fr} {a : Act} {v : AV}

theorem addr_add (b o j : Nat) : (⟨b, o, none⟩ : Addr).add j = ⟨b, o + j, none⟩ := by unfold Addr.add; split <;> simp_all
theorem Rel.cells (hr : Rel B p s w) {i : Nat} {e : TypeId} {x : Bool} {len : Nat} {c : T Sc} (h : hget s.h i = some (.cells e x len c)) :
    p.has s.n i ∧ ∃ cs : Array Value, w.heap[p.ρ i]? = some (.cells cs e (0, 0)) ∧ len ≤ cs.size ∧ (x = true → cs.size = len) ∧ (x = false → cs.size = p.κ i) ∧ (∀ j s', c.get j = some s' → j < len) ∧
      ∀ j s', c.get j = some s' → ∃ v, cs[j]? = some v ∧ s'.is p s.n v :=
  let ⟨h1, _, _, h4⟩ := hr.row i _ h rfl
  ⟨h1, h4⟩
theorem T.range_zero {α : Type} (t : T α) (o : Nat) : t.range o 0 = some [] := rfl
theorem T.range_succ {α : Type} (t : T α) (o n : Nat) : t.range o (n + 1) = (match t.get o, t.range (o + 1) n with
      | some x, some l => some (x :: l)
      | _, _ => none) := by
  show (Option.rec none (fun x => Option.rec none (fun l => some (x :: l)) (t.range (o + 1) n)) (t.get o) : Option (List α)) = _
  cases t.get o <;> cases t.range (o + 1) n <;> rfl
theorem range_sound {cs : Array Value} {m : Nat} {c : T Sc} (hc : ∀ j s', c.get j = some s' → ∃ v, cs[j]? = some v ∧ s'.is p m v) :
    ∀ (n o : Nat) (l : List Sc), c.range o n = some l → ∃ vs : List Value, vs.length = n ∧ ScL.is p m l vs ∧ ∀ j v, vs[j]? = some v → cs[o + j]? = some v
  | 0, o, l, h => by
    rw [T.range_zero] at h; injection h with h; subst h
    exact ⟨[], rfl, trivial, fun j v hj => by simp at hj⟩
  | n + 1, o, l, h => by
    rw [T.range_succ] at h
    split at h
    · rename_i x l' hx hl
      injection h with h; subst h
      obtain ⟨v, hv, hxv⟩ := hc o x hx
      obtain ⟨vs, h1, h2, h3⟩ := range_sound hc n (o + 1) l' hl
      refine ⟨v :: vs, by simp [h1], ⟨hxv, h2⟩, fun j u hj => ?_⟩
      cases j with
      | zero => simp at hj; subst hj; exact hv
      | succ j => have := h3 j u (by simpa using hj); rw [show o + (j + 1) = o + 1 + j from by omega]; exact this
    · cases h
theorem cell_of {b o : Nat} {cs : Array Value} {e : TypeId} (h : w.heap[b]? = some (.cells cs e (0, 0))) {v : Value} (hv : cs[o]? = some v) : w.cell? ⟨b, o, none⟩ = some v := by
  simp [World.cell?, h, hv]
theorem run_loadRange {b o : Nat} {cs : Array Value} {e : TypeId} (h : w.heap[b]? = some (.cells cs e (0, 0))) {vs : List Value} (hv : ∀ j v, vs[j]? = some v → cs[o + j]? = some v) {n : Nat} (hn : vs.length = n) :
    (loadCells ⟨b, o, none⟩ n).run P w = .ok vs.toArray w := by
  subst hn
  exact run_loadCells_list (P := P) w ⟨b, o, none⟩ vs fun j v hj => by rw [addr_add]; exact cell_of h (hv j v hj)

theorem loadAt_sound (hr : Rel B p s w) {t : TypeId} {i o : Nat} {r : AV} (h : loadAt P s t i o = some r) : ∃ u, (Instr.loadAt t (p.at i o)).run P w = .ok u w ∧ r.is p s.n u := by
  unfold loadAt at h
  split at h
  · rename_i e x len c hg
    obtain ⟨_, cs, hcs, _, _, _, _, hc⟩ := hr.cells hg
    split at h
    · rename_i ha
      split at h
      · rename_i n hn
        rw [Option.map_eq_some_iff] at h
        obtain ⟨l, hl, rfl⟩ := h
        obtain ⟨vs, h1, h2, h3⟩ := range_sound hc n o l hl
        exact ⟨.agg vs.toArray, by simp [Instr.loadAt, Instr.sureAddr, Pl.at, loadVar, run_isAgg ha, run_sizeOf hn, run_loadRange hcs h3 h1], vs.toArray, rfl, h2⟩
      · cases h
    · rename_i ha
      rw [Option.map_eq_some_iff] at h
      obtain ⟨x, hx, rfl⟩ := h
      obtain ⟨v, hv, hxv⟩ := hc o x hx
      exact ⟨v, by simp [Instr.loadAt, Instr.sureAddr, Pl.at, loadVar, run_isAgg ha, cell_of hcs hv], hxv⟩
    · cases h
  · cases h
theorem oLoad_sound (hr : Rel B p s w) (hf : fr.is p s.n a) {t : TypeId} {x : Operand} (h : oLoad P s t (fr.eval x) = some (.val v, s')) :
    Fine P B p s w (do pure (.value (← Instr.loadAt t (a.eval x)))) v s' := by
  unfold oLoad at h
  split at h
  · rename_i i o hx
    obtain ⟨r, hr', rfl, rfl⟩ := map_inj h
    obtain ⟨u, hu, hur⟩ := loadAt_sound hr hr'
    rw [show a.eval x = _ from (hf.eval hx).2]
    exact Fine.quiet hr (by rw [Sem.run_bind, hu]; rfl) hur
  · cases h

/-- A row into which cells are stored. -/
theorem sets_is {n : Nat} {cs : Array Value} {c : T Sc} {o : Nat} {new : List Sc} {vs : List Value} (hc : ∀ j s', c.get j = some s' → ∃ v, cs[j]? = some v ∧ s'.is p n v) (hnew : ScL.is p n new vs) (hlen : o + vs.length ≤ cs.size) :
    (cs.toList.take (o + 0) ++ vs ++ cs.toList.drop (o + 0 + vs.length)).toArray.size = cs.size ∧
    ∀ j s', (c.sets o new).get j = some s' → ∃ v, (cs.toList.take (o + 0) ++ vs ++ cs.toList.drop (o + 0 + vs.length)).toArray[j]? = some v ∧ s'.is p n v := by
  have hl := hnew.length
  refine ⟨by simp; omega, fun j y hj => ?_⟩
  rcases T.get_sets _ _ _ _ _ hj with ⟨ha, hb⟩ | ⟨ha, hb⟩
  · obtain ⟨u, hu, huy⟩ := hnew.get _ _ hb
    refine ⟨u, ?_, huy⟩
    have hjl : j - o < vs.length := by
      rw [List.getElem?_eq_some_iff] at hu; exact hu.1
    simp only [List.getElem?_toArray, Nat.add_zero]
    rw [List.append_assoc, List.getElem?_append_right (by simp; omega), List.getElem?_append_left (by simp; omega)]
    simp only [List.length_take, Array.length_toList]
    rw [Nat.min_eq_left (by omega)]
    exact hu
  · obtain ⟨u, hu, huy⟩ := hc j y hb
    refine ⟨u, ?_, huy⟩
    simp only [List.getElem?_toArray, Nat.add_zero]
    rcases ha with ha | ha
    · rw [List.append_assoc, List.getElem?_append_left (by simp; rw [Array.getElem?_eq_some_iff] at hu; obtain ⟨hu, _⟩ := hu; omega), List.getElem?_take_of_lt ha]
      simpa using hu
    · rw [List.getElem?_append_right (by simp; omega), List.getElem?_drop]
      have : (o + vs.length) + (j - (cs.toList.take o ++ vs).length) = j := by simp; omega
      rw [this]; simpa using hu
/-- Cells into a row. -/
theorem put_sound (hr : Rel B p s w) {i o : Nat} {e : TypeId} {x : Bool} {len : Nat} {c : T Sc} (hg : hget s.h i = some (.cells e x len c)) {new : List Sc} {vs : List Value} (hnew : ScL.is p s.n new vs) (hlen : o + new.length ≤ len) :
    ∃ w', (storeCells ⟨p.ρ i, o, none⟩ vs).run P w = .ok () w' ∧ Post B p s w p (s.put i (.cells e x len (c.sets o new))) w' := by
  obtain ⟨hi, cs, hcs, h1, h2, h3, h4, hc⟩ := hr.cells hg
  have hl := hnew.length
  have hrun := run_storeCells_at (P := P) (p.ρ i) o e vs 0 cs w hcs (by omega) hnew.one
  refine ⟨_, hrun, ?_⟩
  obtain ⟨hsz, hst⟩ := sets_is (o := o) hc hnew (by omega)
  refine Post.write hr ⟨_, hg, rfl⟩ _ (by simp [World.setRow]) ?_ ?_ rfl rfl rfl
  · rw [setRow_heap w (p.ρ i) cs _ e _ hcs]
    refine ⟨_, rfl, by omega, fun hx => by rw [hsz]; exact h2 hx, fun hx => by rw [hsz]; exact h3 hx, fun j y hj => ?_, hst⟩
    rcases T.get_sets _ _ _ _ _ hj with ⟨ha, hb⟩ | ⟨ha, hb⟩
    · rw [List.getElem?_eq_some_iff] at hb; obtain ⟨hb, _⟩ := hb; omega
    · exact h4 j y hb
  · intro b hb
    exact setRow_other w _ _ _ hb

end Go.Ax
