/- Each operation of a symbolic run is what the model does, seventh part: append. -/
import Derived.Test.YtnjbhidncicfiaaAxOps6
namespace Go.Ax
open Go

variable {P : Program} {B : Nat} {p : Pl} {s s' : St} {w : World} {fr : Fr} {a : Act} {v : AV}

theorem St.new_h (s : St) (r : Row) : (s.new r).h = s.h.set deep s.n r := by rw [St.new_eq]
theorem St.put_h (s : St) (i : Nat) (r : Row) : (s.put i r).h = s.h.set deep i r := by rw [St.put_eq]
theorem St.put_n (s : St) (i : Nat) (r : Row) : (s.put i r).n = s.n := by rw [St.put_eq]
theorem St.new_n (s : St) (r : Row) : (s.new r).n = s.n + 1 := by rw [St.new_eq]
theorem St.put_lo (s : St) (i : Nat) (r : Row) : (s.put i r).lo = min i s.lo := by rw [St.put_eq]
theorem St.new_lo (s : St) (r : Row) : (s.new r).lo = s.lo := by rw [St.new_eq]
/-- The old number of a block is given up for a new one. -/
theorem Post.transfer (hr : Rel B p s w) {w' : World} {i : Nat} (hi : s.live i) (row : Row) (k : Nat) (hsz : w'.heap.size = w.heap.size)
    (hrow : row.is (p.set s.n (p.ρ i) k) (s.n + 1) s.n w'.heap[p.ρ i]?) (hoth : ∀ b, b ≠ p.ρ i → w'.heap[b]? = w.heap[b]?)
    (hos : w'.os = w.os) (ht : w'.tape = w.tape) (ho : w'.output = w.output) : Post B p s w (p.set s.n (p.ρ i) k) ((s.put i .dead).new row) w' := by
  have hil := hr.lt hi
  have hip := hr.place hi
  have hf := p.set_fits s.n (p.ρ i) k
  have hn : ((s.put i .dead).new row).n = s.n + 1 := by rw [St.new_n, St.put_n]
  have hlo : ((s.put i .dead).new row).lo = min i s.lo := by rw [St.new_lo, St.put_lo]
  have hget : ∀ j r, ((s.put i .dead).new row).h.get j = some r → (j = s.n ∧ r = row) ∨ (j = i ∧ r = .dead) ∨ (j ≠ s.n ∧ j ≠ i ∧ s.h.get j = some r) := fun j r h => by
    rw [St.new_h, St.put_h, St.put_n] at h
    rcases T.get_set _ _ _ _ _ _ h with ⟨h1, h2⟩ | ⟨h1, h2⟩
    · exact .inl ⟨h1, h2⟩
    · rcases T.get_set _ _ _ _ _ _ h2 with ⟨h3, h4⟩ | ⟨h3, h4⟩
      · exact .inr (.inl ⟨h3, h4⟩)
      · exact .inr (.inr ⟨h1, h3, h4⟩)
  have hlive : ∀ j, ((s.put i .dead).new row).live j → j = s.n ∨ (j ≠ s.n ∧ j ≠ i ∧ s.live j) := fun j ⟨r, ha, hal⟩ => by
    rcases hget j r ha with ⟨h1, _⟩ | ⟨_, rfl⟩ | ⟨h1, h2, h3⟩
    · exact .inl h1
    · cases hal
    · exact .inr ⟨h1, h2, r, h3, hal⟩
  refine ⟨hr, by omega, by omega, hf, fun i hi ho => ho.resolve_left (by omega), ⟨fun j r hj hl => ?_, fun x y hx hy he => ?_⟩, by omega, fun b hb hx => hoth b fun e => hx i (by omega) hi e.symm, fun j hj hl => ?_, fun j hj hl => ?_, hos, ht, ho⟩
  · rcases hget j r hj with ⟨rfl, rfl⟩ | ⟨_, rfl⟩ | ⟨h1, h2, h3⟩
    · rw [hn, p.set_ρ]
      exact ⟨p.set_has _ _ _ _ (by omega), hip.1, by omega, hrow⟩
    · cases hl
    · obtain ⟨g1, g2, g3, g4⟩ := hr.row j r h3 hl
      rw [hn, (hf j g1).2.1, hoth _ (fun e => h2 (hr.inj j i ⟨r, h3, hl⟩ hi e))]
      exact ⟨hf.has (by omega) g1, g2, by omega, g4.fits hf (by omega) g1⟩
  · rcases hlive x hx with rfl | ⟨h1, h2, h3⟩ <;> rcases hlive y hy with rfl | ⟨g1, g2, g3⟩
    · rfl
    · rw [p.set_ρ, (hf y (hr.has g3)).2.1] at he
      exact absurd (hr.inj i y hi g3 he).symm g2
    · rw [p.set_ρ, (hf x (hr.has h3)).2.1] at he
      exact absurd (hr.inj x i h3 hi he) h2
    · rw [(hf x (hr.has h3)).2.1, (hf y (hr.has g3)).2.1] at he
      exact hr.inj x y h3 g3 he
  · rcases hlive j hl with rfl | ⟨_, _, h3⟩
    · exact .inr ⟨i, by omega, hi, by rw [p.set_ρ]⟩
    · have := hr.lt h3; omega
  · rcases hlive j hl with rfl | ⟨_, _, h3⟩
    · omega
    · exact h3

theorem lenOf_run {n : Nat} {x : Sc} {k : Nat} (h : lenOf? x = some k) {u : Value} (hx : x.is p n u) (w : World) : (Builtin.lenOf u).run P w = .ok k w := by
  unfold lenOf? at h
  split at h
  · injection h with h; subst h; rw [show u = _ from hx]; rfl
  · injection h with h; subst h; rw [show u = _ from hx.2.2]; rfl
  · injection h with h; subst h; obtain ⟨_, c, _, _, rfl⟩ := hx; rfl
  · cases h
theorem firstOf_run (hr : Rel B p s w) {x : Sc} {size n : Nat} {l : List Sc} (h : firstOf s size n x = some l) {u : Value} (hx : x.is p s.n u) :
    ∃ vs : List Value, (∀ w' : World, w'.heap = w.heap → (Builtin.firstCells size n u).run P w' = .ok vs.toArray w') ∧ ScL.is p s.n l vs := by
  unfold firstOf at h
  split at h
  · injection h with h; subst h; rw [show u = _ from hx]; exact ⟨[], fun _ _ => rfl, trivial⟩
  · rw [show u = _ from hx.2.2]; exact rowRange_sound hr h
  · obtain ⟨_, c, _, _, rfl⟩ := hx; exact rowRange_sound hr h
  · cases h
theorem growBy_le (n : Nat) : ∀ (r c : Nat), Builtin.growBy n r c + 1000 ≤ (c + 1000) * 2 ^ r
  | 0, c => by simp [Builtin.growBy]
  | r + 1, c => by
    unfold Builtin.growBy
    split
    · have : 1 ≤ 2 ^ (r + 1) := Nat.one_le_two_pow
      exact Nat.le_mul_of_pos_right _ (by omega)
    · refine Nat.le_trans (growBy_le n r _) ?_
      rw [Nat.pow_succ, Nat.mul_comm (2 ^ r) 2, ← Nat.mul_assoc]
      exact Nat.mul_le_mul_right _ (by omega)
theorem nextcap_le {need c : Nat} (h : c ≤ need) : Builtin.nextslicecap need c ≤ 16 * (need + 1000) := by
  unfold Builtin.nextslicecap
  split
  · omega
  · split
    · omega
    · have := growBy_le need 4 c
      omega
theorem length_lslice_is {n : Nat} {l : List Sc} {vs : List Value} (h : ScL.is p n l vs) : vs.length = l.length := h.length

theorem noZeros_run {ts : List TypeId} (h : noZeros P ts = true) (t : TypeId) (w : World) :
    (match (t :: ts).toArray[1]? with | some xType => do pure ((← underlying xType) matches .int _) | none => pure false : Sem Bool).run P w = .ok false w := by
  cases ts with
  | nil => rfl
  | cons t2 r =>
    unfold noZeros at h
    simp only at h
    simp only [List.getElem?_toArray, List.getElem?_cons_succ, List.getElem?_cons_zero]
    cases hu : P.underlying t2 with
    | none => rw [hu] at h; cases h
    | some d =>
      rw [hu] at h
      rw [Sem.run_bind, run_underlying' hu, Result.andThen_ok]
      cases d <;> first | rfl | cases h

/-- What is known where something may be appended. -/
structure Room (P : Program) (e : TypeId) (info : TypeInfo) (need : Nat) : Prop where
  isInfo : P.info? e = some info
  fits : need * (info.bytes + 1) ≤ 1000000
  bytes : 1 ≤ info.bytes
  size : 1 ≤ info.size
  zero : ∃ z, zeroCellsOf P e = some z ∧ z.length = info.size
theorem room_of {e : TypeId} {info : TypeInfo} {need : Nat} (hi : P.info? e = some info) (h : appendFits P e info need = true) : Room P e info need := by
  unfold appendFits at h
  simp only [Bool.and_eq_true] at h
  obtain ⟨⟨⟨h1, h2⟩, h3⟩, h4⟩ := h
  refine ⟨hi, Nat.le_of_ble_eq_true h1, Nat.le_of_ble_eq_true h2, Nat.le_of_ble_eq_true h3, ?_⟩
  split at h4
  · rename_i z hz; exact ⟨z, hz, Nat.eq_of_beq_eq_true h4⟩
  · cases h4

end Go.Ax
