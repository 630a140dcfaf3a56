/- Each operation of a symbolic run is what the model does, eighth part: append, the model's own run. -/
import Derived.Test.YtnjbhidncicfiaaAxOps7
namespace Go.Ax
open Go

variable {P : Program} {B : Nat} {p : Pl} {s s' : St} {w : World} {fr : Fr} {a : Act} {v : AV}

theorem noZeros_cases {r : List TypeId} (h : noZeros P r = true) (t : TypeId) : ((t :: r).toArray[1]? = none) ∨ ∃ x d, (t :: r).toArray[1]? = some x ∧ P.underlying x = some d ∧ (∀ k, d ≠ .int k) := by
  cases r with
  | nil => exact .inl rfl
  | cons t2 r =>
    refine .inr ⟨t2, ?_⟩
    unfold noZeros at h
    simp only at h
    cases hu : P.underlying t2 with
    | none => rw [hu] at h; cases h
    | some d =>
      rw [hu] at h
      refine ⟨d, by simp, rfl, fun k e => ?_⟩
      subst e; cases h

theorem append_fits_run {t ty e : TypeId} {r : List TypeId} {info : TypeInfo} (hu : P.underlying t = some (.slice e)) (hz : noZeros P r = true) {base : Option Addr} {sl cap n : Nat} {u : Value} (hi : P.info? e = some info) (hn : (Builtin.lenOf u).run P w = .ok n w)
    (hfit : sl + n ≤ cap) {vs : List Value} (hnew : (Builtin.firstCells info.size n u).run P w = .ok vs.toArray w) {w' : World} (hst : ∀ a, base = some a → (storeCells (a.add (sl * info.size)) vs).run P w = .ok () w') (hno : base = none → w' = w) :
    (Builtin.append_ (t :: r).toArray ty #[.slice base sl cap, u]).run P w = .ok (.slice base (sl + n) cap) w' := by
  have hsz : sizeOf? P e = some info.size := by simp [sizeOf?, hi]
  have h1 : (#[Value.slice base sl cap, u] : Array Value)[0]? = some (.slice base sl cap) := rfl
  have h2 : (#[Value.slice base sl cap, u] : Array Value)[1]? = some u := rfl
  have h0 : (t :: r).toArray[0]? = some t := rfl
  rcases noZeros_cases hz t with hz | ⟨x, d, hz, hd, hk⟩
  · cases base with
    | none =>
      have := hno rfl; subst this
      simp only [Builtin.append_, h0, h1, h2, hz, Sem.run_bind, run_underlying' hu, Result.andThen_ok, run_sizeOf hsz, Sem.run_pure, Bool.false_eq_true, if_false, hn, Bool.not_false, if_true, if_pos hfit, hnew]
    | some a =>
      simp only [Builtin.append_, h0, h1, h2, hz, Sem.run_bind, run_underlying' hu, Result.andThen_ok, run_sizeOf hsz, Sem.run_pure, Bool.false_eq_true, if_false, hn, Bool.not_false, if_true, if_pos hfit, hnew, hst a rfl]
  · cases base with
    | none =>
      have := hno rfl; subst this
      simp only [Builtin.append_, h0, h1, h2, hz, Sem.run_bind, run_underlying' hu, run_underlying' hd, Result.andThen_ok, run_sizeOf hsz, Sem.run_pure, Bool.false_eq_true, if_false, hn, Bool.not_false, if_true, if_pos hfit, hnew]
    | some a =>
      simp only [Builtin.append_, h0, h1, h2, hz, Sem.run_bind, run_underlying' hu, run_underlying' hd, Result.andThen_ok, run_sizeOf hsz, Sem.run_pure, Bool.false_eq_true, if_false, hn, Bool.not_false, if_true, if_pos hfit, hnew, hst a rfl]

theorem cut_cap (need old : Nat) (e : TypeId) (t : Nat) : ∃ c, need ≤ c ∧ (Question.appendCap need old e).cut t = c :=
  ⟨_, by simp [Question.cut], rfl⟩

/-- The row grows: the old cells, the new ones, zeros. -/
theorem append_grow_run {t ty e : TypeId} {r : List TypeId} {info : TypeInfo} (hu : P.underlying t = some (.slice e)) (hz : noZeros P r = true) {base : Option Addr} {sl cap n : Nat} {u : Value} (hroom : Room P e info (sl + n)) (hn : (Builtin.lenOf u).run P w = .ok n w)
    (hgrow : cap < sl + n) {vs os : List Value} (hnew : ∀ w' : World, w'.heap = w.heap → (Builtin.firstCells info.size n u).run P w' = .ok vs.toArray w') (hold : ∀ w' : World, w'.heap = w.heap → (Builtin.firstCells info.size sl (.slice base sl cap)).run P w' = .ok os.toArray w')
    {zu : Value} (hzu : ∀ w' : World, (zeroValue e).run P w' = .ok zu w') :
    ∃ c, sl + n ≤ c ∧ (Builtin.append_ (t :: r).toArray ty #[.slice base sl cap, u]).run P w =
      .ok (.slice (some ⟨w.heap.size, 0, none⟩) (sl + n) c) { { w with drawn := w.drawn + 1 } with heap := w.heap.push (.cells (os.toArray ++ vs.toArray ++ Builtin.zeroCells zu.cells (c - (sl + n))) e) } := by
  have hsz : sizeOf? P e = some info.size := by simp [sizeOf?, hroom.isInfo]
  have hneed : sl + n ≤ 1000000 := Nat.le_trans (Nat.le_mul_of_pos_right _ (by omega)) hroom.fits
  obtain ⟨c, hc, hcut⟩ := cut_cap (sl + n) cap e (w.tape w.drawn (.appendCap (sl + n) cap e))
  refine ⟨c, hc, ?_⟩
  have h1 : (#[Value.slice base sl cap, u] : Array Value)[0]? = some (.slice base sl cap) := rfl
  have h2 : (#[Value.slice base sl cap, u] : Array Value)[1]? = some u := rfl
  have h0 : (t :: r).toArray[0]? = some t := rfl
  have hnfit : ¬ (sl + n ≤ cap) := by omega
  have hti := run_typeInfo hroom.isInfo
  have hmax : ¬ (((sl + n : Nat) : Int) > IntKind.i64.max ∧ info.bytes = 0) := by
    rintro ⟨_, h⟩
    have := hroom.bytes; omega
  have hcap : ¬ (Builtin.nextslicecap (sl + n) cap * info.bytes > 2 ^ 48) := by
    have h1 := nextcap_le (need := sl + n) (c := cap) (by omega)
    have h2 : (sl + n) * info.bytes ≤ 1000000 := Nat.le_trans (Nat.mul_le_mul_left _ (by omega)) hroom.fits
    have h3 : info.bytes ≤ 1000000 := by
      have : 1 * (info.bytes + 1) ≤ (sl + n) * (info.bytes + 1) := Nat.mul_le_mul_right _ (by omega)
      have := hroom.fits
      omega
    have h4 : Builtin.nextslicecap (sl + n) cap * info.bytes ≤ 16 * (sl + n + 1000) * info.bytes := Nat.mul_le_mul_right _ h1
    have h5 : 16 * (sl + n + 1000) * info.bytes = 16 * ((sl + n) * info.bytes) + 16000 * info.bytes := by
      rw [Nat.mul_add, Nat.add_mul, Nat.mul_assoc]
    omega
  have hnf : (Question.appendCap (sl + n) cap e).forced = false := rfl
  have hd1 := hold { w with drawn := w.drawn + 1 } rfl
  have hd2 := hnew { w with drawn := w.drawn + 1 } rfl
  have hd3 := hzu { w with drawn := w.drawn + 1 }
  rcases noZeros_cases hz t with hz | ⟨x, d, hz, hd, hk⟩
  · simp only [Builtin.append_, h0, h1, h2, hz, Sem.run_bind, run_underlying' hu, Result.andThen_ok, run_sizeOf hsz, Sem.run_pure, Bool.false_eq_true, if_false, hn, Bool.not_false, if_true, if_neg hnfit, hti, if_neg hmax, if_neg hcap, run_choose, hnf, hcut, run_askRoom, hd1, hd2, hd3, newRow, run_newObj, false_or]
  · simp only [Builtin.append_, h0, h1, h2, hz, Sem.run_bind, run_underlying' hu, run_underlying' hd, Result.andThen_ok, run_sizeOf hsz, Sem.run_pure, Bool.false_eq_true, if_false, hn, Bool.not_false, if_true, if_neg hnfit, hti, if_neg hmax, if_neg hcap, run_choose, hnf, hcut, run_askRoom, hd1, hd2, hd3, newRow, run_newObj, false_or]

end Go.Ax
