/- Each operation of a symbolic run is what the model does, fifth part: slices. -/
import Derived.Test.YtnjbhidncicfiaaAxOps4
namespace Go.Ax
open Go

variable {P : Program} {B : Nat} {p : Pl} {s s' : St} {w : World} {fr : Fr} {a : Act} {v : AV}

theorem ScL.is_of_get {n : Nat} : ∀ {l : List Sc} {u : List Value}, u.length = l.length → (∀ (j : Nat) (x : Sc), l[j]? = some x → ∃ y, u[j]? = some y ∧ x.is p n y) → ScL.is p n l u
  | [], [], _, _ => trivial
  | x :: l, y :: u, hl, h => ⟨by obtain ⟨z, hz, hx⟩ := h 0 x rfl; simp at hz; subst hz; exact hx, ScL.is_of_get (by simpa using hl) fun j x hj => by simpa using h (j + 1) x (by simpa using hj)⟩
  | [], _ :: _, hl, _ => by simp at hl
  | _ :: _, [], hl, _ => by simp at hl
theorem repeat_length (z : List Sc) : ∀ k, (repeatCells z k).length = k * z.length
  | 0 => by simp [repeatCells]
  | k + 1 => by simp [repeatCells, repeat_length z k, Nat.add_mul]; omega
theorem repeat_get (z : List Sc) : ∀ (k j : Nat) (x : Sc), (repeatCells z k)[j]? = some x → z[j % z.length]? = some x
  | 0, j, x, h => by simp [repeatCells] at h
  | k + 1, j, x, h => by
    unfold repeatCells at h
    by_cases hj : j < z.length
    · rw [List.getElem?_append_left hj] at h
      rw [Nat.mod_eq_of_lt hj]; exact h
    · rw [List.getElem?_append_right (by omega)] at h
      have := repeat_get z k _ x h
      rw [Nat.mod_eq_sub_mod (by omega)]; exact this
/-- A row of zeros, as the model makes it. -/
theorem zeros_is {n : Nat} {z : List Sc} {u : Array Value} (h : ScL.is p n z u.toList) (k m : Nat) (hm : m = k * z.length) :
    ScL.is p n (repeatCells z k) ((Array.range m).map fun j => u[j % u.size]!).toList := by
  have hl := h.length
  simp only [Array.length_toList] at hl
  refine ScL.is_of_get (by simp [repeat_length, hm]) fun j x hj => ?_
  have hjl : j < (repeatCells z k).length := by rw [List.getElem?_eq_some_iff] at hj; exact hj.1
  rw [repeat_length] at hjl
  obtain ⟨y, hy, hxy⟩ := h.get _ _ (repeat_get z k j x hj)
  refine ⟨y, ?_, hxy⟩
  have hy : u[j % z.length]? = some y := by simpa using hy
  have hjm : j < m := by omega
  simp [hjm, hl, getElem!_def, hy]
theorem and_true' {b c : Bool} (h : (b && c) = true) : b = true ∧ c = true := by simpa using h

theorem oBuildSlice_sound (hr : Rel B p s w) (hB : B ≤ w.heap.size) (hf : fr.is p s.n a) {t : TypeId} {len : Nat} {ps : Array (Nat × Operand)} (h : oBuildSlice P fr s t len ps.toList = some (.val v, s')) :
    Fine P B p s w (do pure (.value (← Instr.buildSlice t len (ps.map fun (i, x) => (i, a.eval x))))) v s' := by
  unfold oBuildSlice at h
  split at h
  · rename_i e hu
    split at h
    · rename_i size z hsz hz
      split at h
      · rename_i hb
        obtain ⟨hb, hzl⟩ := and_true' hb
        have hb := Nat.le_of_ble_eq_true hb
        have hzl := Nat.eq_of_beq_eq_true hzl
        rw [Option.map_eq_some_iff] at h
        obtain ⟨c, hc, h⟩ := h
        injection h with h1 h2; injection h1 with h1; subst h1 h2
        obtain ⟨u, hu', hzu⟩ := run_zeroCells hz w p s.n
        have hnot : ¬ (len * size > 2 ^ 24) := by omega
        have key : ∀ cs0 : Array Value, ScL.is p s.n (repeatCells z len) cs0.toList → (∀ cs', Instr.fill (fun i => some (i * size, size)) cs0 (ps.toList.map fun (i, x) => (i, a.eval x)) = some cs' →
            (Instr.buildSlice t len (ps.map fun (i, x) => (i, a.eval x))).run P w = ((newRow e cs').run P w).andThen fun r w' => .ok (.slice (some r) len len) w') →
            Fine P B p s w (do pure (.value (← Instr.buildSlice t len (ps.map fun (i, x) => (i, a.eval x))))) (.sc (.slc s.n 0 len len)) (s.row e true c) := by
          intro cs0 hcs0 hrun
          obtain ⟨cs', h1, h2⟩ := fillArr_sound hf hc hcs0
          obtain ⟨h3, h4⟩ := newRow_sound (P := P) hr hB e h2
          refine ⟨.slice (some ⟨w.heap.size, 0, none⟩) len len, _, _, .inl ?_, ⟨p.set_has _ _ _ _ (by rw [row_n]; omega), Nat.le_refl _, by simp only [p.set_ρ]⟩, h4⟩
          rw [Sem.run_bind, hrun cs' h1, h3]
          rfl
        by_cases h0 : len * size = 0
        · have hz0 : repeatCells z len = [] := by rw [← List.length_eq_zero_iff, repeat_length, hzl]; exact h0
          refine key #[] (by rw [hz0]; trivial) fun cs' h1 => ?_
          have hr0 : Array.range 0 = #[] := by simp
          have hn0 : ¬ (0 > 2 ^ 24) := by omega
          simp only [Instr.buildSlice, Sem.run_bind, run_underlying' hu, run_sizeOf hsz, Result.andThen_ok, h0, if_true, Sem.run_pure, if_neg hn0, hr0, Array.map_empty]
          have hmap : (ps.map fun (i, x) => (i, a.eval x)).toList = ps.toList.map fun (i, x) => (i, a.eval x) := by simp
          rw [hmap, h1]
          simp
        · refine key _ (zeros_is hzu len (len * size) (by rw [hzl])) fun cs' h1 => ?_
          simp only [Instr.buildSlice, Sem.run_bind, run_underlying' hu, run_sizeOf hsz, Result.andThen_ok, if_neg hnot, if_neg h0, Sem.run_pure, hu']
          have hmap : (ps.map fun (i, x) => (i, a.eval x)).toList = ps.toList.map fun (i, x) => (i, a.eval x) := by simp
          rw [hmap, h1]
          simp
      · cases h
    · cases h
  · cases h

theorem oMakeSlice_sound (hr : Rel B p s w) (hB : B ≤ w.heap.size) (hf : fr.is p s.n a) {t : TypeId} {x y : Operand} (h : oMakeSlice P s t (fr.eval x) (fr.eval y) = some (.val v, s')) :
    Fine P B p s w (do pure (.value (← Instr.makeSlice t (a.eval x) (a.eval y)))) v s' := by
  unfold oMakeSlice at h
  split at h
  · rename_i e k1 ln k2 cp hu hx hy
    split at h
    · rename_i info z hi hz
      split at h
      · rename_i hb1 hb2
        obtain ⟨hb2, hzl⟩ := and_true' hb2
        have hb1 := Nat.le_of_ble_eq_true hb1
        have hb2 := Nat.le_of_ble_eq_true hb2
        have hzl := Nat.eq_of_beq_eq_true hzl
        rw [forceNat_eq, forceNat_eq] at h
        obtain ⟨rfl, rfl⟩ := pair_inj h
        obtain ⟨u, hu', hzu⟩ := run_zeroCells hz w p s.n
        have hcp : cp ≤ 1000000 := Nat.le_trans (Nat.le_mul_of_pos_right cp (by omega)) hb2
        have hcb : cp * info.bytes ≤ 1000000 := Nat.le_trans (Nat.mul_le_mul_left cp (by omega)) hb2
        have hsz : sizeOf? P e = some info.size := by simp [sizeOf?, hi]
        rw [show a.eval x = _ from hf.eval hx, show a.eval y = _ from hf.eval hy]
        have e1 : IntKind.i64.wrap (Int.ofNat ln) = Int.ofNat ln := wrap_i64 _ (by have : 0 ≤ Int.ofNat ln := Int.natCast_nonneg ln; omega) (by simp; omega)
        have e2 : IntKind.i64.wrap (Int.ofNat cp) = Int.ofNat cp := wrap_i64 _ (by have : 0 ≤ Int.ofNat cp := Int.natCast_nonneg cp; omega) (by simp; omega)
        have hnl : ((decide (Int.ofNat cp < 0) || decide ((info.bytes : Int) * Int.ofNat cp > 2 ^ 48)) || decide (Int.ofNat ln < 0) || decide (Int.ofNat ln > Int.ofNat cp)) = false := by
          have : (info.bytes : Int) * Int.ofNat cp = ((cp * info.bytes : Nat) : Int) := by simp [Int.mul_comm]
          rw [this]
          simp only [Bool.or_eq_false_iff, decide_eq_false_iff_not]
          refine ⟨⟨⟨by simp, by omega⟩, by simp⟩, by simp; omega⟩
        have key : ∀ cs0 : Array Value, ScL.is p s.n (repeatCells z cp) cs0.toList →
            (Instr.makeSlice t (.int k1 (.ofNat ln)) (.int k2 (.ofNat cp))).run P w = ((newRow e cs0).run P w).andThen (fun r w' => .ok (.slice (some r) ln cp) w') →
            Fine P B p s w (do pure (.value (← Instr.makeSlice t (.int k1 (.ofNat ln)) (.int k2 (.ofNat cp))))) (.sc (.slc s.n 0 ln cp)) (s.row e true (repeatCells z cp)) := by
          intro cs0 hcs0 hrun
          obtain ⟨h3, h4⟩ := newRow_sound (P := P) hr hB e hcs0
          refine ⟨.slice (some ⟨w.heap.size, 0, none⟩) ln cp, _, _, .inl ?_, ⟨p.set_has _ _ _ _ (by rw [row_n]; omega), hb1, by simp only [p.set_ρ]⟩, h4⟩
          rw [Sem.run_bind, hrun, h3]
          rfl
        by_cases h0 : cp * info.size = 0
        · have hz0 : repeatCells z cp = [] := by rw [← List.length_eq_zero_iff, repeat_length, hzl]; exact h0
          refine key #[] (by rw [hz0]; trivial) ?_
          simp only [Instr.makeSlice, Sem.run_bind, run_underlying' hu, Result.andThen_ok, asInt, asIntOf, Sem.run_pure, run_typeInfo hi, e1, e2]
          rw [if_neg (by rw [hnl]; simp)]
          have hr0 : Array.range 0 = #[] := by simp
          simp [run_sizeOf hsz, h0, hr0]
        · refine key _ (zeros_is hzu cp (cp * info.size) (by rw [hzl])) ?_
          simp only [Instr.makeSlice, Sem.run_bind, run_underlying' hu, Result.andThen_ok, asInt, asIntOf, Sem.run_pure, run_typeInfo hi, e1, e2]
          rw [if_neg (by rw [hnl]; simp)]
          simp only [Sem.run_bind, Sem.run_pure, Result.andThen_ok, run_askRoom, run_sizeOf hsz, Int.ofNat_eq_natCast, Int.toNat_natCast, if_neg h0, hu']
      · cases h
    · cases h
  · cases h

end Go.Ax
