/- Regions that draw their order and end with operations that wait for all others, one behind the other (stores of results). -/
import Derived.Test.YtablphoicidlkaaRJ
namespace Go.Proofs.Ytablphoicidlkaa
open Go.RowKit
variable {P : Program} {ops : Array Oper} {Q : Exit → Act → World → Prop}
/-- What operations hang on, directly or not: one pass downwards. -/
def closL (ops : Array Oper) : Nat → List Nat → List Nat
  | 0, s => s
  | j + 1, s => closL ops j (if s.contains j then s ++ (match ops[j]? with | some o => depsOf o | none => []) else s)
theorem closL_all {D : Nat → Bool} (hcl : ∀ k ok, ops[k]? = some ok → D k = true → ∀ j, j ∈ depsOf ok → D j = true) : ∀ {n : Nat} {s : List Nat}, (∀ x ∈ s, D x = true) → ∀ x ∈ closL ops n s, D x = true
  | 0, _, h => h
  | n + 1, s, h => by
    unfold closL
    refine closL_all hcl (n := n) ?_
    intro x hx
    split at hx
    · rename_i hc
      rcases List.mem_append.1 hx with hx | hx
      · exact h x hx
      · cases ho : ops[n]? with
        | none => rw [ho] at hx; cases hx
        | some o =>
          rw [ho] at hx
          exact hcl n o ho (h n (by simpa using hc)) x hx
    · exact h x hx
def wpSeq (P : Program) (Q : Exit → Act → World → Prop) : List Oper → Act → World → Prop
  | [], a, w => Q .normal a w
  | o :: r, a, w => o.wp P a w (wpSeq P Q r) Q
theorem wpSeq_cons {o : Oper} {r : List Oper} {a : Act} {w : World} : wpSeq P Q (o :: r) a w = o.wp P a w (wpSeq P Q r) Q := rfl
theorem wpSeq_nil {a : Act} {w : World} : wpSeq P Q [] a w = Q .normal a w := rfl
def opsPlainW (ops : Array Oper) (ds : List Nat) (n : Nat) : Bool :=
  (List.range ops.size).all fun i => match ops[i]? with
    | none => false
    | some o => o.guard.isNone && o.after.all (fun e => !Region.binds .any e || decide (e.on < i)) && ds.all (fun d => decide (d < n)) &&
      (if i < ds.length then decide (o.dst = ds[i]?) && (ds[i]?).isSome else (List.range i).all fun j => (closL ops i (depsOf o)).contains j)
theorem wp_region_tail {id : Nat} {a0 : Act} {w0 : World} (ds : List Nat) (L : List RK) (hm : P.follows .mixedOrders = true) (hp : opsPlainW ops ds a0.tmps.size = true) (hn : ds.Nodup) (hl : ds.length < ops.size)
    (step : RSteps P Q a0 w0 ds L 0 (ops.toList.take ds.length))
    (fin : ∀ a w, FrEq a0 ds a → Below w0.heap.size w0 w → (∀ i d, ds[i]? = some d → rkF L i (a.tmps.getD d undef) w) → wpSeq P Q (ops.toList.drop ds.length) a w) :
    (Code.region id ops true).wp P Q a0 w0 := by
  have hplain : ∀ (i : Nat) (o : Oper), ops[i]? = some o → o.guard = none ∧ (∀ e ∈ o.after, Region.binds .any e = true → e.on < i) ∧ (i < ds.length → o.dst = ds[i]? ∧ ∃ d, ds[i]? = some d) ∧ (¬ i < ds.length → ∀ j, j < i → j ∈ closL ops i (depsOf o)) := by
    intro i o ho
    have hi : i < ops.size := (Array.getElem?_eq_some_iff.1 ho).1
    have h1 := List.all_eq_true.1 hp i (by simpa using hi)
    rw [ho] at h1
    simp only [Bool.and_eq_true] at h1
    obtain ⟨⟨⟨g1, g2⟩, g3⟩, g4⟩ := h1
    refine ⟨by simpa using g1, fun e he hbd => ?_, fun hid => ?_, fun hid j hj => ?_⟩
    · have := Array.all_eq_true_iff_forall_mem.1 g2 e he
      rw [hbd] at this
      simpa using this
    · rw [if_pos hid, Bool.and_eq_true] at g4
      exact ⟨of_decide_eq_true g4.1, Option.isSome_iff_exists.1 g4.2⟩
    · rw [if_neg hid] at g4
      have := List.all_eq_true.1 g4 j (by simpa using hj)
      simpa using this
  have hsz : ∀ (i d : Nat), ds[i]? = some d → d < a0.tmps.size := by
    intro i d hd
    have hi : i < ops.size := by have := (List.getElem?_eq_some_iff.1 hd).1; omega
    have h1 := List.all_eq_true.1 hp i (by simpa using hi)
    rw [Array.getElem?_eq_getElem hi] at h1
    simp only [Bool.and_eq_true] at h1
    have h2 := List.all_eq_true.1 h1.1.2 d (List.mem_of_getElem? hd)
    exact of_decide_eq_true h2
  have hget : ∀ j, j < ds.length → ds[j]? = some (ds.getD j 0) := fun j hj => by
    rw [List.getD_eq_getElem?_getD, List.getElem?_eq_getElem (by omega)]; rfl
  refine wp_region_inv hm (fun i o ho => ⟨(hplain i o ho).1, (hplain i o ho).2.1⟩)
    (fun D a w => (FrEq a0 ds a ∧ Below w0.heap.size w0 w ∧ (∀ j d, D j = true → ds[j]? = some d → rkF L j (a.tmps.getD d undef) w) ∧ ∀ j, ds.length ≤ j → D j = false) ∨
      ∃ k, 1 ≤ k ∧ (∀ j, j < ds.length + k → D j = true) ∧ (∀ j, ds.length + k ≤ j → D j = false) ∧ wpSeq P Q (ops.toList.drop (ds.length + k)) a w)
    (fun w hw => .inl ⟨⟨rfl, rfl, fun _ _ => rfl⟩, hw, (fun _ _ h => by cases h), fun _ _ => rfl⟩) ?_ ?_
  · intro D i o a w ho hDi hdeps hcl hI
    have hi : i < ops.size := (Array.getElem?_eq_some_iff.1 ho).1
    have hall : ¬ i < ds.length → ∀ j, j < i → D j = true := fun hid j hj => closL_all hcl hdeps j ((hplain i o ho).2.2.2 hid j hj)
    have hdrop : ops.toList.drop i = o :: ops.toList.drop (i + 1) := by
      rw [List.drop_eq_getElem_cons (by simpa using hi)]
      congr 1
      rw [Array.getElem_toList]
      exact (Array.getElem?_eq_some_iff.1 ho).2
    rcases hI with ⟨hfr, hb, hf, hno⟩ | ⟨k, hk, hD1, hD2, hS⟩
    · by_cases hid : i < ds.length
      · obtain ⟨hdst, d, hd⟩ := (hplain i o ho).2.2.1 hid
        have h := rsteps_at (i := i) step (by rw [List.getElem?_take_of_lt hid]; simpa using ho)
        rw [Nat.zero_add] at h
        refine Oper.wp_mono ?_ (h a w hfr hb fun j hj => ?_)
        · rintro a' w' ⟨v, rfl, hbw, hv⟩
          refine .inl ⟨?_, hb.trans (hbw.mono hb.size), fun j e hj he => ?_, fun j hj => ?_⟩
          · rw [hdst, hd]; exact hfr.put (List.mem_of_getElem? hd) v
          · rw [hdst, hd]
            by_cases hji : j = i
            · subst hji
              rw [hd] at he
              cases he
              rw [put_at (by rw [hfr.size]; exact hsz _ _ hd)]
              exact hv
            · have hne : d ≠ e := fun h => by
                subst h
                exact hji ((List.getElem?_inj (List.getElem?_eq_some_iff.1 he).1 hn).1 (he.trans hd.symm))
              rw [put_far hne]
              unfold addD at hj
              rw [decide_eq_false hji, Bool.false_or] at hj
              exact RK.st _ _ _ _ hbw (hf j e hj he)
          · unfold addD
            rw [decide_eq_false (by omega : ¬ j = i), Bool.false_or]
            exact hno j hj
        · have hjl : j < i := by
            obtain ⟨ed, hed, rfl⟩ := List.mem_map.1 hj
            exact (hplain i o ho).2.1 ed (by simpa using (List.mem_filter.1 hed).1) (List.mem_filter.1 hed).2
          exact hf j _ (hdeps j hj) (hget j (by omega))
      · have hie : i = ds.length := by
          rcases Nat.lt_or_ge ds.length i with h | h
          · have := hall hid ds.length h
            rw [hno ds.length (Nat.le_refl _)] at this
            cases this
          · omega
        have hS := fin a w hfr hb (fun j d hd => hf j d (hall hid j (by have := (List.getElem?_eq_some_iff.1 hd).1; omega)) hd)
        rw [← hie, hdrop] at hS
        refine Oper.wp_mono ?_ hS
        intro a' w' hS'
        refine .inr ⟨1, Nat.le_refl _, fun j hj => ?_, fun j hj => ?_, by rw [← hie]; exact hS'⟩
        · unfold addD
          by_cases e : j = i
          · rw [decide_eq_true e]; rfl
          · rw [hall hid j (by omega), Bool.or_true]
        · unfold addD
          rw [decide_eq_false (by omega : ¬ j = i), Bool.false_or]
          exact hno j (by omega)
    · have hge : ds.length + k ≤ i := by
        rcases Nat.lt_or_ge i (ds.length + k) with h | h
        · have := hD1 i h
          rw [hDi] at this
          cases this
        · exact h
      have hie : i = ds.length + k := by
        rcases Nat.lt_or_ge (ds.length + k) i with h | h
        · have := hall (by omega) _ h
          rw [hD2 _ (Nat.le_refl _)] at this
          cases this
        · omega
      rw [← hie, hdrop] at hS
      refine Oper.wp_mono ?_ hS
      intro a' w' hS'
      refine .inr ⟨k + 1, by omega, fun j hj => ?_, fun j hj => ?_, by rw [← Nat.add_assoc, ← hie]; exact hS'⟩
      · unfold addD
        by_cases e : j = i
        · rw [decide_eq_true e]; rfl
        · rw [hD1 j (by omega), Bool.or_true]
      · unfold addD
        rw [decide_eq_false (by omega : ¬ j = i), Bool.false_or]
        exact hD2 j (by omega)
  · intro D a w hall hI
    rcases hI with ⟨-, -, -, hno⟩ | ⟨k, hk, hD1, hD2, hS⟩
    · have := hno ds.length (Nat.le_refl _)
      rw [hall _ hl] at this
      cases this
    · have hle : ops.size ≤ ds.length + k := by
        rcases Nat.lt_or_ge (ds.length + k) ops.size with h | h
        · have := hD2 _ (Nat.le_refl _)
          rw [hall _ h] at this
          cases this
        · exact h
      rw [List.drop_eq_nil_of_le (by simpa using hle)] at hS
      exact hS
end Go.Proofs.Ytablphoicidlkaa
