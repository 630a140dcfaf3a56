/- Regions that draw their order and store within it: facts that depend on which stores are done. -/
import Derived.Test.YtablphoicidlkaaRF
namespace Go.Proofs.Ytablphoicidlkaa
open Go.RowKit

variable {P : Program} {ops : Array Oper} {Q : Exit → Act → World → Prop}
def opsPlainS (ops : Array Oper) (ds : List Nat) (n : Nat) : Bool :=
  (List.range ops.size).all fun i => match ops[i]? with
    | none => false
    | some o => o.guard.isNone && (decide (o.dst = ds[i]?) || o.dst.isNone) && (ds[i]?).isSome && o.after.all (fun e => !Region.binds .any e || decide (e.on < i)) && ds.all (fun d => decide (d < n))
def addD (D : Nat → Bool) (s : Nat) : Nat → Bool := fun k => decide (k = s) || D k
def stores (ops : Array Oper) (s : Nat) : Bool := match ops[s]? with
  | some o => o.dst.isNone
  | none => false
theorem stores_lt {ops : Array Oper} {s : Nat} (h : stores ops s = true) : s < ops.size := by
  unfold stores at h
  cases ho : ops[s]? with
  | none => rw [ho] at h; cases h
  | some o => exact (Array.getElem?_eq_some_iff.1 ho).1
theorem wp_region_stores {id : Nat} {a0 : Act} {w0 : World} (hm : P.follows .mixedOrders = true) (ds : List Nat) (hp : opsPlainS ops ds a0.tmps.size = true) (hn : ds.Nodup) (hl : ds.length = ops.size)
    (F : (Nat → Bool) → Nat → Value → World → Prop) (hF : ∀ D i v w w', Below w.heap.size w w' → F D i v w → F D i v w') (hD : ∀ D D' i v w, (∀ s, stores ops s = true → D s = D' s) → F D i v w → F D' i v w)
    (step : ∀ (D : Nat → Bool) (i : Nat) (o : Oper) (a : Act) (w : World), ops[i]? = some o → o.dst ≠ none → FrEq a0 ds a → Below w0.heap.size w0 w → D i = false → (∀ j, j ∈ depsOf o → D j = true) → (∀ k ok, ops[k]? = some ok → D k = true → ∀ j, j ∈ depsOf ok → D j = true) → (∀ (j d : Nat), D j = true → ds[j]? = some d → F D j (a.tmps.getD d undef) w) →
      o.wp P a w (fun a' w' => ∃ v, a' = a.put o.dst v ∧ Below w.heap.size w w' ∧ F D i v w') Q)
    (stor : ∀ (D : Nat → Bool) (i : Nat) (o : Oper) (a : Act) (w : World), ops[i]? = some o → o.dst = none → FrEq a0 ds a → Below w0.heap.size w0 w → D i = false → (∀ j, j ∈ depsOf o → D j = true) → (∀ k ok, ops[k]? = some ok → D k = true → ∀ j, j ∈ depsOf ok → D j = true) → (∀ (j d : Nat), D j = true → ds[j]? = some d → F D j (a.tmps.getD d undef) w) →
      o.wp P a w (fun a' w' => a' = a ∧ Below w0.heap.size w0 w' ∧ (∀ v, F (addD D i) i v w') ∧ ∀ (j d : Nat), D j = true → ds[j]? = some d → F (addD D i) j (a.tmps.getD d undef) w') Q)
    (fin : ∀ a w, FrEq a0 ds a → Below w0.heap.size w0 w → (∀ (i d : Nat), ds[i]? = some d → F (fun _ => true) i (a.tmps.getD d undef) w) → Q .normal a w) :
    (Code.region id ops true).wp P Q a0 w0 := by
  have hplain : ∀ (i : Nat) (o : Oper), ops[i]? = some o → o.guard = none ∧ (o.dst = ds[i]? ∨ o.dst = none) ∧ (∃ d, ds[i]? = some d) ∧ (∀ e ∈ o.after, Region.binds .any e = true → e.on < i) := by
    intro i o ho
    have hi : i < ops.size := (Array.getElem?_eq_some_iff.1 ho).1
    have h1 := List.all_eq_true.1 hp i (by simpa using hi)
    rw [ho] at h1
    simp only [Bool.and_eq_true] at h1
    obtain ⟨⟨⟨⟨g1, g2⟩, g3⟩, g4⟩, g5⟩ := h1
    refine ⟨by simpa using g1, by simpa using g2, Option.isSome_iff_exists.1 g3, fun e he hbd => ?_⟩
    have := Array.all_eq_true_iff_forall_mem.1 g4 e he
    rw [hbd] at this
    simpa using this
  have hsz : ∀ (i d : Nat), ds[i]? = some d → d < a0.tmps.size := by
    intro i d hd
    have hi : i < ops.size := by have := (List.getElem?_eq_some_iff.1 hd).1; omega
    have h1 := List.all_eq_true.1 hp i (by simpa using hi)
    rw [Array.getElem?_eq_getElem hi] at h1
    simp only [Bool.and_eq_true] at h1
    have h2 := List.all_eq_true.1 h1.2 d (List.mem_of_getElem? hd)
    exact of_decide_eq_true h2
  refine wp_region_any hm ?_
  have main : ∀ (fuel : Nat) (listed : Array Bool) (a : Act) (w : World), listed.size = ops.size → ((List.range ops.size).filter fun i => !listed.getD i true).length ≤ fuel → FrEq a0 ds a → Below w0.heap.size w0 w →
      (∀ k ok, ops[k]? = some ok → listed.getD k false = true → ∀ j, j ∈ depsOf ok → listed.getD j false = true) → (∀ (i d : Nat), listed.getD i false = true → ds[i]? = some d → F (fun k => listed.getD k false) i (a.tmps.getD d undef) w) → wpAny P .any ops Q fuel listed a w := by
    have hall : ∀ (listed : Array Bool), listed.size = ops.size → Region.ready .any ops listed = [] → ∀ i, i < ops.size → listed.getD i false = true := by
      intro listed hsz' hr i
      induction i using Nat.strongRecOn with
      | ind i ih =>
        intro hi
        cases hc : listed.getD i false
        · exfalso
          have hmem : i ∈ Region.ready .any ops listed := mem_ready.2 ⟨by
            simp [hsz', hi] at hc ⊢
            exact hc, _, Array.getElem?_eq_getElem hi, fun e he hbd => by
              have hlt := (hplain i _ (Array.getElem?_eq_getElem hi)).2.2.2 e he hbd
              exact ih e.on hlt (by omega)⟩
          rw [hr] at hmem
          cases hmem
        · rfl
    intro fuel
    induction fuel with
    | zero =>
      intro listed a w hs hc hfr hb hcl hf
      have hnil : Region.ready .any ops listed = [] := by
        cases hr : Region.ready .any ops listed with
        | nil => rfl
        | cons i rs =>
          exfalso
          have hi : i ∈ Region.ready .any ops listed := by rw [hr]; exact List.mem_cons_self ..
          obtain ⟨h0, o, ho, -⟩ := mem_ready.1 hi
          have hlt : i < ops.size := (Array.getElem?_eq_some_iff.1 ho).1
          have : i ∈ (List.range ops.size).filter fun i => !listed.getD i true := List.mem_filter.2 ⟨by simpa using hlt, by rw [h0]; rfl⟩
          have := List.length_pos_of_mem this
          omega
      exact ⟨hnil, fin a w hfr hb fun i d hd => hD _ _ _ _ _ (fun s hst => by show listed.getD s false = true; exact hall listed hs hnil s (stores_lt hst)) (hf i d (hall listed hs hnil i (by have := (List.getElem?_eq_some_iff.1 hd).1; omega)) hd)⟩
    | succ fuel ih =>
      intro listed a w hs hc hfr hb hcl hf
      refine ⟨fun hnil => fin a w hfr hb fun i d hd => hD _ _ _ _ _ (fun s hst => by show listed.getD s false = true; exact hall listed hs hnil s (stores_lt hst)) (hf i d (hall listed hs hnil i (by have := (List.getElem?_eq_some_iff.1 hd).1; omega)) hd), fun i hi => ?_⟩
      obtain ⟨h0, o, ho, hafter⟩ := mem_ready.1 hi
      have hlt : i < ops.size := (Array.getElem?_eq_some_iff.1 ho).1
      obtain ⟨hg, hdst, ⟨d, hd⟩, -⟩ := hplain i o ho
      unfold wpOp
      rw [ho]
      have hwant : Region.wanted o (yielded ops a.tmps) = true := by unfold Region.wanted; rw [hg]
      simp only [hwant, if_true]
      have hlen : ((List.range ops.size).filter fun j => !(listed.setIfInBounds i true).getD j true).length < ((List.range ops.size).filter fun j => !listed.getD j true).length := by
        have hsub : (List.range ops.size).filter (fun j => !(listed.setIfInBounds i true).getD j true) = ((List.range ops.size).filter fun j => !listed.getD j true).filter fun j => j != i := by
          rw [List.filter_filter]
          refine List.filter_congr fun j hj => ?_
          by_cases e : i = j
          · subst e
            simp [hs, hlt]
          · rw [getD_set_ne true e]
            have : (j != i) = true := by simpa using fun h => e h.symm
            rw [this]; simp
        rw [hsub]
        have hmem : i ∈ (List.range ops.size).filter fun j => !listed.getD j true := List.mem_filter.2 ⟨by simpa using hlt, by rw [h0]; rfl⟩
        refine List.length_filter_lt_length_iff_exists.2 ⟨i, hmem, by simp⟩
      have hil : i < listed.size := by omega
      have hi0 : listed.getD i false = false := by simpa [hil] using h0
      have hdeps : ∀ j, j ∈ depsOf o → listed.getD j false = true := fun j hj => by
        obtain ⟨ed, hed, rfl⟩ := List.mem_map.1 hj
        obtain ⟨hed1, hed2⟩ := List.mem_filter.1 hed
        exact hafter ed (by simpa using hed1) hed2
      have hset : ∀ k, (listed.setIfInBounds i true).getD k false = addD (fun k => listed.getD k false) i k := fun k => by
        unfold addD
        by_cases e : i = k
        · subst e; simp [hil]
        · rw [getD_set_ne false e, decide_eq_false (fun h => e h.symm), Bool.false_or]
      have hcl' : ∀ k ok, ops[k]? = some ok → (listed.setIfInBounds i true).getD k false = true → ∀ j, j ∈ depsOf ok → (listed.setIfInBounds i true).getD j false = true := fun k ok hk hkl j hj => by
        rw [hset] at hkl ⊢
        unfold addD at hkl ⊢
        have hjd : listed.getD j false = true := by
          by_cases e : k = i
          · subst e
            rw [ho] at hk
            cases hk
            exact hdeps j hj
          · rw [decide_eq_false e, Bool.false_or] at hkl
            exact hcl k ok hk hkl j hj
        show (decide (j = i) || listed.getD j false) = true
        rw [hjd, Bool.or_true]
      by_cases hns : o.dst = none
      · refine .inl (Oper.wp_mono ?_ (stor _ i o a w ho hns hfr hb hi0 hdeps hcl hf))
        rintro a' w' ⟨rfl, hbw, hself, hall'⟩
        refine ih _ _ _ (by simpa using hs) (by omega) hfr hbw hcl' ?_
        intro j e hlj hj
        refine hD _ _ _ _ _ (fun s _ => (hset s).symm) ?_
        rw [hset] at hlj
        unfold addD at hlj
        by_cases hji : j = i
        · subst hji
          exact hself _
        · rw [decide_eq_false hji, Bool.false_or] at hlj
          exact hall' j e hlj hj
      · have hdst := hdst.resolve_right hns
        refine .inl (Oper.wp_mono ?_ (step _ i o a w ho hns hfr hb hi0 hdeps hcl hf))
        rintro a' w' ⟨v, rfl, hbw, hv⟩
        rw [hdst, hd]
        have hDD : ∀ s, stores ops s = true → listed.getD s false = (listed.setIfInBounds i true).getD s false := fun s hst => by
          rw [hset]
          unfold addD
          rw [decide_eq_false (fun h => by
            subst h
            unfold stores at hst
            rw [ho] at hst
            exact hns (by simpa using hst)), Bool.false_or]
        refine ih _ _ _ (by simpa using hs) (by omega) (hfr.put (List.mem_of_getElem? hd) v) (hb.trans (hbw.mono hb.size)) hcl' ?_
        intro j e hlj hj
        refine hD _ _ _ _ _ hDD ?_
        by_cases hji : i = j
        · subst hji
          rw [hd] at hj
          cases hj
          rw [put_at (by rw [hfr.size]; exact hsz _ _ hd)]
          exact hv
        · have hne : d ≠ e := fun h => by
            subst h
            exact hji ((List.getElem?_inj (List.getElem?_eq_some_iff.1 hd).1 hn).1 (hd.trans hj.symm))
          rw [put_far hne]
          rw [getD_set_ne false hji] at hlj
          exact hF _ _ _ _ _ hbw (hf j e hlj hj)
  refine main _ _ _ _ (by simp) ?_ ⟨rfl, rfl, fun _ _ => rfl⟩ (Below.drew (Below.refl _ _)) (fun k ok _ h => ?_) fun i d h hd => ?_
  · refine Nat.le_trans (List.length_filter_le _ _) (by simp)
  · rw [Array.getD_eq_getD_getElem?, Array.getElem?_replicate] at h
    split at h <;> cases h
  · rw [Array.getD_eq_getD_getElem?, Array.getElem?_replicate] at h
    split at h <;> cases h
end Go.Proofs.Ytablphoicidlkaa
