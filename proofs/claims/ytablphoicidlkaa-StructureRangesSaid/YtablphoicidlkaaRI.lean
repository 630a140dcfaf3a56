/- Regions that draw their order and have guards: each operation shown once, from facts of what it depends on; a guard is known to be met, or not to be. -/
import Derived.Test.YtablphoicidlkaaRG
namespace Go.Proofs.Ytablphoicidlkaa
open Go.RowKit

variable {P : Program} {ops : Array Oper} {Q : Exit → Act → World → Prop}
def opsPlainG (ops : Array Oper) (ds : List Nat) (n : Nat) : Bool :=
  (List.range ops.size).all fun i => match ops[i]? with
    | none => false
    | some o => decide (o.dst = ds[i]?) && (ds[i]?).isSome && o.after.all (fun e => !Region.binds .any e || decide (e.on < i)) && ds.all (fun d => decide (d < n))
theorem wp_region_guards {id : Nat} {a0 : Act} {w0 : World} (hm : P.follows .mixedOrders = true) (ds : List Nat) (hp : opsPlainG ops ds a0.tmps.size = true) (hn : ds.Nodup) (hl : ds.length = ops.size)
    (F : Nat → Value → World → Prop) (hF : ∀ i v w w', Below w.heap.size w w' → F i v w → F i v w')
    (step : ∀ (i : Nat) (o : Oper) (a : Act) (w : World), ops[i]? = some o → FrEq a0 ds a → Below w0.heap.size w0 w → (∀ (j d : Nat), j ∈ depsOf o → ds[j]? = some d → F j (a.tmps.getD d undef) w) →
      (Region.wanted o (yielded ops a.tmps) = true ∧ o.wp P a w (fun a' w' => ∃ v, a' = a.put o.dst v ∧ Below w.heap.size w w' ∧ F i v w') Q) ∨ (Region.wanted o (yielded ops a.tmps) = false ∧ F i undef w))
    (fin : ∀ a w, FrEq a0 ds a → Below w0.heap.size w0 w → (∀ (i d : Nat), ds[i]? = some d → F i (a.tmps.getD d undef) w) → Q .normal a w) :
    (Code.region id ops true).wp P Q a0 w0 := by
  have hplain : ∀ (i : Nat) (o : Oper), ops[i]? = some o → o.dst = ds[i]? ∧ (∃ d, ds[i]? = some d) ∧ (∀ e ∈ o.after, Region.binds .any e = true → e.on < i) := by
    intro i o ho
    have hi : i < ops.size := (Array.getElem?_eq_some_iff.1 ho).1
    have h1 := List.all_eq_true.1 hp i (by simpa using hi)
    rw [ho] at h1
    simp only [Bool.and_eq_true] at h1
    obtain ⟨⟨⟨g2, g3⟩, g4⟩, g5⟩ := h1
    refine ⟨of_decide_eq_true g2, Option.isSome_iff_exists.1 g3, fun e he hbd => ?_⟩
    have := Array.all_eq_true_iff_forall_mem.1 g4 e he
    rw [hbd] at this
    simpa using this
  have hsz : ∀ (i d : Nat), ds[i]? = some d → d < a0.tmps.size := by
    intro i d hd
    have hi : i < ops.size := by have := (List.getElem?_eq_some_iff.1 hd).1; omega
    have h1 := List.all_eq_true.1 hp i (by simpa using hi)
    rw [Array.getElem?_eq_getElem hi] at h1
    simp only [Bool.and_eq_true] at h1
    have h2 := List.all_eq_true.1 h1.2 d (List.mem_of_getElem? hd)
    exact of_decide_eq_true h2
  refine wp_region_any hm ?_
  have main : ∀ (fuel : Nat) (listed : Array Bool) (a : Act) (w : World), listed.size = ops.size → ((List.range ops.size).filter fun i => !listed.getD i true).length ≤ fuel → FrEq a0 ds a → Below w0.heap.size w0 w →
      (∀ (i d : Nat), ds[i]? = some d → listed.getD i false = true → F i (a.tmps.getD d undef) w) → wpAny P .any ops Q fuel listed a w := by
    have hall : ∀ (listed : Array Bool), listed.size = ops.size → Region.ready .any ops listed = [] → ∀ i, i < ops.size → listed.getD i false = true := by
      intro listed hsz' hr i
      induction i using Nat.strongRecOn with
      | ind i ih =>
        intro hi
        cases hc : listed.getD i false
        · exfalso
          have hmem : i ∈ Region.ready .any ops listed := mem_ready.2 ⟨by
            simp [hsz', hi] at hc ⊢
            exact hc, _, Array.getElem?_eq_getElem hi, fun e he hbd => by
              have hlt := (hplain i _ (Array.getElem?_eq_getElem hi)).2.2 e he hbd
              exact ih e.on hlt (by omega)⟩
          rw [hr] at hmem
          cases hmem
        · rfl
    intro fuel
    induction fuel with
    | zero =>
      intro listed a w hs hc hfr hb hf
      have hnil : Region.ready .any ops listed = [] := by
        cases hr : Region.ready .any ops listed with
        | nil => rfl
        | cons i rs =>
          exfalso
          have hi : i ∈ Region.ready .any ops listed := by rw [hr]; exact List.mem_cons_self ..
          obtain ⟨h0, o, ho, -⟩ := mem_ready.1 hi
          have hlt : i < ops.size := (Array.getElem?_eq_some_iff.1 ho).1
          have : i ∈ (List.range ops.size).filter fun i => !listed.getD i true := List.mem_filter.2 ⟨by simpa using hlt, by rw [h0]; rfl⟩
          have := List.length_pos_of_mem this
          omega
      exact ⟨hnil, fin a w hfr hb fun i d hd => hf i d hd (hall listed hs hnil i (by have := (List.getElem?_eq_some_iff.1 hd).1; omega))⟩
    | succ fuel ih =>
      intro listed a w hs hc hfr hb hf
      refine ⟨fun hnil => fin a w hfr hb fun i d hd => hf i d hd (hall listed hs hnil i (by have := (List.getElem?_eq_some_iff.1 hd).1; omega)), fun i hi => ?_⟩
      obtain ⟨h0, o, ho, hafter⟩ := mem_ready.1 hi
      have hlt : i < ops.size := (Array.getElem?_eq_some_iff.1 ho).1
      obtain ⟨hdst, ⟨d, hd⟩, -⟩ := hplain i o ho
      have next : ∀ v w', Below w.heap.size w w' → F i v w' → wpAny P .any ops Q fuel (listed.setIfInBounds i true) (a.put o.dst v) w' := by
        intro v w' hbw hv
        rw [hdst, hd]
        refine ih _ _ _ (by simpa using hs) ?_ (hfr.put (List.mem_of_getElem? hd) v) (hb.trans (hbw.mono hb.size)) ?_
        · have hlen : ((List.range ops.size).filter fun j => !(listed.setIfInBounds i true).getD j true).length < ((List.range ops.size).filter fun j => !listed.getD j true).length := by
            have hsub : (List.range ops.size).filter (fun j => !(listed.setIfInBounds i true).getD j true) = ((List.range ops.size).filter fun j => !listed.getD j true).filter fun j => j != i := by
              rw [List.filter_filter]
              refine List.filter_congr fun j hj => ?_
              by_cases e : i = j
              · subst e
                simp [hs, hlt]
              · rw [getD_set_ne true e]
                have : (j != i) = true := by simpa using fun h => e h.symm
                rw [this]; simp
            rw [hsub]
            have hmem : i ∈ (List.range ops.size).filter fun j => !listed.getD j true := List.mem_filter.2 ⟨by simpa using hlt, by rw [h0]; rfl⟩
            refine List.length_filter_lt_length_iff_exists.2 ⟨i, hmem, by simp⟩
          omega
        · intro j e hj hlj
          by_cases hji : i = j
          · subst hji
            rw [hd] at hj
            cases hj
            rw [put_at (by rw [hfr.size]; exact hsz _ _ hd)]
            exact hv
          · have hne : d ≠ e := fun h => by
              subst h
              exact hji ((List.getElem?_inj (List.getElem?_eq_some_iff.1 hd).1 hn).1 (hd.trans hj.symm))
            rw [put_far hne]
            refine hF _ _ _ _ hbw (hf j e hj ?_)
            rw [getD_set_ne false hji] at hlj
            exact hlj
      unfold wpOp
      rw [ho]
      rcases step i o a w ho hfr hb (fun j e hj he => by
        obtain ⟨ed, hed, rfl⟩ := List.mem_map.1 hj
        obtain ⟨hed1, hed2⟩ := List.mem_filter.1 hed
        exact hf _ _ he (hafter ed (by simpa using hed1) hed2)) with ⟨hw, hh⟩ | ⟨hw, hh⟩
      · simp only [hw, if_true]
        refine .inl (Oper.wp_mono ?_ hh)
        rintro a' w' ⟨v, rfl, hbw, hv⟩
        exact next v w' hbw hv
      · simp only [hw, Bool.false_eq_true, if_false]
        exact next undef w (Below.refl _ _) hh
  refine main _ _ _ _ (by simp) ?_ ⟨rfl, rfl, fun _ _ => rfl⟩ (Below.drew (Below.refl _ _)) fun i d hd h => ?_
  · refine Nat.le_trans (List.length_filter_le _ _) (by simp)
  · rw [Array.getD_eq_getD_getElem?, Array.getElem?_replicate] at h
    split at h <;> cases h
/-- One operation, perhaps with a guard, does what is said of it. -/
def RStepG (P : Program) (ops : Array Oper) (Q : Exit → Act → World → Prop) (a0 : Act) (w0 : World) (ds : List Nat) (L : List RK) (i : Nat) (o : Oper) : Prop :=
  ∀ (a : Act) (w : World), FrEq a0 ds a → Below w0.heap.size w0 w → (∀ j, j ∈ depsOf o → rkF L j (a.tmps.getD (ds.getD j 0) undef) w) →
    (Region.wanted o (yielded ops a.tmps) = true ∧ o.wp P a w (fun a' w' => ∃ v, a' = a.put o.dst v ∧ Below w.heap.size w w' ∧ rkF L i v w') Q) ∨ (Region.wanted o (yielded ops a.tmps) = false ∧ rkF L i undef w)
def RStepsG (P : Program) (ops : Array Oper) (Q : Exit → Act → World → Prop) (a0 : Act) (w0 : World) (ds : List Nat) (L : List RK) : Nat → List Oper → Prop
  | _, [] => True
  | i, o :: r => RStepG P ops Q a0 w0 ds L i o ∧ RStepsG P ops Q a0 w0 ds L (i + 1) r
theorem rstepsg_at {a0 : Act} {w0 : World} {ds : List Nat} {L : List RK} : ∀ {l : List Oper} {k i : Nat} {o : Oper}, RStepsG P ops Q a0 w0 ds L k l → l[i]? = some o → RStepG P ops Q a0 w0 ds L (k + i) o
  | [], _, _, _, _, h => by simp at h
  | o :: r, k, 0, o', h, ho => by
    simp at ho
    subst ho
    exact h.1
  | o :: r, k, i + 1, o', h, ho => by
    have := rstepsg_at (i := i) h.2 (by simpa using ho)
    rwa [show k + 1 + i = k + (i + 1) by omega] at this
theorem wp_region_rkg {id : Nat} {a0 : Act} {w0 : World} (ds : List Nat) (L : List RK) (hm : P.follows .mixedOrders = true) (hp : opsPlainG ops ds a0.tmps.size = true) (hn : ds.Nodup) (hl : ds.length = ops.size)
    (step : RStepsG P ops Q a0 w0 ds L 0 ops.toList)
    (fin : ∀ a w, FrEq a0 ds a → Below w0.heap.size w0 w → (∀ i d, ds[i]? = some d → rkF L i (a.tmps.getD d undef) w) → Q .normal a w) :
    (Code.region id ops true).wp P Q a0 w0 := by
  refine wp_region_guards hm ds hp hn hl (rkF L) (fun i v w w' hb h => (L.getD i rAny).st v w w' hb h) (fun i o a w ho hfr hb hdep => ?_) fin
  have h := rstepsg_at (i := i) step (by simpa using ho)
  rw [Nat.zero_add] at h
  refine h a w hfr hb fun j hj => ?_
  have hlt : j < ds.length := by
    have hi : i < ops.size := (Array.getElem?_eq_some_iff.1 ho).1
    have h1 := List.all_eq_true.1 hp i (by simpa using hi)
    rw [ho] at h1
    simp only [Bool.and_eq_true] at h1
    obtain ⟨ed, hed, rfl⟩ := List.mem_map.1 hj
    have := Array.all_eq_true_iff_forall_mem.1 h1.1.2 ed (by simpa using (List.mem_filter.1 hed).1)
    rw [(List.mem_filter.1 hed).2] at this
    have : ed.on < i := by simpa using this
    omega
  have hd : ds[j]? = some (ds.getD j 0) := by
    rw [List.getD_eq_getElem?_getD, List.getElem?_eq_getElem hlt]; rfl
  exact hdep j _ hj hd
theorem yielded_of {tmps : Array Value} {j d : Nat} {b : Bool} (hd : (ops[j]?).bind (·.dst) = some d) (hv : tmps.getD d undef = .bool b) : yielded ops tmps j = some b := by
  unfold yielded
  rw [hd]
  have h : tmps[d]? = some (.bool b) := by
    rw [Array.getD_eq_getD_getElem?] at hv
    cases hc : tmps[d]? with
    | none => rw [hc] at hv; cases hv
    | some x => rw [hc] at hv; exact congrArg some hv
  simp [h]
theorem wanted_free {o : Oper} {y : Nat → Option Bool} (h : o.guard = none) : Region.wanted o y = true := by
  unfold Region.wanted
  rw [h]
theorem wanted_by {o : Oper} {tmps : Array Value} {j d : Nat} {b : Bool} (h : o.guard = some (j, b)) (hd : (ops[j]?).bind (·.dst) = some d) (hv : tmps.getD d undef = .bool b) : Region.wanted o (yielded ops tmps) = true := by
  unfold Region.wanted
  rw [h]
  show (yielded ops tmps j == some b) = true
  rw [yielded_of hd hv]
  simp
theorem wanted_not {o : Oper} {tmps : Array Value} {j d : Nat} {b : Bool} (h : o.guard = some (j, b)) (hd : (ops[j]?).bind (·.dst) = some d) (hv : tmps.getD d undef = .bool (!b)) : Region.wanted o (yielded ops tmps) = false := by
  unfold Region.wanted
  rw [h]
  show (yielded ops tmps j == some b) = false
  rw [yielded_of hd hv]
  cases b <;> rfl
end Go.Proofs.Ytablphoicidlkaa
