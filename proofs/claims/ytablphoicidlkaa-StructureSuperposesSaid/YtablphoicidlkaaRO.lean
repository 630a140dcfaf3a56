/- Regions that draw their order: plain facts beside a condition on some operations. -/
import Derived.Test.YtablphoicidlkaaRJ
namespace Go.Proofs.Ytablphoicidlkaa
open Go.RowKit
variable {P : Program} {ops : Array Oper} {Q : Exit → Act → World → Prop}

theorem addD_self (D : Nat → Bool) (i : Nat) : addD D i i = true := by unfold addD; rw [decide_eq_true rfl]; rfl
theorem addD_other {D : Nat → Bool} {i j : Nat} (h : j ≠ i) : addD D i j = D j := by unfold addD; rw [decide_eq_false h]; rfl
/-- What a special operation owes. -/
def SpStep (P : Program) (ops : Array Oper) (Q : Exit → Act → World → Prop) (a0 : Act) (w0 : World) (ds : List Nat) (L : List RK) (Sp : (Nat → Bool) → Act → World → Prop) (i : Nat) : Prop :=
  ∀ (D : Nat → Bool) (o : Oper) (a : Act) (w : World), ops[i]? = some o → FrEq a0 ds a → Below w0.heap.size w0 w → D i = false → (∀ j, j ∈ depsOf o → D j = true) → (∀ k ok, ops[k]? = some ok → D k = true → ∀ j, j ∈ depsOf ok → D j = true) →
    (∀ j d, D j = true → ds[j]? = some d → rkF L j (a.tmps.getD d undef) w) → Sp D a w →
    o.wp P a w (fun a' w' => (a' = a ∨ ∃ v, a' = a.put (some (ds.getD i 0)) v) ∧ Below w0.heap.size w0 w' ∧ Sp (addD D i) a' w') Q
theorem wp_region_sp {id : Nat} {a0 : Act} {w0 : World} (ds : List Nat) (L : List RK) (ex : List Nat) (hm : P.follows .mixedOrders = true) (hp : opsPlainS ops ds a0.tmps.size = true) (hn : ds.Nodup) (hl : ds.length = ops.size)
    (hL : ∀ j v w w', rkF L j v w → rkF L j v w') (hex : ∀ i, i ∈ ex → i < ops.size ∧ L.getD i rAny = rAny) (hst : ∀ i, i < ops.size → stores ops i = true → i ∈ ex)
    (Sp : (Nat → Bool) → Act → World → Prop) (sp0 : ∀ w, Below w0.heap.size w0 w → Sp (fun _ => false) a0 w)
    (spk : ∀ D D' a a' w, (∀ i, i ∈ ex → D i = D' i) → (∀ i, i ∈ ex → a.tmps.getD (ds.getD i 0) undef = a'.tmps.getD (ds.getD i 0) undef) → Sp D a w → Sp D' a' w)
    (spb : ∀ D a w w', Below w.heap.size w w' → Sp D a w → Sp D a w')
    (plain : RStepsX P Q a0 w0 ds L ex 0 ops.toList)
    (spec : ∀ i, i ∈ ex → SpStep P ops Q a0 w0 ds L Sp i)
    (fin : ∀ a w, FrEq a0 ds a → Below w0.heap.size w0 w → (∀ i d, ds[i]? = some d → rkF L i (a.tmps.getD d undef) w) → Sp (fun _ => true) a w → Q .normal a w) :
    (Code.region id ops true).wp P Q a0 w0 := by
  have hplain : ∀ (i : Nat) (o : Oper), ops[i]? = some o → o.guard = none ∧ (o.dst = ds[i]? ∨ o.dst = none) ∧ (∃ d, ds[i]? = some d) ∧ (∀ e ∈ o.after, Region.binds .any e = true → e.on < i) := by
    intro i o ho
    have hi : i < ops.size := (Array.getElem?_eq_some_iff.1 ho).1
    have h1 := List.all_eq_true.1 hp i (by simpa using hi)
    rw [ho] at h1
    simp only [Bool.and_eq_true] at h1
    obtain ⟨⟨⟨⟨g1, g2⟩, g3⟩, g4⟩, g5⟩ := h1
    refine ⟨by simpa using g1, by simpa using g2, Option.isSome_iff_exists.1 g3, fun e he hbd => ?_⟩
    have := Array.all_eq_true_iff_forall_mem.1 g4 e he
    rw [hbd] at this
    simpa using this
  have hsz : ∀ (i d : Nat), ds[i]? = some d → d < a0.tmps.size := by
    intro i d hd
    have hi : i < ops.size := by have := (List.getElem?_eq_some_iff.1 hd).1; omega
    have h1 := List.all_eq_true.1 hp i (by simpa using hi)
    rw [Array.getElem?_eq_getElem hi] at h1
    simp only [Bool.and_eq_true] at h1
    have h2 := List.all_eq_true.1 h1.2 d (List.mem_of_getElem? hd)
    exact of_decide_eq_true h2
  have hget : ∀ j, j < ops.size → ds[j]? = some (ds.getD j 0) := fun j hj => by
    rw [List.getD_eq_getElem?_getD, List.getElem?_eq_getElem (by omega)]; rfl
  have hdl : ∀ (i : Nat) (o : Oper), ops[i]? = some o → ∀ j, j ∈ depsOf o → j < i := fun i o ho j hj => by
    obtain ⟨ed, hed, rfl⟩ := List.mem_map.1 hj
    exact (hplain i o ho).2.2.2 ed (by simpa using (List.mem_filter.1 hed).1) (List.mem_filter.1 hed).2
  have hdne : ∀ i j, i < ops.size → j < ops.size → i ≠ j → ds.getD i 0 ≠ ds.getD j 0 := fun i j hi hj hne e => by
    have e1 := hget i hi
    have e2 := hget j hj
    rw [e] at e1
    exact hne ((List.getElem?_inj (by omega) hn).1 (e1.trans e2.symm))
  refine wp_region_inv hm (fun i o ho => ⟨(hplain i o ho).1, (hplain i o ho).2.2.2⟩)
    (fun D a w => FrEq a0 ds a ∧ Below w0.heap.size w0 w ∧ (∀ j d, D j = true → ds[j]? = some d → rkF L j (a.tmps.getD d undef) w) ∧ Sp D a w)
    (fun w hw => ⟨⟨rfl, rfl, fun _ _ => rfl⟩, hw, (fun _ _ h => by cases h), sp0 w hw⟩) ?_ ?_
  · rintro D i o a w ho hDi hdeps hcl ⟨hfr, hb, hf, hsp⟩
    have hi : i < ops.size := (Array.getElem?_eq_some_iff.1 ho).1
    by_cases hx : i ∈ ex
    · refine Oper.wp_mono ?_ (spec i hx D o a w ho hfr hb hDi hdeps hcl hf hsp)
      rintro a' w' ⟨ha, hb', hs'⟩
      have hother : ∀ j, j < ops.size → j ≠ i → a'.tmps.getD (ds.getD j 0) undef = a.tmps.getD (ds.getD j 0) undef := fun j hj hne => by
        rcases ha with rfl | ⟨v, rfl⟩
        · rfl
        · exact put_far (hdne i j hi hj (fun e => hne e.symm))
      refine ⟨?_, hb', fun j d hj hd => ?_, hs'⟩
      · rcases ha with rfl | ⟨v, rfl⟩
        · exact hfr
        · exact hfr.put (List.mem_of_getElem? (hget i hi)) v
      · have hjl : j < ops.size := by have := (List.getElem?_eq_some_iff.1 hd).1; omega
        by_cases e : j = i
        · subst e
          unfold rkF
          rw [(hex j hx).2]
          exact trivial
        · rw [addD_other e] at hj
          have hdj := hget j hjl
          rw [hdj] at hd
          cases hd
          rw [hother j hjl e]
          exact hL _ _ _ _ (hf j _ hj hdj)
    · have hns : stores ops i = false := by
        cases hc : stores ops i
        · rfl
        · exact absurd (hst i hi hc) hx
      have hdst : o.dst = some (ds.getD i 0) := by
        have h2 := (hplain i o ho).2.1
        rcases h2 with h2 | h2
        · rw [h2]; exact hget i hi
        · unfold stores at hns
          rw [ho] at hns
          simp [h2] at hns
      have hec : ex.contains i = false := by
        cases hc : ex.contains i
        · rfl
        · exact absurd (by simpa using hc) hx
      have h := rstepsx_at (i := i) (o := o) plain (by simpa using ho) (by rw [Nat.zero_add]; exact hec)
      rw [Nat.zero_add] at h
      refine Oper.wp_mono ?_ (h a w hfr hb fun j hj => hf j _ (hdeps j hj) (hget j (by have := hdl i o ho j hj; omega)))
      rintro a' w' ⟨v, rfl, hbw, hv⟩
      rw [hdst]
      refine ⟨hfr.put (List.mem_of_getElem? (hget i hi)) v, hb.trans (hbw.mono hb.size), fun j d hj hd => ?_, ?_⟩
      · have hjl : j < ops.size := by have := (List.getElem?_eq_some_iff.1 hd).1; omega
        have hdj := hget j hjl
        rw [hdj] at hd
        cases hd
        by_cases e : j = i
        · subst e
          rw [put_at (by rw [hfr.size]; exact hsz _ _ hdj)]
          exact hv
        · rw [addD_other e] at hj
          rw [put_far (hdne i j hi hjl (fun h => e h.symm))]
          exact hL _ _ _ _ (hf j _ hj hdj)
      · refine spk D _ a _ w' (fun k hk => (addD_other (fun e => hx (by rw [← e]; exact hk))).symm) (fun k hk => ?_) (spb _ _ _ _ hbw hsp)
        exact (put_far (hdne i k hi (hex k hk).1 (fun e => hx (by rw [e]; exact hk)))).symm
  · rintro D a w hall ⟨hfr, hb, hf, hsp⟩
    refine fin a w hfr hb (fun i d hd => hf i d (hall i (by have := (List.getElem?_eq_some_iff.1 hd).1; omega)) hd) ?_
    exact spk D _ a a w (fun i hi => hall i (hex i hi).1) (fun _ _ => rfl) hsp
end Go.Proofs.Ytablphoicidlkaa
