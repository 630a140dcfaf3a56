/- Regions that draw their order, by facts of what each operation has yielded. -/
import Derived.WalkKit
import Derived.Orders
import Derived.Below
import Derived.Test.YtablphoicidlkaaSB
namespace Go.Proofs.Ytablphoicidlkaa
open Go.RowKit

/-- The frame a is a0 but for the slots ds. -/
structure FrEq (a0 : Act) (ds : List Nat) (a : Act) : Prop where
  defers : a.defers = a0.defers
  size : a.tmps.size = a0.tmps.size
  same : ∀ s, s ∉ ds → a.tmps.getD s undef = a0.tmps.getD s undef
def depsOf (o : Oper) : List Nat := ((o.after.toList.filter fun e => Region.binds .any e).map fun e => e.on)
def opsPlain (ops : Array Oper) (ds : List Nat) (n : Nat) : Bool :=
  (List.range ops.size).all fun i => match ops[i]? with
    | none => false
    | some o => o.guard.isNone && decide (o.dst = ds[i]?) && (ds[i]?).isSome && o.after.all (fun e => decide (e.on < i)) && ds.all (fun d => decide (d < n))
def opsPlainT (ops : Array Oper) (ds : List Nat) (n : Nat) : Bool :=
  ((List.range ds.length).all fun i => match ops[i]? with
    | none => false
    | some o => o.guard.isNone && decide (o.dst = ds[i]?) && (ds[i]?).isSome && o.after.all (fun e => decide (e.on < i)) && ds.all (fun d => decide (d < n))) &&
  (match ops[ds.length]? with
    | none => false
    | some o => o.guard.isNone && (List.range ds.length).all (fun j => (depsOf o).contains j) && o.after.all (fun e => decide (e.on < ds.length)))
theorem FrEq.put {a0 a : Act} {ds : List Nat} (h : FrEq a0 ds a) {d : Nat} (hd : d ∈ ds) (v : Value) : FrEq a0 ds (a.put (some d) v) :=
  ⟨h.defers, by simp [Act.put, h.size], fun s hs => by
    have hne : d ≠ s := fun e => hs (e ▸ hd)
    rw [← h.same s hs]
    simp [Act.put, Array.getElem?_setIfInBounds_ne hne]⟩
theorem put_at {a : Act} {d : Nat} {v : Value} (h : d < a.tmps.size) : (a.put (some d) v).tmps.getD d undef = v := by
  simp [Act.put, h]
theorem put_far {a : Act} {d s : Nat} {v : Value} (h : d ≠ s) : (a.put (some d) v).tmps.getD s undef = a.tmps.getD s undef := by
  simp [Act.put, Array.getElem?_setIfInBounds_ne h]
theorem cons_of {α : Type} {l : List α} {n : Nat} (h : l.length = n + 1) : ∃ x r, l = x :: r ∧ r.length = n := by
  cases l with
  | nil => cases h
  | cons x r => exact ⟨x, r, rfl, by simpa using h⟩
section
variable {P : Program} {ops : Array Oper} {Q : Exit → Act → World → Prop}
theorem wp_region_facts {id : Nat} {a0 : Act} {w0 : World} (hm : P.follows .mixedOrders = true) (ds : List Nat) (hp : opsPlain ops ds a0.tmps.size = true) (hn : ds.Nodup) (hl : ds.length = ops.size)
    (F : Nat → Value → World → Prop) (hF : ∀ i v w w', Below w.heap.size w w' → F i v w → F i v w')
    (step : ∀ (i : Nat) (o : Oper) (a : Act) (w : World), ops[i]? = some o → FrEq a0 ds a → Below w0.heap.size w0 w → (∀ (j d : Nat), j ∈ depsOf o → ds[j]? = some d → F j (a.tmps.getD d undef) w) →
      o.wp P a w (fun a' w' => ∃ v, a' = a.put o.dst v ∧ Below w.heap.size w w' ∧ F i v w') Q)
    (fin : ∀ a w, FrEq a0 ds a → Below w0.heap.size w0 w → (∀ (i d : Nat), ds[i]? = some d → F i (a.tmps.getD d undef) w) → Q .normal a w) :
    (Code.region id ops true).wp P Q a0 w0 := by
  have hplain : ∀ (i : Nat) (o : Oper), ops[i]? = some o → o.guard = none ∧ o.dst = ds[i]? ∧ (∃ d, ds[i]? = some d) ∧ (∀ e ∈ o.after, e.on < i) := by
    intro i o ho
    have hi : i < ops.size := (Array.getElem?_eq_some_iff.1 ho).1
    have h1 := List.all_eq_true.1 hp i (by simpa using hi)
    rw [ho] at h1
    simp only [Bool.and_eq_true] at h1
    obtain ⟨⟨⟨⟨g1, g2⟩, g3⟩, g4⟩, g5⟩ := h1
    refine ⟨by simpa using g1, of_decide_eq_true g2, Option.isSome_iff_exists.1 g3, fun e he => ?_⟩
    have := Array.all_eq_true_iff_forall_mem.1 g4 e he
    exact of_decide_eq_true this
  have hsz : ∀ (i d : Nat), ds[i]? = some d → d < a0.tmps.size := by
    intro i d hd
    have hi : i < ops.size := by have := (List.getElem?_eq_some_iff.1 hd).1; omega
    have h1 := List.all_eq_true.1 hp i (by simpa using hi)
    rw [Array.getElem?_eq_getElem hi] at h1
    simp only [Bool.and_eq_true] at h1
    have h2 := List.all_eq_true.1 h1.2 d (List.mem_of_getElem? hd)
    exact of_decide_eq_true h2
  refine wp_region_any hm ?_
  have main : ∀ (fuel : Nat) (listed : Array Bool) (a : Act) (w : World), listed.size = ops.size → ((List.range ops.size).filter fun i => !listed.getD i true).length ≤ fuel → FrEq a0 ds a → Below w0.heap.size w0 w →
      (∀ (i d : Nat), ds[i]? = some d → listed.getD i false = true → F i (a.tmps.getD d undef) w) → wpAny P .any ops Q fuel listed a w := by
    have hall : ∀ (listed : Array Bool), listed.size = ops.size → Region.ready .any ops listed = [] → ∀ i, i < ops.size → listed.getD i false = true := by
      intro listed hsz' hr i
      induction i using Nat.strongRecOn with
      | ind i ih =>
        intro hi
        cases hc : listed.getD i false
        · exfalso
          have hmem : i ∈ Region.ready .any ops listed := mem_ready.2 ⟨by
            simp [hsz', hi] at hc ⊢
            exact hc, _, Array.getElem?_eq_getElem hi, fun e he _ => by
              have hlt := (hplain i _ (Array.getElem?_eq_getElem hi)).2.2.2 e he
              exact ih e.on hlt (by omega)⟩
          rw [hr] at hmem
          cases hmem
        · rfl
    intro fuel
    induction fuel with
    | zero =>
      intro listed a w hs hc hfr hb hf
      have hnil : Region.ready .any ops listed = [] := by
        cases hr : Region.ready .any ops listed with
        | nil => rfl
        | cons i rs =>
          exfalso
          have hi : i ∈ Region.ready .any ops listed := by rw [hr]; exact List.mem_cons_self ..
          obtain ⟨h0, o, ho, -⟩ := mem_ready.1 hi
          have hlt : i < ops.size := (Array.getElem?_eq_some_iff.1 ho).1
          have : i ∈ (List.range ops.size).filter fun i => !listed.getD i true := List.mem_filter.2 ⟨by simpa using hlt, by rw [h0]; rfl⟩
          have := List.length_pos_of_mem this
          omega
      exact ⟨hnil, fin a w hfr hb fun i d hd => hf i d hd (hall listed hs hnil i (by have := (List.getElem?_eq_some_iff.1 hd).1; omega))⟩
    | succ fuel ih =>
      intro listed a w hs hc hfr hb hf
      refine ⟨fun hnil => fin a w hfr hb fun i d hd => hf i d hd (hall listed hs hnil i (by have := (List.getElem?_eq_some_iff.1 hd).1; omega)), fun i hi => ?_⟩
      obtain ⟨h0, o, ho, hafter⟩ := mem_ready.1 hi
      have hlt : i < ops.size := (Array.getElem?_eq_some_iff.1 ho).1
      obtain ⟨hg, hdst, ⟨d, hd⟩, -⟩ := hplain i o ho
      unfold wpOp
      rw [ho]
      have hwant : Region.wanted o (yielded ops a.tmps) = true := by unfold Region.wanted; rw [hg]
      simp only [hwant, if_true]
      refine .inl (Oper.wp_mono ?_ (step i o a w ho hfr hb ?_))
      · rintro a' w' ⟨v, rfl, hbw, hv⟩
        rw [hdst, hd]
        refine ih _ _ _ (by simpa using hs) ?_ (hfr.put (List.mem_of_getElem? hd) v) (hb.trans (hbw.mono hb.size)) ?_
        · have hlen : ((List.range ops.size).filter fun j => !(listed.setIfInBounds i true).getD j true).length < ((List.range ops.size).filter fun j => !listed.getD j true).length := by
            have hsub : (List.range ops.size).filter (fun j => !(listed.setIfInBounds i true).getD j true) = ((List.range ops.size).filter fun j => !listed.getD j true).filter fun j => j != i := by
              rw [List.filter_filter]
              refine List.filter_congr fun j hj => ?_
              by_cases e : i = j
              · subst e
                simp [hs, hlt]
              · rw [getD_set_ne true e]
                have : (j != i) = true := by simpa using fun h => e h.symm
                rw [this]; simp
            rw [hsub]
            have hmem : i ∈ (List.range ops.size).filter fun j => !listed.getD j true := List.mem_filter.2 ⟨by simpa using hlt, by rw [h0]; rfl⟩
            refine List.length_filter_lt_length_iff_exists.2 ⟨i, hmem, by simp⟩
          omega
        · intro j e hj hlj
          by_cases hji : i = j
          · subst hji
            rw [hd] at hj
            cases hj
            rw [put_at (by rw [hfr.size]; exact hsz _ _ hd)]
            exact hv
          · have hne : d ≠ e := fun h => by
              subst h
              exact hji ((List.getElem?_inj (List.getElem?_eq_some_iff.1 hd).1 hn).1 (hd.trans hj.symm))
            rw [put_far hne]
            refine hF _ _ _ _ hbw (hf j e hj ?_)
            rw [getD_set_ne false hji] at hlj
            exact hlj
      · intro j e hj he
        obtain ⟨ed, hed, rfl⟩ := List.mem_map.1 hj
        obtain ⟨hed1, hed2⟩ := List.mem_filter.1 hed
        exact hf _ _ he (hafter ed (by simpa using hed1) hed2)
  refine main _ _ _ _ (by simp) ?_ ⟨rfl, rfl, fun _ _ => rfl⟩ (Below.drew (Below.refl _ _)) fun i d hd h => ?_
  · refine Nat.le_trans (List.length_filter_le _ _) (by simp)
  · rw [Array.getD_eq_getD_getElem?, Array.getElem?_replicate] at h
    split at h <;> cases h

theorem wp_region_facts_tail {id : Nat} {a0 : Act} {w0 : World} (hm : P.follows .mixedOrders = true) (ds : List Nat) (hp : opsPlainT ops ds a0.tmps.size = true) (hn : ds.Nodup) (hl : ds.length + 1 = ops.size)
    (F : Nat → Value → World → Prop) (hF : ∀ i v w w', Below w.heap.size w w' → F i v w → F i v w')
    (step : ∀ (i : Nat) (o : Oper) (a : Act) (w : World), i < ds.length → ops[i]? = some o → FrEq a0 ds a → Below w0.heap.size w0 w → (∀ (j d : Nat), j ∈ depsOf o → ds[j]? = some d → F j (a.tmps.getD d undef) w) →
      o.wp P a w (fun a' w' => ∃ v, a' = a.put o.dst v ∧ Below w.heap.size w w' ∧ F i v w') Q)
    (fin : ∀ a w, FrEq a0 ds a → Below w0.heap.size w0 w → (∀ (i d : Nat), ds[i]? = some d → F i (a.tmps.getD d undef) w) → ∀ o, ops[ds.length]? = some o → o.wp P a w (fun a' w' => Q .normal a' w') Q) :
    (Code.region id ops true).wp P Q a0 w0 := by
  have hplain : ∀ (i : Nat) (o : Oper), i < ds.length → ops[i]? = some o → o.guard = none ∧ o.dst = ds[i]? ∧ (∃ d, ds[i]? = some d) ∧ (∀ e ∈ o.after, e.on < i) := by
    intro i o hi ho
    unfold opsPlainT at hp
    rw [Bool.and_eq_true] at hp
    have h1 := List.all_eq_true.1 hp.1 i (by simpa using hi)
    rw [ho] at h1
    simp only [Bool.and_eq_true] at h1
    obtain ⟨⟨⟨⟨g1, g2⟩, g3⟩, g4⟩, g5⟩ := h1
    refine ⟨by simpa using g1, of_decide_eq_true g2, Option.isSome_iff_exists.1 g3, fun e he => ?_⟩
    have := Array.all_eq_true_iff_forall_mem.1 g4 e he
    exact of_decide_eq_true this
  have htail : ∀ o, ops[ds.length]? = some o → o.guard = none ∧ (∀ j, j < ds.length → j ∈ depsOf o) ∧ (∀ e ∈ o.after, e.on < ds.length) := by
    intro o ho
    unfold opsPlainT at hp
    rw [Bool.and_eq_true, ho] at hp
    have h1 := hp.2
    simp only [Bool.and_eq_true] at h1
    obtain ⟨⟨g1, g2⟩, g3⟩ := h1
    refine ⟨by simpa using g1, fun j hj => ?_, fun e he => of_decide_eq_true (Array.all_eq_true_iff_forall_mem.1 g3 e he)⟩
    have := List.all_eq_true.1 g2 j (by simpa using hj)
    simpa using this
  have hsz : ∀ (i d : Nat), ds[i]? = some d → d < a0.tmps.size := by
    intro i d hd
    have hi : i < ds.length := (List.getElem?_eq_some_iff.1 hd).1
    unfold opsPlainT at hp
    rw [Bool.and_eq_true] at hp
    have h1 := List.all_eq_true.1 hp.1 i (by simpa using hi)
    rw [Array.getElem?_eq_getElem (by omega : i < ops.size)] at h1
    simp only [Bool.and_eq_true] at h1
    have h2 := List.all_eq_true.1 h1.2 d (List.mem_of_getElem? hd)
    exact of_decide_eq_true h2
  refine wp_region_any hm ?_
  have main : ∀ (fuel : Nat) (listed : Array Bool) (a : Act) (w : World), listed.size = ops.size → ((List.range ops.size).filter fun i => !listed.getD i true).length ≤ fuel → FrEq a0 ds a → Below w0.heap.size w0 w →
      (∀ (i d : Nat), ds[i]? = some d → listed.getD i false = true → F i (a.tmps.getD d undef) w) → listed.getD ds.length true = false → wpAny P .any ops Q fuel listed a w := by
    have hall : ∀ (listed : Array Bool), listed.size = ops.size → Region.ready .any ops listed = [] → ∀ i, i < ops.size → listed.getD i false = true := by
      intro listed hsz' hr i
      induction i using Nat.strongRecOn with
      | ind i ih =>
        intro hi
        cases hc : listed.getD i false
        · exfalso
          have hmem : i ∈ Region.ready .any ops listed := mem_ready.2 ⟨by
            simp [hsz', hi] at hc ⊢
            exact hc, _, Array.getElem?_eq_getElem hi, fun e he _ => by
              have hlt : e.on < i := by
                by_cases hid : i < ds.length
                · exact (hplain i _ hid (Array.getElem?_eq_getElem hi)).2.2.2 e he
                · have hie : i = ds.length := by omega
                  subst hie
                  exact (htail _ (Array.getElem?_eq_getElem hi)).2.2 e he
              exact ih e.on hlt (by omega)⟩
          rw [hr] at hmem
          cases hmem
        · rfl
    have hnr : ∀ (listed : Array Bool), listed.size = ops.size → listed.getD ds.length true = false → Region.ready .any ops listed ≠ [] := by
      intro listed hs ht hr
      have := hall listed hs hr ds.length (by omega)
      have hlt : ds.length < listed.size := by omega
      simp [hlt] at this ht
      rw [this] at ht
      cases ht
    have hcnt : ∀ (listed : Array Bool) (i : Nat), listed.size = ops.size → i < ops.size → listed.getD i true = false → ((List.range ops.size).filter fun j => !(listed.setIfInBounds i true).getD j true).length < ((List.range ops.size).filter fun j => !listed.getD j true).length := by
      intro listed i hs hlt h0
      have hsub : (List.range ops.size).filter (fun j => !(listed.setIfInBounds i true).getD j true) = ((List.range ops.size).filter fun j => !listed.getD j true).filter fun j => j != i := by
        rw [List.filter_filter]
        refine List.filter_congr fun j hj => ?_
        by_cases e : i = j
        · subst e
          simp [hs, hlt]
        · rw [getD_set_ne true e]
          have : (j != i) = true := by simpa using fun h => e h.symm
          rw [this]; simp
      rw [hsub]
      have hmem : i ∈ (List.range ops.size).filter fun j => !listed.getD j true := List.mem_filter.2 ⟨by simpa using hlt, by rw [h0]; rfl⟩
      exact List.length_filter_lt_length_iff_exists.2 ⟨i, hmem, by simp⟩
    intro fuel
    induction fuel with
    | zero =>
      intro listed a w hs hc hfr hb hf ht
      exfalso
      have hmem : ds.length ∈ (List.range ops.size).filter fun j => !listed.getD j true := List.mem_filter.2 ⟨by simp; omega, by rw [ht]; rfl⟩
      have := List.length_pos_of_mem hmem
      omega
    | succ fuel ih =>
      intro listed a w hs hc hfr hb hf ht
      refine ⟨fun hnil => absurd hnil (hnr listed hs ht), fun i hi => ?_⟩
      obtain ⟨h0, o, ho, hafter⟩ := mem_ready.1 hi
      have hlt : i < ops.size := (Array.getElem?_eq_some_iff.1 ho).1
      by_cases hid : i < ds.length
      · obtain ⟨hg, hdst, ⟨d, hd⟩, -⟩ := hplain i o hid ho
        unfold wpOp
        rw [ho]
        have hwant : Region.wanted o (yielded ops a.tmps) = true := by unfold Region.wanted; rw [hg]
        simp only [hwant, if_true]
        refine .inl (Oper.wp_mono ?_ (step i o a w hid ho hfr hb ?_))
        · rintro a' w' ⟨v, rfl, hbw, hv⟩
          rw [hdst, hd]
          refine ih _ _ _ (by simpa using hs) (by have := hcnt listed i hs hlt h0; omega) (hfr.put (List.mem_of_getElem? hd) v) (hb.trans (hbw.mono hb.size)) ?_ (by rw [getD_set_ne true (by omega)]; exact ht)
          intro j e hj hlj
          by_cases hji : i = j
          · subst hji
            rw [hd] at hj
            cases hj
            rw [put_at (by rw [hfr.size]; exact hsz _ _ hd)]
            exact hv
          · have hne : d ≠ e := fun h => by
              subst h
              exact hji ((List.getElem?_inj (List.getElem?_eq_some_iff.1 hd).1 hn).1 (hd.trans hj.symm))
            rw [put_far hne]
            refine hF _ _ _ _ hbw (hf j e hj ?_)
            rw [getD_set_ne false hji] at hlj
            exact hlj
        · intro j e hj he
          obtain ⟨ed, hed, rfl⟩ := List.mem_map.1 hj
          obtain ⟨hed1, hed2⟩ := List.mem_filter.1 hed
          exact hf _ _ he (hafter ed (by simpa using hed1) hed2)
      · have hie : i = ds.length := by omega
        subst hie
        obtain ⟨hg, hall', -⟩ := htail o ho
        unfold wpOp
        rw [ho]
        have hwant : Region.wanted o (yielded ops a.tmps) = true := by unfold Region.wanted; rw [hg]
        simp only [hwant, if_true]
        have hlist : ∀ j, j < ds.length → listed.getD j false = true := fun j hj => by
          obtain ⟨ed, hed, rfl⟩ := List.mem_map.1 (hall' j hj)
          obtain ⟨hed1, hed2⟩ := List.mem_filter.1 hed
          exact hafter ed (by simpa using hed1) hed2
        refine .inl (Oper.wp_mono ?_ (fin a w hfr hb (fun j d hd => hf j d hd (hlist j (List.getElem?_eq_some_iff.1 hd).1)) o ho))
        intro a' w' hQ
        have hnil : Region.ready .any ops (listed.setIfInBounds ds.length true) = [] := by
          cases hr : Region.ready .any ops (listed.setIfInBounds ds.length true) with
          | nil => rfl
          | cons j rs =>
            exfalso
            have hj : j ∈ Region.ready .any ops (listed.setIfInBounds ds.length true) := by rw [hr]; exact List.mem_cons_self ..
            obtain ⟨hj0, oj, hoj, -⟩ := mem_ready.1 hj
            have hjlt : j < ops.size := (Array.getElem?_eq_some_iff.1 hoj).1
            by_cases hjd : j < ds.length
            · rw [getD_set_ne true (by omega)] at hj0
              have h1 := hlist j hjd
              have hjl : j < listed.size := by omega
              simp [hjl] at h1 hj0
              rw [h1] at hj0
              cases hj0
            · have : j = ds.length := by omega
              subst this
              have hjl : ds.length < listed.size := by omega
              simp [hjl] at hj0
        cases fuel with
        | zero => exact ⟨hnil, hQ⟩
        | succ f => exact ⟨fun _ => hQ, fun j hj => by rw [hnil] at hj; cases hj⟩
  refine main _ _ _ _ (by simp) ?_ ⟨rfl, rfl, fun _ _ => rfl⟩ (Below.drew (Below.refl _ _)) (fun i d hd h => ?_) ?_
  · refine Nat.le_trans (List.length_filter_le _ _) (by simp)
  · rw [Array.getD_eq_getD_getElem?, Array.getElem?_replicate] at h
    split at h <;> cases h
  · rw [Array.getD_eq_getD_getElem?, Array.getElem?_replicate, if_pos (by omega)]; rfl

/-- What an operation's value is known to be; it stays so in later worlds. -/
structure RK where
  f : Value → World → Prop
  st : ∀ v w w', Below w.heap.size w w' → f v w → f v w'
def rEq (u : Value) : RK := ⟨fun v _ => v = u, fun _ _ _ _ h => h⟩
def rRow (zs : List Int) (n : Nat) : RK := ⟨fun v w => ∃ b, v = .slice (some ⟨b, 0, none⟩) n n ∧ IntRow w (some ⟨b, 0, none⟩) n zs, fun _ _ _ hb ⟨b, e, h⟩ => ⟨b, e, h.below hb⟩⟩
def rAny : RK := ⟨fun _ _ => True, fun _ _ _ _ _ => trivial⟩
def rkF (L : List RK) (i : Nat) (v : Value) (w : World) : Prop := (L.getD i rAny).f v w
/-- One operation does what is said of it. -/
def RStep (P : Program) (Q : Exit → Act → World → Prop) (a0 : Act) (w0 : World) (ds : List Nat) (L : List RK) (i : Nat) (o : Oper) : Prop :=
  ∀ (a : Act) (w : World), FrEq a0 ds a → Below w0.heap.size w0 w → (∀ j, j ∈ depsOf o → rkF L j (a.tmps.getD (ds.getD j 0) undef) w) →
    o.wp P a w (fun a' w' => ∃ v, a' = a.put o.dst v ∧ Below w.heap.size w w' ∧ rkF L i v w') Q
def RSteps (P : Program) (Q : Exit → Act → World → Prop) (a0 : Act) (w0 : World) (ds : List Nat) (L : List RK) : Nat → List Oper → Prop
  | _, [] => True
  | i, o :: r => RStep P Q a0 w0 ds L i o ∧ RSteps P Q a0 w0 ds L (i + 1) r
theorem rsteps_at {a0 : Act} {w0 : World} {ds : List Nat} {L : List RK} : ∀ {l : List Oper} {k i : Nat} {o : Oper}, RSteps P Q a0 w0 ds L k l → l[i]? = some o → RStep P Q a0 w0 ds L (k + i) o
  | [], _, _, _, _, h => by simp at h
  | o :: r, k, 0, o', h, ho => by
    simp at ho
    subst ho
    exact h.1
  | o :: r, k, i + 1, o', h, ho => by
    have := rsteps_at (i := i) h.2 (by simpa using ho)
    rwa [show k + 1 + i = k + (i + 1) by omega] at this
def RAll (ds : List Nat) (L : List RK) (a : Act) (w : World) : List Nat → Prop
  | [] => True
  | i :: r => rkF L i (a.tmps.getD (ds.getD i 0) undef) w ∧ RAll ds L a w r
theorem wp_region_rk {id : Nat} {a0 : Act} {w0 : World} (ds : List Nat) (L : List RK) (hm : P.follows .mixedOrders = true) (hp : opsPlain ops ds a0.tmps.size = true) (hn : ds.Nodup) (hl : ds.length = ops.size)
    (step : RSteps P Q a0 w0 ds L 0 ops.toList)
    (fin : ∀ a w, FrEq a0 ds a → Below w0.heap.size w0 w → (∀ i d, ds[i]? = some d → rkF L i (a.tmps.getD d undef) w) → Q .normal a w) :
    (Code.region id ops true).wp P Q a0 w0 := by
  refine wp_region_facts hm ds hp hn hl (rkF L) (fun i v w w' hb h => (L.getD i rAny).st v w w' hb h) (fun i o a w ho hfr hb hdep => ?_) fin
  have h := rsteps_at (i := i) step (by simpa using ho)
  rw [Nat.zero_add] at h
  refine h a w hfr hb fun j hj => ?_
  have hlt : j < ds.length := by
    have hi : i < ops.size := (Array.getElem?_eq_some_iff.1 ho).1
    have h1 := List.all_eq_true.1 hp i (by simpa using hi)
    rw [ho] at h1
    simp only [Bool.and_eq_true] at h1
    obtain ⟨ed, hed, rfl⟩ := List.mem_map.1 hj
    have := Array.all_eq_true_iff_forall_mem.1 h1.1.2 ed (by simpa using (List.mem_filter.1 hed).1)
    have := of_decide_eq_true this
    omega
  have hd : ds[j]? = some (ds.getD j 0) := by
    rw [List.getD_eq_getElem?_getD, List.getElem?_eq_getElem hlt]; rfl
  exact hdep j _ hj hd
/-- As wp_region_rk, where the last operation (a store) waits for all the others. -/
theorem wp_region_rkt {id : Nat} {a0 : Act} {w0 : World} (ds : List Nat) (L : List RK) (hm : P.follows .mixedOrders = true) (hp : opsPlainT ops ds a0.tmps.size = true) (hn : ds.Nodup) (hl : ds.length + 1 = ops.size)
    (step : RSteps P Q a0 w0 ds L 0 (ops.toList.take ds.length))
    (fin : ∀ a w, FrEq a0 ds a → Below w0.heap.size w0 w → (∀ i d, ds[i]? = some d → rkF L i (a.tmps.getD d undef) w) → ∀ o, ops[ds.length]? = some o → o.wp P a w (fun a' w' => Q .normal a' w') Q) :
    (Code.region id ops true).wp P Q a0 w0 := by
  refine wp_region_facts_tail hm ds hp hn hl (rkF L) (fun i v w w' hb h => (L.getD i rAny).st v w w' hb h) (fun i o a w hid ho hfr hb hdep => ?_) fin
  have h := rsteps_at (i := i) step (by rw [List.getElem?_take_of_lt hid]; simpa using ho)
  rw [Nat.zero_add] at h
  refine h a w hfr hb fun j hj => ?_
  have hlt : j < ds.length := by
    unfold opsPlainT at hp
    rw [Bool.and_eq_true] at hp
    have h1 := List.all_eq_true.1 hp.1 i (by simpa using hid)
    rw [ho] at h1
    simp only [Bool.and_eq_true] at h1
    obtain ⟨ed, hed, rfl⟩ := List.mem_map.1 hj
    have := Array.all_eq_true_iff_forall_mem.1 h1.1.2 ed (by simpa using (List.mem_filter.1 hed).1)
    have := of_decide_eq_true this
    omega
  have hd : ds[j]? = some (ds.getD j 0) := by
    rw [List.getD_eq_getElem?_getD, List.getElem?_eq_getElem hlt]; rfl
  exact hdep j _ hj hd
theorem rstep_eq {L : List RK} {i : Nat} {o : Oper} {a : Act} {w : World} {u : Value} (hr : (execOp a.eval o).run P w = .ok (.value u) w) (hL : L.getD i rAny = rEq u) :
    o.wp P a w (fun a' w' => ∃ v, a' = a.put o.dst v ∧ Below w.heap.size w w' ∧ rkF L i v w') Q := by
  unfold Oper.wp
  rw [hr]
  exact ⟨u, rfl, Below.refl _ _, by unfold rkF; rw [hL]; exact rfl⟩
theorem rstep_row {L : List RK} {i : Nat} {o : Oper} {a : Act} {w : World} {zs : List Int} {n : Nat} {t : TypeId} {cs : Array Value} (hcs : cs = (zs.map (Value.int .i64)).toArray) (hn : zs.length = n) (hr : (execOp a.eval o).run P w = .ok (.value (.slice (some ⟨w.heap.size, 0, none⟩) n n)) (w.alloc (.cells cs t))) (hL : L.getD i rAny = rRow zs n) :
    o.wp P a w (fun a' w' => ∃ v, a' = a.put o.dst v ∧ Below w.heap.size w w' ∧ rkF L i v w') Q := by
  unfold Oper.wp
  rw [hr]
  exact ⟨_, rfl, (Below.refl _ _).alloc (Nat.le_refl _) _, by unfold rkF; rw [hL]; exact ⟨_, rfl, intRow_new w zs t cs hcs hn⟩⟩
theorem rstep_call {L : List RK} {i : Nat} {o : Oper} {a : Act} {w : World} {f : FuncId} {args : Array Value} {u : Value} (hr : (execOp a.eval o).run P w = .ok (.enter f args) w) (hc : Calls P f args w fun e w' => e = .returned u ∧ Below w.heap.size w w') (hL : L.getD i rAny = rEq u) :
    o.wp P a w (fun a' w' => ∃ v, a' = a.put o.dst v ∧ Below w.heap.size w w' ∧ rkF L i v w') Q := by
  unfold Oper.wp
  rw [hr]
  refine Calls.mono hc ?_
  rintro e w' ⟨rfl, hb⟩
  exact ⟨u, rfl, hb, by unfold rkF; rw [hL]; exact rfl⟩
def rSum (x : Int) : RK := ⟨fun v w => ∃ (A : Option Addr) (m c : Nat) (zs : List Int), v = .slice A m c ∧ IntRow w A m zs ∧ m ≤ 1000 ∧ sumL id zs = x, fun _ _ _ hb ⟨A, m, c, zs, e, h, hm, hs⟩ => ⟨A, m, c, zs, e, h.below hb, hm, hs⟩⟩
theorem rstep_sum {L : List RK} {i : Nat} {o : Oper} {a : Act} {w : World} {f : FuncId} {args : Array Value} {x : Int} (hr : (execOp a.eval o).run P w = .ok (.enter f args) w) (hc : Calls P f args w fun e w' => ∃ (A : Option Addr) (m c : Nat) (zs : List Int), e = .returned (.slice A m c) ∧ IntRow w' A m zs ∧ m ≤ 1000 ∧ sumL id zs = x ∧ Below w.heap.size w w') (hL : L.getD i rAny = rSum x) :
    o.wp P a w (fun a' w' => ∃ v, a' = a.put o.dst v ∧ Below w.heap.size w w' ∧ rkF L i v w') Q := by
  unfold Oper.wp
  rw [hr]
  refine Calls.mono hc ?_
  rintro e w' ⟨A, m, c, zs, rfl, hrow, hm, hs, hb⟩
  exact ⟨_, rfl, hb, by unfold rkF; rw [hL]; exact ⟨A, m, c, zs, rfl, hrow, hm, hs⟩⟩
end
end Go.Proofs.Ytablphoicidlkaa
