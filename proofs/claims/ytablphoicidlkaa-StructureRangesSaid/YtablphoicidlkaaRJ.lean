/- Regions that draw their order, lay fresh fractions and store into them: several pointers, kept apart. -/
import Derived.Test.YtablphoicidlkaaRI
import Derived.Test.YtablphoicidlkaaRH
namespace Go.Proofs.Ytablphoicidlkaa
open Go.RowKit
variable {P : Program} {ops : Array Oper} {Q : Exit → Act → World → Prop}
theorem wp_region_inv {id : Nat} {a0 : Act} {w0 : World} (hm : P.follows .mixedOrders = true)
    (hp : ∀ (i : Nat) (o : Oper), ops[i]? = some o → o.guard = none ∧ ∀ e ∈ o.after, Region.binds .any e = true → e.on < i)
    (Inv : (Nat → Bool) → Act → World → Prop) (h0 : ∀ w, Below w0.heap.size w0 w → Inv (fun _ => false) a0 w)
    (step : ∀ (D : Nat → Bool) (i : Nat) (o : Oper) (a : Act) (w : World), ops[i]? = some o → D i = false → (∀ j, j ∈ depsOf o → D j = true) → (∀ k ok, ops[k]? = some ok → D k = true → ∀ j, j ∈ depsOf ok → D j = true) → Inv D a w →
      o.wp P a w (fun a' w' => Inv (addD D i) a' w') Q)
    (fin : ∀ (D : Nat → Bool) (a : Act) (w : World), (∀ i, i < ops.size → D i = true) → Inv D a w → Q .normal a w) :
    (Code.region id ops true).wp P Q a0 w0 := by
  refine wp_region_any hm ?_
  have main : ∀ (fuel : Nat) (listed : Array Bool) (a : Act) (w : World), listed.size = ops.size → ((List.range ops.size).filter fun i => !listed.getD i true).length ≤ fuel →
      (∀ k ok, ops[k]? = some ok → listed.getD k false = true → ∀ j, j ∈ depsOf ok → listed.getD j false = true) → Inv (fun k => listed.getD k false) a w → wpAny P .any ops Q fuel listed a w := by
    have hall : ∀ (listed : Array Bool), listed.size = ops.size → Region.ready .any ops listed = [] → ∀ i, i < ops.size → listed.getD i false = true := by
      intro listed hsz' hr i
      induction i using Nat.strongRecOn with
      | ind i ih =>
        intro hi
        cases hc : listed.getD i false
        · exfalso
          have hmem : i ∈ Region.ready .any ops listed := mem_ready.2 ⟨by
            simp [hsz', hi] at hc ⊢
            exact hc, _, Array.getElem?_eq_getElem hi, fun e he hbd => by
              have hlt := (hp i _ (Array.getElem?_eq_getElem hi)).2 e he hbd
              exact ih e.on hlt (by omega)⟩
          rw [hr] at hmem
          cases hmem
        · rfl
    intro fuel
    induction fuel with
    | zero =>
      intro listed a w hs hc hcl hI
      have hnil : Region.ready .any ops listed = [] := by
        cases hr : Region.ready .any ops listed with
        | nil => rfl
        | cons i rs =>
          exfalso
          have hi : i ∈ Region.ready .any ops listed := by rw [hr]; exact List.mem_cons_self ..
          obtain ⟨h0, o, ho, -⟩ := mem_ready.1 hi
          have hlt : i < ops.size := (Array.getElem?_eq_some_iff.1 ho).1
          have : i ∈ (List.range ops.size).filter fun i => !listed.getD i true := List.mem_filter.2 ⟨by simpa using hlt, by rw [h0]; rfl⟩
          have := List.length_pos_of_mem this
          omega
      exact ⟨hnil, fin _ a w (hall listed hs hnil) hI⟩
    | succ fuel ih =>
      intro listed a w hs hc hcl hI
      refine ⟨fun hnil => fin _ a w (hall listed hs hnil) hI, fun i hi => ?_⟩
      obtain ⟨h0, o, ho, hafter⟩ := mem_ready.1 hi
      have hlt : i < ops.size := (Array.getElem?_eq_some_iff.1 ho).1
      obtain ⟨hg, -⟩ := hp i o ho
      unfold wpOp
      rw [ho]
      have hwant : Region.wanted o (yielded ops a.tmps) = true := by unfold Region.wanted; rw [hg]
      simp only [hwant, if_true]
      have hlen : ((List.range ops.size).filter fun j => !(listed.setIfInBounds i true).getD j true).length < ((List.range ops.size).filter fun j => !listed.getD j true).length := by
        have hsub : (List.range ops.size).filter (fun j => !(listed.setIfInBounds i true).getD j true) = ((List.range ops.size).filter fun j => !listed.getD j true).filter fun j => j != i := by
          rw [List.filter_filter]
          refine List.filter_congr fun j hj => ?_
          by_cases e : i = j
          · subst e
            simp [hs, hlt]
          · rw [getD_set_ne true e]
            have : (j != i) = true := by simpa using fun h => e h.symm
            rw [this]; simp
        rw [hsub]
        have hmem : i ∈ (List.range ops.size).filter fun j => !listed.getD j true := List.mem_filter.2 ⟨by simpa using hlt, by rw [h0]; rfl⟩
        refine List.length_filter_lt_length_iff_exists.2 ⟨i, hmem, by simp⟩
      have hil : i < listed.size := by omega
      have hi0 : listed.getD i false = false := by simpa [hil] using h0
      have hdeps : ∀ j, j ∈ depsOf o → listed.getD j false = true := fun j hj => by
        obtain ⟨ed, hed, rfl⟩ := List.mem_map.1 hj
        obtain ⟨hed1, hed2⟩ := List.mem_filter.1 hed
        exact hafter ed (by simpa using hed1) hed2
      have hset : ∀ k, (listed.setIfInBounds i true).getD k false = addD (fun k => listed.getD k false) i k := fun k => by
        unfold addD
        by_cases e : i = k
        · subst e; simp [hil]
        · rw [getD_set_ne false e, decide_eq_false (fun h => e h.symm), Bool.false_or]
      have hcl' : ∀ k ok, ops[k]? = some ok → (listed.setIfInBounds i true).getD k false = true → ∀ j, j ∈ depsOf ok → (listed.setIfInBounds i true).getD j false = true := fun k ok hk hkl j hj => by
        rw [hset] at hkl ⊢
        unfold addD at hkl ⊢
        have hjd : listed.getD j false = true := by
          by_cases e : k = i
          · subst e
            rw [ho] at hk
            cases hk
            exact hdeps j hj
          · rw [decide_eq_false e, Bool.false_or] at hkl
            exact hcl k ok hk hkl j hj
        show (decide (j = i) || listed.getD j false) = true
        rw [hjd, Bool.or_true]
      refine .inl (Oper.wp_mono ?_ (step _ i o a w ho hi0 hdeps hcl hI))
      intro a' w' hI'
      refine ih _ _ _ (by simpa using hs) (by omega) hcl' ?_
      rw [show (fun k => (listed.setIfInBounds i true).getD k false) = addD (fun k => listed.getD k false) i from funext hset]
      exact hI'
  refine main _ _ _ _ (by simp) ?_ (fun k ok _ h => ?_) ?_
  · refine Nat.le_trans (List.length_filter_le _ _) (by simp)
  · rw [Array.getD_eq_getD_getElem?, Array.getElem?_replicate] at h
    split at h <;> cases h
  · rw [show (fun k => (Array.replicate ops.size false).getD k false) = fun _ => false from funext fun k => by
      rw [Array.getD_eq_getD_getElem?, Array.getElem?_replicate]
      split <;> rfl]
    exact h0 _ (Below.drew (Below.refl _ _))

/-- A fraction that a region lays: its pointer's operation, the store, what is stored. -/
structure PtrS where
  p : Nat
  s : Nat
  nn : Int
  de : Int
def PInv (ds : List Nat) (w0 : World) (PS : List PtrS) (D : Nat → Bool) (a : Act) (w : World) : Prop :=
  ∃ blk : Nat → Nat, (∀ q ∈ PS, D q.p = true → a.tmps.getD (ds.getD q.p 0) undef = .pointer (some ⟨blk q.p, 0, none⟩) ∧ w0.heap.size ≤ blk q.p ∧ blk q.p < w.heap.size ∧ w.frozen? ⟨blk q.p, 0, none⟩ = false ∧ w.frozen? ⟨blk q.p, 1, none⟩ = false ∧ w.cell? ⟨blk q.p, 0, none⟩ = some (.int .i64 (bif D q.s then q.nn else 0)) ∧ w.cell? ⟨blk q.p, 1, none⟩ = some (.int .i64 (bif D q.s then q.de else 0))) ∧
    (∀ q ∈ PS, ∀ q' ∈ PS, q.p ≠ q'.p → D q.p = true → D q'.p = true → blk q.p ≠ blk q'.p)
def anyS (PS : List PtrS) (D : Nat → Bool) : Bool := PS.any fun q => D q.s
def psOk (ops : Array Oper) (PS : List PtrS) (L0 L1 : List RK) : Prop :=
  (∀ i, i < ops.size → stores ops i = true → ∃ q ∈ PS, q.s = i) ∧
  (∀ q ∈ PS, stores ops q.s = true ∧ stores ops q.p = false ∧ q.p < ops.size) ∧
  (∀ q ∈ PS, ∀ q' ∈ PS, q.p = q'.p ∨ q.s = q'.s → q = q') ∧
  (∀ q ∈ PS, ∀ o, ops[q.s]? = some o → q.p ∈ depsOf o) ∧
  (∀ q ∈ PS, L0.getD q.p rAny = rAny ∧ L1.getD q.p rAny = rAny ∧ L1.getD q.s rAny = rAny)
theorem anyS_congr {D D' : Nat → Bool} : ∀ {PS : List PtrS}, (∀ q ∈ PS, D q.s = D' q.s) → anyS PS D = anyS PS D'
  | [], _ => rfl
  | q :: r, h => by
    have h1 := h q (List.mem_cons_self ..)
    have h2 := anyS_congr (PS := r) fun x hx => h x (List.mem_cons_of_mem _ hx)
    show (D q.s || anyS r D) = (D' q.s || anyS r D')
    rw [h1, h2]
theorem frozen_set {w : World} {p q : Addr} {v : Value} : (w.setCell p v).frozen? q = w.frozen? q := by simp
theorem wp_region_ptrs {id : Nat} {a0 : Act} {w0 : World} {t : TypeId} (ds : List Nat) (PS : List PtrS) (L0 L1 : List RK) (ex0 ex1 : List Nat) (hm : P.follows .mixedOrders = true) (hp : opsPlainS ops ds a0.tmps.size = true) (hn : ds.Nodup) (hl : ds.length = ops.size)
    (hPS : psOk ops PS L0 L1)
    (h0 : ∀ i o, ops[i]? = some o → ex0.contains i = true → (∃ q ∈ PS, q.p = i ∨ q.s = i) ∨ ∃ q ∈ PS, q.s ∈ depsOf o)
    (h1 : ∀ i, i < ops.size → ex1.contains i = true → (∃ q ∈ PS, q.p = i ∨ q.s = i) ∨ ∀ q ∈ PS, ∀ os, ops[q.s]? = some os → i ∈ depsOf os)
    (hmono : ∀ j v w w', rkF L0 j v w → rkF L1 j v w') (hpure : ∀ j v w w', rkF L1 j v w → rkF L1 j v w')
    (step0 : RStepsX P Q a0 w0 ds L0 ex0 0 ops.toList) (step1 : RStepsX P Q a0 w0 ds L1 ex1 0 ops.toList)
    (alloc : ∀ q ∈ PS, ∀ (o : Oper) (a : Act) (w : World), ops[q.p]? = some o → (execOp a.eval o).run P w = .ok (.value (.pointer (some ⟨w.heap.size, 0, none⟩))) (w.alloc (.cells #[.int .i64 0, .int .i64 0] t)))
    (stor : ∀ q ∈ PS, ∀ (o : Oper) (a : Act) (w : World) (b : Nat), ops[q.s]? = some o → FrEq a0 ds a → a.tmps.getD (ds.getD q.p 0) undef = .pointer (some ⟨b, 0, none⟩) → w.frozen? ⟨b, 0, none⟩ = false → w.frozen? ⟨b, 1, none⟩ = false → w.cell? ⟨b, 0, none⟩ = some (.int .i64 0) → w.cell? ⟨b, 1, none⟩ = some (.int .i64 0) → (∀ j, j ∈ depsOf o → rkF L1 j (a.tmps.getD (ds.getD j 0) undef) w) →
      o.wp P a w (fun a' w' => a' = a ∧ w' = (w.setCell ⟨b, 0, none⟩ (.int .i64 q.nn)).setCell ⟨b, 1, none⟩ (.int .i64 q.de)) Q)
    (fin : ∀ a w, FrEq a0 ds a → Below w0.heap.size w0 w → (∀ i d, ds[i]? = some d → rkF L1 i (a.tmps.getD d undef) w) → PInv ds w0 PS (fun _ => true) a w → Q .normal a w) (hne : PS ≠ []) :
    (Code.region id ops true).wp P Q a0 w0 := by
  obtain ⟨k1, k2, k3, k4, k5⟩ := hPS
  have hplain : ∀ (i : Nat) (o : Oper), ops[i]? = some o → o.guard = none ∧ (o.dst = ds[i]? ∨ o.dst = none) ∧ (∃ d, ds[i]? = some d) ∧ (∀ e ∈ o.after, Region.binds .any e = true → e.on < i) := by
    intro i o ho
    have hi : i < ops.size := (Array.getElem?_eq_some_iff.1 ho).1
    have h1 := List.all_eq_true.1 hp i (by simpa using hi)
    rw [ho] at h1
    simp only [Bool.and_eq_true] at h1
    obtain ⟨⟨⟨⟨g1, g2⟩, g3⟩, g4⟩, g5⟩ := h1
    refine ⟨by simpa using g1, by simpa using g2, Option.isSome_iff_exists.1 g3, fun e he hbd => ?_⟩
    have := Array.all_eq_true_iff_forall_mem.1 g4 e he
    rw [hbd] at this
    simpa using this
  have hsz : ∀ (i d : Nat), ds[i]? = some d → d < a0.tmps.size := by
    intro i d hd
    have hi : i < ops.size := by have := (List.getElem?_eq_some_iff.1 hd).1; omega
    have h1 := List.all_eq_true.1 hp i (by simpa using hi)
    rw [Array.getElem?_eq_getElem hi] at h1
    simp only [Bool.and_eq_true] at h1
    have h2 := List.all_eq_true.1 h1.2 d (List.mem_of_getElem? hd)
    exact of_decide_eq_true h2
  have hget : ∀ j, j < ops.size → ds[j]? = some (ds.getD j 0) := fun j hj => by
    rw [List.getD_eq_getElem?_getD, List.getElem?_eq_getElem (by omega)]; rfl
  have hdl : ∀ (i : Nat) (o : Oper), ops[i]? = some o → ∀ j, j ∈ depsOf o → j < i := fun i o ho j hj => by
    obtain ⟨ed, hed, rfl⟩ := List.mem_map.1 hj
    exact (hplain i o ho).2.2.2 ed (by simpa using (List.mem_filter.1 hed).1) (List.mem_filter.1 hed).2
  have hdne : ∀ i j, i < ops.size → j < ops.size → i ≠ j → ds.getD i 0 ≠ ds.getD j 0 := fun i j hi hj hne e => by
    have e1 := hget i hi
    have e2 := hget j hj
    rw [e] at e1
    exact hne ((List.getElem?_inj (by omega) hn).1 (e1.trans e2.symm))
  have hany : ∀ D i, stores ops i = false → anyS PS (addD D i) = anyS PS D := fun D i hs => by
    refine anyS_congr fun q hq => ?_
    unfold addD
    rw [decide_eq_false (fun e => by have := (k2 q hq).1; rw [e, hs] at this; cases this), Bool.false_or]
  refine wp_region_inv hm (fun i o ho => ⟨(hplain i o ho).1, (hplain i o ho).2.2.2⟩)
    (fun D a w => FrEq a0 ds a ∧ Below w0.heap.size w0 w ∧ (∀ j d, D j = true → ds[j]? = some d → rkF (bif anyS PS D then L1 else L0) j (a.tmps.getD d undef) w) ∧ PInv ds w0 PS D a w)
    (fun w hw => ⟨⟨rfl, rfl, fun _ _ => rfl⟩, hw, (fun _ _ h => by cases h), (fun _ => 0), (fun _ _ h => by cases h), (fun _ _ _ _ _ h => by cases h)⟩) ?_ ?_
  · rintro D i o a w ho hDi hdeps hcl ⟨hfr, hb, hf, blk, hq1, hq2⟩
    have hi : i < ops.size := (Array.getElem?_eq_some_iff.1 ho).1
    by_cases hns : stores ops i = true
    · obtain ⟨q, hq, rfl⟩ := k1 i hi hns
      have hDp := hdeps _ (k4 q hq o ho)
      obtain ⟨e0, e1, e2, e3, e4, e5, e6⟩ := hq1 q hq hDp
      rw [hDi, cond_false] at e5 e6
      have hL1 : ∀ j d, D j = true → ds[j]? = some d → ∀ w', rkF L1 j (a.tmps.getD d undef) w' := fun j d hj hd w' => by
        have := hf j d hj hd
        cases hA : anyS PS D
        · rw [hA, cond_false] at this; exact hmono _ _ _ _ this
        · rw [hA, cond_true] at this; exact hpure _ _ _ _ this
      refine Oper.wp_mono ?_ (stor q hq o a w (blk q.p) ho hfr e0 e3 e4 e5 e6 fun j hj => hL1 j _ (hdeps j hj) (hget j (by have := hdl _ o ho j hj; omega)) w)
      rintro a' w' ⟨rfl, rfl⟩
      have hA : anyS PS (addD D q.s) = true := List.any_eq_true.2 ⟨q, hq, by unfold addD; rw [decide_eq_true rfl]; rfl⟩
      refine ⟨hfr, (hb.setCell e1 _).setCell e1 _, fun j d hj hd => ?_, blk, fun q' hq' hDq' => ?_, fun q' hq' q'' hq'' hne' h1' h2' => ?_⟩
      · rw [hA, cond_true]
        by_cases e : j = q.s
        · subst e
          unfold rkF
          rw [(k5 q hq).2.2]
          exact trivial
        · unfold addD at hj
          rw [decide_eq_false e, Bool.false_or] at hj
          exact hL1 j d hj hd _
      · have hps : q'.p ≠ q.s := fun e => by have := (k2 q' hq').2.1; rw [e, hns] at this; cases this
        have hDq : D q'.p = true := by unfold addD at hDq'; rwa [decide_eq_false hps, Bool.false_or] at hDq'
        obtain ⟨f0, f1, f2, f3, f4, f5, f6⟩ := hq1 q' hq' hDq
        refine ⟨f0, f1, by simpa using f2, by rw [frozen_set, frozen_set]; exact f3, by rw [frozen_set, frozen_set]; exact f4, ?_, ?_⟩
        · by_cases e : q'.s = q.s
          · have := k3 q' hq' q hq (.inr e)
            subst this
            have h1 : addD D q'.s q'.s = true := by unfold addD; rw [decide_eq_true rfl]; rfl
            rw [h1, cond_true]
            exact (World.cell?_setCell_other _ _ _ _ (by simp)).trans (World.cell?_setCell_same _ _ _ e5)
          · have hpp : q'.p ≠ q.p := fun h => by have := k3 q' hq' q hq (.inl h); subst this; exact e rfl
            have hbb := hq2 q' hq' q hq hpp hDq hDp
            have h1 : addD D q.s q'.s = D q'.s := by unfold addD; rw [decide_eq_false e, Bool.false_or]
            rw [h1]
            exact (World.cell?_setCell_other _ _ _ _ (by simp)).trans ((World.cell?_setCell_other _ _ _ _ (by simp)).trans f5)
        · by_cases e : q'.s = q.s
          · have := k3 q' hq' q hq (.inr e)
            subst this
            have h1 : addD D q'.s q'.s = true := by unfold addD; rw [decide_eq_true rfl]; rfl
            rw [h1, cond_true]
            exact World.cell?_setCell_same _ _ _ ((World.cell?_setCell_other _ _ _ _ (by simp)).trans e6)
          · have hpp : q'.p ≠ q.p := fun h => by have := k3 q' hq' q hq (.inl h); subst this; exact e rfl
            have hbb := hq2 q' hq' q hq hpp hDq hDp
            have h1 : addD D q.s q'.s = D q'.s := by unfold addD; rw [decide_eq_false e, Bool.false_or]
            rw [h1]
            exact (World.cell?_setCell_other _ _ _ _ (by simp)).trans ((World.cell?_setCell_other _ _ _ _ (by simp)).trans f6)
      · have hx : ∀ x ∈ PS, addD D q.s x.p = true → D x.p = true := fun x hx h => by
          unfold addD at h
          rwa [decide_eq_false (fun e => by have := (k2 x hx).2.1; rw [e, hns] at this; cases this), Bool.false_or] at h
        exact hq2 q' hq' q'' hq'' hne' (hx q' hq' h1') (hx q'' hq'' h2')
    · have hns' : stores ops i = false := by simpa using hns
      have hdst : o.dst = some (ds.getD i 0) := by
        have h2 := (hplain i o ho).2.1
        rcases h2 with h2 | h2
        · rw [h2]; exact hget i hi
        · unfold stores at hns'
          rw [ho] at hns'
          simp [h2] at hns'
      -- what stays, whatever is put into the operation's slot
      have keep : ∀ v w', Below w.heap.size w w' → rkF (bif anyS PS D then L1 else L0) i v w' → ((∃ q ∈ PS, q.p = i) → v = .pointer (some ⟨w.heap.size, 0, none⟩) ∧ w.heap.size < w'.heap.size ∧ w'.frozen? ⟨w.heap.size, 0, none⟩ = false ∧ w'.frozen? ⟨w.heap.size, 1, none⟩ = false ∧ w'.cell? ⟨w.heap.size, 0, none⟩ = some (.int .i64 0) ∧ w'.cell? ⟨w.heap.size, 1, none⟩ = some (.int .i64 0)) →
          (FrEq a0 ds (a.put o.dst v) ∧ Below w0.heap.size w0 w' ∧ (∀ j d, addD D i j = true → ds[j]? = some d → rkF (bif anyS PS (addD D i) then L1 else L0) j ((a.put o.dst v).tmps.getD d undef) w') ∧ PInv ds w0 PS (addD D i) (a.put o.dst v) w') := by
        intro v w' hbw hv hptr
        rw [hdst, hany D i hns']
        refine ⟨hfr.put (List.mem_of_getElem? (hget i hi)) v, hb.trans (hbw.mono hb.size), fun j d hj hd => ?_, fun k => if k = i then w.heap.size else blk k, fun q hq hDq => ?_, fun q hq q' hq' hne' h1' h2' => ?_⟩
        · by_cases e : j = i
          · subst e
            rw [hget j hi] at hd
            cases hd
            rw [put_at (by rw [hfr.size]; exact hsz _ _ (hget j hi))]
            exact hv
          · have hjl : j < ops.size := by have := (List.getElem?_eq_some_iff.1 hd).1; omega
            have hdj := hget j hjl
            rw [hdj] at hd
            cases hd
            rw [put_far (hdne i j hi hjl (fun h => e h.symm))]
            unfold addD at hj
            rw [decide_eq_false e, Bool.false_or] at hj
            exact RK.st _ _ _ _ hbw (hf j _ hj hdj)
        · have hss : addD D i q.s = D q.s := by
            unfold addD
            rw [decide_eq_false (fun e => by have := (k2 q hq).1; rw [e, hns'] at this; cases this), Bool.false_or]
          rw [hss]
          by_cases e : q.p = i
          · obtain ⟨p0, p1, p2, p3, p4, p5⟩ := hptr ⟨q, hq, e⟩
            have hDs : D q.s = false := by
              cases hc : D q.s
              · rfl
              · obtain ⟨os, hos⟩ : ∃ os, ops[q.s]? = some os := ⟨_, Array.getElem?_eq_getElem (stores_lt (k2 q hq).1)⟩
                have := hcl q.s os hos hc q.p (k4 q hq os hos)
                rw [e, hDi] at this
                cases this
            rw [hDs, cond_false, cond_false]
            simp only [e, if_true]
            rw [put_at (by rw [hfr.size]; exact hsz _ _ (hget i hi))]
            exact ⟨p0, hb.size, p1, p2, p3, p4, p5⟩
          · have hDp : D q.p = true := by unfold addD at hDq; rwa [decide_eq_false e, Bool.false_or] at hDq
            obtain ⟨f0, f1, f2, f3, f4, f5, f6⟩ := hq1 q hq hDp
            simp only [e, if_false]
            rw [put_far (hdne i q.p hi (k2 q hq).2.2 (fun h => e h.symm))]
            exact ⟨f0, f1, Nat.lt_of_lt_of_le f2 hbw.size, ((bcell hbw).2 _ _ f2).trans f3, ((bcell hbw).2 _ _ f2).trans f4, ((bcell hbw).1 _ _ f2).trans f5, ((bcell hbw).1 _ _ f2).trans f6⟩
        · have hx : ∀ x ∈ PS, x.p ≠ i → addD D i x.p = true → D x.p = true := fun x hx hne h => by
            unfold addD at h
            rwa [decide_eq_false hne, Bool.false_or] at h
          show (if q.p = i then w.heap.size else blk q.p) ≠ (if q'.p = i then w.heap.size else blk q'.p)
          by_cases e : q.p = i
          · by_cases e' : q'.p = i
            · exact absurd (e.trans e'.symm) hne'
            · have := (hq1 q' hq' (hx q' hq' e' h2')).2.2.1
              rw [if_pos e, if_neg e']
              omega
          · by_cases e' : q'.p = i
            · have := (hq1 q hq (hx q hq e h1')).2.2.1
              rw [if_neg e, if_pos e']
              omega
            · rw [if_neg e, if_neg e']
              exact hq2 q hq q' hq' hne' (hx q hq e h1') (hx q' hq' e' h2')
      by_cases hptr : ∃ q ∈ PS, q.p = i
      · obtain ⟨q, hq, rfl⟩ := hptr
        have hr := alloc q hq o a w ho
        unfold Oper.wp
        rw [hr]
        refine keep _ _ ((Below.refl _ _).alloc (Nat.le_refl _) _) ?_ (fun _ => ⟨rfl, by simp, by simp [go_sem], by simp [go_sem], by simp [go_sem], by simp [go_sem]⟩)
        unfold rkF
        cases anyS PS D
        · rw [cond_false, (k5 q hq).1]; exact trivial
        · rw [cond_true, (k5 q hq).2.1]; exact trivial
      · have hnp : ¬ ∃ q ∈ PS, q.p = i ∨ q.s = i := by
          rintro ⟨q, hq, e | e⟩
          · exact hptr ⟨q, hq, e⟩
          · have := (k2 q hq).1
            rw [e, hns'] at this
            cases this
        cases hA : anyS PS D
        · have he : ex0.contains i = false := by
            cases hc : ex0.contains i
            · rfl
            · rcases h0 i o ho hc with h | ⟨q, hq, hd⟩
              · exact absurd h hnp
              · have : anyS PS D = true := List.any_eq_true.2 ⟨q, hq, hdeps _ hd⟩
                rw [hA] at this
                cases this
          have h := rstepsx_at (i := i) (o := o) step0 (by simpa using ho) (by rw [Nat.zero_add]; exact he)
          rw [Nat.zero_add] at h
          refine Oper.wp_mono ?_ (h a w hfr hb fun j hj => ?_)
          · rintro a' w' ⟨v, rfl, hbw, hv⟩
            exact keep v w' hbw (by rw [hA, cond_false]; exact hv) (fun hx => absurd hx hptr)
          · have := hf j _ (hdeps j hj) (hget j (by have := hdl i o ho j hj; omega))
            rw [hA, cond_false] at this
            exact this
        · have he : ex1.contains i = false := by
            cases hc : ex1.contains i
            · rfl
            · rcases h1 i hi hc with h | h
              · exact absurd h hnp
              · obtain ⟨q, hq, hd⟩ := List.any_eq_true.1 hA
                obtain ⟨os, hos⟩ : ∃ os, ops[q.s]? = some os := ⟨_, Array.getElem?_eq_getElem (stores_lt (k2 q hq).1)⟩
                have := hcl q.s os hos hd i (h q hq os hos)
                rw [hDi] at this
                cases this
          have h := rstepsx_at (i := i) (o := o) step1 (by simpa using ho) (by rw [Nat.zero_add]; exact he)
          rw [Nat.zero_add] at h
          refine Oper.wp_mono ?_ (h a w hfr hb fun j hj => ?_)
          · rintro a' w' ⟨v, rfl, hbw, hv⟩
            exact keep v w' hbw (by rw [hA, cond_true]; exact hv) (fun hx => absurd hx hptr)
          · have := hf j _ (hdeps j hj) (hget j (by have := hdl i o ho j hj; omega))
            rw [hA, cond_true] at this
            exact this
  · rintro D a w hall ⟨hfr, hb, hf, blk, hq1, hq2⟩
    have hA : anyS PS D = true := by
      cases PS with
      | nil => exact absurd rfl hne
      | cons q r => exact List.any_eq_true.2 ⟨q, List.mem_cons_self .., hall _ (stores_lt (k2 q (List.mem_cons_self ..)).1)⟩
    refine fin a w hfr hb (fun i d hd => ?_) ⟨blk, fun q hq _ => ?_, fun q hq q' hq' hne' _ _ => hq2 q hq q' hq' hne' (hall _ (k2 q hq).2.2) (hall _ (k2 q' hq').2.2)⟩
    · have := hf i d (hall i (by have := (List.getElem?_eq_some_iff.1 hd).1; omega)) hd
      rw [hA, cond_true] at this
      exact this
    · have := hq1 q hq (hall _ (k2 q hq).2.2)
      rw [hall _ (stores_lt (k2 q hq).1)] at this
      exact this
end Go.Proofs.Ytablphoicidlkaa
