/- Regions that draw their order, lay fresh structs of two cells and store into them, where what is stored is told by a property. -/
import Derived.Test.YtablphoicidlkaaRJ
namespace Go.Proofs.Ytablphoicidlkaa
open Go.RowKit
variable {P : Program} {ops : Array Oper} {Q : Exit → Act → World → Prop}
def set2 (w : World) (b : Nat) (x0 x1 : Value) : World := (w.setCell ⟨b, 0, none⟩ x0).setCell ⟨b, 1, none⟩ x1
/-- A struct of two cells that a region lays: its pointer's operation, the store, what is said of the cells behind it. -/
structure PtrG where
  p : Nat
  s : Nat
  X : Value → Value → World → Prop
def PInvG (ds : List Nat) (w0 : World) (z0 z1 : Value) (PS : List PtrG) (D : Nat → Bool) (a : Act) (w : World) : Prop :=
  ∃ blk : Nat → Nat, (∀ q ∈ PS, D q.p = true → a.tmps.getD (ds.getD q.p 0) undef = .pointer (some ⟨blk q.p, 0, none⟩) ∧ w0.heap.size ≤ blk q.p ∧ blk q.p < w.heap.size ∧ w.frozen? ⟨blk q.p, 0, none⟩ = false ∧ w.frozen? ⟨blk q.p, 1, none⟩ = false ∧ ∃ y0 y1, w.cell? ⟨blk q.p, 0, none⟩ = some y0 ∧ w.cell? ⟨blk q.p, 1, none⟩ = some y1 ∧ (D q.s = false → y0 = z0 ∧ y1 = z1) ∧ (D q.s = true → q.X y0 y1 w)) ∧
    (∀ q ∈ PS, ∀ q' ∈ PS, q.p ≠ q'.p → D q.p = true → D q'.p = true → blk q.p ≠ blk q'.p)
def psOkG (ops : Array Oper) (PS : List PtrG) (L : List RK) : Prop :=
  (∀ i, i < ops.size → stores ops i = true → ∃ q ∈ PS, q.s = i) ∧
  (∀ q ∈ PS, stores ops q.s = true ∧ stores ops q.p = false ∧ q.p < ops.size) ∧
  (∀ q ∈ PS, ∀ q' ∈ PS, q.p = q'.p ∨ q.s = q'.s → q = q') ∧
  (∀ q ∈ PS, ∀ o, ops[q.s]? = some o → q.p ∈ depsOf o) ∧
  (∀ q ∈ PS, L.getD q.p rAny = rAny ∧ L.getD q.s rAny = rAny)
theorem wp_region_ptrsG {id : Nat} {a0 : Act} {w0 : World} {t : TypeId} {z0 z1 : Value} (ds : List Nat) (PS : List PtrG) (L : List RK) (ex : List Nat) (hm : P.follows .mixedOrders = true) (hp : opsPlainS ops ds a0.tmps.size = true) (hn : ds.Nodup) (hl : ds.length = ops.size)
    (hPS : psOkG ops PS L)
    (h0 : ∀ i, ex.contains i = true → ∃ q ∈ PS, q.p = i ∨ q.s = i)
    (hst : ∀ j v w b x0 x1, w0.heap.size ≤ b → w.cell? ⟨b, 0, none⟩ = some z0 → rkF L j v w → rkF L j v (set2 w b x0 x1))
    (hX : ∀ q ∈ PS, ∀ y0 y1 w w', Below w.heap.size w w' → q.X y0 y1 w → q.X y0 y1 w')
    (hXs : ∀ q ∈ PS, ∀ y0 y1 w b x0 x1, w.cell? ⟨b, 0, none⟩ = some z0 → q.X y0 y1 w → q.X y0 y1 (set2 w b x0 x1))
    (step : RStepsX P Q a0 w0 ds L ex 0 ops.toList)
    (alloc : ∀ q ∈ PS, ∀ (o : Oper) (a : Act) (w : World), ops[q.p]? = some o → (execOp a.eval o).run P w = .ok (.value (.pointer (some ⟨w.heap.size, 0, none⟩))) (w.alloc (.cells #[z0, z1] t)))
    (stor : ∀ q ∈ PS, ∀ (o : Oper) (a : Act) (w : World) (b : Nat), ops[q.s]? = some o → FrEq a0 ds a → a.tmps.getD (ds.getD q.p 0) undef = .pointer (some ⟨b, 0, none⟩) → w.frozen? ⟨b, 0, none⟩ = false → w.frozen? ⟨b, 1, none⟩ = false → w.cell? ⟨b, 0, none⟩ = some z0 → w.cell? ⟨b, 1, none⟩ = some z1 → (∀ j, j ∈ depsOf o → rkF L j (a.tmps.getD (ds.getD j 0) undef) w) →
      o.wp P a w (fun a' w' => a' = a ∧ ∃ x0 x1, w' = set2 w b x0 x1 ∧ q.X x0 x1 w') Q)
    (fin : ∀ a w, FrEq a0 ds a → Below w0.heap.size w0 w → (∀ i d, ds[i]? = some d → rkF L i (a.tmps.getD d undef) w) → PInvG ds w0 z0 z1 PS (fun _ => true) a w → Q .normal a w) :
    (Code.region id ops true).wp P Q a0 w0 := by
  obtain ⟨k1, k2, k3, k4, k5⟩ := hPS
  have hplain : ∀ (i : Nat) (o : Oper), ops[i]? = some o → o.guard = none ∧ (o.dst = ds[i]? ∨ o.dst = none) ∧ (∃ d, ds[i]? = some d) ∧ (∀ e ∈ o.after, Region.binds .any e = true → e.on < i) := by
    intro i o ho
    have hi : i < ops.size := (Array.getElem?_eq_some_iff.1 ho).1
    have h1 := List.all_eq_true.1 hp i (by simpa using hi)
    rw [ho] at h1
    simp only [Bool.and_eq_true] at h1
    obtain ⟨⟨⟨⟨g1, g2⟩, g3⟩, g4⟩, g5⟩ := h1
    refine ⟨by simpa using g1, by simpa using g2, Option.isSome_iff_exists.1 g3, fun e he hbd => ?_⟩
    have := Array.all_eq_true_iff_forall_mem.1 g4 e he
    rw [hbd] at this
    simpa using this
  have hsz : ∀ (i d : Nat), ds[i]? = some d → d < a0.tmps.size := by
    intro i d hd
    have hi : i < ops.size := by have := (List.getElem?_eq_some_iff.1 hd).1; omega
    have h1 := List.all_eq_true.1 hp i (by simpa using hi)
    rw [Array.getElem?_eq_getElem hi] at h1
    simp only [Bool.and_eq_true] at h1
    have h2 := List.all_eq_true.1 h1.2 d (List.mem_of_getElem? hd)
    exact of_decide_eq_true h2
  have hget : ∀ j, j < ops.size → ds[j]? = some (ds.getD j 0) := fun j hj => by
    rw [List.getD_eq_getElem?_getD, List.getElem?_eq_getElem (by omega)]; rfl
  have hdl : ∀ (i : Nat) (o : Oper), ops[i]? = some o → ∀ j, j ∈ depsOf o → j < i := fun i o ho j hj => by
    obtain ⟨ed, hed, rfl⟩ := List.mem_map.1 hj
    exact (hplain i o ho).2.2.2 ed (by simpa using (List.mem_filter.1 hed).1) (List.mem_filter.1 hed).2
  have hdne : ∀ i j, i < ops.size → j < ops.size → i ≠ j → ds.getD i 0 ≠ ds.getD j 0 := fun i j hi hj hne e => by
    have e1 := hget i hi
    have e2 := hget j hj
    rw [e] at e1
    exact hne ((List.getElem?_inj (by omega) hn).1 (e1.trans e2.symm))
  refine wp_region_inv hm (fun i o ho => ⟨(hplain i o ho).1, (hplain i o ho).2.2.2⟩)
    (fun D a w => FrEq a0 ds a ∧ Below w0.heap.size w0 w ∧ (∀ j d, D j = true → ds[j]? = some d → rkF L j (a.tmps.getD d undef) w) ∧ PInvG ds w0 z0 z1 PS D a w)
    (fun w hw => ⟨⟨rfl, rfl, fun _ _ => rfl⟩, hw, (fun _ _ h => by cases h), (fun _ => 0), (fun _ _ h => by cases h), (fun _ _ _ _ _ h => by cases h)⟩) ?_ ?_
  · rintro D i o a w ho hDi hdeps hcl ⟨hfr, hb, hf, blk, hq1, hq2⟩
    have hi : i < ops.size := (Array.getElem?_eq_some_iff.1 ho).1
    by_cases hns : stores ops i = true
    · obtain ⟨q, hq, rfl⟩ := k1 i hi hns
      have hDp := hdeps _ (k4 q hq o ho)
      obtain ⟨e0, e1, e2, e3, e4, y0, y1, e5, e6, e7, -⟩ := hq1 q hq hDp
      obtain ⟨rfl, rfl⟩ := e7 hDi
      refine Oper.wp_mono ?_ (stor q hq o a w (blk q.p) ho hfr e0 e3 e4 e5 e6 fun j hj => hf j _ (hdeps j hj) (hget j (by have := hdl _ o ho j hj; omega)))
      rintro a' w' ⟨rfl, x0, x1, rfl, hX1⟩
      refine ⟨hfr, (hb.setCell e1 _).setCell e1 _, fun j d hj hd => ?_, blk, fun q' hq' hDq' => ?_, fun q' hq' q'' hq'' hne' h1' h2' => ?_⟩
      · by_cases e : j = q.s
        · subst e
          unfold rkF
          rw [(k5 q hq).2]
          exact trivial
        · unfold addD at hj
          rw [decide_eq_false e, Bool.false_or] at hj
          exact hst _ _ _ _ _ _ e1 e5 (hf j d hj hd)
      · have hps : q'.p ≠ q.s := fun e => by have := (k2 q' hq').2.1; rw [e, hns] at this; cases this
        have hDq : D q'.p = true := by unfold addD at hDq'; rwa [decide_eq_false hps, Bool.false_or] at hDq'
        obtain ⟨f0, f1, f2, f3, f4, v0, v1, f5, f6, f7, f8⟩ := hq1 q' hq' hDq
        refine ⟨f0, f1, by unfold set2; simpa using f2, by unfold set2; rw [frozen_set, frozen_set]; exact f3, by unfold set2; rw [frozen_set, frozen_set]; exact f4, ?_⟩
        by_cases e : q'.s = q.s
        · have := k3 q' hq' q hq (.inr e)
          subst this
          have h1 : addD D q'.s q'.s = true := by unfold addD; rw [decide_eq_true rfl]; rfl
          rw [h1]
          exact ⟨x0, x1, (World.cell?_setCell_other _ _ _ _ (by simp)).trans (World.cell?_setCell_same _ _ _ e5), World.cell?_setCell_same _ _ _ ((World.cell?_setCell_other _ _ _ _ (by simp)).trans e6), (fun h => by cases h), fun _ => hX1⟩
        · have hpp : q'.p ≠ q.p := fun h => by have := k3 q' hq' q hq (.inl h); subst this; exact e rfl
          have hbb := hq2 q' hq' q hq hpp hDq hDp
          have h1 : addD D q.s q'.s = D q'.s := by unfold addD; rw [decide_eq_false e, Bool.false_or]
          rw [h1]
          exact ⟨v0, v1, (World.cell?_setCell_other _ _ _ _ (by simp)).trans ((World.cell?_setCell_other _ _ _ _ (by simp)).trans f5), (World.cell?_setCell_other _ _ _ _ (by simp)).trans ((World.cell?_setCell_other _ _ _ _ (by simp)).trans f6), f7, fun h => hXs q' hq' _ _ _ _ _ _ e5 (f8 h)⟩
      · have hx : ∀ x ∈ PS, addD D q.s x.p = true → D x.p = true := fun x hx h => by
          unfold addD at h
          rwa [decide_eq_false (fun e => by have := (k2 x hx).2.1; rw [e, hns] at this; cases this), Bool.false_or] at h
        exact hq2 q' hq' q'' hq'' hne' (hx q' hq' h1') (hx q'' hq'' h2')
    · have hns' : stores ops i = false := by simpa using hns
      have hdst : o.dst = some (ds.getD i 0) := by
        have h2 := (hplain i o ho).2.1
        rcases h2 with h2 | h2
        · rw [h2]; exact hget i hi
        · unfold stores at hns'
          rw [ho] at hns'
          simp [h2] at hns'
      -- what stays, whatever is put into the operation's slot
      have keep : ∀ v w', Below w.heap.size w w' → rkF L i v w' → ((∃ q ∈ PS, q.p = i) → v = .pointer (some ⟨w.heap.size, 0, none⟩) ∧ w.heap.size < w'.heap.size ∧ w'.frozen? ⟨w.heap.size, 0, none⟩ = false ∧ w'.frozen? ⟨w.heap.size, 1, none⟩ = false ∧ w'.cell? ⟨w.heap.size, 0, none⟩ = some z0 ∧ w'.cell? ⟨w.heap.size, 1, none⟩ = some z1) →
          (FrEq a0 ds (a.put o.dst v) ∧ Below w0.heap.size w0 w' ∧ (∀ j d, addD D i j = true → ds[j]? = some d → rkF L j ((a.put o.dst v).tmps.getD d undef) w') ∧ PInvG ds w0 z0 z1 PS (addD D i) (a.put o.dst v) w') := by
        intro v w' hbw hv hptr
        rw [hdst]
        refine ⟨hfr.put (List.mem_of_getElem? (hget i hi)) v, hb.trans (hbw.mono hb.size), fun j d hj hd => ?_, fun k => if k = i then w.heap.size else blk k, fun q hq hDq => ?_, fun q hq q' hq' hne' h1' h2' => ?_⟩
        · by_cases e : j = i
          · subst e
            rw [hget j hi] at hd
            cases hd
            rw [put_at (by rw [hfr.size]; exact hsz _ _ (hget j hi))]
            exact hv
          · have hjl : j < ops.size := by have := (List.getElem?_eq_some_iff.1 hd).1; omega
            have hdj := hget j hjl
            rw [hdj] at hd
            cases hd
            rw [put_far (hdne i j hi hjl (fun h => e h.symm))]
            unfold addD at hj
            rw [decide_eq_false e, Bool.false_or] at hj
            exact RK.st _ _ _ _ hbw (hf j _ hj hdj)
        · have hss : addD D i q.s = D q.s := by
            unfold addD
            rw [decide_eq_false (fun e => by have := (k2 q hq).1; rw [e, hns'] at this; cases this), Bool.false_or]
          rw [hss]
          by_cases e : q.p = i
          · obtain ⟨p0, p1, p2, p3, p4, p5⟩ := hptr ⟨q, hq, e⟩
            have hDs : D q.s = false := by
              cases hc : D q.s
              · rfl
              · obtain ⟨os, hos⟩ : ∃ os, ops[q.s]? = some os := ⟨_, Array.getElem?_eq_getElem (stores_lt (k2 q hq).1)⟩
                have := hcl q.s os hos hc q.p (k4 q hq os hos)
                rw [e, hDi] at this
                cases this
            rw [hDs]
            simp only [e, if_true]
            rw [put_at (by rw [hfr.size]; exact hsz _ _ (hget i hi))]
            exact ⟨p0, hb.size, p1, p2, p3, z0, z1, p4, p5, (fun _ => ⟨rfl, rfl⟩), fun h => by cases h⟩
          · have hDp : D q.p = true := by unfold addD at hDq; rwa [decide_eq_false e, Bool.false_or] at hDq
            obtain ⟨f0, f1, f2, f3, f4, v0, v1, f5, f6, f7, f8⟩ := hq1 q hq hDp
            simp only [e, if_false]
            rw [put_far (hdne i q.p hi (k2 q hq).2.2 (fun h => e h.symm))]
            exact ⟨f0, f1, Nat.lt_of_lt_of_le f2 hbw.size, ((bcell hbw).2 _ _ f2).trans f3, ((bcell hbw).2 _ _ f2).trans f4, v0, v1, ((bcell hbw).1 _ _ f2).trans f5, ((bcell hbw).1 _ _ f2).trans f6, f7, fun h => hX q hq _ _ _ _ hbw (f8 h)⟩
        · have hx : ∀ x ∈ PS, x.p ≠ i → addD D i x.p = true → D x.p = true := fun x hx hne h => by
            unfold addD at h
            rwa [decide_eq_false hne, Bool.false_or] at h
          show (if q.p = i then w.heap.size else blk q.p) ≠ (if q'.p = i then w.heap.size else blk q'.p)
          by_cases e : q.p = i
          · by_cases e' : q'.p = i
            · exact absurd (e.trans e'.symm) hne'
            · have := (hq1 q' hq' (hx q' hq' e' h2')).2.2.1
              rw [if_pos e, if_neg e']
              omega
          · by_cases e' : q'.p = i
            · have := (hq1 q hq (hx q hq e h1')).2.2.1
              rw [if_neg e, if_pos e']
              omega
            · rw [if_neg e, if_neg e']
              exact hq2 q hq q' hq' hne' (hx q hq e h1') (hx q' hq' e' h2')
      by_cases hptr : ∃ q ∈ PS, q.p = i
      · obtain ⟨q, hq, rfl⟩ := hptr
        have hr := alloc q hq o a w ho
        unfold Oper.wp
        rw [hr]
        refine keep _ _ ((Below.refl _ _).alloc (Nat.le_refl _) _) ?_ (fun _ => ⟨rfl, by simp, by simp [go_sem], by simp [go_sem], by simp [go_sem], by simp [go_sem]⟩)
        unfold rkF
        rw [(k5 q hq).1]
        exact trivial
      · have hnp : ¬ ∃ q ∈ PS, q.p = i ∨ q.s = i := by
          rintro ⟨q, hq, e | e⟩
          · exact hptr ⟨q, hq, e⟩
          · have := (k2 q hq).1
            rw [e, hns'] at this
            cases this
        have he : ex.contains i = false := by
          cases hc : ex.contains i
          · rfl
          · exact absurd (h0 i hc) hnp
        have h := rstepsx_at (i := i) (o := o) step (by simpa using ho) (by rw [Nat.zero_add]; exact he)
        rw [Nat.zero_add] at h
        refine Oper.wp_mono ?_ (h a w hfr hb fun j hj => hf j _ (hdeps j hj) (hget j (by have := hdl i o ho j hj; omega)))
        rintro a' w' ⟨v, rfl, hbw, hv⟩
        exact keep v w' hbw hv (fun hx => absurd hx hptr)
  · rintro D a w hall ⟨hfr, hb, hf, blk, hq1, hq2⟩
    refine fin a w hfr hb (fun i d hd => hf i d (hall i (by have := (List.getElem?_eq_some_iff.1 hd).1; omega)) hd) ⟨blk, fun q hq _ => ?_, fun q hq q' hq' hne' _ _ => hq2 q hq q' hq' hne' (hall _ (k2 q hq).2.2) (hall _ (k2 q' hq').2.2)⟩
    have := hq1 q hq (hall _ (k2 q hq).2.2)
    rw [hall _ (stores_lt (k2 q hq).1)] at this
    exact this
end Go.Proofs.Ytablphoicidlkaa
