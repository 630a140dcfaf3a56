/- A symbolic run is what the model does: ranges over functions; all tasks together. -/
import Derived.Test.YtnjbhidncicfiaaAxRun2
namespace Go.Ax
open Go

variable {P : Program} {B : Nat} {p : Pl} {s s' : St} {w : World} {fr : Fr} {a : Act} {v : AV}

theorem setParams_is {n nt : Nat} : ∀ {ts : List Tmp} {args : List AV} {us : List Value} {t : T AV} {tm : Array Value}, tm.size = nt → AVL.is p n args us → ts.length = args.length →
    (∀ j v, t.get j = some v → ∃ u, tm[j]? = some u ∧ v.is p n u) →
    ((ts.zip us).foldl (fun tmps (t, a) => tmps.setIfInBounds t a) tm).size = nt ∧
    ∀ j v, (setParams nt ts args t).get j = some v → ∃ u, ((ts.zip us).foldl (fun tmps (t, a) => tmps.setIfInBounds t a) tm)[j]? = some u ∧ v.is p n u
  | [], [], [], t, tm, hs, _, _, h => ⟨hs, h⟩
  | x :: ts, y :: args, u :: us, t, tm, hs, hl, hlen, h => by
    simp only [List.zip_cons_cons, List.foldl_cons]
    unfold setParams
    refine setParams_is (by simpa using hs) hl.2 (by simpa using hlen) fun j v hj => ?_
    split at hj
    · rename_i hb
      have hb : x < tm.size := by have := Nat.le_of_ble_eq_true hb; rw [hs]; exact this
      rcases T.get_set _ _ _ _ _ _ hj with ⟨rfl, rfl⟩ | ⟨hne, hg⟩
      · exact ⟨u, by rw [Array.getElem?_setIfInBounds_self_of_lt hb], hl.1⟩
      · obtain ⟨z, hz, hzv⟩ := h j v hg
        exact ⟨z, by rw [Array.getElem?_setIfInBounds_ne (fun e => hne e.symm)]; exact hz, hzv⟩
    · rename_i hb
      have : ¬ x < tm.size := fun hlt => by
        rw [Nat.ble_eq_true_of_le (show x + 1 ≤ nt by rw [← hs]; exact hlt)] at hb; cases hb
      rw [Array.setIfInBounds_eq_of_size_le (Nat.le_of_not_lt this)]
      exact h j v hj
  | [], _ :: _, _, _, _, _, _, hlen, _ => by simp at hlen
  | _ :: _, [], _, _, _, _, _, hlen, _ => by simp at hlen
  | _, [], _ :: _, _, _, _, hl, _, _ => hl.elim
  | _, _ :: _, [], _, _, _, hl, _, _ => hl.elim

theorem loopRow (hr : Rel B p s w) {l : Nat} {q : LoopRow} (h : hget s.h l = some (.loop q)) : s.live l ∧ ∃ L : Loop, w.heap[p.ρ l]? = some (.loop L) ∧ q.is p s.n L :=
  ⟨⟨_, h, rfl⟩, (hr.row l _ h rfl).2.2.2⟩
/-- The loop's row, its state and its pending jump written. -/
theorem loop_write (hr : Rel B p s w) {l : Nat} {q : LoopRow} (h : hget s.h l = some (.loop q)) {L : Loop} (hq : q.is p s.n L) (st : LoopState) (pe : Option Code) :
    Post B p s w p (s.put l (.loop { q with state := st, pending := pe })) { w with heap := w.heap.setIfInBounds (p.ρ l) (.loop { L with state := st, pending := pe }) } := by
  have hlive : s.live l := ⟨_, h, rfl⟩
  have hlt := (hr.place hlive).2
  refine Post.write hr hlive _ (by simp) ?_ (fun b hb => ?_) rfl rfl rfl
  · refine ⟨{ L with state := st, pending := pe }, ?_, rfl, rfl, ?_⟩
    · show (w.heap.setIfInBounds _ _)[p.ρ l]? = _
      rw [Array.getElem?_setIfInBounds_self_of_lt hlt]
    · obtain ⟨_, _, h3, h4, h5, h6, h7, h8, h9⟩ := hq
      exact ⟨h3, h4, h5, h6, h7, h8, h9⟩
  · show (w.heap.setIfInBounds _ _)[b]? = _
    rw [Array.getElem?_setIfInBounds_ne (fun e => hb e.symm)]
theorem endRound_run {l : Nat} {L : Loop} (hL : w.heap[l]? = some (.loop L)) (j : Option Code) :
    (Instr.endRound l j).run P w = .ok (.bool j.isNone) { w with heap := w.heap.setIfInBounds l (.loop { L with state := if j.isNone then .ready else .done, pending := j }) } := by
  simp [Instr.endRound, Instr.getLoop, getObj, setObj, Sem.run, hL]
theorem beginRound_run {l : Nat} {L : Loop} (hL : w.heap[l]? = some (.loop L)) (hs : L.state = .ready) :
    (Instr.beginRound l).run P w = .ok () { w with heap := w.heap.setIfInBounds l (.loop { L with state := .busy }) } := by
  simp [Instr.beginRound, Instr.getLoop, getObj, setObj, Sem.run, hL, hs]
theorem yield_run {l : Nat} {L : Loop} {us : Array Value} (hL : w.heap[l]? = some (.loop L)) (hs : us.size = L.params.size) :
    (Instr.yield l us).run P w = .ok (.round l L.fn ((L.params.zip us).foldl (fun tmps (t, a) => tmps.setIfInBounds t a) L.tmps) L.assign L.body) w := by
  simp [Instr.yield, Instr.getLoop, getObj, Sem.run, hL, hs]

/-- How a round is left. -/
def leftBy : Ex → LoopState × Option Code × Bool
  | .normal => (.ready, none, true)
  | .ret => (.done, some .ret, false)
  | .exit id => (.done, some (.exit id), false)
  | .goto t => (.done, some (.goto t), false)
theorem xRoundEnd_eq {l : Nat} {e : Ex} {f : Fr} {s2 : St} {o : Out} (h : xRoundEnd l (some (.left e f, s2)) = some (o, s')) :
    ∃ q, hget s2.h l = some (.loop q) ∧ o = .val (.sc (.bool (leftBy e).2.2)) ∧ s' = s2.put l (.loop { q with state := (leftBy e).1, pending := (leftBy e).2.1 }) := by
  unfold xRoundEnd at h
  simp only at h
  split at h
  · rename_i q hq
    refine ⟨q, hq, ?_⟩
    cases e <;> (injection h with h; injection h with h1 h2; exact ⟨h1.symm, h2.symm⟩)
  · cases h
theorem roundPost_of {l : Nat} {R : Ending → World → Prop} {e : Ex} {L : Loop} {a : Act} (hL : w.heap[l]? = some (.loop L))
    (hR : R (.returned (.bool (leftBy e).2.2)) { w with heap := w.heap.setIfInBounds l (.loop { L with state := (leftBy e).1, pending := (leftBy e).2.1 }) }) : roundPost P l R (exitOf e) a w := by
  cases e
  · exact ⟨_, _, endRound_run hL none, hR⟩
  · exact ⟨_, _, endRound_run hL (some (.exit _)), hR⟩
  · exact ⟨_, _, endRound_run hL (some (.goto _)), hR⟩
  · exact ⟨_, _, endRound_run hL (some .ret), hR⟩

theorem round_fine {r : Run} (hr : RunFine P r) {l : Nat} {args : List AV} {o : Out} (h : xRound r l args s = some (o, s')) : ∃ v, o = .val v ∧ RoundFine P l args s v s' := by
  unfold xRound at h
  split at h
  · rename_i q hq
    split at h
    · rename_i hst hlen
      have hlen := Nat.eq_of_beq_eq_true hlen
      unfold xRoundBody at h
      split at h
      · rename_i fr1 s1 h1
        obtain ⟨e1, f1, he1, hc1⟩ := code_left hr h1
        injection he1 with he1 hf1; subst he1 hf1
        split at h
        · rename_i q1 hq1
          split at h
          · rename_i hst1
            cases hx : r (.code (some l) q.body fr1) (s1.put l (.loop { q1 with state := .busy })) with
            | none => rw [hx] at h; cases h
            | some os =>
              obtain ⟨o2, s2⟩ := os
              obtain ⟨e2, f2, rfl, hc2⟩ := code_left hr hx
              rw [hx] at h
              obtain ⟨q2, hq2, rfl, rfl⟩ := xRoundEnd_eq h
              refine ⟨_, rfl, fun B p w us n R hrel hB hus hR => ?_⟩
              obtain ⟨hlive, L, hL, hLq⟩ := loopRow hrel hq
              have hll := hrel.has hlive
              obtain ⟨g1, g2, g3, g4, g5, g6, g7, g8, g9⟩ := hLq
              have husl := hus.length
              simp only [Array.length_toList] at husl
              have hsz : us.size = L.params.size := by
                have : L.params.size = q.params.length := by rw [← g3]; simp
                omega
              refine ⟨_, _, _, _, yield_run hL hsz, ?_⟩
              refine roundIn_of_wpIn trivial ?_
              rw [g4, g5]
              obtain ⟨hs1, hs2⟩ := setParams_is (p := p) (n := s.n) (nt := q.nt) (ts := q.params) (args := args) (us := us.toList) (t := q.tmps) (tm := L.tmps) g6 hus hlen g9
              have hfold : (L.params.zip us).foldl (fun tmps (t, a) => tmps.setIfInBounds t a) L.tmps = (q.params.zip us.toList).foldl (fun tmps (t, a) => tmps.setIfInBounds t a) L.tmps := by
                rw [← Array.foldl_toList, Array.toList_zip, g3]
              rw [hfold]
              refine hc1 B p w _ n _ hrel hB ⟨hs1, hs2, rfl, fun d hd => by cases hd⟩ (fun l' hl' => by injection hl' with hl'; subst hl'; exact hll) fun q' w1 a1 hp1 hf1 => ?_
              show ∃ w₂, _
              obtain ⟨hlive1, L1, hL1, hLq1⟩ := loopRow hp1.rel hq1
              have hρ := (hp1.fits l hll).2.1
              rw [← hρ]
              refine ⟨_, beginRound_run hL1 (by rw [hLq1.1]; exact hst1), ?_⟩
              have hpb := loop_write hp1.rel hq1 hLq1 .busy q1.pending
              have hLp : ({ L1 with state := LoopState.busy } : Loop) = { L1 with state := .busy, pending := q1.pending } := by rw [← hLq1.2.1]
              rw [hLp]
              have hn1 : (s1.put l (.loop { q1 with state := .busy })).n = s1.n := St.put_n _ _ _
              have hll1 := hp1.fits.has hp1.le hll
              have hllb := hpb.fits.has hpb.le hll1
              refine hc2 B q' _ a1 n _ hpb.rel (Nat.le_trans hB (Nat.le_trans hp1.size hpb.size)) (hf1.fits hpb.fits hpb.le) (fun l' hl' => by injection hl' with hl'; subst hl'; exact hllb) fun q'' w2 a2 hp2 hf2 => ?_
              obtain ⟨hlive2, L2, hL2, hLq2⟩ := loopRow hp2.rel hq2
              have hρ2 := (hp2.fits l hllb).2.1
              rw [← hρ2]
              refine roundPost_of hL2 ?_
              have hpe := loop_write hp2.rel hq2 hLq2 (leftBy e2).1 (leftBy e2).2.1
              exact hR q'' _ _ (((hp1.trans hpb).trans hp2).trans hpe) rfl
          · cases h
        · cases h
      · cases h
    · cases h
  · cases h

/-! ### A range over a function -/
theorem endLoop_run {l : Nat} {L : Loop} (hL : w.heap[l]? = some (.loop L)) (hs : L.state ≠ .busy) :
    (Instr.endLoop l).run P w = .ok L.pending { w with heap := w.heap.setIfInBounds l (.loop { L with state := .exhausted }) } := by
  simp [Instr.endLoop, Instr.getLoop, getObj, setObj, Sem.run, hL, hs]
theorem xRangeEnd_parts {r : Run} {rd : Option Nat} {l : Nat} {fr : Fr} {x : Option (Out × St)} {o : Out} (h : xRangeEnd r rd l fr x = some (o, s')) :
    ∃ v s1 q, x = some (.val v, s1) ∧ hget s1.h l = some (.loop q) ∧ q.state ≠ .busy ∧
      ((q.pending = none ∧ o = .left .normal fr ∧ s' = s1.put l .dead) ∨ ∃ c, q.pending = some c ∧ r (.code rd c fr) (s1.put l .dead) = some (o, s')) := by
  unfold xRangeEnd at h
  split at h
  · rename_i v s1
    split at h
    · rename_i q hq
      split at h
      · cases h
      · rename_i hnb
        refine ⟨v, s1, q, rfl, hq, fun e => hnb e, ?_⟩
        split at h
        · rename_i hp
          injection h with h; injection h with h1 h2
          exact .inl ⟨hp, h1.symm, h2.symm⟩
        · rename_i c hp
          exact .inr ⟨c, hp, h⟩
    · cases h
  · cases h

/-- The statement, behind the record's laying. -/
theorem rangeIn_fine {r : Run} (hr : RunFine P r) {rd : Option Nat} {f : FuncId} {cap : List (Nat × Nat)} {ps : Array Tmp} {assign body : Code} {fr : Fr} {dfr : Nat} {o : Out}
    (h : xRangeIn r rd f cap ps.toList assign body fr dfr s = some (o, s')) :
    ∃ e fr', o = .left e fr' ∧ ∀ (B : Nat) (p : Pl) (w : World) (a : Act) (n : Nat) (Q : Exit → Act → World → Prop) (fn : FuncId), Rel B p s w → B ≤ w.heap.size → fr.is p s.n a → (∀ l, rd = some l → p.has s.n l) → p.has s.n dfr → (∀ x ∈ cap, p.has s.n x.1) →
      (∀ q w' a', Post B p s w q s' w' → fr'.is q s'.n a' → Q (exitOf e) a' w') →
      CallsIn Fence.wide (n - 1) P f (#[.func (.yield w.heap.size) #[] #[]] ++ (cap.map fun x => p.at x.1 x.2).toArray)
        { w with heap := w.heap.push (.loop { state := .ready, pending := none, fn, tmps := a.tmps, params := ps, assign, body, defers := p.ρ dfr }) }
        (rangePost (fenceOf p rd) n P w.heap.size Q a) ∧
      (callFunc f (#[.func (.yield w.heap.size) #[] #[]] ++ (cap.map fun x => p.at x.1 x.2).toArray)).run P { w with heap := w.heap.push (.loop { state := .ready, pending := none, fn, tmps := a.tmps, params := ps, assign, body, defers := p.ρ dfr }) } =
        .ok (.enter f (#[.func (.yield w.heap.size) #[] #[]] ++ (cap.map fun x => p.at x.1 x.2).toArray)) { w with heap := w.heap.push (.loop { state := .ready, pending := none, fn, tmps := a.tmps, params := ps, assign, body, defers := p.ρ dfr }) } := by
  unfold xRangeIn at h
  obtain ⟨v, s1, q, hx, hq, hnb, hor⟩ := xRangeEnd_parts h
  obtain ⟨v', hv', hcall⟩ := call_val hr hx
  -- how it is left
  have hleft : ∃ e fr', o = .left e fr' ∧ ((q.pending = none ∧ e = .normal ∧ fr' = fr ∧ s' = s1.put s.n .dead) ∨ ∃ c, q.pending = some c ∧ CodeFine P rd c fr (s1.put s.n .dead) e fr' s') := by
    rcases hor with ⟨h1, h2, h3⟩ | ⟨c, h1, h2⟩
    · exact ⟨.normal, fr, h2, .inl ⟨h1, rfl, rfl, h3⟩⟩
    · obtain ⟨e, fr', he, hc⟩ := code_left hr h2
      exact ⟨e, fr', he, .inr ⟨c, h1, hc⟩⟩
  obtain ⟨e, fr', rfl, hcase⟩ := hleft
  refine ⟨e, fr', rfl, fun B p w a n Q fn hrel hB hf hrd hdfr hcap hQ => ?_⟩
  have hnew := Post.new' hrel hB (.loop { fn := fr.fn, state := .ready, pending := none, nt := fr.nt, tmps := fr.tmps, params := ps.toList, assign, body, dfr })
    (.loop { state := .ready, pending := none, fn, tmps := a.tmps, params := ps, assign, body, defers := p.ρ dfr }) 0 (by
      have hf' := hf.fits (p.set_fits s.n w.heap.size 0) (by omega : s.n ≤ s.n + 1)
      exact ⟨_, rfl, rfl, rfl, rfl, rfl, rfl, hf'.size, by rw [(p.set_fits s.n w.heap.size 0 dfr hdfr).2.1], (p.set_fits s.n w.heap.size 0).has (by omega) hdfr, hf'.get⟩)
  have hn : (s.new (.loop { fn := fr.fn, state := .ready, pending := none, nt := fr.nt, tmps := fr.tmps, params := ps.toList, assign, body, dfr })).n = s.n + 1 := St.new_n _ _
  have hcf := fun R hR => hcall B (p.set s.n w.heap.size 0) _ (#[.func (.yield w.heap.size) #[] #[]] ++ (cap.map fun x => p.at x.1 x.2).toArray) (n - 1) R hnew.rel (Nat.le_trans hB hnew.size) (by
    have h1 : AVL.is p s.n (ptrVals cap) (cap.map fun x => p.at x.1 x.2) := ptrVals_is hcap
    simp only [Array.toList_append]
    refine ⟨⟨p.set_has _ _ _ _ (by rw [hn]; omega), by rw [p.set_ρ]⟩, ?_⟩
    simpa using h1.fits hnew.fits hnew.le) hR
  refine ⟨(hcf _ fun q' w' u hp hu => ?_).2, (hcf (fun _ _ => True) fun _ _ _ _ _ => trivial).1⟩
  · show ∃ jump w₄, _
    have hall := hnew.trans hp
    obtain ⟨hlive, L, hL, hLq⟩ := loopRow hp.rel hq
    have hρ : q'.ρ s.n = w.heap.size := by rw [(hp.fits s.n (p.set_has _ _ _ _ (by rw [hn]; omega))).2.1, p.set_ρ]
    rw [hρ] at hL
    refine ⟨_, _, endLoop_run hL (by rw [hLq.1]; exact hnb), ?_⟩
    have hlt : w.heap.size < w'.heap.size := by rw [← hρ]; exact (hp.rel.place hlive).2
    have hw := Post.write hp.rel hlive .dead (w' := { w' with heap := w'.heap.setIfInBounds w.heap.size (.loop { L with state := .exhausted }) }) (by simp) trivial (fun b hb => by
      show (w'.heap.setIfInBounds _ _)[b]? = _
      rw [Array.getElem?_setIfInBounds_ne (fun e => hb (by rw [hρ]; exact e.symm))]) rfl rfl rfl
    have hend := hall.trans hw
    have hpend := hLq.2.1
    generalize ({ w' with heap := w'.heap.setIfInBounds w.heap.size (.loop { L with state := .exhausted }) } : World) = W at hend ⊢
    rw [hpend]
    rcases hcase with ⟨h1, rfl, rfl, rfl⟩ | ⟨c, h1, hc⟩
    · rw [h1]
      exact hQ q' _ a hend (hf.fits hend.fits hend.le)
    · rw [h1]
      show c.wpIn (fenceOf p rd) n P Q a _
      rw [← fenceOf_fits hend.fits hrd]
      exact hc B q' _ a n Q hend.rel (Nat.le_trans hB hend.size) (hf.fits hend.fits hend.le) (fun l hl => hend.fits.has hend.le (hrd l hl)) fun q'' w'' a'' hp' hf'' => hQ q'' w'' a'' (hend.trans hp') hf''

theorem range_fine {r : Run} (hr : RunFine P r) {rd : Option Nat} {ps : Array Tmp} {assign body : Code} {fr : Fr} {g : Operand} {o : Out}
    (h : xRange r rd ps.toList assign body fr s (fr.eval g) = some (o, s')) : ∃ e fr', o = .left e fr' ∧ CodeFine P rd (.rangeFunc g ps assign body) fr s e fr' s' := by
  unfold xRange at h
  split at h
  · rename_i f cap hg
    split at h
    · -- an outermost loop: a block and its mark
      rw [forceNat_eq] at h
      obtain ⟨e, fr', rfl, hin⟩ := rangeIn_fine hr h
      refine ⟨e, fr', rfl, fun B p w a n Q hrel hB hf hrd hQ => ?_⟩
      have hn1 : (s.new Row.dfr).n = s.n + 1 := St.new_n _ _
      have hnew := Post.new' hrel hB Row.dfr (.deferred (some [])) 0 rfl
      have hgv := hf.eval hg
      have hfits := p.set_fits s.n w.heap.size 0
      have hf1 : (Fr.mk fr.fn fr.nt fr.tmps (s.n :: fr.dfs)).is (p.set s.n w.heap.size 0) (s.new Row.dfr).n { a with defers := { target := .collected w.heap.size, args := #[] } :: a.defers } := by
        have hf' := hf.fits hfits (by omega : s.n ≤ s.n + 1)
        refine ⟨hf'.size, fun t v ht => by rw [hn1]; exact hf'.get t v ht, ?_, fun d hd => ?_⟩
        · rw [List.map_cons, p.set_ρ, hf'.marks]
        · rw [hn1]
          rcases List.mem_cons.1 hd with rfl | hd
          · exact p.set_has _ _ _ _ (by omega)
          · exact hf'.marksLt d hd
      refine wpIn_rangeFunc fun fn _ => ?_
      obtain ⟨hci, hent⟩ := hin B _ _ _ n Q fn hnew.rel (Nat.le_trans hB hnew.size) hf1 (fun l hl => by cases hl) (p.set_has _ _ _ _ (by rw [hn1]; omega)) (fun x hx => hfits.has (by rw [hn1]; omega) (hgv.1 x hx)) fun q w' a' hp hf' => hQ q w' a' (hnew.trans hp) hf'
      have hcap : (cap.map fun x => (p.set s.n w.heap.size 0).at x.1 x.2) = cap.map fun x => p.at x.1 x.2 :=
        List.map_congr_left fun x hx => by simp only [Pl.at, (hfits x.1 (hgv.1 x hx)).2.1]
      rw [hcap] at hci hent
      have hρn : (p.set s.n w.heap.size 0).ρ s.n = w.heap.size := p.set_ρ _ _ _
      have hsz : ({ w with heap := w.heap.push (.deferred (some [])) } : World).heap.size = w.heap.size + 1 := by simp
      rw [hρn, hsz] at hci hent
      obtain ⟨U, hU⟩ : ∃ U, U = (#[.func (.yield (w.heap.size + 1)) #[] #[]] ++ (cap.map fun x => p.at x.1 x.2).toArray : Array Value) := ⟨_, rfl⟩
      obtain ⟨W1, hW1⟩ : ∃ W1, W1 = ({ w with heap := (w.heap.push (.deferred (some []))).push (.loop { state := .ready, pending := none, fn, tmps := a.tmps, params := ps, assign, body, defers := w.heap.size }) } : World) := ⟨_, rfl⟩
      have hci : CallsIn (fenceOf p none) (n - 1) P f U W1 (rangePost (fenceOf p none) n P (w.heap.size + 1) Q { a with defers := { target := .collected w.heap.size, args := #[] } :: a.defers }) := by
        rw [hU, hW1]; exact hci
      have hent : (callFunc f U).run P W1 = .ok (.enter f U) W1 := by
        rw [hU, hW1]; exact hent
      refine ⟨w.heap.size + 1, [{ target := .collected w.heap.size, args := #[] }], W1, { target := .fn (.func f) (cap.map fun x => p.at x.1 x.2).toArray, args := #[.func (.yield (w.heap.size + 1)) #[] #[]] }, W1, f, U, W1, ?_, ?_, fun _ _ => trivial, ?_, fun hh => by simp [fenceOf] at hh, ?_⟩
      · show (Instr.enterLoop fn a.tmps ps assign body none).run P w = _
        rw [hW1]
        simp [Instr.enterLoop]
        rfl
      · simp only [resolve]
        rw [show a.eval g = _ from hgv.2]
        simp [Deferred.ofValue, Act.eval]
      · rw [← hent, hU]; rfl
      · exact hci
    · rename_i l
      split at h
      · rename_i q hq
        obtain ⟨e, fr', rfl, hin⟩ := rangeIn_fine hr h
        refine ⟨e, fr', rfl, fun B p w a n Q hrel hB hf hrd hQ => ?_⟩
        have hgv := hf.eval hg
        obtain ⟨hlive, L, hL, hLq⟩ := loopRow hrel hq
        obtain ⟨_, _, _, _, _, _, hdf, hdl, _⟩ := hLq
        refine wpIn_rangeFunc fun fn _ => ?_
        obtain ⟨hci, hent⟩ := hin B p w a n Q fn hrel hB hf hrd hdl hgv.1 hQ
        generalize hU : (#[.func (.yield w.heap.size) #[] #[]] ++ (cap.map fun x => p.at x.1 x.2).toArray : Array Value) = U at hci hent
        generalize hW1 : ({ w with heap := w.heap.push (.loop { state := .ready, pending := none, fn, tmps := a.tmps, params := ps, assign, body, defers := p.ρ q.dfr }) } : World) = W1 at hci hent
        refine ⟨w.heap.size, [], W1, { target := .fn (.func f) (cap.map fun x => p.at x.1 x.2).toArray, args := #[.func (.yield w.heap.size) #[] #[]] }, W1, f, U, W1, ?_, ?_, fun _ _ => trivial, ?_, fun hh => by simp [fenceOf] at hh, ?_⟩
        · show (Instr.enterLoop fn a.tmps ps assign body (some (p.ρ l))).run P w = _
          rw [← hW1]
          simp [Instr.enterLoop, Instr.getLoop, getObj, Sem.run, hL, hdf]
        · rw [← hW1]
          simp only [resolve]
          rw [show a.eval g = _ from hgv.2]
          simp [Deferred.ofValue, Act.eval]
        · rw [← hent, ← hU]; rfl
        · exact hci
      · cases h
  · cases h

/-! ### All tasks -/
theorem region_fine {r : Run} (hr : RunFine P r) {rd : Option Nat} {id : Nat} {ops : Array Oper} {fr : Fr} {o : Out} (h : r (.ops rd ops.toList ops.toList fr) s = some (o, s')) :
    ∃ e fr', o = .left e fr' ∧ CodeFine P rd (.region id ops false) fr s e fr' s' := by
  obtain ⟨fr', rfl, hx⟩ := ops_rest hr h
  refine ⟨.normal, fr', rfl, fun B p w a n Q hrel hB hf hrd hQ => wpIn_region ?_⟩
  have := hx B p w a n Q (List.range ops.size) hrel hB hf hrd (by
    refine List.ext_getElem? fun j => ?_
    rw [List.getElem?_map, List.getElem?_map]
    by_cases hj : j < ops.size
    · simp [hj]
    · rw [List.getElem?_eq_none (by simpa using hj), List.getElem?_eq_none (by simpa using hj)]; rfl) hQ
  simpa using this

end Go.Ax
