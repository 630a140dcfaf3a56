/- A symbolic run is what the model does: calls and rounds. -/
import Derived.Test.YtnjbhidncicfiaaAxRun
namespace Go.Ax
open Go

variable {P : Program} {B : Nat} {p : Pl} {s s' : St} {w : World} {fr : Fr} {a : Act} {v : AV}

theorem ofList_getA {α : Type} {l : List α} {j : Nat} {x : α} (h : (T.ofList l).get j = some x) : l[j]? = some x := by
  rcases T.get_sets l T.leaf 0 j x h with ⟨_, h⟩ | ⟨_, h⟩
  · simpa using h
  · cases h
theorem AVL.is.get {n : Nat} : ∀ {l : List AV} {u : List Value}, AVL.is p n l u → ∀ (j : Nat) (x : AV), l[j]? = some x → ∃ y, u[j]? = some y ∧ x.is p n y
  | _ :: _, v :: _, hs, 0, x, hj => ⟨v, rfl, by simp at hj; exact hj ▸ hs.1⟩
  | _ :: _, _ :: _, hs, j + 1, x, hj => by simpa using AVL.is.get hs.2 j x (by simpa using hj)
  | [], [], _, j, x, hj => by simp at hj
  | [], _ :: _, hs, _, _, _ => hs.elim
  | _ :: _, [], hs, _, _, _ => hs.elim

/-- The frame that a call enters. -/
theorem enter_is {n : Nat} {args : List AV} {us : Array Value} (h : AVL.is p n args us.toList) (f : FuncId) (nt : Nat) :
    (Fr.mk f (Nat.max nt args.length) (T.ofList args) []).is p n { tmps := us ++ Array.replicate (nt - us.size) Go.undef, defers := [] } := by
  have hl := h.length
  simp only [Array.length_toList] at hl
  refine ⟨?_, fun t x ht => ?_, rfl, fun d hd => by cases hd⟩
  · simp only [Array.size_append, Array.size_replicate, hl]
    show _ = max nt args.length
    omega
  · obtain ⟨y, hy, hxy⟩ := h.get t x (ofList_getA ht)
    refine ⟨y, ?_, hxy⟩
    have hy : us[t]? = some y := by simpa using hy
    have : t < us.size := by rw [Array.getElem?_eq_some_iff] at hy; exact hy.1
    show (us ++ _)[t]? = some y
    rw [Array.getElem?_append_left this]; exact hy

/-! ### Results -/
theorem resultsOf_sound (hr : Rel B p s w) (hf : fr.is p s.n a) : ∀ {rs : List ResultVar} {vs : List A1}, resultsOf P s fr rs = some vs →
    ∃ us : List Value, (rs.mapM fun
      | .tmp t => pure (a.tmps.getD t Go.undef)
      | .cell c t => do loadVar t (← asAddr (a.tmps.getD c Go.undef)) : Sem (List Value)).run P w = .ok us w ∧ A1L.is p s.n vs us
  | [], vs, h => by injection h with h; subst h; exact ⟨[], by simp, trivial⟩
  | .tmp t :: r, vs, h => by
    unfold resultsOf at h
    split at h
    · rename_i x l hx hl
      injection h with h; subst h
      obtain ⟨us, h1, h2⟩ := resultsOf_sound hr hf hl
      obtain ⟨u, hu, hux⟩ := hf.get t _ hx
      refine ⟨u :: us, ?_, hux, h2⟩
      have hgd : a.tmps.getD t Go.undef = u := by rw [Array.getD_eq_getD_getElem?, hu]; rfl
      rw [List.mapM_cons, Sem.run_bind]
      simp only [Sem.run_pure, Result.andThen_ok, Sem.run_bind, h1, hgd]
    · cases h
  | .cell c t :: r, vs, h => by
    unfold resultsOf at h
    split at h
    · rename_i i o l hx hl
      split at h
      · rename_i x hv
        injection h with h; subst h
        obtain ⟨us, h1, h2⟩ := resultsOf_sound hr hf hl
        obtain ⟨u, hu, hux⟩ := hf.get c _ hx
        obtain ⟨y, hy, hxy⟩ := loadAt_sound (P := P) hr hv
        refine ⟨y :: us, ?_, hxy, h2⟩
        have hy' : (loadVar t ⟨p.ρ i, o, none⟩).run P w = .ok y w := by
          simpa [Instr.loadAt, Instr.sureAddr, Pl.at] using hy
        have hgd : a.tmps.getD c Go.undef = .pointer (some ⟨p.ρ i, o, none⟩) := by rw [Array.getD_eq_getD_getElem?, hu]; exact hux.2
        have hasA : (asAddr (.pointer (some ⟨p.ρ i, o, none⟩))).run P w = .ok ⟨p.ρ i, o, none⟩ w := rfl
        rw [List.mapM_cons, Sem.run_bind]
        simp only [Sem.run_bind, hgd, hasA, Sem.run_pure, Result.andThen_ok, hy', h1]
      · cases h
    · cases h

theorem A1L.is.length {n : Nat} : ∀ {l : List A1} {u : List Value}, A1L.is p n l u → u.length = l.length
  | [], [], _ => rfl
  | _ :: _, _ :: _, h => by simp [A1L.is.length h.2]
  | [], _ :: _, h => h.elim
  | _ :: _, [], h => h.elim
theorem results_sound (hr : Rel B p s w) (hf : fr.is p s.n a) {fn : Func} {vs : List A1} (h : resultsOf P s fr fn.results.toList = some vs) :
    ∃ u, (results fn a.tmps).run P w = .ok u w ∧ (outOf vs).is p s.n u := by
  obtain ⟨us, h1, h2⟩ := resultsOf_sound (P := P) hr hf h
  have hm : (results fn a.tmps).run P w = .ok (if h : us.toArray.size = 1 then us.toArray[0] else .tuple us.toArray) w := by
    unfold results
    rw [Sem.run_bind, Array.mapM_eq_mapM_toList, Sem.run_map]
    erw [h1]
    rfl
  refine ⟨_, hm, ?_⟩
  match us, vs, h2 with
  | [], [], _ => exact ⟨#[], rfl, trivial⟩
  | [u], [x], h2 => exact h2.1
  | u :: u' :: us, x :: y :: vs, h2 =>
    refine ⟨(u :: u' :: us).toArray, ?_, h2⟩
    simp
  | [], _ :: _, h => exact h.elim
  | _ :: _, [], h => exact h.elim
  | [_], _ :: _ :: _, h => exact h.2.elim
  | _ :: _ :: _, [_], h => exact h.2.elim

theorem Sc.plain_is {n m : Nat} {q : Pl} {x : Sc} {u : Value} (hx : x.plain = true) (h : x.is p n u) : x.is q m u := by
  cases x <;> first | exact h | simp [Sc.plain] at hx
theorem ScL.plain_is {n m : Nat} {q : Pl} : ∀ {l : List Sc} {us : List Value}, l.all Sc.plain = true → ScL.is p n l us → ScL.is q m l us
  | [], [], _, _ => trivial
  | x :: l, u :: us, hx, h => by
    simp only [List.all_cons, Bool.and_eq_true] at hx
    exact ⟨Sc.plain_is hx.1 h.1, ScL.plain_is hx.2 h.2⟩
  | [], _ :: _, _, h => h.elim
  | _ :: _, [], _, h => h.elim
theorem A1.plain_is {n m : Nat} {q : Pl} {x : A1} {u : Value} (hx : x.plain = true) (h : x.is p n u) : x.is q m u := by
  cases x with
  | sc s => exact Sc.plain_is (p := p) (n := n) hx h
  | agg l => obtain ⟨cs, rfl, hc⟩ := h; exact ⟨cs, rfl, ScL.plain_is hx hc⟩
theorem A1L.plain_is {n m : Nat} {q : Pl} : ∀ {l : List A1} {us : List Value}, l.all A1.plain = true → A1L.is p n l us → A1L.is q m l us
  | [], [], _, _ => trivial
  | x :: l, u :: us, hx, h => by
    simp only [List.all_cons, Bool.and_eq_true] at hx
    exact ⟨A1.plain_is hx.1 h.1, A1L.plain_is hx.2 h.2⟩
  | [], _ :: _, _, h => h.elim
  | _ :: _, [], _, h => h.elim
theorem outOf_plain {n m : Nat} {q : Pl} {vs : List A1} {u : Value} (hx : vs.all A1.plain = true) (h : (outOf vs).is p n u) : (outOf vs).is q m u := by
  unfold outOf at h ⊢
  split at h
  · simp only [List.all_cons, List.all_nil, Bool.and_true] at hx
    exact A1.plain_is hx h
  · obtain ⟨us, rfl, hu⟩ := h
    exact ⟨us, rfl, A1L.plain_is hx hu⟩

theorem marks_sound {fn : Func} {tmps : Array Value} {R : Ending → World → Prop} {n : Nat} : ∀ {ds : List Nat} {s : St} {p : Pl} {w : World}, Rel B p s w → dropMarks s ds = some s' →
    (∀ w', Post B p s w p s' w' → LeavesIn Fence.wide n P fn tmps R [] .returning w') →
    LeavesInM Fence.wide n P fn tmps R (ds.map fun d => { target := .collected (p.ρ d), args := #[] }) .returning w
  | [], s, p, w, hr, h, hk => by
    injection h with h; subst h
    exact hk w (Post.refl hr)
  | d :: ds, s, p, w, hr, h, hk => by
    unfold dropMarks at h
    split at h
    · rename_i hg
      have hlive : s.live d := ⟨_, hg, rfl⟩
      have hrow : w.heap[p.ρ d]? = some (.deferred (some [])) := (hr.row d _ hg rfl).2.2.2
      have hlt := (hr.place hlive).2
      have htake : (Instr.takeDeferred (p.ρ d)).run P w = .ok [] { w with heap := w.heap.setIfInBounds (p.ρ d) (.deferred none) } := by
        simp [Instr.takeDeferred, getObj, setObj, Sem.run, hrow]
      have hp1 : Post B p s w p (s.put d .dead) { w with heap := w.heap.setIfInBounds (p.ρ d) (.deferred none) } :=
        Post.write hr hlive .dead (by simp) trivial (fun b hb => by
          show (w.heap.setIfInBounds _ _)[b]? = _
          rw [Array.getElem?_setIfInBounds_ne (fun e => hb e.symm)]) rfl rfl rfl
      refine ⟨by simp, .inl ⟨p.ρ d, _, rfl, htake, ?_⟩⟩
      exact marks_sound hp1.rel h fun w' hp => hk w' (hp1.trans hp)
    · cases h

/-! ### Calls -/
theorem xResults_eq {s0 s : St} {vs : List A1} {o : Out} (h : xResults s0 s (some vs) = some (o, s')) : o = .val (outOf vs) ∧ s' = { h := keepH s0 s vs, n := s.n, lo := min s0.lo s.lo } := by
  unfold xResults at h
  simp only [forceNat_eq] at h
  injection h with h; injection h with h1 h2
  refine ⟨h1.symm, ?_⟩
  rw [← h2]
  cases hb : Nat.ble s0.lo s.lo
  · have : ¬ s0.lo ≤ s.lo := fun e => by rw [Nat.ble_eq_true_of_le e] at hb; cases hb
    simp only [Nat.min_def, if_neg this]
  · have : s0.lo ≤ s.lo := Nat.le_of_ble_eq_true hb
    simp only [Nat.min_def, if_pos this]
/-- What a call's own state says of the caller's. -/
theorem Post.toCaller {s0 s3 : St} {q : Pl} {w3 : World} {lo : Nat} (hr : Rel B p s0 w) (h : Post B p { h := s0.h, n := s0.n, lo := lo } w q s3 w3) (vs : List A1) :
    Post B p s0 w q { h := keepH s0 s3 vs, n := s3.n, lo := min s0.lo s3.lo } w3 := by
  have hle : s0.n ≤ s3.n := h.le
  have hf : p.fits q s0.n := h.fits
  have hkeep : ∀ b, b < w.heap.size → (∀ i, s3.lo ≤ i → s0.live i → p.ρ i ≠ b) → w3.heap[b]? = w.heap[b]? := h.keep
  have hk : (keepH s0 s3 vs = s0.h ∧ s0.n ≤ s3.lo) ∨ keepH s0 s3 vs = s3.h := by
    unfold keepH
    split
    · rename_i hb
      simp only [Bool.and_eq_true] at hb
      exact .inl ⟨rfl, Nat.le_of_ble_eq_true hb.1⟩
    · exact .inr rfl
  have hlo : min s0.lo s3.lo ≤ s3.lo := Nat.min_le_right _ _
  refine ⟨hr, hle, Nat.min_le_left _ _, hf, h.back, ?_, h.size, fun b hb hx => hkeep b hb fun i hi hl => hx i (Nat.le_trans hlo hi) hl, ?_, ?_, h.os, h.tape, h.output⟩
  · rcases hk with ⟨hk, hn⟩ | hk
    · refine ⟨fun i r hi hl => ?_, fun i j hi hj he => ?_⟩
      · change (keepH s0 s3 vs).get i = some r at hi
        rw [hk] at hi
        obtain ⟨h1, h2, h3, h4⟩ := hr.row i r hi hl
        rw [(hf i h1).2.1]
        refine ⟨hf.has hle h1, h2, by have : w.heap.size ≤ w3.heap.size := h.size; omega, ?_⟩
        rw [hkeep _ h3 (fun i' hi' hl' => by have := hr.lt hl'; omega)]
        exact h4.fits hf hle h1
      · have hi' : s0.live i := by obtain ⟨r, a, b⟩ := hi; exact ⟨r, by change (keepH s0 s3 vs).get i = some r at a; rw [hk] at a; exact a, b⟩
        have hj' : s0.live j := by obtain ⟨r, a, b⟩ := hj; exact ⟨r, by change (keepH s0 s3 vs).get j = some r at a; rw [hk] at a; exact a, b⟩
        rw [(hf i (hr.has hi')).2.1, (hf j (hr.has hj')).2.1] at he
        exact hr.inj i j hi' hj' he
    · exact Rel.less h.rel rfl fun i r hi => by change (keepH s0 s3 vs).get i = some r at hi; rw [hk] at hi; exact hi
  · intro i hi hl
    rcases hk with ⟨hk, hn⟩ | hk
    · have : s0.live i := by obtain ⟨r, a, b⟩ := hl; exact ⟨r, by change (keepH s0 s3 vs).get i = some r at a; rw [hk] at a; exact a, b⟩
      have := hr.lt this; omega
    · have hl' : s3.live i := by obtain ⟨r, a, b⟩ := hl; exact ⟨r, by change (keepH s0 s3 vs).get i = some r at a; rw [hk] at a; exact a, b⟩
      rcases h.new i hi hl' with hx | ⟨j, hj, hjl, hje⟩
      · exact .inl hx
      · exact .inr ⟨j, Nat.le_trans hlo hj, hjl, hje⟩
  · intro i hi hl
    rcases hk with ⟨hk, hn⟩ | hk
    · obtain ⟨r, a, b⟩ := hl; exact ⟨r, by change (keepH s0 s3 vs).get i = some r at a; rw [hk] at a; exact a, b⟩
    · have hl' : s3.live i := by obtain ⟨r, a, b⟩ := hl; exact ⟨r, by change (keepH s0 s3 vs).get i = some r at a; rw [hk] at a; exact a, b⟩
      exact h.old i hi hl'

theorem callFunc_enter {f : FuncId} {fn : Func} {c : Code} (hf : P.funcs[f]? = some fn) (hb : fn.body = some c) (hn : fn.name ≠ "runtime.NumGoroutine") (us : Array Value) (w : World) : (callFunc f us).run P w = .ok (.enter f us) w := by
  simp [callFunc, hf, hb, hn]
theorem leave_fine {fn : Func} {s0 s2 s3 : St} {q : Pl} {w2 : World} {fr2 : Fr} {a2 : Act} {vs : List A1} {lo n : Nat} {R : Ending → World → Prop} (hr : Rel B p s0 w) (hP : Post B p { h := s0.h, n := s0.n, lo := lo } w q s2 w2) (hf2 : fr2.is q s2.n a2)
    (hd : dropMarks s2 fr2.dfs = some s3) (hv : resultsOf P s3 fr2 fn.results.toList = some vs)
    (hR : ∀ q w' u, Post B p s0 w q { h := keepH s0 s3 vs, n := s3.n, lo := min s0.lo s3.lo } w' → (outOf vs).is q s3.n u → R (.returned u) w') : LeavesInM Fence.wide n P fn a2.tmps R a2.defers .returning w2 := by
  rw [hf2.marks]
  refine marks_sound hP.rel hd fun w3 hp3 => ?_
  have hall := hP.trans hp3
  obtain ⟨u, hu, hou⟩ := results_sound (P := P) hp3.rel (hf2.fits hp3.fits hp3.le) hv
  exact ⟨u, hu, hR q w3 u (Post.toCaller hr hall vs) hou⟩
theorem call_fine {r : Run} (hr : RunFine P r) {f : FuncId} {args : List AV} {o : Out} (h : xCall P r f args s = some (o, s')) : ∃ v, o = .val v ∧ CallFine P f args s v s' := by
  unfold xCall at h
  split at h
  · cases h
  · rename_i fn hfn
    split at h
    · cases h
    · rename_i c hc
      split at h
      · cases h
      · rename_i hname
        have hname : fn.name ≠ "runtime.NumGoroutine" := by simpa using hname
        unfold xLeave at h
        split at h
        · rename_i fr2 s2 h2
          split at h
          · rename_i s3 h3
            obtain ⟨e1, f1, he1, hcf⟩ := code_left hr h2
            injection he1 with he1 hf1; subst he1 hf1
            cases hvs : resultsOf P s3 fr2 fn.results.toList with
            | none => rw [hvs] at h; cases h
            | some vs =>
              rw [hvs] at h
              obtain ⟨rfl, rfl⟩ := xResults_eq h
              refine ⟨_, rfl, fun B p w us n R hrel hB hus hR => ⟨callFunc_enter hfn hc hname us w, callsIn_of_wp_marks hfn hc trivial ?_⟩⟩
              refine hcf B p w _ n _ ⟨hrel.row, hrel.inj⟩ hB (enter_is hus f fn.ntmps) (fun l hl => by cases hl) fun q w2 a2 hp hf2 => ?_
              exact leave_fine hrel hp hf2 h3 hvs hR
          · cases h
        · rename_i fr2 s2 h2
          split at h
          · rename_i s3 h3
            obtain ⟨e1, f1, he1, hcf⟩ := code_left hr h2
            injection he1 with he1 hf1; subst he1 hf1
            cases hvs : resultsOf P s3 fr2 fn.results.toList with
            | none => rw [hvs] at h; cases h
            | some vs =>
              rw [hvs] at h
              obtain ⟨rfl, rfl⟩ := xResults_eq h
              refine ⟨_, rfl, fun B p w us n R hrel hB hus hR => ⟨callFunc_enter hfn hc hname us w, callsIn_of_wp_marks hfn hc trivial ?_⟩⟩
              refine hcf B p w _ n _ ⟨hrel.row, hrel.inj⟩ hB (enter_is hus f fn.ntmps) (fun l hl => by cases hl) fun q w2 a2 hp hf2 => ?_
              exact leave_fine hrel hp hf2 h3 hvs hR
          · cases h
        · cases h

end Go.Ax
