/- Each operation of a symbolic run is what the model does, second part. -/
import Derived.Test.YtnjbhidncicfiaaAxOps
namespace Go.Ax
open Go

variable {P : Program} {B : Nat} {p : Pl} {s s' : St} {w : World} {fr : Fr} {a : Act} {v : AV}

theorem pair_inj {v v' : AV} {s s' : St} (h : (some (Step.val v, s) : Option (Step × St)) = some (.val v', s')) : v = v' ∧ s = s' := by
  injection h with h; injection h with h1 h2; injection h1 with h1; exact ⟨h1, h2⟩
theorem map_inj {α : Type} {x : Option α} {f : α → AV} {v' : AV} {s s' : St} (h : (x.map fun y => (Step.val (f y), s)) = some (.val v', s')) : ∃ y, x = some y ∧ f y = v' ∧ s = s' := by
  rw [Option.map_eq_some_iff] at h
  obtain ⟨y, hy, h⟩ := h
  injection h with h1 h2; injection h1 with h1
  exact ⟨y, hy, h1, h2⟩

theorem Sc.is.notAgg {n : Nat} {x : Sc} {u : Value} (h : x.is p n u) : ∀ c, u ≠ .agg c := fun c e => by
  have := h.one; rw [e] at this; cases this
theorem Sc.is.notIface {n : Nat} {x : Sc} {u : Value} (h : x.is p n u) : u ≠ .nilIface := fun e => by
  subst e
  cases x <;> simp [Sc.is, Pl.at] at h

theorem equalIn_slice (d : Nat) {t e : TypeId} (ht : P.underlying t = some (.slice e)) (b : Option Addr) (n c : Nat) (w : World) :
    (Op.equalIn (d + 1) t (.slice b n c) (.slice none 0 0)).run P w = .ok b.isNone w := by
  cases b <;> simp [Op.equalIn, run_underlying' ht]
theorem equalIn_map (d : Nat) {t k e : TypeId} (ht : P.underlying t = some (.map k e)) (b : Option Nat) (w : World) :
    (Op.equalIn (d + 1) t (.map b) (.map none)).run P w = .ok b.isNone w := by
  cases b <;> simp [Op.equalIn, run_underlying' ht]
theorem eql_map {t k e : TypeId} (ht : P.underlying t = some (.map k e)) (b : Option Nat) (w : World) :
    (binOp .eql t (.map b) (.map none)).run P w = .ok (.bool b.isNone) w := by
  show (do pure (Value.bool (← Op.equalIn (9999 + 1) t (.map b) (.map none))) : Sem Value).run P w = _
  rw [Sem.run_bind, equalIn_map 9999 ht]; rfl
theorem neq_map {t k e : TypeId} (ht : P.underlying t = some (.map k e)) (b : Option Nat) (w : World) :
    (binOp .neq t (.map b) (.map none)).run P w = .ok (.bool !b.isNone) w := by
  show (do pure (Value.bool (!(← Op.equalIn (9999 + 1) t (.map b) (.map none)))) : Sem Value).run P w = _
  rw [Sem.run_bind, equalIn_map 9999 ht]; rfl
theorem eql_slice {t e : TypeId} (ht : P.underlying t = some (.slice e)) (b : Option Addr) (n c : Nat) (w : World) :
    (binOp .eql t (.slice b n c) (.slice none 0 0)).run P w = .ok (.bool b.isNone) w := by
  show (do pure (Value.bool (← Op.equalIn (9999 + 1) t (.slice b n c) (.slice none 0 0))) : Sem Value).run P w = _
  rw [Sem.run_bind, equalIn_slice 9999 ht]; rfl
theorem neq_slice {t e : TypeId} (ht : P.underlying t = some (.slice e)) (b : Option Addr) (n c : Nat) (w : World) :
    (binOp .neq t (.slice b n c) (.slice none 0 0)).run P w = .ok (.bool !b.isNone) w := by
  show (do pure (Value.bool (!(← Op.equalIn (9999 + 1) t (.slice b n c) (.slice none 0 0)))) : Sem Value).run P w = _
  rw [Sem.run_bind, equalIn_slice 9999 ht]; rfl
theorem strBin_sound {op : BinOp} {x y : ByteArray} {r : Sc} (h : strBin op x y = some r) (t : TypeId) (w : World) (p : Pl) (n : Nat) :
    ∃ u, (binOp op t (.string x) (.string y)).run P w = .ok u w ∧ r.is p n u := by
  have he : x.toList = x.data.toList := ByteArray.toList_eq x
  have he' : y.toList = y.data.toList := ByteArray.toList_eq y
  unfold strBin at h
  split at h
  · split at h
    · rename_i hb
      have hb := Nat.le_of_ble_eq_true hb
      injection h with h; subst h
      have : ¬ (((x.size + y.size : Nat) : Int) > IntKind.i64.max) := by
        have : IntKind.i64.max = 9223372036854775807 := rfl
        omega
      exact ⟨.string (x ++ y), by simp only [binOp, Op.stringOp, if_neg this, Sem.run_pure], rfl⟩
    · cases h
  case h_8 => cases h
  all_goals
    injection h with h; subst h
    exact ⟨_, by simp only [binOp, Op.stringOp, he, he', Sem.run_pure]; rfl, by simp only [Sc.is, bytesEq_eq]⟩
theorem binOp_sound {op : BinOp} {t : TypeId} {x y r : AV} (h : binOp? P op t x y = some r) {n : Nat} {u v : Value} (hx : x.is p n u) (hy : y.is p n v) (ox oy : Operand) (w : World) :
    ∃ z, (do eqGuard op t ox oy u v; binOp op t u v : Sem Value).run P w = .ok z w ∧ r.is p n z := by
  unfold binOp? at h
  split at h
  · rw [Option.map_eq_some_iff] at h
    obtain ⟨c, hc, rfl⟩ := h
    obtain ⟨z, hz, hzc⟩ := shiftBin_sound hc t w p n
    rw [show u = _ from hx, show v = _ from hy]
    exact ⟨z, by rw [Sem.run_bind, run_eqGuard w (by simp) (by simp)]; exact hz, hzc⟩
  · rw [Option.map_eq_some_iff] at h
    obtain ⟨c, hc, rfl⟩ := h
    obtain ⟨z, hz, hzc⟩ := shiftBin_sound hc t w p n
    rw [show u = _ from hx, show v = _ from hy]
    exact ⟨z, by rw [Sem.run_bind, run_eqGuard w (by simp) (by simp)]; exact hz, hzc⟩
  · split at h
    · rename_i hk
      rw [Option.map_eq_some_iff] at h
      obtain ⟨c, hc, rfl⟩ := h
      subst hk
      obtain ⟨z, hz, hzc⟩ := intBin_sound hc t w p n
      rw [show u = _ from hx, show v = _ from hy]
      exact ⟨z, by rw [Sem.run_bind, run_eqGuard w (by simp) (by simp)]; exact hz, hzc⟩
    · cases h
  · rw [Option.map_eq_some_iff] at h
    obtain ⟨c, hc, rfl⟩ := h
    obtain ⟨z, hz, hzc⟩ := strBin_sound hc t w p n
    rw [show u = _ from hx, show v = _ from hy]
    exact ⟨z, by rw [Sem.run_bind, run_eqGuard w (by simp) (by simp)]; exact hz, hzc⟩
  · split at h
    · rename_i ht
      injection h with h; subst h
      rw [show u = _ from hx, show v = _ from hy]
      exact ⟨_, by rw [Sem.run_bind, run_eqGuard w (by simp) (by simp)]; rw [Result.andThen_ok]; show (do pure (Value.bool (← Op.equalIn (9999 + 1) t _ _)) : Sem Value).run P w = _; rw [Sem.run_bind, run_equalIn_bool' w 9999 t _ _ ht]; rfl, rfl⟩
    · cases h
  · split at h
    · rename_i ht
      injection h with h; subst h
      rw [show u = _ from hx, show v = _ from hy]
      exact ⟨_, by rw [Sem.run_bind, run_eqGuard w (by simp) (by simp)]; rw [Result.andThen_ok]; show (do pure (Value.bool (!(← Op.equalIn (9999 + 1) t _ _))) : Sem Value).run P w = _; rw [Sem.run_bind, run_equalIn_bool' w 9999 t _ _ ht]; rfl, rfl⟩
    · cases h
  · rw [Option.map_eq_some_iff] at h
    obtain ⟨c, hc, rfl⟩ := h
    obtain ⟨cs, rfl, hcs⟩ := hx
    obtain ⟨ds, rfl, hds⟩ := hy
    unfold equalAgg at hc
    split at hc
    · rename_i hg
      have := equalA_sound 20 _ _ _ _ hc 10000 (by omega) p n (.agg cs) (.agg ds) w ⟨cs, rfl, hcs⟩ ⟨ds, rfl, hds⟩
      exact ⟨.bool c, by rw [Sem.run_bind, run_eqGuard_agg w _ _ _ _ _ _ hg, Result.andThen_ok, run_eql_struct, this]; rfl, rfl⟩
    · cases hc
  · rw [Option.map_eq_some_iff] at h
    obtain ⟨c, hc, rfl⟩ := h
    obtain ⟨cs, rfl, hcs⟩ := hx
    obtain ⟨ds, rfl, hds⟩ := hy
    unfold equalAgg at hc
    split at hc
    · rename_i hg
      have := equalA_sound 20 _ _ _ _ hc 10000 (by omega) p n (.agg cs) (.agg ds) w ⟨cs, rfl, hcs⟩ ⟨ds, rfl, hds⟩
      exact ⟨.bool !c, by rw [Sem.run_bind, run_eqGuard_agg w _ _ _ _ _ _ hg, Result.andThen_ok, run_neq_struct, this]; rfl, rfl⟩
    · cases hc
  · split at h
    · rename_i ht
      rw [Option.map_eq_some_iff] at h
      obtain ⟨c, hc, rfl⟩ := h
      rw [show v = _ from hy]
      rename_i x
      unfold isNilSlice at hc
      split at hc
      · injection hc with hc; subst hc
        rw [show u = _ from hx]
        exact ⟨.bool true, by rw [Sem.run_bind, run_eqGuard w (by simp) (by simp)]; rw [Result.andThen_ok, eql_slice ht]; rfl, rfl⟩
      · injection hc with hc; subst hc
        rw [show u = _ from hx.2.2]
        exact ⟨.bool false, by rw [Sem.run_bind, run_eqGuard w (by simp) (by simp)]; rw [Result.andThen_ok, eql_slice ht]; rfl, rfl⟩
      · injection hc with hc; subst hc
        obtain ⟨_, c, _, _, rfl⟩ := hx
        exact ⟨.bool false, by rw [Sem.run_bind, run_eqGuard w (by simp) (by simp)]; rw [Result.andThen_ok, eql_slice ht]; rfl, rfl⟩
      · cases hc
    · cases h
  · split at h
    · rename_i ht
      rw [Option.map_eq_some_iff] at h
      obtain ⟨c, hc, rfl⟩ := h
      rw [show v = _ from hy]
      rename_i x
      unfold isNilSlice at hc
      split at hc
      · injection hc with hc; subst hc
        rw [show u = _ from hx]
        exact ⟨.bool false, by rw [Sem.run_bind, run_eqGuard w (by simp) (by simp)]; rw [Result.andThen_ok, neq_slice ht]; rfl, rfl⟩
      · injection hc with hc; subst hc
        rw [show u = _ from hx.2.2]
        exact ⟨.bool true, by rw [Sem.run_bind, run_eqGuard w (by simp) (by simp)]; rw [Result.andThen_ok, neq_slice ht]; rfl, rfl⟩
      · injection hc with hc; subst hc
        obtain ⟨_, c, _, _, rfl⟩ := hx
        exact ⟨.bool true, by rw [Sem.run_bind, run_eqGuard w (by simp) (by simp)]; rw [Result.andThen_ok, neq_slice ht]; rfl, rfl⟩
      · cases hc
    · cases h
  · split at h
    · rename_i ht
      rw [Option.map_eq_some_iff] at h
      obtain ⟨c, hc, rfl⟩ := h
      rw [show v = _ from hy]
      unfold isNilMap at hc
      split at hc
      · injection hc with hc; subst hc
        rw [show u = _ from hx]
        exact ⟨.bool true, by rw [Sem.run_bind, run_eqGuard w (by simp) (by simp)]; rw [Result.andThen_ok, eql_map ht]; rfl, rfl⟩
      · injection hc with hc; subst hc
        rw [show u = _ from hx.2]
        exact ⟨.bool false, by rw [Sem.run_bind, run_eqGuard w (by simp) (by simp)]; rw [Result.andThen_ok, eql_map ht]; rfl, rfl⟩
      · cases hc
    · cases h
  · split at h
    · rename_i ht
      rw [Option.map_eq_some_iff] at h
      obtain ⟨c, hc, rfl⟩ := h
      rw [show v = _ from hy]
      unfold isNilMap at hc
      split at hc
      · injection hc with hc; subst hc
        rw [show u = _ from hx]
        exact ⟨.bool false, by rw [Sem.run_bind, run_eqGuard w (by simp) (by simp)]; rw [Result.andThen_ok, neq_map ht]; rfl, rfl⟩
      · injection hc with hc; subst hc
        rw [show u = _ from hx.2]
        exact ⟨.bool true, by rw [Sem.run_bind, run_eqGuard w (by simp) (by simp)]; rw [Result.andThen_ok, neq_map ht]; rfl, rfl⟩
      · cases hc
    · cases h
  · cases h

theorem oBin_sound (hr : Rel B p s w) (hf : fr.is p s.n a) {op : BinOp} {t : TypeId} {x y : Operand} (h : oBin P s op t (fr.eval x) (fr.eval y) = some (.val v, s')) :
    Fine P B p s w (do pure (.value (← (do eqGuard op t x y (a.eval x) (a.eval y); binOp op t (a.eval x) (a.eval y))))) v s' := by
  unfold oBin at h
  split at h
  · rename_i hx hy
    obtain ⟨r, hr', rfl, rfl⟩ := map_inj h
    obtain ⟨z, hz, hzr⟩ := binOp_sound hr' (hf.eval hx) (hf.eval hy) x y w
    exact Fine.quiet hr (by rw [Sem.run_bind, hz]; rfl) hzr
  · cases h
theorem oUn_sound (hr : Rel B p s w) (hf : fr.is p s.n a) {op : UnOp} {x : Operand} (h : oUn s op (fr.eval x) = some (.val v, s')) :
    Fine P B p s w (do pure (.value (← Op.unary op (a.eval x)))) v s' := by
  unfold oUn at h
  split at h
  · rename_i hx
    obtain ⟨r, hr', rfl, rfl⟩ := map_inj h
    have hx := hf.eval hx
    unfold unOp? at hr'
    split at hr'
    · rw [mkInt_eq] at hr'; injection hr' with hr'; subst hr'
      rw [show a.eval x = _ from hx]
      exact Fine.quiet hr (by simp [Op.unary, Op.intArith]; rfl) (by simp [AV.is, A1.is, Sc.is])
    · injection hr' with hr'; subst hr'
      rw [show a.eval x = _ from hx]
      exact Fine.quiet hr (by simp [Op.unary]) rfl
    · cases hr'
  · cases h
theorem oConv_sound (hr : Rel B p s w) (hf : fr.is p s.n a) {src dst : TypeId} {x : Operand} (h : oConv P s src dst (fr.eval x) = some (.val v, s')) :
    Fine P B p s w (do pure (.value (← convert src dst (a.eval x)))) v s' := by
  unfold oConv at h
  split at h
  · rename_i d hx hd
    obtain ⟨r, hr', rfl, rfl⟩ := map_inj h
    have hx := hf.eval hx
    unfold convert? at hr'
    split at hr'
    · rename_i k _ n hu _
      injection hr' with hr'; subst hr'
      rw [show a.eval x = _ from hx]
      refine Fine.quiet hr (u := .int k (k.wrap n)) ?_ rfl
      simp only [convert, Sem.run_bind, run_underlying' hd, run_underlying' hu, Result.andThen_ok]
      cases d <;> rfl
    · cases hr'
  · cases h
theorem oPick_sound (hr : Rel B p s w) (hf : fr.is p s.n a) {c x y : Operand} (h : oPick fr s (fr.eval c) x y = some (.val v, s')) :
    Fine P B p s w (do pure (.value (if ← asBool (a.eval c) then a.eval x else a.eval y))) v s' := by
  unfold oPick at h
  split at h
  · rename_i hc
    obtain ⟨r, hr', rfl, rfl⟩ := map_inj h
    rw [show a.eval c = _ from hf.eval hc]
    exact Fine.quiet hr (by simp [asBool]) (hf.eval hr')
  · rename_i hc
    obtain ⟨r, hr', rfl, rfl⟩ := map_inj h
    rw [show a.eval c = _ from hf.eval hc]
    exact Fine.quiet hr (by simp [asBool]) (hf.eval hr')
  · cases h
theorem oExtract_sound (hr : Rel B p s w) (hf : fr.is p s.n a) {t : Operand} {ix : Nat} (h : oExtract s (fr.eval t) ix = some (.val v, s')) :
    Fine P B p s w (do pure (.value (← Instr.extract (a.eval t) ix))) v s' := by
  unfold oExtract at h
  split at h
  · rename_i l hl
    obtain ⟨r, hr', rfl, rfl⟩ := map_inj h
    obtain ⟨vs, hvs, hls⟩ := hf.eval hl
    rw [lget_eq] at hr'
    obtain ⟨u, hu, hur⟩ := hls.get ix r hr'
    rw [hvs]
    have hu : vs[ix]? = some u := by simpa using hu
    exact Fine.quiet hr (by simp [Instr.extract, hu]) hur
  · cases h
theorem oNilCheck_sound (hr : Rel B p s w) (hf : fr.is p s.n a) {x : Operand} (h : oNilCheck s (fr.eval x) = some (.val v, s')) {o : Oper} (ho : o.op = .nilCheck x) :
    Fine P B p s w (execOp a.eval o) v s' := by
  unfold oNilCheck at h
  split at h
  · rename_i i o hx
    obtain ⟨rfl, rfl⟩ := pair_inj h
    have hx := hf.eval hx
    exact Fine.quiet hr (by simp only [execOp, ho]; rw [show a.eval x = _ from hx.2]; simp [Pl.at]) ⟨hx.1, rfl⟩
  · rename_i f c hx
    obtain ⟨rfl, rfl⟩ := pair_inj h
    have hx := hf.eval hx
    exact Fine.quiet hr (by simp only [execOp, ho]; rw [show a.eval x = _ from hx.2]; simp) ⟨hx.1, rfl⟩
  · rename_i l hx
    obtain ⟨rfl, rfl⟩ := pair_inj h
    have hx := hf.eval hx
    exact Fine.quiet hr (by simp only [execOp, ho]; rw [show a.eval x = _ from hx.2]; simp) ⟨hx.1, rfl⟩
  · cases h
theorem ptrsOf_is {n : Nat} : ∀ {vs : List AV} {c : List (Nat × Nat)} {us : List Value}, ptrsOf vs = some c → us.length = vs.length → (∀ (j : Nat) (v : AV), vs[j]? = some v → ∃ u, us[j]? = some u ∧ v.is p n u) →
    (∀ x ∈ c, p.has n x.1) ∧ us = c.map fun x => p.at x.1 x.2
  | [], c, us, h, hl, _ => by
    injection h with h; subst h
    exact ⟨by simp, by simpa using hl⟩
  | v :: t, c, us, h, hl, hj => by
    unfold ptrsOf at h
    split at h
    · rename_i _ h'; cases h'
    · rename_i i o t' he
      rw [Option.map_eq_some_iff] at h
      obtain ⟨c', hc', rfl⟩ := h
      injection he with he1 he2; subst he1 he2
      cases us with
      | nil => simp at hl
      | cons u us =>
        obtain ⟨u', hu', hi, hu''⟩ := hj 0 _ rfl
        simp at hu'; subst hu'
        obtain ⟨h1, h2⟩ := ptrsOf_is hc' (by simpa using hl) (fun j v h => by simpa using hj (j + 1) v (by simpa using h))
        refine ⟨fun x hx => ?_, by simp [hu'', h2]⟩
        rcases List.mem_cons.1 hx with rfl | hx
        · exact hi
        · exact h1 x hx
    · cases h
theorem oFunc_sound (hr : Rel B p s w) (hf : fr.is p s.n a) {fn : Fn} {first cap : Array Operand} (h : oFunc fr s fn first.toList cap.toList = some (.val v, s')) :
    Fine P B p s w (do pure (.value (← Instr.makeFunc fn (first.map a.eval) (cap.map a.eval)))) v s' := by
  unfold oFunc at h
  split at h
  · rename_i f hfi
    split at h
    · rename_i vs hvs
      obtain ⟨c, hc, rfl, rfl⟩ := map_inj h
      obtain ⟨h1, h2⟩ := evals_is hf hvs
      obtain ⟨h3, h4⟩ := ptrsOf_is hc (us := cap.toList.map a.eval) (by simp [h1]) h2
      have : first = #[] := by cases first; simp at hfi; simp [hfi]
      subst this
      refine Fine.quiet hr (u := .func (.func f) #[] (c.map fun x => p.at x.1 x.2).toArray) ?_ ⟨h3, rfl⟩
      have : cap.map a.eval = (c.map fun x => p.at x.1 x.2).toArray := by
        rw [← h4, ← Array.toList_map]
      simp [Instr.makeFunc, this]
    · cases h
  · cases h

end Go.Ax
