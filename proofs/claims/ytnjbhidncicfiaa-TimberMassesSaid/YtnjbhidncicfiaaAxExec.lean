/- A symbolic run is what the model does. -/
import Derived.Test.YtnjbhidncicfiaaAxOps10
namespace Go.Ax
open Go

variable {P : Program} {B : Nat} {p : Pl} {s s' : St} {w : World} {fr : Fr} {a : Act} {v : AV}

theorem oCall_val (hr : Rel B p s w) (hB : B ≤ w.heap.size) (hf : fr.is p s.n a) {c : Call} {o : Oper} (ho : o.op = .call c) (h : oCall P fr s c = some (.val v, s')) : Fine P B p s w (execOp a.eval o) v s' := by
  unfold oCall at h
  split at h
  · rename_i b hb
    split at h
    · rename_i vs hvs
      rw [Option.map_eq_some_iff] at h
      obtain ⟨⟨v', s1⟩, hvs1, h⟩ := h
      injection h with h1 h2; injection h1 with h1; subst h1 h2
      have hargs : AVL.is p s.n vs (c.args.map a.eval).toList := by
        rw [Array.toList_map]; exact evals_list hf hvs
      have := builtin_sound hr hB hargs hvs1 o.type (c.args.map fun | .const _ => true | _ => false)
      have he : execOp a.eval o = builtin b c.argTypes o.type (c.args.map fun | .const _ => true | _ => false) (c.args.map a.eval) := by
        simp only [execOp, ho, resolve, hb]
        rfl
      rw [he]; exact this
    · cases h
  · split at h
    · cases h
    · cases h
    · cases h
  · cases h

/-- A quiet operation. -/
theorem op_val (hr : Rel B p s w) (hB : B ≤ w.heap.size) (hf : fr.is p s.n a) {o : Oper} (h : op? P fr o.op s = some (.val v, s')) : Fine P B p s w (execOp a.eval o) v s' := by
  cases ho : o.op <;> rw [ho] at h <;> simp only [op?] at h
  case move x =>
    obtain ⟨rfl, hv⟩ := oMove_sound hf h
    exact Fine.quiet hr (by simp only [execOp, ho]; rfl) hv
  case assign x =>
    obtain ⟨rfl, hv⟩ := oMove_sound hf h
    exact Fine.quiet hr (by simp only [execOp, ho]; rfl) hv
  case pick => simp only [execOp, ho]; exact oPick_sound hr hf h
  case alloc => simp only [execOp, ho]; exact oAlloc_sound hr hB h
  case box => simp only [execOp, ho]; exact oBox_sound hr hB hf h
  case build => simp only [execOp, ho]; exact oBuild_sound hr hf h
  case buildSlice => simp only [execOp, ho]; exact oBuildSlice_sound hr hB hf h
  case load => simp only [execOp, ho]; exact oLoad_sound hr hf h
  case store => simp only [execOp, ho]; exact oStore_sound hr hf h
  case nilCheck => exact oNilCheck_sound hr hf h ho
  case binOp => simp only [execOp, ho]; exact oBin_sound hr hf h
  case unOp => simp only [execOp, ho]; exact oUn_sound hr hf h
  case convert => simp only [execOp, ho]; exact oConv_sound hr hf h
  case makeFunc => simp only [execOp, ho]; exact oFunc_sound hr hf h
  case makeSlice => simp only [execOp, ho]; exact oMakeSlice_sound hr hB hf h
  case slice => simp only [execOp, ho]; exact oSlice_sound hr hf h
  case fieldAddr => simp only [execOp, ho]; exact oFieldAddr_sound hr hf h
  case field => simp only [execOp, ho]; exact oField_sound hr hf h
  case indexAddr => simp only [execOp, ho]; exact oIndexAddr_sound hr hf h
  case index => simp only [execOp, ho]; exact oIndex_sound hr hf h
  case extract => simp only [execOp, ho]; exact oExtract_sound hr hf h
  case makeMap => simp only [execOp, ho]; exact oMakeMap_sound hr hB h
  case lookup => simp only [execOp, ho]; exact oLookup_sound hr hf h
  case mapUpdate => simp only [execOp, ho]; exact oMapUpdate_sound hr hf h
  case insert => simp only [execOp, ho]; exact oMapUpdate_sound hr hf h
  all_goals cases h

theorem AVL.is.append {n : Nat} : ∀ {l : List AV} {u : List Value} {l' : List AV} {u' : List Value}, AVL.is p n l u → AVL.is p n l' u' → AVL.is p n (l ++ l') (u ++ u')
  | [], [], _, _, _, h' => h'
  | _ :: _, _ :: _, _, _, hs, h' => ⟨hs.1, AVL.is.append hs.2 h'⟩
  | [], _ :: _, _, _, hs, _ => hs.elim
  | _ :: _, [], _, _, hs, _ => hs.elim
theorem ptrVals_is {n : Nat} : ∀ {cs : List (Nat × Nat)}, (∀ x ∈ cs, p.has n x.1) → AVL.is p n (ptrVals cs) (cs.map fun x => p.at x.1 x.2)
  | [], _ => trivial
  | _ :: _, h => ⟨⟨h _ (List.mem_cons_self ..), rfl⟩, ptrVals_is fun x hx => h x (List.mem_cons_of_mem _ hx)⟩
theorem AVL.is.fits {q : Pl} {n m : Nat} (h : p.fits q n) (hnm : n ≤ m) : ∀ {l : List AV} {u : List Value}, AVL.is p n l u → AVL.is q m l u
  | [], [], _ => trivial
  | _ :: _, _ :: _, hs => ⟨hs.1.fits h hnm, AVL.is.fits h hnm hs.2⟩
  | [], _ :: _, hs => hs.elim
  | _ :: _, [], hs => hs.elim

/-- An operation that calls a function. -/
theorem op_call (hf : fr.is p s.n a) {o : Oper} {c : Call} (ho : o.op = .call c) {f : FuncId} {args : List AV} (h : oCall P fr s c = some (.call f args, s')) :
    s' = s ∧ ∃ us : Array Value, execOp a.eval o = callFunc f us ∧ AVL.is p s.n args us.toList := by
  unfold oCall at h
  split at h
  · split at h
    · rw [Option.map_eq_some_iff] at h
      obtain ⟨⟨v', s1⟩, _, h⟩ := h
      injection h with h1 h2; cases h1
    · cases h
  · rename_i g hg
    split at h
    · rename_i f' cap vs hg' hvs
      injection h with h; injection h with h1 h2; injection h1 with h1 h3; subst h1 h2 h3
      refine ⟨rfl, (c.args.map a.eval) ++ (cap.map fun x => p.at x.1 x.2).toArray, ?_, ?_⟩
      · have hv := (hf.eval hg').2
        simp only [execOp, ho, resolve, hg]
        rw [hv]
        show invoke (.fn (.func f') _) (#[] ++ c.args.map a.eval) = _
        simp only [invoke, Array.empty_append]
      · have : ((c.args.map a.eval) ++ (cap.map fun x => p.at x.1 x.2).toArray).toList = c.args.toList.map a.eval ++ cap.map fun x => p.at x.1 x.2 := by simp
        rw [this]
        exact (evals_list hf hvs).append (ptrVals_is (hf.eval hg').1)
    · injection h with h; injection h with h1 h2; cases h1
    · cases h
  · cases h
/-- An operation that calls a loop's yield. -/
theorem op_round (hf : fr.is p s.n a) {o : Oper} {c : Call} (ho : o.op = .call c) {l : Nat} {args : List AV} (h : oCall P fr s c = some (.round l args, s')) :
    s' = s ∧ p.has s.n l ∧ ∃ us : Array Value, execOp a.eval o = Instr.yield (p.ρ l) us ∧ AVL.is p s.n args us.toList := by
  unfold oCall at h
  split at h
  · split at h
    · rw [Option.map_eq_some_iff] at h
      obtain ⟨⟨v', s1⟩, _, h⟩ := h
      injection h with h1 h2; cases h1
    · cases h
  · rename_i g hg
    split at h
    · injection h with h; injection h with h1 h2; cases h1
    · rename_i l' vs hg' hvs
      injection h with h; injection h with h1 h2; injection h1 with h1 h3; subst h1 h2 h3
      obtain ⟨hl, hv⟩ := hf.eval hg'
      refine ⟨rfl, hl, c.args.map a.eval, ?_, by rw [Array.toList_map]; exact evals_list hf hvs⟩
      simp only [execOp, ho, resolve, hg]
      rw [hv]
      show invoke (.fn (.yield (p.ρ l')) #[]) (#[] ++ c.args.map a.eval) = _
      simp only [invoke, Array.empty_append]
    · cases h
  · cases h

end Go.Ax
