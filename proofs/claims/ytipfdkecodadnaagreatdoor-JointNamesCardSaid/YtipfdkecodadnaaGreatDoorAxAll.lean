/- A symbolic run of closed calls is sound: many texts in one. -/
import Derived.LoopNIn
import Derived.OrdersIn
import Derived.Test.YtipfdkecodadnaaGreatDoorAxOps10

/- A symbolic run is what the model does. -/
namespace Go.Ax
open Go

variable {P : Program} {B : Nat} {p : Pl} {s s' : St} {w : World} {fr : Fr} {a : Act} {v : AV}

theorem oCall_val (hr : Rel B p s w) (hB : B ≤ w.heap.size) (hf : fr.is p s.n a) {c : Call} {o : Oper} (ho : o.op = .call c) (h : oCall P fr s c = some (.val v, s')) : Fine P B p s w (execOp a.eval o) v s' := by
  unfold oCall at h
  split at h
  · rename_i b hb
    split at h
    · rename_i vs hvs
      rw [Option.map_eq_some_iff] at h
      obtain ⟨⟨v', s1⟩, hvs1, h⟩ := h
      injection h with h1 h2; injection h1 with h1; subst h1 h2
      have hargs : AVL.is p s.n vs (c.args.map a.eval).toList := by
        rw [Array.toList_map]; exact evals_list hf hvs
      have := builtin_sound hr hB hargs hvs1 o.type (c.args.map fun | .const _ => true | _ => false)
      have he : execOp a.eval o = builtin b c.argTypes o.type (c.args.map fun | .const _ => true | _ => false) (c.args.map a.eval) := by
        simp only [execOp, ho, resolve, hb]
        rfl
      rw [he]; exact this
    · cases h
  · split at h
    · cases h
    · cases h
    · cases h
  · cases h

/-- A quiet operation. -/
theorem op_val (hr : Rel B p s w) (hB : B ≤ w.heap.size) (hf : fr.is p s.n a) {o : Oper} (h : op? P fr o.op s = some (.val v, s')) : Fine P B p s w (execOp a.eval o) v s' := by
  cases ho : o.op <;> rw [ho] at h <;> simp only [op?] at h
  case move x =>
    obtain ⟨rfl, hv⟩ := oMove_sound hf h
    exact Fine.quiet hr (by simp only [execOp, ho]; rfl) hv
  case assign x =>
    obtain ⟨rfl, hv⟩ := oMove_sound hf h
    exact Fine.quiet hr (by simp only [execOp, ho]; rfl) hv
  case pick => simp only [execOp, ho]; exact oPick_sound hr hf h
  case alloc => simp only [execOp, ho]; exact oAlloc_sound hr hB h
  case box => simp only [execOp, ho]; exact oBox_sound hr hB hf h
  case build => simp only [execOp, ho]; exact oBuild_sound hr hf h
  case buildSlice => simp only [execOp, ho]; exact oBuildSlice_sound hr hB hf h
  case load => simp only [execOp, ho]; exact oLoad_sound hr hf h
  case store => simp only [execOp, ho]; exact oStore_sound hr hf h
  case nilCheck => exact oNilCheck_sound hr hf h ho
  case binOp => simp only [execOp, ho]; exact oBin_sound hr hf h
  case unOp => simp only [execOp, ho]; exact oUn_sound hr hf h
  case convert => simp only [execOp, ho]; exact oConv_sound hr hB hf h
  case makeFunc => simp only [execOp, ho]; exact oFunc_sound hr hf h
  case makeSlice => simp only [execOp, ho]; exact oMakeSlice_sound hr hB hf h
  case slice => simp only [execOp, ho]; exact oSlice_sound hr hf h
  case fieldAddr => simp only [execOp, ho]; exact oFieldAddr_sound hr hf h
  case field => simp only [execOp, ho]; exact oField_sound hr hf h
  case indexAddr => simp only [execOp, ho]; exact oIndexAddr_sound hr hf h
  case index => simp only [execOp, ho]; exact oIndex_sound hr hf h
  case extract => simp only [execOp, ho]; exact oExtract_sound hr hf h
  case makeMap => simp only [execOp, ho]; exact oMakeMap_sound hr hB h
  case lookup => simp only [execOp, ho]; exact oLookup_sound hr hf h
  case mapUpdate => simp only [execOp, ho]; exact oMapUpdate_sound hr hf h
  case insert => simp only [execOp, ho]; exact oMapUpdate_sound hr hf h
  all_goals cases h

theorem AVL.is.append {n : Nat} : ∀ {l : List AV} {u : List Value} {l' : List AV} {u' : List Value}, AVL.is p n l u → AVL.is p n l' u' → AVL.is p n (l ++ l') (u ++ u')
  | [], [], _, _, _, h' => h'
  | _ :: _, _ :: _, _, _, hs, h' => ⟨hs.1, AVL.is.append hs.2 h'⟩
  | [], _ :: _, _, _, hs, _ => hs.elim
  | _ :: _, [], _, _, hs, _ => hs.elim
theorem ptrVals_is {n : Nat} : ∀ {cs : List (Nat × Nat)}, (∀ x ∈ cs, p.has n x.1) → AVL.is p n (ptrVals cs) (cs.map fun x => p.at x.1 x.2)
  | [], _ => trivial
  | _ :: _, h => ⟨⟨h _ (List.mem_cons_self ..), rfl⟩, ptrVals_is fun x hx => h x (List.mem_cons_of_mem _ hx)⟩
theorem AVL.is.fits {q : Pl} {n m : Nat} (h : p.fits q n) (hnm : n ≤ m) : ∀ {l : List AV} {u : List Value}, AVL.is p n l u → AVL.is q m l u
  | [], [], _ => trivial
  | _ :: _, _ :: _, hs => ⟨hs.1.fits h hnm, AVL.is.fits h hnm hs.2⟩
  | [], _ :: _, hs => hs.elim
  | _ :: _, [], hs => hs.elim

/-- An operation that calls a function. -/
theorem op_call (hf : fr.is p s.n a) {o : Oper} {c : Call} (ho : o.op = .call c) {f : FuncId} {args : List AV} (h : oCall P fr s c = some (.call f args, s')) :
    s' = s ∧ ∃ us : Array Value, execOp a.eval o = callFunc f us ∧ AVL.is p s.n args us.toList := by
  unfold oCall at h
  split at h
  · split at h
    · rw [Option.map_eq_some_iff] at h
      obtain ⟨⟨v', s1⟩, _, h⟩ := h
      injection h with h1 h2; cases h1
    · cases h
  · rename_i g hg
    split at h
    · rename_i f' cap vs hg' hvs
      injection h with h; injection h with h1 h2; injection h1 with h1 h3; subst h1 h2 h3
      refine ⟨rfl, (c.args.map a.eval) ++ (cap.map fun x => p.at x.1 x.2).toArray, ?_, ?_⟩
      · have hv := (hf.eval hg').2
        simp only [execOp, ho, resolve, hg]
        rw [hv]
        show invoke (.fn (.func f') _) (#[] ++ c.args.map a.eval) = _
        simp only [invoke, Array.empty_append]
      · have : ((c.args.map a.eval) ++ (cap.map fun x => p.at x.1 x.2).toArray).toList = c.args.toList.map a.eval ++ cap.map fun x => p.at x.1 x.2 := by simp
        rw [this]
        exact (evals_list hf hvs).append (ptrVals_is (hf.eval hg').1)
    · injection h with h; injection h with h1 h2; cases h1
    · cases h
  · cases h
/-- An operation that calls a loop's yield. -/
theorem op_round (hf : fr.is p s.n a) {o : Oper} {c : Call} (ho : o.op = .call c) {l : Nat} {args : List AV} (h : oCall P fr s c = some (.round l args, s')) :
    s' = s ∧ p.has s.n l ∧ ∃ us : Array Value, execOp a.eval o = Instr.yield (p.ρ l) us ∧ AVL.is p s.n args us.toList := by
  unfold oCall at h
  split at h
  · split at h
    · rw [Option.map_eq_some_iff] at h
      obtain ⟨⟨v', s1⟩, _, h⟩ := h
      injection h with h1 h2; cases h1
    · cases h
  · rename_i g hg
    split at h
    · injection h with h; injection h with h1 h2; cases h1
    · rename_i l' vs hg' hvs
      injection h with h; injection h with h1 h2; injection h1 with h1 h3; subst h1 h2 h3
      obtain ⟨hl, hv⟩ := hf.eval hg'
      refine ⟨rfl, hl, c.args.map a.eval, ?_, by rw [Array.toList_map]; exact evals_list hf hvs⟩
      simp only [execOp, ho, resolve, hg]
      rw [hv]
      show invoke (.fn (.yield (p.ρ l')) #[]) (#[] ++ c.args.map a.eval) = _
      simp only [invoke, Array.empty_append]
    · cases h
  · cases h

end Go.Ax

/- A symbolic run is what the model does: statements, calls, loops. -/
namespace Go.Ax
open Go

variable {P : Program} {B : Nat} {p : Pl} {s s' : St} {w : World} {fr : Fr} {a : Act} {v : AV}

def fenceOf (p : Pl) (rd : Option Nat) : Fence := { fn := fun _ => True, depth := none, alive := false, round := rd.map p.ρ }
theorem fenceOf_fits {q : Pl} {rd : Option Nat} {n : Nat} (h : p.fits q n) (hl : ∀ l, rd = some l → p.has n l) : fenceOf q rd = fenceOf p rd := by
  cases rd with
  | none => rfl
  | some l => simp only [fenceOf, Option.map_some, (h l (hl l rfl)).2.1]
def exitOf : Ex → Exit
  | .normal => .normal
  | .exit id => .exit id
  | .goto l => .goto l
  | .ret => .ret

def CodeFine (P : Program) (rd : Option Nat) (c : Code) (fr : Fr) (s : St) (e : Ex) (fr' : Fr) (s' : St) : Prop :=
  ∀ (B : Nat) (p : Pl) (w : World) (a : Act) (n : Nat) (Q : Exit → Act → World → Prop), Rel B p s w → B ≤ w.heap.size → fr.is p s.n a → (∀ l, rd = some l → p.has s.n l) →
    (∀ q w' a', Post B p s w q s' w' → fr'.is q s'.n a' → Q (exitOf e) a' w') → c.wpIn (fenceOf p rd) n P Q a w
def LoopFine (P : Program) (k : Nat) (rd : Option Nat) (c : Code) (fr : Fr) (s : St) (e : Ex) (fr' : Fr) (s' : St) : Prop :=
  ∀ (B : Nat) (p : Pl) (w : World) (a : Act) (n : Nat) (Q : Exit → Act → World → Prop), Rel B p s w → B ≤ w.heap.size → fr.is p s.n a → (∀ l, rd = some l → p.has s.n l) →
    (∀ q w' a', Post B p s w q s' w' → fr'.is q s'.n a' → Q (exitOf e) a' w') → Code.roundsIn (fenceOf p rd) n P c Q k a w
def OpsFine (P : Program) (rd : Option Nat) (all rest : List Oper) (fr : Fr) (s : St) (e : Ex) (fr' : Fr) (s' : St) : Prop :=
  ∀ (B : Nat) (p : Pl) (w : World) (a : Act) (n : Nat) (Q : Exit → Act → World → Prop) (L : List Nat), Rel B p s w → B ≤ w.heap.size → fr.is p s.n a → (∀ l, rd = some l → p.has s.n l) →
    L.map (fun i => all.toArray[i]?) = rest.map some →
    (∀ q w' a', Post B p s w q s' w' → fr'.is q s'.n a' → Q (exitOf e) a' w') → wpOpsIn (fenceOf p rd) n P all.toArray Q L a w
def CallFine (P : Program) (f : FuncId) (args : List AV) (s : St) (v : AV) (s' : St) : Prop :=
  ∀ (B : Nat) (p : Pl) (w : World) (us : Array Value) (n : Nat) (R : Ending → World → Prop), Rel B p s w → B ≤ w.heap.size → AVL.is p s.n args us.toList →
    (∀ q w' u, Post B p s w q s' w' → v.is q s'.n u → R (.returned u) w') → (callFunc f us).run P w = .ok (.enter f us) w ∧ CallsIn Fence.wide n P f us w R
def RoundFine (P : Program) (l : Nat) (args : List AV) (s : St) (v : AV) (s' : St) : Prop :=
  ∀ (B : Nat) (p : Pl) (w : World) (us : Array Value) (n : Nat) (R : Ending → World → Prop), Rel B p s w → B ≤ w.heap.size → AVL.is p s.n args us.toList →
    (∀ q w' u, Post B p s w q s' w' → v.is q s'.n u → R (.returned u) w') →
    ∃ fn tmps assign body, (Instr.yield (p.ρ l) us).run P w = .ok (.round (p.ρ l) fn tmps assign body) w ∧ RoundIn Fence.wide n P (p.ρ l) fn tmps assign body w R
def TaskFine (P : Program) (t : Task) (s : St) (o : Out) (s' : St) : Prop :=
  match t, o with
  | .code rd c fr, .left e fr' => CodeFine P rd c fr s e fr' s'
  | .ops rd all rest fr, .left e fr' => e = .normal ∧ OpsFine P rd all rest fr s e fr' s'
  | .call f args, .val v => CallFine P f args s v s'
  | .round l args, .val v => RoundFine P l args s v s'
  | _, _ => False
def RunFine (P : Program) (r : Run) : Prop := ∀ t s o s', r t s = some (o, s') → TaskFine P t s o s'

/-! ### Codes -/
theorem CodeFine.then_ {rd : Option Nat} {c d : Code} {fr fr1 fr2 : Fr} {s s1 s2 : St} {e : Ex} (h1 : CodeFine P rd c fr s .normal fr1 s1) (h2 : CodeFine P rd d fr1 s1 e fr2 s2) : CodeFine P rd (.seq c d) fr s e fr2 s2 := by
  intro B p w a n Q hr hB hf hrd hQ
  refine wpIn_seq (h1 B p w a n _ hr hB hf hrd fun q w' a' hp hf' => ?_)
  show d.wpIn (fenceOf p rd) n P Q a' w'
  rw [← fenceOf_fits hp.fits hrd]
  exact h2 B q w' a' n Q hp.rel (Nat.le_trans hB hp.size) hf' (fun l hl => hp.fits.has hp.le (hrd l hl)) fun q' w'' a'' hp' hf'' => hQ q' w'' a'' (hp.trans hp') hf''
theorem CodeFine.first {rd : Option Nat} {c d : Code} {fr fr1 : Fr} {s s1 : St} {e : Ex} (h1 : CodeFine P rd c fr s e fr1 s1) (he : e ≠ .normal) : CodeFine P rd (.seq c d) fr s e fr1 s1 := by
  intro B p w a n Q hr hB hf hrd hQ
  refine wpIn_seq (h1 B p w a n _ hr hB hf hrd fun q w' a' hp hf' => ?_)
  have := hQ q w' a' hp hf'
  cases e <;> first | exact absurd rfl he | exact this
theorem xSeq_cases {r : Run} {rd : Option Nat} {b : Code} {x : Option (Out × St)} {o : Out} {s' : St} (h : xSeq r rd b x = some (o, s')) :
    (∃ fr s1, x = some (.left .normal fr, s1) ∧ r (.code rd b fr) s1 = some (o, s')) ∨ (x = some (o, s') ∧ ∀ fr, o ≠ .left .normal fr) := by
  unfold xSeq at h
  split at h
  · exact .inl ⟨_, _, rfl, h⟩
  · rename_i hno
    refine .inr ⟨h, fun fr e => ?_⟩
    subst e
    exact hno _ _ h
theorem code_left {r : Run} (hr : RunFine P r) {rd : Option Nat} {c : Code} {fr : Fr} {o : Out} (h : r (.code rd c fr) s = some (o, s')) : ∃ e fr', o = .left e fr' ∧ CodeFine P rd c fr s e fr' s' := by
  have := hr _ _ _ _ h
  cases o with
  | left e fr' => exact ⟨e, fr', rfl, this⟩
  | val v => exact this.elim

theorem seq_fine {r : Run} (hr : RunFine P r) {rd : Option Nat} {c d : Code} {fr : Fr} {o : Out} (h : xSeq r rd d (r (.code rd c fr) s) = some (o, s')) : ∃ e fr', o = .left e fr' ∧ CodeFine P rd (.seq c d) fr s e fr' s' := by
  rcases xSeq_cases h with ⟨fr1, s1, h1, h2⟩ | ⟨h1, hno⟩
  · obtain ⟨e1, f1, he1, hc1⟩ := code_left hr h1
    injection he1 with he1 hf1; subst he1 hf1
    obtain ⟨e2, f2, rfl, hc2⟩ := code_left hr h2
    exact ⟨e2, f2, rfl, hc1.then_ hc2⟩
  · obtain ⟨e1, f1, rfl, hc1⟩ := code_left hr h1
    exact ⟨e1, f1, rfl, hc1.first fun e => by subst e; exact hno f1 rfl⟩
theorem block_fine {r : Run} (hr : RunFine P r) {rd : Option Nat} {c : Code} {id : Nat} {fr : Fr} {o : Out} (h : xBlock id (r (.code rd c fr) s) = some (o, s')) : ∃ e fr', o = .left e fr' ∧ CodeFine P rd (.block id c) fr s e fr' s' := by
  unfold xBlock at h
  split at h
  · rename_i j fr1 s1 h1
    obtain ⟨e1, f1, he1, hc1⟩ := code_left hr h1
    injection he1 with he1 hf1; subst he1 hf1
    split at h
    · rename_i hj
      have hj := Nat.eq_of_beq_eq_true hj
      subst hj
      injection h with h; injection h with h1 h2; subst h1 h2
      refine ⟨.normal, _, rfl, fun B p w a n Q hr hB hf hrd hQ => wpIn_block (hc1 B p w a n _ hr hB hf hrd fun q w' a' hp hf' => ?_)⟩
      show Exit.inBlock j Q (.exit j) a' w'
      simp only [Exit.inBlock, if_true]
      exact hQ q w' a' hp hf'
    · rename_i hj
      injection h with h; injection h with h1 h2; subst h1 h2
      refine ⟨.exit j, _, rfl, fun B p w a n Q hr hB hf hrd hQ => wpIn_block (hc1 B p w a n _ hr hB hf hrd fun q w' a' hp hf' => ?_)⟩
      show Exit.inBlock id Q (.exit j) a' w'
      have : j ≠ id := fun e => by subst e; simp at hj
      simp only [Exit.inBlock, if_neg this]
      exact hQ q w' a' hp hf'
  · rename_i hno
    obtain ⟨e1, f1, rfl, hc1⟩ := code_left hr h
    refine ⟨e1, f1, rfl, fun B p w a n Q hr hB hf hrd hQ => wpIn_block (hc1 B p w a n _ hr hB hf hrd fun q w' a' hp hf' => ?_)⟩
    have := hQ q w' a' hp hf'
    cases e1 with
    | exit j => exact absurd h (hno j f1 s')
    | normal => exact this
    | goto l => exact this
    | ret => exact this

theorem cond_fine {r : Run} (hr : RunFine P r) {rd : Option Nat} {c d : Code} {x : Operand} {fr : Fr} {o : Out} (h : xCond r rd c d fr s (fr.eval x) = some (o, s')) : ∃ e fr', o = .left e fr' ∧ CodeFine P rd (.cond x c d) fr s e fr' s' := by
  unfold xCond at h
  split at h
  · rename_i hx
    obtain ⟨e, f, rfl, hc⟩ := code_left hr h
    exact ⟨e, f, rfl, fun B p w a n Q hr hB hf hrd hQ => wpIn_cond (t := true) (hf.eval hx) (hc B p w a n Q hr hB hf hrd hQ)⟩
  · rename_i hx
    obtain ⟨e, f, rfl, hc⟩ := code_left hr h
    exact ⟨e, f, rfl, fun B p w a n Q hr hB hf hrd hQ => wpIn_cond (t := false) (hf.eval hx) (hc B p w a n Q hr hB hf hrd hQ)⟩
  · cases h

/-! ### Loops -/
theorem loop_fine {r : Run} {k : Nat} (hr : RunFine P r) {rd : Option Nat} {c : Code} {fr : Fr} {o : Out}
    (hl : ∀ fr s e fr' s', r (.code rd (.loop c) fr) s = some (.left e fr', s') → LoopFine P k rd c fr s e fr' s')
    (h : xSeq r rd (.loop c) (r (.code rd c fr) s) = some (o, s')) : ∃ e fr', o = .left e fr' ∧ LoopFine P (k + 1) rd c fr s e fr' s' := by
  rcases xSeq_cases h with ⟨fr1, s1, h1, h2⟩ | ⟨h1, hno⟩
  · obtain ⟨e1, f1, he1, hc1⟩ := code_left hr h1
    injection he1 with he1 hf1; subst he1 hf1
    obtain ⟨e2, f2, rfl, _⟩ := code_left hr h2
    refine ⟨e2, f2, rfl, fun B p w a n Q hr hB hf hrd hQ => ?_⟩
    rw [roundsIn_succ]
    refine hc1 B p w a n _ hr hB hf hrd fun q w' a' hp hf' => ?_
    show Code.roundsIn (fenceOf p rd) n P c Q k a' w'
    rw [← fenceOf_fits hp.fits hrd]
    exact hl _ _ _ _ _ h2 B q w' a' n Q hp.rel (Nat.le_trans hB hp.size) hf' (fun l hl => hp.fits.has hp.le (hrd l hl)) fun q' w'' a'' hp' hf'' => hQ q' w'' a'' (hp.trans hp') hf''
  · obtain ⟨e1, f1, rfl, hc1⟩ := code_left hr h1
    refine ⟨e1, f1, rfl, fun B p w a n Q hr hB hf hrd hQ => ?_⟩
    rw [roundsIn_succ]
    refine hc1 B p w a n _ hr hB hf hrd fun q w' a' hp hf' => ?_
    have := hQ q w' a' hp hf'
    cases e1 with
    | normal => exact absurd rfl (hno f1)
    | exit j => exact this
    | goto l => exact this
    | ret => exact this
theorem LoopFine.code {k : Nat} {rd : Option Nat} {c : Code} {fr fr' : Fr} {e : Ex} (h : LoopFine P k rd c fr s e fr' s') : CodeFine P rd (.loop c) fr s e fr' s' :=
  fun B p w a n Q hr hB hf hrd hQ => wpIn_loop_rounds k (h B p w a n Q hr hB hf hrd hQ)

/-! ### Operations in their order -/
theorem guard_sound {all : List Oper} {fr : Fr} {o : Oper} {b : Bool} (h : guardOk all fr o = some b) {n : Nat} (hf : fr.is p n a) : Region.wanted o (yielded all.toArray a.tmps) = b := by
  unfold guardOk at h
  unfold Region.wanted
  split at h
  · rename_i hg; injection h with h; subst h; simp [hg]
  · rename_i j want hg
    simp only [hg]
    split at h
    · rename_i g hj
      rw [lget_eq] at hj
      split at h
      · rename_i d hd
        split at h
        · rename_i c hc
          injection h with h; subst h
          obtain ⟨u, hu, huc⟩ := hf.get d _ hc
          have : yielded all.toArray a.tmps j = some c := by
            unfold yielded
            have h1 : all.toArray[j]? = some g := by simpa using hj
            simp only [h1, Option.bind_some, hd, hu, show u = .bool c from huc]
          rw [this]
          cases c <;> cases want <;> rfl
        · cases h
      · cases h
    · cases h
theorem not_defer_val {o : Oper} (h : op? P fr o.op s = some (.val v, s')) : ∀ c, o.op ≠ .defer c := fun c e => by rw [e] at h; cases h
theorem not_defer_call {o : Oper} {c : Call} (h : callOf o.op = some c) : o.op = .call c := by
  unfold callOf at h
  split at h
  · injection h with h; subst h; rename_i h'; exact h'
  · cases h
theorem fine_upon {F : Fence} {n : Nat} {o : Oper} {K : Act → World → Prop} {Q : Exit → Act → World → Prop} (hF : F.fn = fun _ => True) (hd : ∀ c, o.op ≠ .defer c) (h : Fine P B p s w (execOp a.eval o) v s')
    (hK : ∀ u q w', v.is q s'.n u → Post B p s w q s' w' → K (a.put o.dst u) w') : o.wpIn F n P a w K Q := by
  obtain ⟨u, q, w', hran, hv, hp⟩ := h
  refine ⟨fun f _ => by rw [hF]; trivial, ?_⟩
  rw [Oper.semAt_eq _ _ _ hd]
  rcases hran with hran | ⟨hran, rfl⟩
  · rw [hran]; exact hK u q w' hv hp
  · rw [hran]; exact hK _ q w' hv hp

/-- The rest, behind an operation's value. -/
theorem ops_rest {r : Run} (hr : RunFine P r) {rd : Option Nat} {all rest : List Oper} {fr : Fr} {o : Out} (h : r (.ops rd all rest fr) s = some (o, s')) : ∃ fr', o = .left .normal fr' ∧ OpsFine P rd all rest fr s .normal fr' s' := by
  have := hr _ _ _ _ h
  cases o with
  | left e fr' => obtain ⟨rfl, hx⟩ := this; exact ⟨fr', rfl, hx⟩
  | val v => exact this.elim
theorem call_val {r : Run} (hr : RunFine P r) {f : FuncId} {args : List AV} {o : Out} (h : r (.call f args) s = some (o, s')) : ∃ v, o = .val v ∧ CallFine P f args s v s' := by
  have := hr _ _ _ _ h
  cases o with
  | left e fr' => exact this.elim
  | val v => exact ⟨v, rfl, this⟩
theorem round_val {r : Run} (hr : RunFine P r) {l : Nat} {args : List AV} {o : Out} (h : r (.round l args) s = some (o, s')) : ∃ v, o = .val v ∧ RoundFine P l args s v s' := by
  have := hr _ _ _ _ h
  cases o with
  | left e fr' => exact this.elim
  | val v => exact ⟨v, rfl, this⟩
theorem map_cons_split {all rest : List Oper} {o : Oper} {L : List Nat} (h : L.map (fun i => all.toArray[i]?) = (o :: rest).map some) : ∃ i L', L = i :: L' ∧ all.toArray[i]? = some o ∧ L'.map (fun i => all.toArray[i]?) = rest.map some := by
  cases L with
  | nil => simp at h
  | cons i L' =>
    simp only [List.map_cons, List.cons.injEq] at h
    exact ⟨i, L', rfl, h.1, h.2⟩

/-- One operation of a region, at its place. -/
def wpOne (F : Fence) (n : Nat) (P : Program) (ops : Array Oper) (Q : Exit → Act → World → Prop) (o : Oper) (K : Act → World → Prop) (a : Act) (w : World) : Prop :=
  if Region.wanted o (yielded ops a.tmps) then o.wpIn F n P a w K Q
  else (∀ f, o.about P w a.eval = some f → F.fn f) ∧ K (a.put o.dst Go.undef) w
def OneFine (P : Program) (all : List Oper) (fr : Fr) (o : Oper) (s : St) (v : AV) (s' : St) : Prop :=
  ∀ (B : Nat) (p : Pl) (w : World) (a : Act) (n : Nat) (rd : Option Nat) (Q : Exit → Act → World → Prop) (K : Act → World → Prop), Rel B p s w → B ≤ w.heap.size → fr.is p s.n a →
    (∀ q w' u, Post B p s w q s' w' → v.is q s'.n u → K (a.put o.dst u) w') → wpOne (fenceOf p rd) n P all.toArray Q o K a w
theorem xBox_eq (r : Run) (fr : Fr) (s : St) (o : Op) : xBox P r fr s (boxOf P o) = match callOf o with
    | some c => xOneC r (oCall P fr s c)
    | none => xOneV (op? P fr o s) := by
  cases o <;> rfl
theorem one_fine {r : Run} (hr : RunFine P r) {all : List Oper} {fr : Fr} {o : Oper} {v : AV} (h : xOne P r all fr o s = some (v, s')) : OneFine P all fr o s v s' := by
  unfold xOne at h
  intro B p w a n rd Q K hrel hB hf hK
  unfold wpOne
  split at h
  · cases h
  · rename_i hg
    injection h with h; injection h with h1 h2; subst h1 h2
    rw [if_neg (by rw [guard_sound hg hf]; simp)]
    exact ⟨fun _ _ => trivial, hK p w _ (Post.refl hrel) (AV.undef_is _ _)⟩
  · rename_i hg
    rw [if_pos (guard_sound hg hf)]
    rw [xBox_eq] at h
    split at h
    · rename_i c hc
      have hop := not_defer_call hc
      have hnd : ∀ c', o.op ≠ .defer c' := fun c' e => by rw [hop] at e; cases e
      unfold xOneC at h
      split at h
      · rename_i v1 s1 hv
        injection h with h; injection h with h1 h2; subst h1 h2
        exact fine_upon rfl hnd (oCall_val hrel hB hf hop hv) fun u q w' hu hp => hK q w' u hp hu
      · rename_i f args s1 hv
        unfold asVal at h
        split at h
        · rename_i v2 s2 hcall
          injection h with h; injection h with h1 h2; subst h1 h2
          obtain ⟨v', hv', hcf⟩ := call_val hr hcall
          injection hv' with hv'; subst hv'
          obtain ⟨rfl, us, he, hus⟩ := op_call hf hop hv
          refine ⟨fun _ _ => trivial, ?_⟩
          obtain ⟨hent, hci⟩ := hcf B p w us (n - 1) (fun
            | .returned v, w'' => K (a.put o.dst v) w''
            | .panicked chain, w'' => Q (.panic chain) a w''
            | .outgrown, _ => LetsOut Q) hrel hB hus (fun q w' u hp hu => hK q w' u hp hu)
          rw [Oper.semAt_eq _ _ _ hnd, he, hent]
          exact ⟨fun hh => by simp [fenceOf] at hh, hci⟩
        · cases h
      · rename_i l args s1 hv
        unfold asVal at h
        split at h
        · rename_i v2 s2 hcall
          injection h with h; injection h with h1 h2; subst h1 h2
          obtain ⟨v', hv', hcf⟩ := round_val hr hcall
          injection hv' with hv'; subst hv'
          obtain ⟨rfl, hlt, us, he, hus⟩ := op_round hf hop hv
          refine ⟨fun _ _ => trivial, ?_⟩
          obtain ⟨fn, tmps, assign, body, hent, hci⟩ := hcf B p w us (n - 1) (fun
            | .returned v, w'' => K (a.put o.dst v) w''
            | .panicked chain, w'' => Q (.panic chain) a w''
            | .outgrown, _ => LetsOut Q) hrel hB hus (fun q w' u hp hu => hK q w' u hp hu)
          rw [Oper.semAt_eq _ _ _ hnd, he, hent]
          exact ⟨fun hh => by simp [fenceOf] at hh, hci⟩
        · cases h
      · cases h
    · unfold xOneV at h
      split at h
      · rename_i v1 s1 hv
        injection h with h; injection h with h1 h2; subst h1 h2
        exact fine_upon rfl (not_defer_val hv) (op_val hrel hB hf hv) fun u q w' hu hp => hK q w' u hp hu
      · cases h

theorem ops_fine {r : Run} (hr : RunFine P r) {rd : Option Nat} {all ops : List Oper} {fr : Fr} {o : Out} (h : xOps P r rd all ops fr s = some (o, s')) : ∃ fr', o = .left .normal fr' ∧ OpsFine P rd all ops fr s .normal fr' s' := by
  unfold xOps at h
  split at h
  · injection h with h; injection h with h1 h2; subst h1 h2
    refine ⟨fr, rfl, fun B p w a n Q L hr hB hf hrd hL hQ => ?_⟩
    have : L = [] := by cases L with | nil => rfl | cons => simp at hL
    subst this
    exact hQ p w a (Post.refl hr) hf
  · rename_i op rest
    split at h
    · cases h
    · rename_i v s1 hone
      obtain ⟨fr', rfl, hx⟩ := ops_rest hr h
      refine ⟨fr', rfl, fun B p w a n Q L hrel hB hf hrd hL hQ => ?_⟩
      obtain ⟨i, L', rfl, hi, hL'⟩ := map_cons_split hL
      simp only [wpOpsIn, hi]
      refine one_fine hr hone B p w a n rd Q _ hrel hB hf fun q w' u hp hu => ?_
      rw [← fenceOf_fits hp.fits hrd]
      exact hx B q w' _ n Q L' hp.rel (Nat.le_trans hB hp.size) ((hf.fits hp.fits hp.le).put _ hu) (fun l hl => hp.fits.has hp.le (hrd l hl)) hL' fun q' w'' a'' hp' hf'' => hQ q' w'' a'' (hp.trans hp') hf''

end Go.Ax

/- A symbolic run is what the model does: calls and rounds. -/
namespace Go.Ax
open Go

variable {P : Program} {B : Nat} {p : Pl} {s s' : St} {w : World} {fr : Fr} {a : Act} {v : AV}

theorem ofList_getA {α : Type} {l : List α} {j : Nat} {x : α} (h : (T.ofList l).get j = some x) : l[j]? = some x := by
  rcases T.get_sets l T.leaf 0 j x h with ⟨_, h⟩ | ⟨_, h⟩
  · simpa using h
  · cases h
theorem AVL.is.get {n : Nat} : ∀ {l : List AV} {u : List Value}, AVL.is p n l u → ∀ (j : Nat) (x : AV), l[j]? = some x → ∃ y, u[j]? = some y ∧ x.is p n y
  | _ :: _, v :: _, hs, 0, x, hj => ⟨v, rfl, by simp at hj; exact hj ▸ hs.1⟩
  | _ :: _, _ :: _, hs, j + 1, x, hj => by simpa using AVL.is.get hs.2 j x (by simpa using hj)
  | [], [], _, j, x, hj => by simp at hj
  | [], _ :: _, hs, _, _, _ => hs.elim
  | _ :: _, [], hs, _, _, _ => hs.elim

/-- The frame that a call enters. -/
theorem enter_is {n : Nat} {args : List AV} {us : Array Value} (h8 : 8 ≤ n) (h : AVL.is p n args us.toList) (f : FuncId) (nt : Nat) :
    (Fr.mk f (Nat.max nt args.length) (T.ofList args) []).is p n { tmps := us ++ Array.replicate (nt - us.size) Go.undef, defers := [] } := by
  have hl := h.length
  simp only [Array.length_toList] at hl
  refine ⟨?_, fun t x ht => ?_, rfl, (fun d hd => by cases hd), h8⟩
  · simp only [Array.size_append, Array.size_replicate, hl]
    show _ = max nt args.length
    omega
  · obtain ⟨y, hy, hxy⟩ := h.get t x (ofList_getA ht)
    refine ⟨y, ?_, hxy⟩
    have hy : us[t]? = some y := by simpa using hy
    have : t < us.size := by rw [Array.getElem?_eq_some_iff] at hy; exact hy.1
    show (us ++ _)[t]? = some y
    rw [Array.getElem?_append_left this]; exact hy

/-! ### Results -/
theorem resultsOf_sound (hr : Rel B p s w) (hf : fr.is p s.n a) : ∀ {rs : List ResultVar} {vs : List A1}, resultsOf P s fr rs = some vs →
    ∃ us : List Value, (rs.mapM fun
      | .tmp t => pure (a.tmps.getD t Go.undef)
      | .cell c t => do loadVar t (← asAddr (a.tmps.getD c Go.undef)) : Sem (List Value)).run P w = .ok us w ∧ A1L.is p s.n vs us
  | [], vs, h => by injection h with h; subst h; exact ⟨[], by simp, trivial⟩
  | .tmp t :: r, vs, h => by
    unfold resultsOf at h
    split at h
    · rename_i x l hx hl
      injection h with h; subst h
      obtain ⟨us, h1, h2⟩ := resultsOf_sound hr hf hl
      obtain ⟨u, hu, hux⟩ := hf.get t _ hx
      refine ⟨u :: us, ?_, hux, h2⟩
      have hgd : a.tmps.getD t Go.undef = u := by rw [Array.getD_eq_getD_getElem?, hu]; rfl
      rw [List.mapM_cons, Sem.run_bind]
      simp only [Sem.run_pure, Result.andThen_ok, Sem.run_bind, h1, hgd]
    · cases h
  | .cell c t :: r, vs, h => by
    unfold resultsOf at h
    split at h
    · rename_i i o l hx hl
      split at h
      · rename_i x hv
        injection h with h; subst h
        obtain ⟨us, h1, h2⟩ := resultsOf_sound hr hf hl
        obtain ⟨u, hu, hux⟩ := hf.get c _ hx
        obtain ⟨y, hy, hxy⟩ := loadAt_sound (P := P) hr hv
        refine ⟨y :: us, ?_, hxy, h2⟩
        have hy' : (loadVar t ⟨p.ρ i, o, none⟩).run P w = .ok y w := by
          simpa [Instr.loadAt, Instr.sureAddr, Pl.at] using hy
        have hgd : a.tmps.getD c Go.undef = .pointer (some ⟨p.ρ i, o, none⟩) := by rw [Array.getD_eq_getD_getElem?, hu]; exact hux.2
        have hasA : (asAddr (.pointer (some ⟨p.ρ i, o, none⟩))).run P w = .ok ⟨p.ρ i, o, none⟩ w := rfl
        rw [List.mapM_cons, Sem.run_bind]
        simp only [Sem.run_bind, hgd, hasA, Sem.run_pure, Result.andThen_ok, hy', h1]
      · cases h
    · cases h

theorem A1L.is.length {n : Nat} : ∀ {l : List A1} {u : List Value}, A1L.is p n l u → u.length = l.length
  | [], [], _ => rfl
  | _ :: _, _ :: _, h => by simp [A1L.is.length h.2]
  | [], _ :: _, h => h.elim
  | _ :: _, [], h => h.elim
theorem results_sound (hr : Rel B p s w) (hf : fr.is p s.n a) {fn : Func} {vs : List A1} (h : resultsOf P s fr fn.results.toList = some vs) :
    ∃ u, (results fn a.tmps).run P w = .ok u w ∧ (outOf vs).is p s.n u := by
  obtain ⟨us, h1, h2⟩ := resultsOf_sound (P := P) hr hf h
  have hm : (results fn a.tmps).run P w = .ok (if h : us.toArray.size = 1 then us.toArray[0] else .tuple us.toArray) w := by
    unfold results
    rw [Sem.run_bind, Array.mapM_eq_mapM_toList, Sem.run_map]
    erw [h1]
    rfl
  refine ⟨_, hm, ?_⟩
  match us, vs, h2 with
  | [], [], _ => exact ⟨#[], rfl, trivial⟩
  | [u], [x], h2 => exact h2.1
  | u :: u' :: us, x :: y :: vs, h2 =>
    refine ⟨(u :: u' :: us).toArray, ?_, h2⟩
    simp
  | [], _ :: _, h => exact h.elim
  | _ :: _, [], h => exact h.elim
  | [_], _ :: _ :: _, h => exact h.2.elim
  | _ :: _ :: _, [_], h => exact h.2.elim

theorem Sc.plain_is {n m : Nat} {q : Pl} {x : Sc} {u : Value} (hx : x.plain = true) (h : x.is p n u) : x.is q m u := by
  cases x <;> first | exact h | simp [Sc.plain] at hx
theorem ScL.plain_is {n m : Nat} {q : Pl} : ∀ {l : List Sc} {us : List Value}, l.all Sc.plain = true → ScL.is p n l us → ScL.is q m l us
  | [], [], _, _ => trivial
  | x :: l, u :: us, hx, h => by
    simp only [List.all_cons, Bool.and_eq_true] at hx
    exact ⟨Sc.plain_is hx.1 h.1, ScL.plain_is hx.2 h.2⟩
  | [], _ :: _, _, h => h.elim
  | _ :: _, [], _, h => h.elim
theorem A1.plain_is {n m : Nat} {q : Pl} {x : A1} {u : Value} (hx : x.plain = true) (h : x.is p n u) : x.is q m u := by
  cases x with
  | sc s => exact Sc.plain_is (p := p) (n := n) hx h
  | agg l => obtain ⟨cs, rfl, hc⟩ := h; exact ⟨cs, rfl, ScL.plain_is hx hc⟩
theorem A1L.plain_is {n m : Nat} {q : Pl} : ∀ {l : List A1} {us : List Value}, l.all A1.plain = true → A1L.is p n l us → A1L.is q m l us
  | [], [], _, _ => trivial
  | x :: l, u :: us, hx, h => by
    simp only [List.all_cons, Bool.and_eq_true] at hx
    exact ⟨A1.plain_is hx.1 h.1, A1L.plain_is hx.2 h.2⟩
  | [], _ :: _, _, h => h.elim
  | _ :: _, [], _, h => h.elim
theorem outOf_plain {n m : Nat} {q : Pl} {vs : List A1} {u : Value} (hx : vs.all A1.plain = true) (h : (outOf vs).is p n u) : (outOf vs).is q m u := by
  unfold outOf at h ⊢
  split at h
  · simp only [List.all_cons, List.all_nil, Bool.and_true] at hx
    exact A1.plain_is hx h
  · obtain ⟨us, rfl, hu⟩ := h
    exact ⟨us, rfl, A1L.plain_is hx hu⟩

theorem marks_sound {fn : Func} {tmps : Array Value} {R : Ending → World → Prop} {n : Nat} : ∀ {ds : List Nat} {s : St} {p : Pl} {w : World}, Rel B p s w → dropMarks s ds = some s' →
    (∀ w', Post B p s w p s' w' → LeavesIn Fence.wide n P fn tmps R [] .returning w') →
    LeavesInM Fence.wide n P fn tmps R (ds.map fun d => { target := .collected (p.ρ d), args := #[] }) .returning w
  | [], s, p, w, hr, h, hk => by
    injection h with h; subst h
    exact hk w (Post.refl hr)
  | d :: ds, s, p, w, hr, h, hk => by
    unfold dropMarks at h
    split at h
    · rename_i hg
      have hlive : s.live d := ⟨_, hg, rfl⟩
      have hrow : w.heap[p.ρ d]? = some (.deferred (some [])) := (hr.row d _ hg rfl).2.2.2
      have hlt := (hr.place hlive).2
      have htake : (Instr.takeDeferred (p.ρ d)).run P w = .ok [] { w with heap := w.heap.setIfInBounds (p.ρ d) (.deferred none) } := by
        simp [Instr.takeDeferred, getObj, setObj, Sem.run, hrow]
      have hp1 : Post B p s w p (s.put d .dead) { w with heap := w.heap.setIfInBounds (p.ρ d) (.deferred none) } :=
        Post.write hr hlive .dead (by simp) trivial (fun b hb => by
          show (w.heap.setIfInBounds _ _)[b]? = _
          rw [Array.getElem?_setIfInBounds_ne (fun e => hb e.symm)]) rfl rfl rfl
      refine ⟨by simp, .inl ⟨p.ρ d, _, rfl, htake, ?_⟩⟩
      exact marks_sound hp1.rel h fun w' hp => hk w' (hp1.trans hp)
    · cases h

/-! ### Calls -/
theorem xResults_eq {s0 s : St} {vs : List A1} {o : Out} (h : xResults s0 s (some vs) = some (o, s')) : o = .val (outOf vs) ∧ s' = { h := keepH s0 s vs, n := s.n, lo := min s0.lo s.lo } := by
  unfold xResults at h
  simp only [forceNat_eq] at h
  injection h with h; injection h with h1 h2
  refine ⟨h1.symm, ?_⟩
  rw [← h2]
  cases hb : Nat.ble s0.lo s.lo
  · have : ¬ s0.lo ≤ s.lo := fun e => by rw [Nat.ble_eq_true_of_le e] at hb; cases hb
    simp only [Nat.min_def, if_neg this]
  · have : s0.lo ≤ s.lo := Nat.le_of_ble_eq_true hb
    simp only [Nat.min_def, if_pos this]
/-- What a call's own state says of the caller's. -/
theorem Post.toCaller {s0 s3 : St} {q : Pl} {w3 : World} {lo : Nat} (hr : Rel B p s0 w) (h : Post B p { h := s0.h, n := s0.n, lo := lo } w q s3 w3) (vs : List A1) :
    Post B p s0 w q { h := keepH s0 s3 vs, n := s3.n, lo := min s0.lo s3.lo } w3 := by
  have hle : s0.n ≤ s3.n := h.le
  have hf : p.fits q s0.n := h.fits
  have hkeep : ∀ b, b < w.heap.size → (∀ i, s3.lo ≤ i → s0.live i → p.ρ i ≠ b) → w3.heap[b]? = w.heap[b]? := h.keep
  have hk : (keepH s0 s3 vs = s0.h ∧ s0.n ≤ s3.lo) ∨ keepH s0 s3 vs = s3.h := by
    unfold keepH
    split
    · rename_i hb
      simp only [Bool.and_eq_true] at hb
      exact .inl ⟨rfl, Nat.le_of_ble_eq_true hb.1⟩
    · exact .inr rfl
  have hlo : min s0.lo s3.lo ≤ s3.lo := Nat.min_le_right _ _
  refine ⟨hr, hle, Nat.min_le_left _ _, hf, h.back, ?_, h.size, fun b hb hx => hkeep b hb fun i hi hl => hx i (Nat.le_trans hlo hi) hl, ?_, ?_, h.os, h.tape, h.output⟩
  · rcases hk with ⟨hk, hn⟩ | hk
    · refine ⟨fun i r hi hl => ?_, fun i j hi hj he => ?_, Nat.le_trans hr.n8 hle⟩
      · change (keepH s0 s3 vs).get i = some r at hi
        rw [hk] at hi
        obtain ⟨h1, h2, h3, h4⟩ := hr.row i r hi hl
        rw [(hf i h1).2.1]
        refine ⟨hf.has hle h1, h2, by have : w.heap.size ≤ w3.heap.size := h.size; omega, ?_⟩
        rw [hkeep _ h3 (fun i' hi' hl' => by have := hr.lt hl'; omega)]
        exact h4.fits hf hle h1
      · have hi' : s0.live i := by obtain ⟨r, a, b⟩ := hi; exact ⟨r, by change (keepH s0 s3 vs).get i = some r at a; rw [hk] at a; exact a, b⟩
        have hj' : s0.live j := by obtain ⟨r, a, b⟩ := hj; exact ⟨r, by change (keepH s0 s3 vs).get j = some r at a; rw [hk] at a; exact a, b⟩
        rw [(hf i (hr.has hi')).2.1, (hf j (hr.has hj')).2.1] at he
        exact hr.inj i j hi' hj' he
    · exact Rel.less h.rel rfl fun i r hi => by change (keepH s0 s3 vs).get i = some r at hi; rw [hk] at hi; exact hi
  · intro i hi hl
    rcases hk with ⟨hk, hn⟩ | hk
    · have : s0.live i := by obtain ⟨r, a, b⟩ := hl; exact ⟨r, by change (keepH s0 s3 vs).get i = some r at a; rw [hk] at a; exact a, b⟩
      have := hr.lt this; omega
    · have hl' : s3.live i := by obtain ⟨r, a, b⟩ := hl; exact ⟨r, by change (keepH s0 s3 vs).get i = some r at a; rw [hk] at a; exact a, b⟩
      rcases h.new i hi hl' with hx | ⟨j, hj, hjl, hje⟩
      · exact .inl hx
      · exact .inr ⟨j, Nat.le_trans hlo hj, hjl, hje⟩
  · intro i hi hl
    rcases hk with ⟨hk, hn⟩ | hk
    · obtain ⟨r, a, b⟩ := hl; exact ⟨r, by change (keepH s0 s3 vs).get i = some r at a; rw [hk] at a; exact a, b⟩
    · have hl' : s3.live i := by obtain ⟨r, a, b⟩ := hl; exact ⟨r, by change (keepH s0 s3 vs).get i = some r at a; rw [hk] at a; exact a, b⟩
      exact h.old i hi hl'

theorem callFunc_enter {f : FuncId} {fn : Func} {c : Code} (hf : P.funcs[f]? = some fn) (hb : fn.body = some c) (hn : fn.name ≠ "runtime.NumGoroutine") (us : Array Value) (w : World) : (callFunc f us).run P w = .ok (.enter f us) w := by
  simp [callFunc, hf, hb, hn]
theorem leave_fine {fn : Func} {s0 s2 s3 : St} {q : Pl} {w2 : World} {fr2 : Fr} {a2 : Act} {vs : List A1} {lo n : Nat} {R : Ending → World → Prop} (hr : Rel B p s0 w) (hP : Post B p { h := s0.h, n := s0.n, lo := lo } w q s2 w2) (hf2 : fr2.is q s2.n a2)
    (hd : dropMarks s2 fr2.dfs = some s3) (hv : resultsOf P s3 fr2 fn.results.toList = some vs)
    (hR : ∀ q w' u, Post B p s0 w q { h := keepH s0 s3 vs, n := s3.n, lo := min s0.lo s3.lo } w' → (outOf vs).is q s3.n u → R (.returned u) w') : LeavesInM Fence.wide n P fn a2.tmps R a2.defers .returning w2 := by
  rw [hf2.marks]
  refine marks_sound hP.rel hd fun w3 hp3 => ?_
  have hall := hP.trans hp3
  obtain ⟨u, hu, hou⟩ := results_sound (P := P) hp3.rel (hf2.fits hp3.fits hp3.le) hv
  exact ⟨u, hu, hR q w3 u (Post.toCaller hr hall vs) hou⟩
theorem call_fine {r : Run} (hr : RunFine P r) {f : FuncId} {args : List AV} {o : Out} (h : xCall P r f args s = some (o, s')) : ∃ v, o = .val v ∧ CallFine P f args s v s' := by
  unfold xCall at h
  split at h
  · cases h
  · rename_i fn hfn
    split at h
    · cases h
    · rename_i c hc
      split at h
      · cases h
      · rename_i hname
        have hname : fn.name ≠ "runtime.NumGoroutine" := by simpa using hname
        unfold xLeave at h
        split at h
        · rename_i fr2 s2 h2
          split at h
          · rename_i s3 h3
            obtain ⟨e1, f1, he1, hcf⟩ := code_left hr h2
            injection he1 with he1 hf1; subst he1 hf1
            cases hvs : resultsOf P s3 fr2 fn.results.toList with
            | none => rw [hvs] at h; cases h
            | some vs =>
              rw [hvs] at h
              obtain ⟨rfl, rfl⟩ := xResults_eq h
              refine ⟨_, rfl, fun B p w us n R hrel hB hus hR => ⟨callFunc_enter hfn hc hname us w, callsIn_of_wp_marks hfn hc trivial ?_⟩⟩
              refine hcf B p w _ n _ ⟨hrel.row, hrel.inj, hrel.n8⟩ hB (enter_is hrel.n8 hus f fn.ntmps) (fun l hl => by cases hl) fun q w2 a2 hp hf2 => ?_
              exact leave_fine hrel hp hf2 h3 hvs hR
          · cases h
        · rename_i fr2 s2 h2
          split at h
          · rename_i s3 h3
            obtain ⟨e1, f1, he1, hcf⟩ := code_left hr h2
            injection he1 with he1 hf1; subst he1 hf1
            cases hvs : resultsOf P s3 fr2 fn.results.toList with
            | none => rw [hvs] at h; cases h
            | some vs =>
              rw [hvs] at h
              obtain ⟨rfl, rfl⟩ := xResults_eq h
              refine ⟨_, rfl, fun B p w us n R hrel hB hus hR => ⟨callFunc_enter hfn hc hname us w, callsIn_of_wp_marks hfn hc trivial ?_⟩⟩
              refine hcf B p w _ n _ ⟨hrel.row, hrel.inj, hrel.n8⟩ hB (enter_is hrel.n8 hus f fn.ntmps) (fun l hl => by cases hl) fun q w2 a2 hp hf2 => ?_
              exact leave_fine hrel hp hf2 h3 hvs hR
          · cases h
        · cases h

end Go.Ax

/- A symbolic run is what the model does: ranges over functions; all tasks together. -/
namespace Go.Ax
open Go

variable {P : Program} {B : Nat} {p : Pl} {s s' : St} {w : World} {fr : Fr} {a : Act} {v : AV}

theorem setParams_is {n nt : Nat} : ∀ {ts : List Tmp} {args : List AV} {us : List Value} {t : T AV} {tm : Array Value}, tm.size = nt → AVL.is p n args us → ts.length = args.length →
    (∀ j v, t.get j = some v → ∃ u, tm[j]? = some u ∧ v.is p n u) →
    ((ts.zip us).foldl (fun tmps (t, a) => tmps.setIfInBounds t a) tm).size = nt ∧
    ∀ j v, (setParams nt ts args t).get j = some v → ∃ u, ((ts.zip us).foldl (fun tmps (t, a) => tmps.setIfInBounds t a) tm)[j]? = some u ∧ v.is p n u
  | [], [], [], t, tm, hs, _, _, h => ⟨hs, h⟩
  | x :: ts, y :: args, u :: us, t, tm, hs, hl, hlen, h => by
    simp only [List.zip_cons_cons, List.foldl_cons]
    unfold setParams
    refine setParams_is (by simpa using hs) hl.2 (by simpa using hlen) fun j v hj => ?_
    split at hj
    · rename_i hb
      have hb : x < tm.size := by have := Nat.le_of_ble_eq_true hb; rw [hs]; exact this
      rcases T.get_set _ _ _ _ _ _ hj with ⟨rfl, rfl⟩ | ⟨hne, hg⟩
      · exact ⟨u, by rw [Array.getElem?_setIfInBounds_self_of_lt hb], hl.1⟩
      · obtain ⟨z, hz, hzv⟩ := h j v hg
        exact ⟨z, by rw [Array.getElem?_setIfInBounds_ne (fun e => hne e.symm)]; exact hz, hzv⟩
    · rename_i hb
      have : ¬ x < tm.size := fun hlt => by
        rw [Nat.ble_eq_true_of_le (show x + 1 ≤ nt by rw [← hs]; exact hlt)] at hb; cases hb
      rw [Array.setIfInBounds_eq_of_size_le (Nat.le_of_not_lt this)]
      exact h j v hj
  | [], _ :: _, _, _, _, _, _, hlen, _ => by simp at hlen
  | _ :: _, [], _, _, _, _, _, hlen, _ => by simp at hlen
  | _, [], _ :: _, _, _, _, hl, _, _ => hl.elim
  | _, _ :: _, [], _, _, _, hl, _, _ => hl.elim

theorem loopRow (hr : Rel B p s w) {l : Nat} {q : LoopRow} (h : hget s.h l = some (.loop q)) : s.live l ∧ ∃ L : Loop, w.heap[p.ρ l]? = some (.loop L) ∧ q.is p s.n L :=
  ⟨⟨_, h, rfl⟩, (hr.row l _ h rfl).2.2.2⟩
/-- The loop's row, its state and its pending jump written. -/
theorem loop_write (hr : Rel B p s w) {l : Nat} {q : LoopRow} (h : hget s.h l = some (.loop q)) {L : Loop} (hq : q.is p s.n L) (st : LoopState) (pe : Option Code) :
    Post B p s w p (s.put l (.loop { q with state := st, pending := pe })) { w with heap := w.heap.setIfInBounds (p.ρ l) (.loop { L with state := st, pending := pe }) } := by
  have hlive : s.live l := ⟨_, h, rfl⟩
  have hlt := (hr.place hlive).2
  refine Post.write hr hlive _ (by simp) ?_ (fun b hb => ?_) rfl rfl rfl
  · refine ⟨{ L with state := st, pending := pe }, ?_, rfl, rfl, ?_⟩
    · show (w.heap.setIfInBounds _ _)[p.ρ l]? = _
      rw [Array.getElem?_setIfInBounds_self_of_lt hlt]
    · obtain ⟨_, _, h3, h4, h5, h6, h7, h8, h9⟩ := hq
      exact ⟨h3, h4, h5, h6, h7, h8, h9⟩
  · show (w.heap.setIfInBounds _ _)[b]? = _
    rw [Array.getElem?_setIfInBounds_ne (fun e => hb e.symm)]
theorem endRound_run {l : Nat} {L : Loop} (hL : w.heap[l]? = some (.loop L)) (j : Option Code) :
    (Instr.endRound l j).run P w = .ok (.bool j.isNone) { w with heap := w.heap.setIfInBounds l (.loop { L with state := if j.isNone then .ready else .done, pending := j }) } := by
  simp [Instr.endRound, Instr.getLoop, getObj, setObj, Sem.run, hL]
theorem beginRound_run {l : Nat} {L : Loop} (hL : w.heap[l]? = some (.loop L)) (hs : L.state = .ready) :
    (Instr.beginRound l).run P w = .ok () { w with heap := w.heap.setIfInBounds l (.loop { L with state := .busy }) } := by
  simp [Instr.beginRound, Instr.getLoop, getObj, setObj, Sem.run, hL, hs]
theorem yield_run {l : Nat} {L : Loop} {us : Array Value} (hL : w.heap[l]? = some (.loop L)) (hs : us.size = L.params.size) :
    (Instr.yield l us).run P w = .ok (.round l L.fn ((L.params.zip us).foldl (fun tmps (t, a) => tmps.setIfInBounds t a) L.tmps) L.assign L.body) w := by
  simp [Instr.yield, Instr.getLoop, getObj, Sem.run, hL, hs]

/-- How a round is left. -/
def leftBy : Ex → LoopState × Option Code × Bool
  | .normal => (.ready, none, true)
  | .ret => (.done, some .ret, false)
  | .exit id => (.done, some (.exit id), false)
  | .goto t => (.done, some (.goto t), false)
theorem xRoundEnd_eq {l : Nat} {e : Ex} {f : Fr} {s2 : St} {o : Out} (h : xRoundEnd l (some (.left e f, s2)) = some (o, s')) :
    ∃ q, hget s2.h l = some (.loop q) ∧ o = .val (.sc (.bool (leftBy e).2.2)) ∧ s' = s2.put l (.loop { q with state := (leftBy e).1, pending := (leftBy e).2.1 }) := by
  unfold xRoundEnd at h
  simp only at h
  split at h
  · rename_i q hq
    refine ⟨q, hq, ?_⟩
    cases e <;> (injection h with h; injection h with h1 h2; exact ⟨h1.symm, h2.symm⟩)
  · cases h
theorem roundPost_of {l : Nat} {R : Ending → World → Prop} {e : Ex} {L : Loop} {a : Act} (hL : w.heap[l]? = some (.loop L))
    (hR : R (.returned (.bool (leftBy e).2.2)) { w with heap := w.heap.setIfInBounds l (.loop { L with state := (leftBy e).1, pending := (leftBy e).2.1 }) }) : roundPost P l R (exitOf e) a w := by
  cases e
  · exact ⟨_, _, endRound_run hL none, hR⟩
  · exact ⟨_, _, endRound_run hL (some (.exit _)), hR⟩
  · exact ⟨_, _, endRound_run hL (some (.goto _)), hR⟩
  · exact ⟨_, _, endRound_run hL (some .ret), hR⟩

theorem round_fine {r : Run} (hr : RunFine P r) {l : Nat} {args : List AV} {o : Out} (h : xRound r l args s = some (o, s')) : ∃ v, o = .val v ∧ RoundFine P l args s v s' := by
  unfold xRound at h
  split at h
  · rename_i q hq
    split at h
    · rename_i hst hlen
      have hlen := Nat.eq_of_beq_eq_true hlen
      unfold xRoundBody at h
      split at h
      · rename_i fr1 s1 h1
        obtain ⟨e1, f1, he1, hc1⟩ := code_left hr h1
        injection he1 with he1 hf1; subst he1 hf1
        split at h
        · rename_i q1 hq1
          split at h
          · rename_i hst1
            cases hx : r (.code (some l) q.body fr1) (s1.put l (.loop { q1 with state := .busy })) with
            | none => rw [hx] at h; cases h
            | some os =>
              obtain ⟨o2, s2⟩ := os
              obtain ⟨e2, f2, rfl, hc2⟩ := code_left hr hx
              rw [hx] at h
              obtain ⟨q2, hq2, rfl, rfl⟩ := xRoundEnd_eq h
              refine ⟨_, rfl, fun B p w us n R hrel hB hus hR => ?_⟩
              obtain ⟨hlive, L, hL, hLq⟩ := loopRow hrel hq
              have hll := hrel.has hlive
              obtain ⟨g1, g2, g3, g4, g5, g6, g7, g8, g9⟩ := hLq
              have husl := hus.length
              simp only [Array.length_toList] at husl
              have hsz : us.size = L.params.size := by
                have : L.params.size = q.params.length := by rw [← g3]; simp
                omega
              refine ⟨_, _, _, _, yield_run hL hsz, ?_⟩
              refine roundIn_of_wpIn trivial ?_
              rw [g4, g5]
              obtain ⟨hs1, hs2⟩ := setParams_is (p := p) (n := s.n) (nt := q.nt) (ts := q.params) (args := args) (us := us.toList) (t := q.tmps) (tm := L.tmps) g6 hus hlen g9
              have hfold : (L.params.zip us).foldl (fun tmps (t, a) => tmps.setIfInBounds t a) L.tmps = (q.params.zip us.toList).foldl (fun tmps (t, a) => tmps.setIfInBounds t a) L.tmps := by
                rw [← Array.foldl_toList, Array.toList_zip, g3]
              rw [hfold]
              refine hc1 B p w _ n _ hrel hB ⟨hs1, hs2, rfl, (fun d hd => by cases hd), hrel.n8⟩ (fun l' hl' => by injection hl' with hl'; subst hl'; exact hll) fun q' w1 a1 hp1 hf1 => ?_
              show ∃ w₂, _
              obtain ⟨hlive1, L1, hL1, hLq1⟩ := loopRow hp1.rel hq1
              have hρ := (hp1.fits l hll).2.1
              rw [← hρ]
              refine ⟨_, beginRound_run hL1 (by rw [hLq1.1]; exact hst1), ?_⟩
              have hpb := loop_write hp1.rel hq1 hLq1 .busy q1.pending
              have hLp : ({ L1 with state := LoopState.busy } : Loop) = { L1 with state := .busy, pending := q1.pending } := by rw [← hLq1.2.1]
              rw [hLp]
              have hn1 : (s1.put l (.loop { q1 with state := .busy })).n = s1.n := St.put_n _ _ _
              have hll1 := hp1.fits.has hp1.le hll
              have hllb := hpb.fits.has hpb.le hll1
              refine hc2 B q' _ a1 n _ hpb.rel (Nat.le_trans hB (Nat.le_trans hp1.size hpb.size)) (hf1.fits hpb.fits hpb.le) (fun l' hl' => by injection hl' with hl'; subst hl'; exact hllb) fun q'' w2 a2 hp2 hf2 => ?_
              obtain ⟨hlive2, L2, hL2, hLq2⟩ := loopRow hp2.rel hq2
              have hρ2 := (hp2.fits l hllb).2.1
              rw [← hρ2]
              refine roundPost_of hL2 ?_
              have hpe := loop_write hp2.rel hq2 hLq2 (leftBy e2).1 (leftBy e2).2.1
              exact hR q'' _ _ (((hp1.trans hpb).trans hp2).trans hpe) rfl
          · cases h
        · cases h
      · cases h
    · cases h
  · cases h

/-! ### A range over a function -/
theorem endLoop_run {l : Nat} {L : Loop} (hL : w.heap[l]? = some (.loop L)) (hs : L.state ≠ .busy) :
    (Instr.endLoop l).run P w = .ok L.pending { w with heap := w.heap.setIfInBounds l (.loop { L with state := .exhausted }) } := by
  simp [Instr.endLoop, Instr.getLoop, getObj, setObj, Sem.run, hL, hs]
theorem xRangeEnd_parts {r : Run} {rd : Option Nat} {l : Nat} {fr : Fr} {x : Option (Out × St)} {o : Out} (h : xRangeEnd r rd l fr x = some (o, s')) :
    ∃ v s1 q, x = some (.val v, s1) ∧ hget s1.h l = some (.loop q) ∧ q.state ≠ .busy ∧
      ((q.pending = none ∧ o = .left .normal fr ∧ s' = s1.put l .dead) ∨ ∃ c, q.pending = some c ∧ r (.code rd c fr) (s1.put l .dead) = some (o, s')) := by
  unfold xRangeEnd at h
  split at h
  · rename_i v s1
    split at h
    · rename_i q hq
      split at h
      · cases h
      · rename_i hnb
        refine ⟨v, s1, q, rfl, hq, fun e => hnb e, ?_⟩
        split at h
        · rename_i hp
          injection h with h; injection h with h1 h2
          exact .inl ⟨hp, h1.symm, h2.symm⟩
        · rename_i c hp
          exact .inr ⟨c, hp, h⟩
    · cases h
  · cases h

/-- The statement, behind the record's laying. -/
theorem rangeIn_fine {r : Run} (hr : RunFine P r) {rd : Option Nat} {f : FuncId} {cap : List (Nat × Nat)} {ps : Array Tmp} {assign body : Code} {fr : Fr} {dfr : Nat} {o : Out}
    (h : xRangeIn r rd f cap ps.toList assign body fr dfr s = some (o, s')) :
    ∃ e fr', o = .left e fr' ∧ ∀ (B : Nat) (p : Pl) (w : World) (a : Act) (n : Nat) (Q : Exit → Act → World → Prop) (fn : FuncId), Rel B p s w → B ≤ w.heap.size → fr.is p s.n a → (∀ l, rd = some l → p.has s.n l) → p.has s.n dfr → (∀ x ∈ cap, p.has s.n x.1) →
      (∀ q w' a', Post B p s w q s' w' → fr'.is q s'.n a' → Q (exitOf e) a' w') →
      CallsIn Fence.wide (n - 1) P f (#[.func (.yield w.heap.size) #[] #[]] ++ (cap.map fun x => p.at x.1 x.2).toArray)
        { w with heap := w.heap.push (.loop { state := .ready, pending := none, fn, tmps := a.tmps, params := ps, assign, body, defers := p.ρ dfr }) }
        (rangePost (fenceOf p rd) n P w.heap.size Q a) ∧
      (callFunc f (#[.func (.yield w.heap.size) #[] #[]] ++ (cap.map fun x => p.at x.1 x.2).toArray)).run P { w with heap := w.heap.push (.loop { state := .ready, pending := none, fn, tmps := a.tmps, params := ps, assign, body, defers := p.ρ dfr }) } =
        .ok (.enter f (#[.func (.yield w.heap.size) #[] #[]] ++ (cap.map fun x => p.at x.1 x.2).toArray)) { w with heap := w.heap.push (.loop { state := .ready, pending := none, fn, tmps := a.tmps, params := ps, assign, body, defers := p.ρ dfr }) } := by
  unfold xRangeIn at h
  obtain ⟨v, s1, q, hx, hq, hnb, hor⟩ := xRangeEnd_parts h
  obtain ⟨v', hv', hcall⟩ := call_val hr hx
  -- how it is left
  have hleft : ∃ e fr', o = .left e fr' ∧ ((q.pending = none ∧ e = .normal ∧ fr' = fr ∧ s' = s1.put s.n .dead) ∨ ∃ c, q.pending = some c ∧ CodeFine P rd c fr (s1.put s.n .dead) e fr' s') := by
    rcases hor with ⟨h1, h2, h3⟩ | ⟨c, h1, h2⟩
    · exact ⟨.normal, fr, h2, .inl ⟨h1, rfl, rfl, h3⟩⟩
    · obtain ⟨e, fr', he, hc⟩ := code_left hr h2
      exact ⟨e, fr', he, .inr ⟨c, h1, hc⟩⟩
  obtain ⟨e, fr', rfl, hcase⟩ := hleft
  refine ⟨e, fr', rfl, fun B p w a n Q fn hrel hB hf hrd hdfr hcap hQ => ?_⟩
  have hnew := Post.new' hrel hB (.loop { fn := fr.fn, state := .ready, pending := none, nt := fr.nt, tmps := fr.tmps, params := ps.toList, assign, body, dfr })
    (.loop { state := .ready, pending := none, fn, tmps := a.tmps, params := ps, assign, body, defers := p.ρ dfr }) 0 (by
      have hf' := hf.fits (p.set_fits s.n w.heap.size 0) (by omega : s.n ≤ s.n + 1)
      exact ⟨_, rfl, rfl, rfl, rfl, rfl, rfl, hf'.size, by rw [(p.set_fits s.n w.heap.size 0 dfr hdfr).2.1], (p.set_fits s.n w.heap.size 0).has (by omega) hdfr, hf'.get⟩)
  have hn : (s.new (.loop { fn := fr.fn, state := .ready, pending := none, nt := fr.nt, tmps := fr.tmps, params := ps.toList, assign, body, dfr })).n = s.n + 1 := St.new_n _ _
  have hcf := fun R hR => hcall B (p.set s.n w.heap.size 0) _ (#[.func (.yield w.heap.size) #[] #[]] ++ (cap.map fun x => p.at x.1 x.2).toArray) (n - 1) R hnew.rel (Nat.le_trans hB hnew.size) (by
    have h1 : AVL.is p s.n (ptrVals cap) (cap.map fun x => p.at x.1 x.2) := ptrVals_is hcap
    simp only [Array.toList_append]
    refine ⟨⟨p.set_has _ _ _ _ (by rw [hn]; omega), by rw [p.set_ρ _ _ _ hrel.n8]⟩, ?_⟩
    simpa using h1.fits hnew.fits hnew.le) hR
  refine ⟨(hcf _ fun q' w' u hp hu => ?_).2, (hcf (fun _ _ => True) fun _ _ _ _ _ => trivial).1⟩
  · show ∃ jump w₄, _
    have hall := hnew.trans hp
    obtain ⟨hlive, L, hL, hLq⟩ := loopRow hp.rel hq
    have hρ : q'.ρ s.n = w.heap.size := by rw [(hp.fits s.n (p.set_has _ _ _ _ (by rw [hn]; omega))).2.1, p.set_ρ _ _ _ hrel.n8]
    rw [hρ] at hL
    refine ⟨_, _, endLoop_run hL (by rw [hLq.1]; exact hnb), ?_⟩
    have hlt : w.heap.size < w'.heap.size := by rw [← hρ]; exact (hp.rel.place hlive).2
    have hw := Post.write hp.rel hlive .dead (w' := { w' with heap := w'.heap.setIfInBounds w.heap.size (.loop { L with state := .exhausted }) }) (by simp) trivial (fun b hb => by
      show (w'.heap.setIfInBounds _ _)[b]? = _
      rw [Array.getElem?_setIfInBounds_ne (fun e => hb (by rw [hρ]; exact e.symm))]) rfl rfl rfl
    have hend := hall.trans hw
    have hpend := hLq.2.1
    generalize ({ w' with heap := w'.heap.setIfInBounds w.heap.size (.loop { L with state := .exhausted }) } : World) = W at hend ⊢
    rw [hpend]
    rcases hcase with ⟨h1, rfl, rfl, rfl⟩ | ⟨c, h1, hc⟩
    · rw [h1]
      exact hQ q' _ a hend (hf.fits hend.fits hend.le)
    · rw [h1]
      show c.wpIn (fenceOf p rd) n P Q a _
      rw [← fenceOf_fits hend.fits hrd]
      exact hc B q' _ a n Q hend.rel (Nat.le_trans hB hend.size) (hf.fits hend.fits hend.le) (fun l hl => hend.fits.has hend.le (hrd l hl)) fun q'' w'' a'' hp' hf'' => hQ q'' w'' a'' (hend.trans hp') hf''

theorem range_fine {r : Run} (hr : RunFine P r) {rd : Option Nat} {ps : Array Tmp} {assign body : Code} {fr : Fr} {g : Operand} {o : Out}
    (h : xRange r rd ps.toList assign body fr s (fr.eval g) = some (o, s')) : ∃ e fr', o = .left e fr' ∧ CodeFine P rd (.rangeFunc g ps assign body) fr s e fr' s' := by
  unfold xRange at h
  split at h
  · rename_i f cap hg
    split at h
    · -- an outermost loop: a block and its mark
      rw [forceNat_eq] at h
      obtain ⟨e, fr', rfl, hin⟩ := rangeIn_fine hr h
      refine ⟨e, fr', rfl, fun B p w a n Q hrel hB hf hrd hQ => ?_⟩
      have hn1 : (s.new Row.dfr).n = s.n + 1 := St.new_n _ _
      have hnew := Post.new' hrel hB Row.dfr (.deferred (some [])) 0 rfl
      have hgv := hf.eval hg
      have hfits := p.set_fits s.n w.heap.size 0
      have hf1 : (Fr.mk fr.fn fr.nt fr.tmps (s.n :: fr.dfs)).is (p.set s.n w.heap.size 0) (s.new Row.dfr).n { a with defers := { target := .collected w.heap.size, args := #[] } :: a.defers } := by
        have hf' := hf.fits hfits (by omega : s.n ≤ s.n + 1)
        refine ⟨hf'.size, fun t v ht => by rw [hn1]; exact hf'.get t v ht, ?_, fun d hd => ?_, by rw [hn1]; have := hrel.n8; omega⟩
        · rw [List.map_cons, p.set_ρ _ _ _ hrel.n8, hf'.marks]
        · rw [hn1]
          rcases List.mem_cons.1 hd with rfl | hd
          · exact p.set_has _ _ _ _ (by omega)
          · exact hf'.marksLt d hd
      refine wpIn_rangeFunc fun fn _ => ?_
      obtain ⟨hci, hent⟩ := hin B _ _ _ n Q fn hnew.rel (Nat.le_trans hB hnew.size) hf1 (fun l hl => by cases hl) (p.set_has _ _ _ _ (by rw [hn1]; omega)) (fun x hx => hfits.has (by rw [hn1]; omega) (hgv.1 x hx)) fun q w' a' hp hf' => hQ q w' a' (hnew.trans hp) hf'
      have hcap : (cap.map fun x => (p.set s.n w.heap.size 0).at x.1 x.2) = cap.map fun x => p.at x.1 x.2 :=
        List.map_congr_left fun x hx => by simp only [Pl.at, (hfits x.1 (hgv.1 x hx)).2.1]
      rw [hcap] at hci hent
      have hρn : (p.set s.n w.heap.size 0).ρ s.n = w.heap.size := p.set_ρ _ _ _ hrel.n8
      have hsz : ({ w with heap := w.heap.push (.deferred (some [])) } : World).heap.size = w.heap.size + 1 := by simp
      rw [hρn, hsz] at hci hent
      obtain ⟨U, hU⟩ : ∃ U, U = (#[.func (.yield (w.heap.size + 1)) #[] #[]] ++ (cap.map fun x => p.at x.1 x.2).toArray : Array Value) := ⟨_, rfl⟩
      obtain ⟨W1, hW1⟩ : ∃ W1, W1 = ({ w with heap := (w.heap.push (.deferred (some []))).push (.loop { state := .ready, pending := none, fn, tmps := a.tmps, params := ps, assign, body, defers := w.heap.size }) } : World) := ⟨_, rfl⟩
      have hci : CallsIn (fenceOf p none) (n - 1) P f U W1 (rangePost (fenceOf p none) n P (w.heap.size + 1) Q { a with defers := { target := .collected w.heap.size, args := #[] } :: a.defers }) := by
        rw [hU, hW1]; exact hci
      have hent : (callFunc f U).run P W1 = .ok (.enter f U) W1 := by
        rw [hU, hW1]; exact hent
      refine ⟨w.heap.size + 1, [{ target := .collected w.heap.size, args := #[] }], W1, { target := .fn (.func f) (cap.map fun x => p.at x.1 x.2).toArray, args := #[.func (.yield (w.heap.size + 1)) #[] #[]] }, W1, f, U, W1, ?_, ?_, fun _ _ => trivial, ?_, fun hh => by simp [fenceOf] at hh, ?_⟩
      · show (Instr.enterLoop fn a.tmps ps assign body none).run P w = _
        rw [hW1]
        simp [Instr.enterLoop]
        rfl
      · simp only [resolve]
        rw [show a.eval g = _ from hgv.2]
        simp [Deferred.ofValue, Act.eval]
      · rw [← hent, hU]; rfl
      · exact hci
    · rename_i l
      split at h
      · rename_i q hq
        obtain ⟨e, fr', rfl, hin⟩ := rangeIn_fine hr h
        refine ⟨e, fr', rfl, fun B p w a n Q hrel hB hf hrd hQ => ?_⟩
        have hgv := hf.eval hg
        obtain ⟨hlive, L, hL, hLq⟩ := loopRow hrel hq
        obtain ⟨_, _, _, _, _, _, hdf, hdl, _⟩ := hLq
        refine wpIn_rangeFunc fun fn _ => ?_
        obtain ⟨hci, hent⟩ := hin B p w a n Q fn hrel hB hf hrd hdl hgv.1 hQ
        generalize hU : (#[.func (.yield w.heap.size) #[] #[]] ++ (cap.map fun x => p.at x.1 x.2).toArray : Array Value) = U at hci hent
        generalize hW1 : ({ w with heap := w.heap.push (.loop { state := .ready, pending := none, fn, tmps := a.tmps, params := ps, assign, body, defers := p.ρ q.dfr }) } : World) = W1 at hci hent
        refine ⟨w.heap.size, [], W1, { target := .fn (.func f) (cap.map fun x => p.at x.1 x.2).toArray, args := #[.func (.yield w.heap.size) #[] #[]] }, W1, f, U, W1, ?_, ?_, fun _ _ => trivial, ?_, fun hh => by simp [fenceOf] at hh, ?_⟩
        · show (Instr.enterLoop fn a.tmps ps assign body (some (p.ρ l))).run P w = _
          rw [← hW1]
          simp [Instr.enterLoop, Instr.getLoop, getObj, Sem.run, hL, hdf]
        · rw [← hW1]
          simp only [resolve]
          rw [show a.eval g = _ from hgv.2]
          simp [Deferred.ofValue, Act.eval]
        · rw [← hent, ← hU]; rfl
        · exact hci
      · cases h
  · cases h

/-! ### All tasks -/
theorem region_fine {r : Run} (hr : RunFine P r) {rd : Option Nat} {id : Nat} {ops : Array Oper} {fr : Fr} {o : Out} (h : r (.ops rd ops.toList ops.toList fr) s = some (o, s')) :
    ∃ e fr', o = .left e fr' ∧ CodeFine P rd (.region id ops false) fr s e fr' s' := by
  obtain ⟨fr', rfl, hx⟩ := ops_rest hr h
  refine ⟨.normal, fr', rfl, fun B p w a n Q hrel hB hf hrd hQ => wpIn_region ?_⟩
  have := hx B p w a n Q (List.range ops.size) hrel hB hf hrd (by
    refine List.ext_getElem? fun j => ?_
    rw [List.getElem?_map, List.getElem?_map]
    by_cases hj : j < ops.size
    · simp [hj]
    · rw [List.getElem?_eq_none (by simpa using hj), List.getElem?_eq_none (by simpa using hj)]; rfl) hQ
  simpa using this

end Go.Ax

/- A symbolic run is what the model does: regions that draw their order. -/
namespace Go.Ax
open Go

variable {P : Program}

/-! ### What lies ahead -/
theorem maskOf_just (ms : List Nat) : ∀ {es : List Nat} {j : Nat}, (maskOf ms es).testBit j = true → ∃ e ∈ es, j = e ∨ ∃ m, ms[e]? = some m ∧ m.testBit j = true
  | [], j, h => by simp [maskOf] at h
  | e :: t, j, h => by
    unfold maskOf at h
    rw [Nat.testBit_or, Nat.testBit_or, Bool.or_eq_true, Bool.or_eq_true] at h
    rcases h with (h | h) | h
    · rw [Nat.testBit_two_pow] at h
      exact ⟨e, List.mem_cons_self .., .inl (of_decide_eq_true h).symm⟩
    · cases hm : lget ms e with
      | none => rw [hm] at h; simp at h
      | some m => rw [hm] at h; rw [lget_eq] at hm; exact ⟨e, List.mem_cons_self .., .inr ⟨m, hm, h⟩⟩
    · obtain ⟨e', he', hx⟩ := maskOf_just ms h
      exact ⟨e', List.mem_cons_of_mem _ he', hx⟩
/-- The masks already made stay. -/
theorem masksOf_keep : ∀ (t : List Oper) (acc : List Nat) (i m : Nat), acc[i]? = some m → (masksOf t acc)[i]? = some m
  | [], acc, i, m, h => h
  | o :: t, acc, i, m, h => by
    unfold masksOf
    refine masksOf_keep t _ i m ?_
    rw [List.getElem?_append_left (by rw [List.getElem?_eq_some_iff] at h; exact h.1)]
    exact h
theorem masksOf_just : ∀ (t : List Oper) (acc : List Nat) (i m : Nat) (o : Oper), t[i]? = some o → (masksOf t acc)[acc.length + i]? = some m →
    ∀ j, m.testBit j = true → ∃ e ∈ edgesOf .any o, j = e ∨ ∃ m', (masksOf t acc)[e]? = some m' ∧ m'.testBit j = true
  | [], acc, i, m, o, ho, _, _, _ => by simp at ho
  | q :: t, acc, 0, m, o, ho, hm, j, hj => by
    simp at ho; subst ho
    unfold masksOf at hm ⊢
    have hk := masksOf_keep t (acc ++ [maskOf acc (edgesOf .any q)]) acc.length (maskOf acc (edgesOf .any q)) (by simp)
    rw [Nat.add_zero, hk] at hm
    injection hm with hm; subst hm
    obtain ⟨e, he, hx⟩ := maskOf_just acc hj
    refine ⟨e, he, ?_⟩
    rcases hx with hx | ⟨m', hm', hb⟩
    · exact .inl hx
    · exact .inr ⟨m', masksOf_keep t _ e m' (by rw [List.getElem?_append_left (by rw [List.getElem?_eq_some_iff] at hm'; exact hm'.1)]; exact hm'), hb⟩
  | q :: t, acc, i + 1, m, o, ho, hm, j, hj => by
    unfold masksOf at hm ⊢
    have := masksOf_just t (acc ++ [maskOf acc (edgesOf .any q)]) i m o (by simpa using ho) (by rw [← hm]; congr 1; simp; omega) j hj
    exact this
theorem masksOf_length : ∀ (t : List Oper) (acc : List Nat), (masksOf t acc).length = acc.length + t.length
  | [], acc => rfl
  | o :: t, acc => by unfold masksOf; rw [masksOf_length t]; simp; omega

/-! ### Heaps out of items -/
theorem withRows_get : ∀ {l : Rows'} {h : T Row} {i : Nat} {r : Row}, (withRows h l).get i = some r → (i, r) ∈ l ∨ ((∀ r', (i, r') ∉ l) ∧ h.get i = some r)
  | [], h, i, r, hg => .inr ⟨by simp, hg⟩
  | (j, q) :: t, h, i, r, hg => by
    unfold withRows at hg
    rcases withRows_get hg with h1 | ⟨h1, h2⟩
    · exact .inl (List.mem_cons_of_mem _ h1)
    · rcases T.get_set _ _ _ _ _ _ h2 with ⟨rfl, rfl⟩ | ⟨h3, h4⟩
      · exact .inl (List.mem_cons_self ..)
      · refine .inr ⟨fun r' hr' => ?_, h4⟩
        rcases List.mem_cons.1 hr' with e | e
        · injection e with e1 _; exact h3 e1
        · exact h1 r' e
theorem withItems_get {keep : Nat → Bool} : ∀ {l : List (Nat × Rows')} {h : T Row} {i : Nat} {r : Row}, (withItems h keep l).get i = some r → (∃ j rows, (j, rows) ∈ l ∧ keep j = true ∧ (i, r) ∈ rows) ∨ h.get i = some r
  | [], h, i, r, hg => .inr hg
  | (j, rows) :: t, h, i, r, hg => by
    unfold withItems at hg
    split at hg
    · rename_i hk
      rcases withItems_get hg with ⟨j', rows', h1, h2, h3⟩ | h1
      · exact .inl ⟨j', rows', List.mem_cons_of_mem _ h1, h2, h3⟩
      · rcases withRows_get h1 with h2 | ⟨_, h2⟩
        · exact .inl ⟨j, rows, List.mem_cons_self .., hk, h2⟩
        · exact .inr h2
    · rcases withItems_get hg with ⟨j', rows', h1, h2, h3⟩ | h1
      · exact .inl ⟨j', rows', List.mem_cons_of_mem _ h1, h2, h3⟩
      · exact .inr h1
theorem newRows_mem {h : T Row} : ∀ {k n i : Nat} {r : Row}, (i, r) ∈ newRows h n k → n ≤ i ∧ i < n + k ∧ h.get i = some r
  | 0, n, i, r, hm => by simp [newRows] at hm
  | k + 1, n, i, r, hm => by
    unfold newRows at hm
    split at hm
    · rename_i q hq
      rcases List.mem_cons.1 hm with e | e
      · injection e with e1 e2; subst e1 e2; exact ⟨Nat.le_refl _, by omega, hq⟩
      · obtain ⟨h1, h2, h3⟩ := newRows_mem e; exact ⟨by omega, by omega, h3⟩
    · obtain ⟨h1, h2, h3⟩ := newRows_mem hm; exact ⟨by omega, by omega, h3⟩
theorem onlySlots_get {fr : Fr} : ∀ {l : List Tmp} {t : Tmp} {v : AV}, (onlySlots fr l).get t = some v → t ∈ l ∧ fr.tmps.get t = some v
  | [], t, v, h => by cases h
  | x :: l, t, v, h => by
    unfold onlySlots at h
    split at h
    · rename_i u hu
      rcases T.get_set _ _ _ _ _ _ h with ⟨rfl, rfl⟩ | ⟨_, h2⟩
      · exact ⟨List.mem_cons_self .., hu⟩
      · obtain ⟨h3, h4⟩ := onlySlots_get h2; exact ⟨List.mem_cons_of_mem _ h3, h4⟩
    · obtain ⟨h3, h4⟩ := onlySlots_get h; exact ⟨List.mem_cons_of_mem _ h3, h4⟩

/-! ### The run in the text's order -/
noncomputable def startH (all : List Oper) (i : Nat) (m : Nat) (o : Oper) (d : Draw) : T Row :=
  match kindAt all i o with
  | 0 => .leaf
  | 1 => withItems d.b (fun j => m.testBit j) d.items
  | _ => withItems d.b (fun _ => true) d.items
noncomputable def startFr (all : List Oper) (o : Oper) (d : Draw) : Fr := { d.fr with tmps := onlySlots d.fr (readsOf all o) }
/-- What one operation makes of the draw's state. -/
def Next' (all : List Oper) (i : Nat) (o : Oper) (v : AV) (S : St) (d d' : Draw) : Prop :=
  d'.fr = d.fr.put o.dst v ∧ d'.n = S.n ∧ d.n ≤ S.n ∧
  ((kindAt all i o = 0 ∧ S.n = d.n ∧ d'.b = d.b ∧ d'.items = d.items ∧ d'.lo = d.lo) ∨
   (kindAt all i o = 1 ∧ d.n ≤ S.lo ∧ d'.b = d.b ∧ d'.items = d.items ++ [(i, newRows S.h d.n (S.n - d.n))] ∧ d'.lo = d.lo) ∨
   (2 ≤ kindAt all i o ∧ d'.b = S.h ∧ d'.items = [] ∧ d'.lo = min d.lo S.lo))
theorem drawOne_parts {r : Run} {all : List Oper} {i m : Nat} {o : Oper} {d d' : Draw} (h : drawOne P r all i m o d = some d') :
    ∃ v S, xOne P r all (startFr all o d) o { h := startH all i m o d, n := d.n, lo := big } = some (v, S) ∧ Next' all i o v S d d' := by
  unfold drawOne at h
  split at h
  · rename_i hk
    split at h
    · rename_i v S hx
      split at h
      · rename_i hn
        have hn := Nat.eq_of_beq_eq_true hn
        injection h with h; subst h
        refine ⟨v, S, by simpa only [startH, startFr, hk] using hx, rfl, hn.symm, by omega, .inl ⟨hk, hn, rfl, rfl, rfl⟩⟩
      · cases h
    · cases h
  · rename_i hk
    split at h
    · rename_i v S hx
      split at h
      · rename_i hn
        obtain ⟨h1, h2⟩ := and_true' hn
        have h1 := Nat.le_of_ble_eq_true h1
        have h2 := Nat.le_of_ble_eq_true h2
        injection h with h; subst h
        refine ⟨v, S, by simpa only [startH, startFr, hk] using hx, rfl, rfl, h2, .inr (.inl ⟨hk, h1, rfl, rfl, rfl⟩)⟩
      · cases h
    · cases h
  · rename_i hk0 hk1
    have hk : 2 ≤ kindAt all i o := by
      rcases Nat.lt_or_ge (kindAt all i o) 2 with hlt | hge
      · exfalso
        rcases Nat.lt_or_ge (kindAt all i o) 1 with h0 | h1
        · exact hk0 (by omega)
        · exact hk1 (by omega)
      · exact hge
    split at h
    · rename_i v S hx
      split at h
      · rename_i hn
        have hn := Nat.le_of_ble_eq_true hn
        injection h with h; subst h
        refine ⟨v, S, ?_, rfl, rfl, hn, .inr (.inr ⟨hk, rfl, rfl, rfl⟩)⟩
        have : startH all i m o d = withItems d.b (fun _ => true) d.items := by
          unfold startH
          split
          · rename_i h0; omega
          · rename_i h0; omega
          · rfl
        rw [this]; exact hx
      · cases h
    · cases h
theorem drawRun_trace {r : Run} {all : List Oper} {ms : List Nat} : ∀ {t : List Oper} {i : Nat} {d df : Draw}, drawRun P r all ms i t d = some df →
    ∃ D : Nat → Draw, D i = d ∧ D (i + t.length) = df ∧ ∀ k, k < t.length → ∃ m o, t[k]? = some o ∧ ms[i + k]? = some m ∧ drawOne P r all (i + k) m o (D (i + k)) = some (D (i + k + 1))
  | [], i, d, df, h => by
    injection h with h; subst h
    exact ⟨fun _ => d, rfl, rfl, fun k hk => by simp at hk⟩
  | o :: t, i, d, df, h => by
    unfold drawRun at h
    split at h
    · rename_i m hm
      rw [lget_eq] at hm
      split at h
      · rename_i d1 hd1
        obtain ⟨D, h1, h2, h3⟩ := drawRun_trace h
        refine ⟨fun k => if k = i then d else D k, by simp, ?_, fun k hk => ?_⟩
        · have : i + (o :: t).length ≠ i := by simp
          simp only [if_neg this]
          rw [← h2]; congr 1; simp; omega
        · cases k with
          | zero =>
            refine ⟨m, o, rfl, hm, ?_⟩
            have : i + 0 + 1 ≠ i := by omega
            simp only [Nat.add_zero, if_true]
            rw [if_neg (by omega), h1]; exact hd1
          | succ k =>
            obtain ⟨m', o', g1, g2, g3⟩ := h3 k (by simpa using hk)
            refine ⟨m', o', by simpa using g1, by rw [show i + (k + 1) = i + 1 + k from by omega]; exact g2, ?_⟩
            simp only
            rw [if_neg (by omega), if_neg (by omega), show i + (k + 1) = i + 1 + k from by omega]; exact g3
      · cases h
    · cases h

/-- The whole run, by the operations' places. -/
structure Txt (P : Program) (r : Run) (all : List Oper) (s0 : St) (fr0 : Fr) (D : Nat → Draw) (M : Nat → Nat) (O : Nat → Oper) (V : Nat → AV) (S : Nat → St) : Prop where
  ops : ∀ k, k < all.length → all[k]? = some (O k)
  masks : ∀ k, k < all.length → (masksOf all [])[k]? = some (M k)
  run : ∀ k, k < all.length → xOne P r all (startFr all (O k) (D k)) (O k) { h := startH all k (M k) (O k) (D k), n := (D k).n, lo := big } = some (V k, S k)
  next : ∀ k, k < all.length → Next' all k (O k) (V k) (S k) (D k) (D (k + 1))
  zero : D 0 = { b := s0.h, items := [], n := s0.n, lo := s0.lo, fr := fr0 }
theorem txt_of {r : Run} {all : List Oper} {s0 : St} {fr0 : Fr} {df : Draw} (h : drawRun P r all (masksOf all []) 0 all { b := s0.h, items := [], n := s0.n, lo := s0.lo, fr := fr0 } = some df) :
    ∃ D M O V S, Txt P r all s0 fr0 D M O V S ∧ D all.length = df := by
  obtain ⟨D, h1, h2, h3⟩ := drawRun_trace h
  have H : ∀ k, ∃ x : Nat × Oper × AV × St, k < all.length → all[k]? = some x.2.1 ∧ (masksOf all [])[k]? = some x.1 ∧
      xOne P r all (startFr all x.2.1 (D k)) x.2.1 { h := startH all k x.1 x.2.1 (D k), n := (D k).n, lo := big } = some (x.2.2.1, x.2.2.2) ∧ Next' all k x.2.1 x.2.2.1 x.2.2.2 (D k) (D (k + 1)) := by
    intro k
    by_cases hk : k < all.length
    · obtain ⟨m, o, g1, g2, g3⟩ := h3 k hk
      rw [Nat.zero_add] at g2 g3
      obtain ⟨v, S, g4, g5⟩ := drawOne_parts g3
      exact ⟨(m, o, v, S), fun _ => ⟨g1, g2, g4, g5⟩⟩
    · exact ⟨(0, default, .undef, s0), fun h => absurd h hk⟩
  obtain ⟨f, hf⟩ := Classical.axiomOfChoice H
  refine ⟨D, fun k => (f k).1, fun k => (f k).2.1, fun k => (f k).2.2.1, fun k => (f k).2.2.2, ⟨fun k hk => (hf k hk).1, fun k hk => (hf k hk).2.1, fun k hk => (hf k hk).2.2.1, fun k hk => (hf k hk).2.2.2, h1⟩, by rw [← h2, Nat.zero_add]⟩

/-! ### Where a row comes from -/
section
variable {r : Run} {all : List Oper} {s0 : St} {fr0 : Fr} {D : Nat → Draw} {M : Nat → Nat} {O : Nat → Oper} {V : Nat → AV} {S : Nat → St}

noncomputable def Kd (all : List Oper) (O : Nat → Oper) (k : Nat) : Nat := kindAt all k (O k)
def Src (all : List Oper) (s0 : St) (D : Nat → Draw) (O : Nat → Oper) (S : Nat → St) (k : Nat) (keep : Nat → Prop) (id : Nat) (q : Row) : Prop :=
  (∃ j, j < k ∧ Kd all O j = 1 ∧ keep j ∧ (∀ w, j < w → w < k → Kd all O w < 2) ∧ (D j).n ≤ id ∧ (S j).h.get id = some q) ∨
  (∃ w, w < k ∧ 2 ≤ Kd all O w ∧ (∀ w', w < w' → w' < k → Kd all O w' < 2) ∧ (S w).h.get id = some q) ∨
  ((∀ w, w < k → Kd all O w < 2) ∧ s0.h.get id = some q)
theorem Txt.parts (X : Txt P r all s0 fr0 D M O V S) : ∀ k, k ≤ all.length →
    (∀ j rows, (j, rows) ∈ (D k).items → j < k ∧ Kd all O j = 1 ∧ (∀ w, j < w → w < k → Kd all O w < 2) ∧ rows = newRows (S j).h (D j).n ((S j).n - (D j).n)) ∧
    ((∃ w, w < k ∧ 2 ≤ Kd all O w ∧ (∀ w', w < w' → w' < k → Kd all O w' < 2) ∧ (D k).b = (S w).h) ∨ ((∀ w, w < k → Kd all O w < 2) ∧ (D k).b = s0.h))
  | 0, _ => by
    rw [X.zero]
    exact ⟨(fun j rows h => by cases h), .inr ⟨(fun w hw => by omega), rfl⟩⟩
  | k + 1, hk => by
    obtain ⟨h1, h2⟩ := X.parts k (by omega)
    obtain ⟨_, _, _, hx⟩ := X.next k (by omega)
    rcases hx with ⟨g1, _, g3, g4, _⟩ | ⟨g1, _, g3, g4, _⟩ | ⟨g1, g3, g4, _⟩
    · have hK : Kd all O k = 0 := g1
      refine ⟨fun j rows h => ?_, ?_⟩
      · rw [g4] at h
        obtain ⟨a, b, c, d⟩ := h1 j rows h
        refine ⟨by omega, b, fun w hw hw' => ?_, d⟩
        rcases Nat.lt_or_ge w k with hlt | hge
        · exact c w hw hlt
        · obtain rfl : w = k := by omega
          omega
      · rw [g3]
        rcases h2 with ⟨w, a, b, c, d⟩ | ⟨a, b⟩
        · refine .inl ⟨w, by omega, b, fun w' hw hw' => ?_, d⟩
          rcases Nat.lt_or_ge w' k with hlt | hge
          · exact c w' hw hlt
          · obtain rfl : w' = k := by omega
            omega
        · refine .inr ⟨fun w hw => ?_, b⟩
          rcases Nat.lt_or_ge w k with hlt | hge
          · exact a w hlt
          · obtain rfl : w = k := by omega
            omega
    · have hK : Kd all O k = 1 := g1
      refine ⟨fun j rows h => ?_, ?_⟩
      · rw [g4] at h
        rcases List.mem_append.1 h with h | h
        · obtain ⟨a, b, c, d⟩ := h1 j rows h
          refine ⟨by omega, b, fun w hw hw' => ?_, d⟩
          rcases Nat.lt_or_ge w k with hlt | hge
          · exact c w hw hlt
          · obtain rfl : w = k := by omega
            omega
        · simp only [List.mem_singleton] at h
          injection h with e1 e2
          subst e1 e2
          exact ⟨by omega, hK, fun w hw hw' => by omega, rfl⟩
      · rw [g3]
        rcases h2 with ⟨w, a, b, c, d⟩ | ⟨a, b⟩
        · refine .inl ⟨w, by omega, b, fun w' hw hw' => ?_, d⟩
          rcases Nat.lt_or_ge w' k with hlt | hge
          · exact c w' hw hlt
          · obtain rfl : w' = k := by omega
            omega
        · refine .inr ⟨fun w hw => ?_, b⟩
          rcases Nat.lt_or_ge w k with hlt | hge
          · exact a w hlt
          · obtain rfl : w = k := by omega
            omega
    · have hK : 2 ≤ Kd all O k := g1
      refine ⟨(fun j rows h => by rw [g4] at h; cases h), .inl ⟨k, by omega, hK, (fun w' hw hw' => by omega), g3⟩⟩
theorem Txt.src (X : Txt P r all s0 fr0 D M O V S) {k : Nat} (hk : k ≤ all.length) {keep : Nat → Bool} {id : Nat} {q : Row} (h : (withItems (D k).b keep (D k).items).get id = some q) : Src all s0 D O S k (fun j => keep j = true) id q := by
  obtain ⟨h1, h2⟩ := X.parts k hk
  rcases withItems_get h with ⟨j, rows, g1, g2, g3⟩ | h
  · obtain ⟨a, b, c, d⟩ := h1 j rows g1
    rw [d] at g3
    obtain ⟨e1, _, e3⟩ := newRows_mem g3
    exact .inl ⟨j, a, b, g2, c, e1, e3⟩
  · rcases h2 with ⟨w, a, b, c, d⟩ | ⟨a, b⟩
    · exact .inr (.inl ⟨w, a, b, c, by rw [← d]; exact h⟩)
    · exact .inr (.inr ⟨a, by rw [← b]; exact h⟩)
theorem Txt.mono (X : Txt P r all s0 fr0 D M O V S) : ∀ {k l : Nat}, k ≤ l → l ≤ all.length → (D k).n ≤ (D l).n ∧ (D l).lo ≤ (D k).lo
  | k, 0, h, _ => by obtain rfl : k = 0 := by omega
                     exact ⟨Nat.le_refl _, Nat.le_refl _⟩
  | k, l + 1, h, hl => by
    rcases Nat.lt_or_ge k (l + 1) with hlt | hge
    · obtain ⟨h1, h2⟩ := X.mono (show k ≤ l by omega) (by omega)
      obtain ⟨_, a, b, c⟩ := X.next l (by omega)
      refine ⟨by omega, ?_⟩
      rcases c with ⟨_, _, _, _, c⟩ | ⟨_, _, _, _, c⟩ | ⟨_, _, _, c⟩ <;> omega
    · obtain rfl : k = l + 1 := by omega
      exact ⟨Nat.le_refl _, Nat.le_refl _⟩
theorem Txt.slots (X : Txt P r all s0 fr0 D M O V S) : ∀ k, k ≤ all.length → (D k).fr.nt = fr0.nt ∧ (D k).fr.dfs = fr0.dfs ∧ ∀ t v, t < fr0.nt → (D k).fr.tmps.get t = some v →
    (∃ j, j < k ∧ (O j).dst = some t ∧ V j = v ∧ ∀ j', j < j' → j' < k → (O j').dst ≠ some t) ∨ ((∀ j, j < k → (O j).dst ≠ some t) ∧ fr0.tmps.get t = some v)
  | 0, _ => by
    rw [X.zero]
    exact ⟨rfl, rfl, fun t v _ h => .inr ⟨fun j hj => by omega, h⟩⟩
  | k + 1, hk => by
    obtain ⟨h1, h2, h3⟩ := X.slots k (by omega)
    obtain ⟨hfr, _⟩ := X.next k (by omega)
    rw [hfr]
    cases hd : (O k).dst with
    | none =>
      refine ⟨h1, h2, fun t v ht h => ?_⟩
      rcases h3 t v ht h with ⟨j, a, b, c, d⟩ | ⟨a, b⟩
      · refine .inl ⟨j, by omega, b, c, fun j' hj hj' => ?_⟩
        rcases Nat.lt_or_ge j' k with hlt | hge
        · exact d j' hj hlt
        · obtain rfl : j' = k := by omega
          rw [hd]; simp
      · refine .inr ⟨fun j hj => ?_, b⟩
        rcases Nat.lt_or_ge j k with hlt | hge
        · exact a j hlt
        · obtain rfl : j = k := by omega
          rw [hd]; simp
    | some d =>
      unfold Fr.put
      simp only
      split
      · refine ⟨h1, h2, fun t v ht h => ?_⟩
        change ((D k).fr.tmps.set deep d (V k)).get t = some v at h
        rcases T.get_set _ _ _ _ _ _ h with ⟨rfl, rfl⟩ | ⟨hne, hg⟩
        · exact .inl ⟨k, by omega, hd, rfl, fun j' hj hj' => by omega⟩
        · rcases h3 t v ht hg with ⟨j, a, b, c, e⟩ | ⟨a, b⟩
          · refine .inl ⟨j, by omega, b, c, fun j' hj hj' => ?_⟩
            rcases Nat.lt_or_ge j' k with hlt | hge
            · exact e j' hj hlt
            · obtain rfl : j' = k := by omega
              rw [hd]; intro e; injection e with e; exact hne e.symm
          · refine .inr ⟨fun j hj => ?_, b⟩
            rcases Nat.lt_or_ge j k with hlt | hge
            · exact a j hlt
            · obtain rfl : j = k := by omega
              rw [hd]; intro e; injection e with e; exact hne e.symm
      · rename_i hb
        have hbig : ¬ d < fr0.nt := fun hlt => by
          rw [Nat.ble_eq_true_of_le (show d + 1 ≤ (D k).fr.nt by rw [h1]; exact hlt)] at hb; cases hb
        refine ⟨h1, h2, fun t v ht h => ?_⟩
        have hne : d ≠ t := fun e => hbig (by rw [e]; exact ht)
        rcases h3 t v ht h with ⟨j, a, b, c, e⟩ | ⟨a, b⟩
        · refine .inl ⟨j, by omega, b, c, fun j' hj hj' => ?_⟩
          rcases Nat.lt_or_ge j' k with hlt | hge
          · exact e j' hj hlt
          · obtain rfl : j' = k := by omega
            rw [hd]; intro e; injection e with e; exact hne e
        · refine .inr ⟨fun j hj => ?_, b⟩
          rcases Nat.lt_or_ge j k with hlt | hge
          · exact a j hlt
          · obtain rfl : j = k := by omega
            rw [hd]; intro e; injection e with e; exact hne e
end

end Go.Ax

/- A symbolic run is what the model does: regions that draw their order, whatever the order. -/
namespace Go.Ax
open Go

variable {P : Program}

/-- What the closed checks of a region say. -/
structure Static (all : List Oper) (M : Nat → Nat) (O : Nat → Oper) : Prop where
  just : ∀ i, i < all.length → ∀ j, (M i).testBit j = true → ∃ e ∈ edgesOf .any (O i), j = e ∨ (e < all.length ∧ (M e).testBit j = true)
  back : ∀ i, i < all.length → ∀ j, (M i).testBit j = true → j < i
  heap : ∀ i j, i < all.length → j < all.length → i ≠ j → 2 ≤ Kd all O i → 1 ≤ Kd all O j → (M i).testBit j = true ∨ (M j).testBit i = true
  slot : ∀ i j, i < all.length → j < all.length → i ≠ j → (M i).testBit j = true ∨ (M j).testBit i = true ∨ ∀ d, (O j).dst = some d → d ∉ readsOf all (O i) ∧ (O i).dst ≠ some d

section
variable {r : Run} {all : List Oper} {s0 : St} {fr0 : Fr} {D : Nat → Draw} {M : Nat → Nat} {O : Nat → Oper} {V : Nat → AV} {S : Nat → St}

def Fact (all : List Oper) (s0 : St) (D : Nat → Draw) (O : Nat → Oper) (S : Nat → St) (L : Nat → Prop) (id : Nat) (q : Row) (c : Nat) : Prop :=
  (∃ j, j < all.length ∧ L j ∧ Kd all O j = 1 ∧ (∀ w, w < all.length → L w → 2 ≤ Kd all O w → w < j) ∧ (D j).n ≤ id ∧ (S j).h.get id = some q ∧ c = (S j).n) ∨
  (∃ w, w < all.length ∧ L w ∧ 2 ≤ Kd all O w ∧ (∀ w', w' < all.length → L w' → 2 ≤ Kd all O w' → w' ≤ w) ∧ (S w).h.get id = some q ∧ c = (S w).n) ∨
  ((∀ w, w < all.length → L w → Kd all O w < 2) ∧ s0.h.get id = some q ∧ c = s0.n)
def Slot (all : List Oper) (s0 : St) (fr0 : Fr) (O : Nat → Oper) (V : Nat → AV) (S : Nat → St) (L : Nat → Prop) (t : Tmp) (v : AV) (c : Nat) : Prop :=
  (∃ j, j < all.length ∧ L j ∧ (O j).dst = some t ∧ V j = v ∧ (∀ j', j' < all.length → L j' → (O j').dst = some t → j' ≤ j) ∧ c = (S j).n) ∨
  ((∀ j, j < all.length → L j → (O j).dst ≠ some t) ∧ fr0.tmps.get t = some v ∧ c = s0.n)

structure Inv (all : List Oper) (s0 : St) (fr0 : Fr) (D : Nat → Draw) (M : Nat → Nat) (O : Nat → Oper) (V : Nat → AV) (S : Nat → St) (B : Nat) (p : Pl) (w0 : World) (a0 : Act) (L : Nat → Prop) (q : Pl) (a : Act) (w : World) : Prop where
  closed : ∀ i, i < all.length → L i → ∀ j, (M i).testBit j = true → L j
  fact : ∀ id x c, Fact all s0 D O S L id x c → x.live = true → q.has c id ∧ B ≤ q.ρ id ∧ q.ρ id < w.heap.size ∧ x.is q c id w.heap[q.ρ id]?
  inj : ∀ id x c id' x' c', Fact all s0 D O S L id x c → x.live = true → Fact all s0 D O S L id' x' c' → x'.live = true → q.ρ id = q.ρ id' → id = id'
  fits : p.fits q s0.n
  back : ∀ id, id < s0.n → q.ok id → p.ok id
  given : ∀ id, q.ok id → id < s0.n ∨ ∃ j, j < all.length ∧ L j ∧ (D j).n ≤ id ∧ id < (S j).n
  size : a.tmps.size = fr0.nt
  defers : a.defers = a0.defers
  slot : ∀ t v c, t < fr0.nt → Slot all s0 fr0 O V S L t v c → ∃ u, a.tmps[t]? = some u ∧ v.is q c u
  grew : w0.heap.size ≤ w.heap.size
  keep : ∀ b, b < w0.heap.size → (∀ i, (D all.length).lo ≤ i → s0.live i → p.ρ i ≠ b) → w.heap[b]? = w0.heap[b]?
  new : ∀ id x c, Fact all s0 D O S L id x c → x.live = true → s0.n ≤ id → w0.heap.size ≤ q.ρ id ∨ ∃ j, (D all.length).lo ≤ j ∧ s0.live j ∧ q.ρ id = p.ρ j
  old : ∀ id x c, Fact all s0 D O S L id x c → x.live = true → id < s0.n → s0.live id
  os : w.os = w0.os
  tape : w.tape = w0.tape
  output : w.output = w0.output

variable {B : Nat} {p q : Pl} {w0 w : World} {a0 a : Act} {L : Nat → Prop}

/-- What lies ahead of an operation whose edges are listed is listed. -/
theorem pre_listed (Z : Static all M O) (hI : ∀ i, i < all.length → L i → ∀ j, (M i).testBit j = true → L j) {i : Nat} (hi : i < all.length) (he : ∀ e ∈ edgesOf .any (O i), L e) : ∀ j, (M i).testBit j = true → L j := by
  intro j hj
  obtain ⟨e, hem, hx⟩ := Z.just i hi j hj
  rcases hx with rfl | ⟨hel, hb⟩
  · exact he _ hem
  · exact hI e hel (he e hem) j hb

theorem fact_of_src (X : Txt P r all s0 fr0 D M O V S) (Z : Static all M O) (hcl : ∀ i, i < all.length → L i → ∀ j, (M i).testBit j = true → L j) {i : Nat} (hi : i < all.length) (hnl : ¬ L i) (hpre : ∀ j, (M i).testBit j = true → L j) (hk : 1 ≤ Kd all O i)
    {keep : Nat → Prop} (hkeep : ∀ j, j < i → Kd all O j = 1 → keep j → L j) {id : Nat} {x : Row} (h : Src all s0 D O S i keep id x) : ∃ c, c ≤ (D i).n ∧ Fact all s0 D O S L id x c := by
  have hW1 : ∀ w, w < all.length → L w → 2 ≤ Kd all O w → w < i := fun w hw hl h2 => by
    have hne : w ≠ i := fun e => hnl (e ▸ hl)
    rcases Z.heap w i hw hi hne h2 hk with h3 | h3
    · exact absurd (hcl w hw hl i h3) hnl
    · exact Z.back i hi w h3
  have hW2 : ∀ w, w < i → 2 ≤ Kd all O w → L w := fun w hw h2 => by
    rcases Z.heap w i (by omega) hi (by omega) h2 hk with h3 | h3
    · have := Z.back w (by omega) i h3; omega
    · exact hpre w h3
  have hnS : ∀ j, j < i → (S j).n ≤ (D i).n := fun j hj => by
    have := (X.next j (by omega)).2.1
    have := (X.mono (show j + 1 ≤ i by omega) (by omega)).1
    omega
  rcases h with ⟨j, hj, hK, hkp, hno, hn, hg⟩ | ⟨w, hw, h2, hno, hg⟩ | ⟨hno, hg⟩
  · refine ⟨_, hnS j hj, .inl ⟨j, by omega, hkeep j hj hK hkp, hK, fun w hw hl h2 => ?_, hn, hg, rfl⟩⟩
    have := hW1 w hw hl h2
    rcases Nat.lt_trichotomy w j with hlt | heq | hgt
    · exact hlt
    · subst heq; omega
    · have := hno w hgt this; omega
  · refine ⟨_, hnS w hw, .inr (.inl ⟨w, by omega, hW2 w hw h2, h2, fun w' hw' hl h2' => ?_, hg, rfl⟩)⟩
    have := hW1 w' hw' hl h2'
    rcases Nat.lt_or_ge w w' with hlt | hge
    · have := hno w' hlt this; omega
    · exact hge
  · refine ⟨s0.n, ?_, .inr (.inr ⟨fun w hw hl => ?_, hg, rfl⟩)⟩
    · have := (X.mono (Nat.zero_le i) (by omega)).1
      rw [X.zero] at this; exact this
    · rcases Nat.lt_or_ge (Kd all O w) 2 with hlt | hge
      · exact hlt
      · exact hno w (hW1 w hw hl hge)

theorem slots_high (X : Txt P r all s0 fr0 D M O V S) : ∀ k, k ≤ all.length → ∀ t v, ¬ t < fr0.nt → (D k).fr.tmps.get t = some v → fr0.tmps.get t = some v
  | 0, _, t, v, _, h => by rw [X.zero] at h; exact h
  | k + 1, hk, t, v, ht, h => by
    have ih := slots_high X k (by omega) t v ht
    obtain ⟨h1, _, _⟩ := X.slots k (by omega)
    rw [(X.next k (by omega)).1] at h
    cases hd : (O k).dst with
    | none => rw [hd] at h; exact ih h
    | some d =>
      rw [hd] at h
      unfold Fr.put at h
      simp only at h
      split at h
      · rename_i hb
        have hb := Nat.le_of_ble_eq_true hb
        rw [h1] at hb
        change ((D k).fr.tmps.set deep d (V k)).get t = some v at h
        rcases T.get_set _ _ _ _ _ _ h with ⟨rfl, _⟩ | ⟨_, hg⟩
        · omega
        · exact ih hg
      · exact ih h
/-- The state in which an operation runs. -/
theorem start_rel (X : Txt P r all s0 fr0 D M O V S) (Z : Static all M O) (I : Inv all s0 fr0 D M O V S B p w0 a0 L q a w) {i : Nat} (hi : i < all.length) (hnl : ¬ L i) (hpre : ∀ j, (M i).testBit j = true → L j) :
    (∀ id x, (startH all i (M i) (O i) (D i)).get id = some x → ∃ c, c ≤ (D i).n ∧ 1 ≤ Kd all O i ∧ Fact all s0 D O S L id x c) := by
  intro id x hg
  unfold startH at hg
  split at hg
  · cases hg
  · rename_i hk
    obtain ⟨c, h1, h2⟩ := fact_of_src X Z I.closed hi hnl hpre (show 1 ≤ Kd all O i by show 1 ≤ kindAt _ _ _; omega) (keep := fun j => (M i).testBit j = true) (fun j _ _ h => hpre j h) (X.src (by omega) hg)
    exact ⟨c, h1, by show 1 ≤ kindAt _ _ _; omega, h2⟩
  · rename_i hk0 hk1
    have hk : 2 ≤ Kd all O i := by
      rcases Nat.lt_or_ge (Kd all O i) 2 with hlt | hge
      · exfalso
        rcases Nat.lt_or_ge (Kd all O i) 1 with h0 | h1
        · exact hk0 (by show kindAt _ _ _ = 0; have : Kd all O i = kindAt all i (O i) := rfl; omega)
        · exact hk1 (by show kindAt _ _ _ = 1; have : Kd all O i = kindAt all i (O i) := rfl; omega)
      · exact hge
    obtain ⟨c, h1, h2⟩ := fact_of_src X Z I.closed hi hnl hpre (show 1 ≤ Kd all O i by omega) (keep := fun _ => true = true) (fun j hj hK _ => by
      rcases Z.heap i j hi (by omega) (by omega) hk (by omega) with h3 | h3
      · exact hpre j h3
      · have := Z.back j (by omega) i h3; omega) (X.src (by omega) hg)
    exact ⟨c, h1, by omega, h2⟩
theorem start_is_rel (X : Txt P r all s0 fr0 D M O V S) (Z : Static all M O) (h8 : 8 ≤ s0.n) (I : Inv all s0 fr0 D M O V S B p w0 a0 L q a w) {i : Nat} (hi : i < all.length) (hnl : ¬ L i) (hpre : ∀ j, (M i).testBit j = true → L j) :
    Rel B q { h := startH all i (M i) (O i) (D i), n := (D i).n, lo := big } w := by
  have hsr := start_rel X Z I hi hnl hpre
  refine ⟨fun id x hg hl => ?_, fun id id' hg hg' he => ?_, ?_⟩
  · obtain ⟨c, hc, _, hF⟩ := hsr id x hg
    obtain ⟨h1, h2, h3, h4⟩ := I.fact id x c hF hl
    have hself : q.fits q c := fun _ h => ⟨h.2, rfl, rfl⟩
    exact ⟨hself.has hc h1, h2, h3, h4.fits hself hc h1⟩
  · obtain ⟨x, hg, hl⟩ := hg
    obtain ⟨x', hg', hl'⟩ := hg'
    obtain ⟨c, _, _, hF⟩ := hsr id x hg
    obtain ⟨c', _, _, hF'⟩ := hsr id' x' hg'
    exact I.inj id x c id' x' c' hF hl hF' hl' he
  · have := (X.mono (Nat.zero_le i) (by omega)).1
    rw [X.zero] at this
    exact Nat.le_trans h8 this
theorem start_is_fr (X : Txt P r all s0 fr0 D M O V S) (Z : Static all M O) (I : Inv all s0 fr0 D M O V S B p w0 a0 L q a w) (hf0 : fr0.is p s0.n a0) {i : Nat} (hi : i < all.length) (hnl : ¬ L i) (hpre : ∀ j, (M i).testBit j = true → L j) :
    (startFr all (O i) (D i)).is q (D i).n a := by
  obtain ⟨h1, h2, h3⟩ := X.slots i (by omega)
  have hself : ∀ c, q.fits q c := fun c _ h => ⟨h.2, rfl, rfl⟩
  have hn0 : s0.n ≤ (D i).n := by
    have := (X.mono (Nat.zero_le i) (by omega)).1
    rw [X.zero] at this; exact this
  refine ⟨by rw [I.size]; exact h1.symm, fun t v ht => ?_, ?_, fun d hd => ?_, Nat.le_trans hf0.n8 hn0⟩
  · obtain ⟨hrd, hg⟩ := onlySlots_get ht
    -- who writes the slot is comparable with the reader
    have hcmp : ∀ j, j < all.length → j ≠ i → (O j).dst = some t → (M i).testBit j = true ∨ (M j).testBit i = true := fun j hj hne hd => by
      rcases Z.slot i j hi hj (fun e => hne e.symm) with h | h | h
      · exact .inl h
      · exact .inr h
      · exact absurd hrd (h t hd).1
    have hlist : ∀ j, j < all.length → L j → (O j).dst = some t → j < i := fun j hj hl hd => by
      have hne : j ≠ i := fun e => hnl (e ▸ hl)
      rcases hcmp j hj hne hd with h | h
      · exact Z.back i hi j h
      · exact absurd (I.closed j hj hl i h) hnl
    have hback : ∀ j, j < i → (O j).dst = some t → L j := fun j hj hd => by
      rcases hcmp j (by omega) (by omega) hd with h | h
      · exact hpre j h
      · have := Z.back j (by omega) i h; omega
    have htn : t < fr0.nt := Decidable.byContradiction fun hh => by
      obtain ⟨u, hu, _⟩ := hf0.get t v (slots_high X i (by omega) t v hh hg)
      rw [Array.getElem?_eq_some_iff] at hu
      obtain ⟨hu, _⟩ := hu
      rw [hf0.size] at hu
      exact hh hu
    rcases h3 t v htn hg with ⟨j, a1, a2, a3, a4⟩ | ⟨a1, a2⟩
    · obtain ⟨u, hu, hv⟩ := I.slot t v (S j).n htn (.inl ⟨j, by omega, hback j a1 a2, a2, a3, fun j' hj' hl' hd' => by
        have := hlist j' hj' hl' hd'
        rcases Nat.lt_or_ge j j' with hlt | hge
        · exact absurd hd' (a4 j' hlt this)
        · exact hge, rfl⟩)
      refine ⟨u, hu, hv.fits (hself _) ?_⟩
      have := (X.next j (by omega)).2.1
      have := (X.mono (show j + 1 ≤ i by omega) (by omega)).1
      omega
    · obtain ⟨u, hu, hv⟩ := I.slot t v s0.n htn (.inr ⟨fun j hj hl hd => a1 j (hlist j hj hl hd) hd, a2, rfl⟩)
      exact ⟨u, hu, hv.fits (hself _) hn0⟩
  · rw [I.defers, hf0.marks]
    show _ = (D i).fr.dfs.map _
    rw [h2]
    exact List.map_congr_left fun d hd => by simp only [(I.fits d (hf0.marksLt d hd)).2.1]
  · have hd : d ∈ fr0.dfs := by rw [← h2]; exact hd
    exact I.fits.has hn0 (hf0.marksLt d hd)

/-- The placement behind an operation: its own numbers as it gave them, all others as they were. -/
def mix (q q' : Pl) (n n' : Nat) : Pl where
  ρ id := if n ≤ id ∧ id < n' then q'.ρ id else q.ρ id
  κ id := if n ≤ id ∧ id < n' then q'.κ id else q.κ id
  ok id := if n ≤ id ∧ id < n' then q'.ok id else q.ok id
  gl i hi := ⟨(by show (if _ then _ else _); split; (exact (q'.gl i hi).1); exact (q.gl i hi).1), (by show (if _ then _ else _) = _; split; (exact (q'.gl i hi).2); exact (q.gl i hi).2)⟩
theorem mix_in {q q' : Pl} {n n' id : Nat} (h : n ≤ id ∧ id < n') : (mix q q' n n').ρ id = q'.ρ id ∧ (mix q q' n n').κ id = q'.κ id ∧ ((mix q q' n n').ok id ↔ q'.ok id) := by
  simp [mix, h]
theorem mix_out {q q' : Pl} {n n' id : Nat} (h : ¬ (n ≤ id ∧ id < n')) : (mix q q' n n').ρ id = q.ρ id ∧ (mix q q' n n').κ id = q.κ id ∧ ((mix q q' n n').ok id ↔ q.ok id) := by
  simp only [mix, if_neg h, true_and]

/-- One operation more. -/
theorem inv_step (X : Txt P r all s0 fr0 D M O V S) (Z : Static all M O) (I : Inv all s0 fr0 D M O V S B p w0 a0 L q a w) {i : Nat} (hi : i < all.length) (hnl : ¬ L i) (hpre : ∀ j, (M i).testBit j = true → L j)
    {q' : Pl} {w' : World} {u : Value} (hp : Post B q { h := startH all i (M i) (O i) (D i), n := (D i).n, lo := big } w q' (S i) w') (hu : (V i).is q' (S i).n u) :
    Inv all s0 fr0 D M O V S B p w0 a0 (fun j => j = i ∨ L j) (mix q q' (D i).n (S i).n) (a.put (O i).dst u) w' := by
  have hsr := start_rel X Z I hi hnl hpre
  obtain ⟨hfr, hnn, hle, hstep⟩ := X.next i hi
  have hn0 : s0.n ≤ (D i).n := by
    have := (X.mono (Nat.zero_le i) (by omega)).1
    rw [X.zero] at this; exact this
  have hmono : ∀ j, j < i → (S j).n ≤ (D i).n := fun j hj => by
    have := (X.next j (by omega)).2.1
    have := (X.mono (show j + 1 ≤ i by omega) (by omega)).1
    omega
  have hmono' : ∀ j, i < j → j < all.length → (S i).n ≤ (D j).n := fun j hj hjl => by
    have := (X.mono (show i + 1 ≤ j by omega) (by omega)).1
    omega
  -- numbers given away are not among the operation's own
  have hfree : ∀ id, q.ok id → ¬ ((D i).n ≤ id ∧ id < (S i).n) := fun id ho hr => by
    rcases I.given id ho with h | ⟨j, hj, hl, h1, h2⟩
    · omega
    · rcases Nat.lt_trichotomy j i with hlt | heq | hgt
      · have := hmono j hlt; omega
      · subst heq; exact hnl hl
      · have := hmono' j hgt hj; omega
  have hfq : ∀ c, q.fits (mix q q' (D i).n (S i).n) c := fun c id hid => by
    obtain ⟨h1, h2, h3⟩ := mix_out (q := q) (q' := q') (hfree id hid.2)
    exact ⟨h3.2 hid.2, h1, h2⟩
  have hfq' : q'.fits (mix q q' (D i).n (S i).n) (S i).n := fun id hid => by
    by_cases hr : (D i).n ≤ id ∧ id < (S i).n
    · obtain ⟨h1, h2, h3⟩ := mix_in (q := q) (q' := q') hr
      exact ⟨h3.2 hid.2, h1, h2⟩
    · obtain ⟨h1, h2, h3⟩ := mix_out (q := q) (q' := q') hr
      have hid1 := hid.1
      have hlt : id < (D i).n := by omega
      have hok := hp.back id hlt hid.2
      have hx := hp.fits id ⟨hlt, hok⟩
      exact ⟨h3.2 hok, by rw [h1]; exact hx.2.1.symm, by rw [h2]; exact hx.2.2.symm⟩
  have hlive : ∀ id, St.live { h := startH all i (M i) (O i) (D i), n := (D i).n, lo := big } id → 1 ≤ Kd all O i ∧ ∃ x c, c ≤ (D i).n ∧ Fact all s0 D O S L id x c ∧ x.live = true := fun id ⟨x, hg, hl⟩ => by
    obtain ⟨c, h1, h2, h3⟩ := hsr id x hg
    exact ⟨h2, x, c, h1, h3, hl⟩
  have hlolo : 2 ≤ Kd all O i → (D all.length).lo ≤ (S i).lo := fun h2 => by
    have hm := (X.mono (show i + 1 ≤ all.length by omega) (Nat.le_refl _)).2
    rcases hstep with ⟨h, _⟩ | ⟨h, _⟩ | ⟨_, _, _, h⟩
    · have : Kd all O i = 0 := h; omega
    · have : Kd all O i = 1 := h; omega
    · omega
  -- below two kinds nothing that was there turns
  have hquiet : Kd all O i < 2 → ∀ b, b < w.heap.size → w'.heap[b]? = w.heap[b]? := fun hk b hb => hp.keep b hb fun id hlo hl => by
    exfalso
    obtain ⟨h1, x, c, hc, hF, hxl⟩ := hlive id hl
    have hlt := (I.fact id x c hF hxl).1.1
    rcases hstep with ⟨h, _⟩ | ⟨_, h, _⟩ | ⟨h, _⟩
    · have : Kd all O i = 0 := h; omega
    · omega
    · have : 2 ≤ Kd all O i := h; omega
  have hW2 : 2 ≤ Kd all O i → ∀ j, j < all.length → L j → 1 ≤ Kd all O j → j < i := fun h2 j hj hl h1 => by
    have hne : i ≠ j := fun e => hnl (e ▸ hl)
    rcases Z.heap i j hi hj hne h2 h1 with h | h
    · exact Z.back i hi j h
    · exact absurd (I.closed j hj hl i h) hnl
  -- the facts behind it
  have hfacts : ∀ id x c, Fact all s0 D O S (fun j => j = i ∨ L j) id x c → ((S i).h.get id = some x ∧ c = (S i).n ∧ 1 ≤ Kd all O i ∧ (Kd all O i = 1 → (D i).n ≤ id)) ∨ (Kd all O i < 2 ∧ Fact all s0 D O S L id x c) := by
    intro id x c hF
    by_cases h2 : 2 ≤ Kd all O i
    · left
      rcases hF with ⟨j, hj, hl, hK, hno, hn, hg, hc⟩ | ⟨k, hk, hl, hK, hno, hg, hc⟩ | ⟨hno, hg, hc⟩
      · exfalso
        rcases hl with rfl | hl
        · omega
        · have h1 := hW2 h2 j hj hl (by omega)
          have h3 := hno i hi (.inl rfl) h2
          omega
      · rcases hl with rfl | hl
        · exact ⟨hg, hc, by omega, fun h => by omega⟩
        · have h1 := hW2 h2 k hk hl (by omega)
          have h3 := hno i hi (.inl rfl) h2
          omega
      · have := hno i hi (.inl rfl)
        omega
    · rcases hF with ⟨j, hj, hl, hK, hno, hn, hg, hc⟩ | ⟨k, hk, hl, hK, hno, hg, hc⟩ | ⟨hno, hg, hc⟩
      · rcases hl with rfl | hl
        · exact .inl ⟨hg, hc, by omega, fun _ => hn⟩
        · exact .inr ⟨by omega, .inl ⟨j, hj, hl, hK, fun w hw hl' => hno w hw (.inr hl'), hn, hg, hc⟩⟩
      · rcases hl with rfl | hl
        · omega
        · exact .inr ⟨by omega, .inr (.inl ⟨k, hk, hl, hK, fun w hw hl' => hno w hw (.inr hl'), hg, hc⟩)⟩
      · exact .inr ⟨by omega, .inr (.inr ⟨fun w hw hl' => hno w hw (.inr hl'), hg, hc⟩)⟩
  have hnewrow : ∀ id x, (S i).h.get id = some x → x.live = true → q'.has (S i).n id ∧ B ≤ q'.ρ id ∧ q'.ρ id < w'.heap.size ∧ x.is q' (S i).n id w'.heap[q'.ρ id]? := fun id x hg hl => hp.rel.row id x hg hl
  have hmixρ : ∀ id, q'.has (S i).n id → (mix q q' (D i).n (S i).n).ρ id = q'.ρ id := fun id h => (hfq' id h).2.1
  have hmixold : ∀ id c, q.has c id → (mix q q' (D i).n (S i).n).ρ id = q.ρ id := fun id c h => (hfq c id h).2.1
  -- an operation of the first kind makes rows beyond all that was there
  have hbeyond : Kd all O i = 1 → ∀ id x, (S i).h.get id = some x → x.live = true → (D i).n ≤ id → w.heap.size ≤ q'.ρ id := fun hk id x hg hl hn => by
    rcases hp.new id hn ⟨x, hg, hl⟩ with h | ⟨j, hlo, hjl, _⟩
    · exact h
    · exfalso
      obtain ⟨_, y, c, hc, hF, hyl⟩ := hlive j hjl
      have := (I.fact j y c hF hyl).1.1
      rcases hstep with ⟨h, _⟩ | ⟨_, h, _⟩ | ⟨h, _⟩
      · have : Kd all O i = 0 := h; omega
      · omega
      · have : 2 ≤ Kd all O i := h; omega
  refine ⟨?_, ?_, ?_, ?_, ?_, ?_, ?_, ?_, ?_, ?_, ?_, ?_, ?_, ?_, ?_, ?_⟩
  · -- closed
    intro j hj hl k hk
    rcases hl with rfl | hl
    · exact .inr (hpre k hk)
    · exact .inr (I.closed j hj hl k hk)
  · -- facts
    intro id x c hF hl
    rcases hfacts id x c hF with ⟨hg, hc, _, _⟩ | ⟨hk, hF⟩
    · obtain ⟨h1, h2, h3, h4⟩ := hnewrow id x hg hl
      subst hc
      rw [hmixρ id h1]
      exact ⟨hfq'.has (Nat.le_refl _) h1, h2, h3, h4.fits hfq' (Nat.le_refl _) h1⟩
    · obtain ⟨h1, h2, h3, h4⟩ := I.fact id x c hF hl
      rw [hmixold id c h1, hquiet hk _ h3]
      exact ⟨(hfq c).has (Nat.le_refl _) h1, h2, Nat.lt_of_lt_of_le h3 hp.size, h4.fits (hfq c) (Nat.le_refl _) h1⟩
  · -- no two at one place
    intro id x c id' x' c' hF hl hF' hl' he
    rcases hfacts id x c hF with ⟨hg, _, hk1, hn⟩ | ⟨hk, hF⟩ <;> rcases hfacts id' x' c' hF' with ⟨hg', _, _, hn'⟩ | ⟨hk', hF'⟩
    · rw [hmixρ id (hnewrow id x hg hl).1, hmixρ id' (hnewrow id' x' hg' hl').1] at he
      exact hp.rel.inj id id' ⟨x, hg, hl⟩ ⟨x', hg', hl'⟩ he
    · obtain ⟨h1, h2, h3, h4⟩ := I.fact id' x' c' hF' hl'
      rw [hmixρ id (hnewrow id x hg hl).1, hmixold id' c' h1] at he
      have := hbeyond (by omega) id x hg hl (hn (by omega))
      omega
    · obtain ⟨h1, h2, h3, h4⟩ := I.fact id x c hF hl
      rw [hmixρ id' (hnewrow id' x' hg' hl').1, hmixold id c h1] at he
      have := hbeyond (by omega) id' x' hg' hl' (hn' (by omega))
      omega
    · obtain ⟨h1, _⟩ := I.fact id x c hF hl
      obtain ⟨h1', _⟩ := I.fact id' x' c' hF' hl'
      rw [hmixold id c h1, hmixold id' c' h1'] at he
      exact I.inj id x c id' x' c' hF hl hF' hl' he
  · -- fits
    intro id hid
    have h1 := I.fits id hid
    have h2 := hfq s0.n id ⟨hid.1, h1.1⟩
    exact ⟨h2.1, h2.2.1.trans h1.2.1, h2.2.2.trans h1.2.2⟩
  · intro id hid ho
    have : ¬ ((D i).n ≤ id ∧ id < (S i).n) := by omega
    exact I.back id hid ((mix_out this).2.2.1 ho)
  · intro id ho
    by_cases hr : (D i).n ≤ id ∧ id < (S i).n
    · exact .inr ⟨i, hi, .inl rfl, hr.1, hr.2⟩
    · rcases I.given id ((mix_out hr).2.2.1 ho) with h | ⟨j, hj, hl, h1, h2⟩
      · exact .inl h
      · exact .inr ⟨j, hj, .inr hl, h1, h2⟩
  · cases hd : (O i).dst with
    | none => exact I.size
    | some d => simp only [Act.put, Array.size_setIfInBounds]; exact I.size
  · cases hd : (O i).dst with
    | none => exact I.defers
    | some d => exact I.defers
  · -- slots
    intro t v c ht hs
    have hwr : ∀ j, j < all.length → L j → (O j).dst = some t → (O i).dst = some t → j < i := fun j hj hl hd hdi => by
      have hne : i ≠ j := fun e => hnl (e ▸ hl)
      rcases Z.slot i j hi hj hne with h | h | h
      · exact Z.back i hi j h
      · exact absurd (I.closed j hj hl i h) hnl
      · exact absurd hdi (h t hd).2
    by_cases hdi : (O i).dst = some t
    · have hlast : v = V i ∧ c = (S i).n := by
        rcases hs with ⟨j, hj, hl, hd, hv, hno, hc⟩ | ⟨hno, _, _⟩
        · rcases hl with rfl | hl
          · exact ⟨hv.symm, hc⟩
          · have h1 := hwr j hj hl hd hdi
            have h2 := hno i hi (.inl rfl) hdi
            omega
        · exact absurd hdi (hno i hi (.inl rfl))
      obtain ⟨rfl, rfl⟩ := hlast
      refine ⟨u, ?_, hu.fits hfq' (Nat.le_refl _)⟩
      rw [hdi]
      show (a.tmps.setIfInBounds t u)[t]? = some u
      rw [Array.getElem?_setIfInBounds_self_of_lt (by rw [I.size]; exact ht)]
    · have hs' : Slot all s0 fr0 O V S L t v c := by
        rcases hs with ⟨j, hj, hl, hd, hv, hno, hc⟩ | ⟨hno, hg, hc⟩
        · rcases hl with rfl | hl
          · exact absurd hd hdi
          · exact .inl ⟨j, hj, hl, hd, hv, fun j' hj' hl' hd' => hno j' hj' (.inr hl') hd', hc⟩
        · exact .inr ⟨fun j hj hl => hno j hj (.inr hl), hg, hc⟩
      obtain ⟨u', hu', hv'⟩ := I.slot t v c ht hs'
      refine ⟨u', ?_, hv'.fits (hfq c) (Nat.le_refl _)⟩
      cases hd : (O i).dst with
      | none => exact hu'
      | some d =>
        show (a.tmps.setIfInBounds d u)[t]? = some u'
        rw [Array.getElem?_setIfInBounds_ne (fun e => hdi (by rw [hd, e]))]
        exact hu'
  · exact Nat.le_trans I.grew hp.size
  · -- keep
    intro b hb hx
    rw [← I.keep b hb hx]
    have hbw : b < w.heap.size := Nat.lt_of_lt_of_le hb I.grew
    refine hp.keep b hbw fun id hlo hl he => ?_
    obtain ⟨hk1, x, c, hc, hF, hxl⟩ := hlive id hl
    have hhas := (I.fact id x c hF hxl).1
    have hk2 : 2 ≤ Kd all O i := by
      rcases hstep with ⟨h, _⟩ | ⟨_, h, _⟩ | ⟨h, _⟩
      · have : Kd all O i = 0 := h; omega
      · have := hhas.1; omega
      · exact h
    have hll := hlolo hk2
    have hlo' : (S i).lo ≤ id := hlo
    by_cases hid : id < s0.n
    · have hsl := I.old id x c hF hxl hid
      have hok := I.back id hid hhas.2
      have hρ := (I.fits id ⟨hid, hok⟩).2.1
      exact hx id (by omega) hsl (by rw [← hρ]; exact he)
    · rcases I.new id x c hF hxl (by omega) with h | ⟨j, h1, h2, h3⟩
      · omega
      · exact hx j h1 h2 (by rw [← h3]; exact he)
  · -- new
    intro id x c hF hl hn
    rcases hfacts id x c hF with ⟨hg, _, hk1, _⟩ | ⟨hk, hF⟩
    · have hh := (hnewrow id x hg hl).1
      rw [hmixρ id hh]
      by_cases hin : (D i).n ≤ id
      · rcases hp.new id hin ⟨x, hg, hl⟩ with h | ⟨j, h1, h2, h3⟩
        · exact .inl (Nat.le_trans I.grew h)
        · obtain ⟨_, y, c', hc', hF', hyl⟩ := hlive j h2
          have hhas := (I.fact j y c' hF' hyl).1
          have hk2 : 2 ≤ Kd all O i := by
            rcases hstep with ⟨h, _⟩ | ⟨_, h, _⟩ | ⟨h, _⟩
            · have : Kd all O i = 0 := h; omega
            · have := hhas.1; omega
            · exact h
          have hll := hlolo hk2
          rw [h3]
          by_cases hjd : j < s0.n
          · have hok := I.back j hjd hhas.2
            exact .inr ⟨j, by omega, I.old j y c' hF' hyl hjd, (I.fits j ⟨hjd, hok⟩).2.1⟩
          · exact I.new j y c' hF' hyl (by omega)
      · have hold := hp.old id (by show id < (D i).n; omega) ⟨x, hg, hl⟩
        obtain ⟨_, y, c', hc', hF', hyl⟩ := hlive id hold
        have hhas := (I.fact id y c' hF' hyl).1
        rw [(hp.fits id ⟨by show id < (D i).n; omega, hhas.2⟩).2.1]
        exact I.new id y c' hF' hyl hn
    · have hhas := (I.fact id x c hF hl).1
      rw [hmixold id c hhas]
      exact I.new id x c hF hl hn
  · -- old
    intro id x c hF hl hn
    rcases hfacts id x c hF with ⟨hg, _, _, _⟩ | ⟨hk, hF⟩
    · have hold := hp.old id (by show id < (D i).n; omega) ⟨x, hg, hl⟩
      obtain ⟨_, y, c', hc', hF', hyl⟩ := hlive id hold
      exact I.old id y c' hF' hyl hn
    · exact I.old id x c hF hl hn
  · exact hp.os.trans I.os
  · exact hp.tape.trans I.tape
  · exact hp.output.trans I.output

end
end Go.Ax

/- A symbolic run is what the model does: regions that draw their order, the whole; and all tasks together. -/
namespace Go.Ax
open Go

variable {P : Program}

/-! ### Counting what is not listed -/
def cntU (f : Nat → Bool) : Nat → Nat
  | 0 => 0
  | m + 1 => cntU f m + (if f m then 0 else 1)
theorem cntU_zero {f : Nat → Bool} : ∀ {m : Nat}, cntU f m = 0 → ∀ j, j < m → f j = true
  | 0, _, j, hj => by omega
  | m + 1, h, j, hj => by
    unfold cntU at h
    rcases Nat.lt_or_ge j m with hlt | hge
    · exact cntU_zero (by omega) j hlt
    · obtain rfl : j = m := by omega
      cases hf : f j
      · rw [hf] at h; simp at h
      · rfl
theorem cntU_same {f g : Nat → Bool} : ∀ {m : Nat}, (∀ j, j < m → f j = g j) → cntU f m = cntU g m
  | 0, _ => rfl
  | m + 1, h => by
    unfold cntU
    rw [cntU_same fun j hj => h j (by omega), h m (by omega)]
theorem cntU_set {f g : Nat → Bool} {i : Nat} (hf : f i = false) (hg : g i = true) : ∀ {m : Nat}, i < m → (∀ j, j ≠ i → f j = g j) → cntU f m = cntU g m + 1
  | 0, hi, _ => by omega
  | m + 1, hi, h => by
    unfold cntU
    rcases Nat.lt_or_ge i m with hlt | hge
    · rw [cntU_set hf hg hlt h, h m (by omega)]; omega
    · obtain rfl : i = m := by omega
      rw [cntU_same (fun j hj => h j (by omega)), hf, hg]; simp
theorem cntU_none : ∀ (m : Nat), cntU (fun _ => false) m = m
  | 0 => rfl
  | m + 1 => by unfold cntU; rw [cntU_none m]; simp

/-! ### No order comes to a stop before the end -/
theorem order_free {md : Region.Mode} {all : List Oper} {f : Nat → Bool} (hstuck : ∀ i o, all[i]? = some o → f i = false → ∃ e ∈ edgesOf md o, f e = false) :
    ∀ {L seen : List Nat}, orderOk md all L seen = true → (∀ j ∈ seen, f j = true) → ∀ j, j < all.length → f j = true
  | [], seen, h, hs, j, hj => by
    unfold orderOk at h
    rw [List.all_eq_true] at h
    have := h j (List.mem_range.2 hj)
    exact hs j (by simpa using this)
  | i :: L, seen, h, hs, j, hj => by
    unfold orderOk at h
    rw [Bool.and_eq_true] at h
    obtain ⟨h1, h2⟩ := h
    refine order_free hstuck h2 (fun k hk => ?_) j hj
    rcases List.mem_cons.1 hk with rfl | hk
    · cases ho : lget all k with
      | none => rw [ho] at h1; cases h1
      | some o =>
        rw [ho] at h1
        rw [lget_eq] at ho
        cases hf : f k
        · obtain ⟨e, he, hfe⟩ := hstuck k o ho hf
          rw [List.all_eq_true] at h1
          have := hs e (by simpa using h1 e he)
          rw [hfe] at this; cases this
        · rfl
    · exact hs k hk

/-! ### The closed checks -/
theorem static_of {ops : Array Oper} {M : Nat → Nat} {O : Nat → Oper} (h : drawOk ops = true) (hops : ∀ k, k < ops.toList.length → ops.toList[k]? = some (O k)) (hms : ∀ k, k < ops.toList.length → (masksOf ops.toList [])[k]? = some (M k)) :
    Static ops.toList M O ∧ orderOk .any ops.toList (List.range ops.size) [] = true ∧ orderOk .text ops.toList (List.range ops.size) [] = true ∧ orderOk .gc ops.toList (Region.linearise .gc ops 0) [] = true := by
  unfold drawOk at h
  simp only [Bool.and_eq_true] at h
  obtain ⟨⟨⟨⟨hp, hb⟩, ha⟩, ht⟩, hg⟩ := h
  refine ⟨?_, ha, ht, hg⟩
  have hjust : ∀ i, i < ops.toList.length → ∀ j, (M i).testBit j = true → ∃ e ∈ edgesOf .any (O i), j = e ∨ (e < ops.toList.length ∧ (M e).testBit j = true) := fun i hi j hj => by
    obtain ⟨e, he, hx⟩ := masksOf_just ops.toList [] i (M i) (O i) (hops i hi) (by simpa using hms i hi) j hj
    refine ⟨e, he, ?_⟩
    rcases hx with hx | ⟨m', hm', hbit⟩
    · exact .inl hx
    · have hel : e < ops.toList.length := by
        rw [List.getElem?_eq_some_iff] at hm'
        obtain ⟨hm', _⟩ := hm'
        rw [masksOf_length] at hm'; simpa using hm'
      rw [hms e hel] at hm'
      injection hm' with hm'
      exact .inr ⟨hel, by rw [hm']; exact hbit⟩
  have hedge : ∀ i, i < ops.toList.length → ∀ e ∈ edgesOf .any (O i), e < i := fun i hi e he => by
    unfold backOk at hb
    rw [List.all_eq_true] at hb
    have h1 := hb i (List.mem_range.2 hi)
    rw [lget_eq, hops i hi] at h1
    simp only at h1
    rw [List.all_eq_true] at h1
    exact Nat.le_of_ble_eq_true (h1 e he)
  have hback : ∀ i, i < ops.toList.length → ∀ j, (M i).testBit j = true → j < i := by
    intro i
    induction i using Nat.strongRecOn with
    | _ i ih =>
      intro hi j hj
      obtain ⟨e, he, hx⟩ := hjust i hi j hj
      have hei := hedge i hi e he
      rcases hx with rfl | ⟨hel, hbit⟩
      · exact hei
      · have := ih e hei hel j hbit; omega
  have hpair : ∀ i j, i < ops.toList.length → j < ops.toList.length → pairOk ops.toList (masksOf ops.toList []) i j (O i) (O j) = true := fun i j hi hj => by
    unfold pairsOk at hp
    rw [List.all_eq_true] at hp
    have h1 := hp i (List.mem_range.2 hi)
    rw [List.all_eq_true] at h1
    have h2 := h1 j (List.mem_range.2 hj)
    rw [lget_eq, lget_eq, hops i hi, hops j hj] at h2
    exact h2
  have hcmp : ∀ i j, i < ops.toList.length → j < ops.toList.length → compar (masksOf ops.toList []) i j = true → (M i).testBit j = true ∨ (M j).testBit i = true := fun i j hi hj h => by
    unfold compar at h
    rw [lget_eq, lget_eq, hms i hi, hms j hj] at h
    simpa using h
  refine ⟨hjust, hback, fun i j hi hj hne hki hkj => ?_, fun i j hi hj hne => ?_⟩
  · have h := hpair i j hi hj
    unfold pairOk at h
    rw [Bool.or_eq_true, Bool.or_eq_true] at h
    rcases h with (h | h) | h
    · exact absurd (Nat.eq_of_beq_eq_true h) hne
    · exact hcmp i j hi hj h
    · exfalso
      rw [Bool.and_eq_true] at h
      have h2 := h.2
      simp only [Bool.or_eq_true, Bool.and_eq_true, Bool.not_eq_true'] at h2
      have e1 : Kd ops.toList O i = kindAt ops.toList i (O i) := rfl
      have e2 : Kd ops.toList O j = kindAt ops.toList j (O j) := rfl
      have hk2 : kindAt ops.toList i (O i) ≤ 2 := by
        unfold kindAt
        split
        · omega
        unfold kindOf
        repeat' split
        all_goals omega
      rcases h2 with (h2 | h2) | h2
      · have := Nat.eq_of_beq_eq_true h2; omega
      · have := Nat.eq_of_beq_eq_true h2; omega
      · have h3 := h2.1
        have : kindAt ops.toList i (O i) = 2 := by omega
        rw [this] at h3; cases h3
  · have h := hpair i j hi hj
    unfold pairOk at h
    rw [Bool.or_eq_true, Bool.or_eq_true] at h
    rcases h with (h | h) | h
    · exact absurd (Nat.eq_of_beq_eq_true h) hne
    · rcases hcmp i j hi hj h with h | h
      · exact .inl h
      · exact .inr (.inl h)
    · refine .inr (.inr fun d hd => ?_)
      rw [Bool.and_eq_true] at h
      have h1 := h.1
      rw [hd] at h1
      simpa using h1

section
variable {r : Run} {all : List Oper} {s0 : St} {fr0 : Fr} {D : Nat → Draw} {M : Nat → Nat} {O : Nat → Oper} {V : Nat → AV} {S : Nat → St}
variable {B : Nat} {p q : Pl} {w0 w : World} {a0 a : Act} {L : Nat → Prop}

/-- Only the numbers that are given away. -/
def Pl.lim (p : Pl) (n : Nat) (h8 : 8 ≤ n) : Pl := { ρ := p.ρ, κ := p.κ, ok := fun i => i < n ∧ p.ok i, gl := fun i hi => ⟨⟨by omega, (p.gl i hi).1⟩, (p.gl i hi).2⟩ }
theorem inv_start (hr : Rel B p s0 w0) (hf : fr0.is p s0.n a0) : Inv all s0 fr0 D M O V S B p w0 a0 (fun _ => False) (p.lim s0.n hr.n8) a0 { w0 with drawn := w0.drawn + 1 } := by
  have hfit : p.fits (p.lim s0.n hr.n8) s0.n := fun i h => ⟨⟨h.1, h.2⟩, rfl, rfl⟩
  have hF : ∀ id x c, Fact all s0 D O S (fun _ => False) id x c → s0.h.get id = some x ∧ c = s0.n := fun id x c h => by
    rcases h with ⟨_, _, h, _⟩ | ⟨_, _, h, _⟩ | ⟨_, h1, h2⟩
    · exact h.elim
    · exact h.elim
    · exact ⟨h1, h2⟩
  refine ⟨fun i _ h => h.elim, fun id x c h hl => ?_, fun id x c id' x' c' h hl h' hl' he => ?_, hfit, fun id _ h => h.2, fun id h => .inl h.1, hf.size, rfl, fun t v c ht h => ?_, Nat.le_refl _, fun _ _ _ => rfl, fun id x c h hl hn => ?_, fun id x c h hl _ => ?_, rfl, rfl, rfl⟩
  · obtain ⟨h1, rfl⟩ := hF id x c h
    obtain ⟨g1, g2, g3, g4⟩ := hr.row id x h1 hl
    exact ⟨hfit.has (Nat.le_refl _) g1, g2, g3, g4.fits hfit (Nat.le_refl _) g1⟩
  · exact hr.inj id id' ⟨x, (hF id x c h).1, hl⟩ ⟨x', (hF id' x' c' h').1, hl'⟩ he
  · rcases h with ⟨_, _, h, _⟩ | ⟨_, h1, rfl⟩
    · exact h.elim
    · obtain ⟨u, hu, hv⟩ := hf.get t v h1
      exact ⟨u, hu, hv.fits hfit (Nat.le_refl _)⟩
  · have := (hr.row id x (hF id x c h).1 hl).1.1; omega
  · exact ⟨x, (hF id x c h).1, hl⟩

/-- Behind all operations. -/
theorem inv_end (X : Txt P r all s0 fr0 D M O V S) (I : Inv all s0 fr0 D M O V S B p w0 a0 L q a w) (hr : Rel B p s0 w0) (hf0 : fr0.is p s0.n a0) (hall : ∀ j, j < all.length → L j) :
    Post B p s0 w0 q { h := withItems (D all.length).b (fun _ => true) (D all.length).items, n := (D all.length).n, lo := (D all.length).lo } w ∧ (D all.length).fr.is q (D all.length).n a := by
  have hself : ∀ c, q.fits q c := fun c _ h => ⟨h.2, rfl, rfl⟩
  have hn0 : s0.n ≤ (D all.length).n ∧ (D all.length).lo ≤ s0.lo := by
    have := X.mono (Nat.zero_le all.length) (Nat.le_refl _)
    rw [X.zero] at this; exact this
  have hS : ∀ j, j < all.length → (S j).n ≤ (D all.length).n := fun j hj => by
    have := (X.next j hj).2.1
    have := (X.mono (show j + 1 ≤ all.length by omega) (Nat.le_refl _)).1
    omega
  have hsrc : ∀ id x, (withItems (D all.length).b (fun _ => true) (D all.length).items).get id = some x → ∃ c, c ≤ (D all.length).n ∧ Fact all s0 D O S L id x c := fun id x hg => by
    rcases X.src (Nat.le_refl _) hg with ⟨j, hj, hK, _, hno, hn, hg⟩ | ⟨k, hk, h2, hno, hg⟩ | ⟨hno, hg⟩
    · refine ⟨_, hS j hj, .inl ⟨j, hj, hall j hj, hK, fun k hk _ h2 => ?_, hn, hg, rfl⟩⟩
      rcases Nat.lt_trichotomy k j with hlt | heq | hgt
      · exact hlt
      · subst heq; omega
      · have := hno k hgt hk; omega
    · refine ⟨_, hS k hk, .inr (.inl ⟨k, hk, hall k hk, h2, fun k' hk' _ h2' => ?_, hg, rfl⟩)⟩
      rcases Nat.lt_or_ge k k' with hlt | hge
      · have := hno k' hlt hk'; omega
      · exact hge
    · exact ⟨_, hn0.1, .inr (.inr ⟨fun k hk _ => hno k hk, hg, rfl⟩)⟩
  refine ⟨⟨hr, hn0.1, hn0.2, I.fits, I.back, ⟨fun id x hg hl => ?_, fun id id' hg hg' he => ?_, Nat.le_trans hf0.n8 hn0.1⟩, I.grew, I.keep, fun id hn hl => ?_, fun id hn hl => ?_, I.os, I.tape, I.output⟩, ?_⟩
  · obtain ⟨c, hc, hF⟩ := hsrc id x hg
    obtain ⟨h1, h2, h3, h4⟩ := I.fact id x c hF hl
    exact ⟨(hself c).has hc h1, h2, h3, h4.fits (hself c) hc h1⟩
  · obtain ⟨x, hg, hl⟩ := hg
    obtain ⟨x', hg', hl'⟩ := hg'
    obtain ⟨c, _, hF⟩ := hsrc id x hg
    obtain ⟨c', _, hF'⟩ := hsrc id' x' hg'
    exact I.inj id x c id' x' c' hF hl hF' hl' he
  · obtain ⟨x, hg, hl⟩ := hl
    obtain ⟨c, _, hF⟩ := hsrc id x hg
    exact I.new id x c hF hl hn
  · obtain ⟨x, hg, hl⟩ := hl
    obtain ⟨c, _, hF⟩ := hsrc id x hg
    exact I.old id x c hF hl hn
  · obtain ⟨h1, h2, h3⟩ := X.slots all.length (Nat.le_refl _)
    refine ⟨by rw [I.size]; exact h1.symm, fun t v ht => ?_, ?_, fun d hd => ?_, Nat.le_trans hf0.n8 hn0.1⟩
    · have htn : t < fr0.nt := Decidable.byContradiction fun hh => by
        obtain ⟨u, hu, _⟩ := hf0.get t v (slots_high X _ (Nat.le_refl _) t v hh ht)
        rw [Array.getElem?_eq_some_iff] at hu
        obtain ⟨hu, _⟩ := hu
        rw [hf0.size] at hu
        exact hh hu
      rcases h3 t v htn ht with ⟨j, a1, a2, a3, a4⟩ | ⟨a1, a2⟩
      · obtain ⟨u, hu, hv⟩ := I.slot t v (S j).n htn (.inl ⟨j, a1, hall j a1, a2, a3, fun j' hj' _ hd' => by
          rcases Nat.lt_or_ge j j' with hlt | hge
          · exact absurd hd' (a4 j' hlt hj')
          · exact hge, rfl⟩)
        exact ⟨u, hu, hv.fits (hself _) (hS j a1)⟩
      · obtain ⟨u, hu, hv⟩ := I.slot t v s0.n htn (.inr ⟨fun j hj _ => a1 j hj, a2, rfl⟩)
        exact ⟨u, hu, hv.fits (hself _) hn0.1⟩
    · rw [I.defers, hf0.marks, h2]
      exact List.map_congr_left fun d hd => by simp only [(I.fits d (hf0.marksLt d hd)).2.1]
    · exact I.fits.has hn0.1 (hf0.marksLt d (by rw [← h2]; exact hd))
end

end Go.Ax

/- A symbolic run is what the model does: all tasks together. -/
namespace Go.Ax
open Go

variable {P : Program}

theorem binds_any {md : Region.Mode} {e : Edge} (h : Region.binds .any e = true) : Region.binds md e = true := by
  unfold Region.binds at h ⊢
  cases hg : e.ground <;> rw [hg] at h <;> first | rfl | cases h
theorem ready_mem {md : Region.Mode} {ops : Array Oper} {listed : Array Bool} {i : Nat} (h : i ∈ Region.ready md ops listed) :
    i < ops.size ∧ listed.getD i true = false ∧ ∃ o, ops[i]? = some o ∧ ∀ e ∈ edgesOf md o, listed.getD e false = true := by
  unfold Region.ready at h
  rw [List.mem_filter] at h
  obtain ⟨h1, h2⟩ := h
  rw [Bool.and_eq_true] at h2
  obtain ⟨h2, h3⟩ := h2
  have hi := List.mem_range.1 h1
  refine ⟨hi, by simpa using h2, ?_⟩
  cases ho : ops[i]? with
  | none => rw [ho] at h3; cases h3
  | some o =>
    rw [ho] at h3
    refine ⟨o, rfl, fun e he => ?_⟩
    simp only [Option.map_some, Option.getD_some] at h3
    rw [Array.all_eq_true_iff_forall_mem] at h3
    unfold edgesOf at he
    obtain ⟨x, hx, rfl⟩ := List.mem_map.1 he
    rw [List.mem_filter] at hx
    have := h3 x (by simpa using hx.1)
    rw [hx.2] at this
    simpa using this
theorem ready_nil {md : Region.Mode} {ops : Array Oper} {listed : Array Bool} (hsz : listed.size = ops.size) (h : Region.ready md ops listed = []) :
    ∀ i o, ops.toList[i]? = some o → listed.getD i false = false → ∃ e ∈ edgesOf md o, listed.getD e false = false := by
  intro i o ho hl
  have ho' : ops[i]? = some o := by simpa using ho
  have hi : i < ops.size := by rw [Array.getElem?_eq_some_iff] at ho'; exact ho'.1
  have hn : i ∉ Region.ready md ops listed := by rw [h]; simp
  apply Decidable.byContradiction
  intro hno
  apply hn
  unfold Region.ready
  rw [List.mem_filter]
  refine ⟨List.mem_range.2 hi, ?_⟩
  rw [Bool.and_eq_true]
  constructor
  · have : listed.getD i true = false := by
      rw [Array.getD_eq_getD_getElem?] at hl ⊢
      have hil : i < listed.size := by omega
      rw [Array.getElem?_eq_getElem hil] at hl ⊢
      exact hl
    simp only [this, Bool.not_false]
  · rw [ho']
    simp only [Option.map_some, Option.getD_some]
    rw [Array.all_eq_true_iff_forall_mem]
    intro e he
    cases hb : Region.binds md e
    · rfl
    · simp only [Bool.not_true, Bool.false_or]
      cases hle : listed.getD e.on false
      · exfalso
        apply hno
        refine ⟨e.on, ?_, hle⟩
        unfold edgesOf
        exact List.mem_map.2 ⟨e, List.mem_filter.2 ⟨by simpa using he, hb⟩, rfl⟩
      · rfl
theorem getD_set {listed : Array Bool} {i : Nat} (hi : i < listed.size) : (fun j => (listed.setIfInBounds i true).getD j false = true) = fun j => j = i ∨ listed.getD j false = true := by
  funext j
  rw [Array.getD_eq_getD_getElem?, Array.getD_eq_getD_getElem?]
  by_cases h : j = i
  · subst h
    rw [Array.getElem?_setIfInBounds_self_of_lt hi]; simp
  · rw [Array.getElem?_setIfInBounds_ne (fun e => h e.symm)]; simp [h]

section
variable {r : Run} {ops : Array Oper} {s0 : St} {fr0 : Fr} {D : Nat → Draw} {M : Nat → Nat} {O : Nat → Oper} {V : Nat → AV} {S : Nat → St}
variable {B : Nat} {p : Pl} {w0 : World} {a0 : Act}

theorem any_fine (hrun : RunFine P r) (X : Txt P r ops.toList s0 fr0 D M O V S) (Z : Static ops.toList M O) (hr : Rel B p s0 w0) (hB : B ≤ w0.heap.size) (hf0 : fr0.is p s0.n a0) {md : Region.Mode} {L0 : List Nat} (hord : orderOk md ops.toList L0 [] = true)
    {rd : Option Nat} (hrd : ∀ l, rd = some l → p.has s0.n l) {n : Nat} {Q : Exit → Act → World → Prop}
    (hQ : ∀ q w a, Post B p s0 w0 q { h := withItems (D ops.size).b (fun _ => true) (D ops.size).items, n := (D ops.size).n, lo := (D ops.size).lo } w → (D ops.size).fr.is q (D ops.size).n a → Q .normal a w) :
    ∀ (fuel : Nat) (listed : Array Bool) (q : Pl) (a : Act) (w : World), listed.size = ops.size → cntU (fun j => listed.getD j false) ops.size ≤ fuel →
      Inv ops.toList s0 fr0 D M O V S B p w0 a0 (fun j => listed.getD j false = true) q a w → wpAnyIn (fenceOf p rd) n P md ops Q fuel listed a w := by
  have hlen : ops.toList.length = ops.size := by simp
  have hend : ∀ (listed : Array Bool) (q : Pl) (a : Act) (w : World), listed.size = ops.size → Inv ops.toList s0 fr0 D M O V S B p w0 a0 (fun j => listed.getD j false = true) q a w → Region.ready md ops listed = [] → Q .normal a w := by
    intro listed q a w hsz I hnil
    have hall := order_free (f := fun j => listed.getD j false) (ready_nil hsz hnil) hord (by simp)
    obtain ⟨h1, h2⟩ := inv_end X I hr hf0 hall
    rw [hlen] at h1 h2
    exact hQ q w a h1 h2
  intro fuel
  induction fuel with
  | zero =>
    intro listed q a w hsz hcnt I
    have hall := cntU_zero (Nat.le_zero.1 hcnt)
    have hnil : Region.ready md ops listed = [] := by
      apply List.eq_nil_iff_forall_not_mem.2
      intro i hi
      obtain ⟨h1, h2, _⟩ := ready_mem hi
      have := hall i h1
      rw [Array.getD_eq_getD_getElem?, Array.getElem?_eq_getElem (by omega)] at this h2
      simp only [Option.getD_some] at this h2
      rw [h2] at this; cases this
    exact ⟨hnil, hend listed q a w hsz I hnil⟩
  | succ fuel ih =>
    intro listed q a w hsz hcnt I
    refine ⟨hend listed q a w hsz I, fun i hi => ?_⟩
    obtain ⟨h1, h2, o, ho, hedges⟩ := ready_mem hi
    have hil : i < listed.size := by omega
    have h2' : listed.getD i false = false := by
      rw [Array.getD_eq_getD_getElem?, Array.getElem?_eq_getElem hil] at h2 ⊢
      exact h2
    have hi' : i < ops.toList.length := by omega
    have hoO : o = O i := by
      have := X.ops i hi'
      have ho2 : ops.toList[i]? = some o := by simpa using ho
      rw [ho2] at this; injection this
    subst hoO
    have hpre := pre_listed Z I.closed hi' (fun e he => hedges e (by
      unfold edgesOf at he ⊢
      obtain ⟨x, hx, rfl⟩ := List.mem_map.1 he
      rw [List.mem_filter] at hx
      exact List.mem_map.2 ⟨x, List.mem_filter.2 ⟨hx.1, binds_any hx.2⟩, rfl⟩))
    have hnl : ¬ (listed.getD i false = true) := by rw [h2']; simp
    have hone := one_fine hrun (X.run i hi')
    have hfence : fenceOf q rd = fenceOf p rd := fenceOf_fits I.fits hrd
    have := hone B q w a n rd Q (wpAnyIn (fenceOf p rd) n P md ops Q fuel (listed.setIfInBounds i true)) (start_is_rel X Z hr.n8 I hi' hnl hpre) (Nat.le_trans hB I.grew) (start_is_fr X Z I hf0 hi' hnl hpre) (fun q' w' u hp hu => by
      refine ih (listed.setIfInBounds i true) (mix q q' (D i).n (S i).n) _ w' (by simpa using hsz) ?_ ?_
      · have hc := cntU_set (f := fun j => listed.getD j false) (g := fun j => (listed.setIfInBounds i true).getD j false) (i := i) (m := ops.size) h2' (by
          have := congrFun (getD_set hil) i
          simp only [true_or, eq_iff_iff, iff_true] at this
          exact this) h1 (fun j hj => by
          simp only [Array.getD_eq_getD_getElem?]
          rw [Array.getElem?_setIfInBounds_ne (fun e => hj e.symm)])
        omega
      · rw [getD_set hil]
        exact inv_step X Z I hi' hnl hpre hp hu)
    unfold wpOpIn
    rw [ho]
    rw [hfence] at this
    unfold wpOne at this
    simpa using this
end

theorem draw_fine {r : Run} (hrun : RunFine P r) {rd : Option Nat} {id : Nat} {ops : Array Oper} {fr : Fr} {s s' : St} {o : Out} (h : xDraw P r ops fr s = some (o, s')) :
    ∃ e fr', o = .left e fr' ∧ CodeFine P rd (.region id ops true) fr s e fr' s' := by
  unfold xDraw at h
  split at h
  · rename_i hok
    split at h
    · rename_i df hdf
      rw [forceNat_eq, forceNat_eq] at h
      injection h with h; injection h with h1 h2; subst h1 h2
      obtain ⟨D, M, O, V, S, X, hD⟩ := txt_of hdf
      obtain ⟨Z, ha, ht, hg⟩ := static_of hok X.ops X.masks
      have hD' : D ops.size = df := by rw [← hD]; simp
      refine ⟨.normal, df.fr, rfl, fun B p w a n Q hrel hB hf hrd hQ => ?_⟩
      have hany : ∀ (md : Region.Mode) (L0 : List Nat), orderOk md ops.toList L0 [] = true → ∀ t, wpOpsIn (fenceOf p rd) n P ops Q (Region.linearise md ops t) a { w with drawn := w.drawn + 1 } := fun md L0 hord t => by
        refine wpAnyIn_sound ops.size t _ a _ (any_fine hrun X Z hrel hB hf hord hrd (fun q w' a' hp hfa => ?_) ops.size (Array.replicate ops.size false) (p.lim s.n hrel.n8) a _ (by simp) ?_ ?_)
        · rw [hD'] at hp hfa
          exact hQ q w' a' hp hfa
        · have : (fun j => (Array.replicate ops.size false).getD j false) = fun _ => false := by
            funext j
            rw [Array.getD_eq_getD_getElem?, Array.getElem?_replicate]
            split <;> rfl
          rw [this, cntU_none]; exact Nat.le_refl _
        · have : (fun j => (Array.replicate ops.size false).getD j false = true) = fun _ => False := by
            funext j
            rw [Array.getD_eq_getD_getElem?, Array.getElem?_replicate]
            split <;> simp
          rw [this]
          exact inv_start hrel hf
      refine wpIn_region_draw fun t => ?_
      unfold Region.schedule
      split
      · exact hany .any _ ha t
      · split
        · exact hany .text _ ht _
        · exact hany .gc _ hg _
    · cases h
  · cases h

/-! ### All tasks -/
theorem code_fine {r : Run} {k : Nat} (hr : RunFine P r) (hl : ∀ rd c fr s e fr' s', r (.code rd (.loop c) fr) s = some (.left e fr', s') → LoopFine P k rd c fr s e fr' s') {rd : Option Nat} {c : Code} {fr : Fr} {s s' : St} {o : Out} (h : xCode P r rd c fr s = some (o, s')) :
    ∃ e fr', o = .left e fr' ∧ CodeFine P rd c fr s e fr' s' := by
  unfold xCode at h
  split at h
  · injection h with h; injection h with h1 h2; subst h1 h2
    exact ⟨.normal, fr, rfl, fun B p w a n Q hrel hB hf hrd hQ => wpIn_skip (hQ p w a (Post.refl hrel) hf)⟩
  · injection h with h; injection h with h1 h2; subst h1 h2
    exact ⟨.normal, fr, rfl, fun B p w a n Q hrel hB hf hrd hQ => wpIn_label (hQ p w a (Post.refl hrel) hf)⟩
  · exact draw_fine hr h
  · exact region_fine hr h
  · exact seq_fine hr h
  · exact cond_fine hr h
  · exact block_fine hr h
  · obtain ⟨e, fr', rfl, hx⟩ := loop_fine hr (fun fr s e fr' s' h => hl rd _ fr s e fr' s' h) h
    exact ⟨e, fr', rfl, hx.code⟩
  · injection h with h; injection h with h1 h2; subst h1 h2
    exact ⟨.exit _, fr, rfl, fun B p w a n Q hrel hB hf hrd hQ => wpIn_exit (hQ p w a (Post.refl hrel) hf)⟩
  · injection h with h; injection h with h1 h2; subst h1 h2
    exact ⟨.ret, fr, rfl, fun B p w a n Q hrel hB hf hrd hQ => wpIn_ret (hQ p w a (Post.refl hrel) hf)⟩
  · exact range_fine hr h
  · cases h

theorem exec_fine : ∀ (k : Nat), RunFine P (exec P k) ∧ ∀ rd c fr s e fr' s', exec P k (.code rd (.loop c) fr) s = some (.left e fr', s') → LoopFine P k rd c fr s e fr' s'
  | 0 => ⟨(fun t s o s' h => by cases h), (fun rd c fr s e fr' s' h => by cases h)⟩
  | k + 1 => by
    obtain ⟨ih, ihl⟩ := exec_fine k
    refine ⟨fun t s o s' h => ?_, fun rd c fr s e fr' s' h => ?_⟩
    · change xTask P (exec P k) t s = some (o, s') at h
      cases t with
      | code rd c fr => obtain ⟨e, fr', rfl, hx⟩ := code_fine ih ihl h; exact hx
      | ops rd all ops fr => obtain ⟨fr', rfl, hx⟩ := ops_fine ih h; exact ⟨rfl, hx⟩
      | call f args => obtain ⟨v, rfl, hx⟩ := call_fine ih h; exact hx
      | round l args => obtain ⟨v, rfl, hx⟩ := round_fine ih h; exact hx
    · change xTask P (exec P k) (.code rd (.loop c) fr) s = some (.left e fr', s') at h
      obtain ⟨e', fr'', he, hx⟩ := loop_fine ih (fun fr s e fr' s' h => ihl rd _ fr s e fr' s' h) h
      injection he with he1 he2; subst he1 he2
      exact hx

def Pl.start : Pl := { ρ := fun i => i, κ := fun _ => 0, ok := fun i => i < 8, gl := fun _ h => ⟨h, rfl⟩ }
/-- A run from nothing gives a contract in whatever world. -/
theorem calls_of_exec {k : Nat} {f : FuncId} {v : AV} {s' : St} (h : exec P k (.call f []) { h := .leaf, n := 8, lo := big } = some (.val v, s')) (w : World) :
    Calls P f #[] w fun e w' => ∃ q u, e = .returned u ∧ v.is q s'.n u ∧ Rel w.heap.size q s' w' ∧ w.heap.size ≤ w'.heap.size ∧ (∀ b, b < w.heap.size → w'.heap[b]? = w.heap[b]?) ∧ w'.os = w.os ∧ w'.tape = w.tape ∧ w'.output = w.output := by
  have hx := (exec_fine (P := P) k).1 _ _ _ _ h
  have hrel : Rel w.heap.size Pl.start { h := .leaf, n := 8, lo := big } w :=
    ⟨(fun i r hi _ => by cases hi), (fun i j hi _ _ => by obtain ⟨r, hi, _⟩ := hi; cases hi), Nat.le_refl _⟩
  refine (callsIn_wide (n := 0)).1 (hx w.heap.size _ w #[] 0 _ hrel (Nat.le_refl _) trivial fun q w' u hp hu => ?_).2
  exact ⟨q, u, rfl, hu, hp.rel, hp.size, hp.below hrel (Nat.le_refl _), hp.os, hp.tape, hp.output⟩

end Go.Ax
