/- A symbolic run is what the model does: statements, calls, loops. -/
import Derived.Test.YtnjbhidncicfiaaAxExec
import Derived.LoopNIn
namespace Go.Ax
open Go

variable {P : Program} {B : Nat} {p : Pl} {s s' : St} {w : World} {fr : Fr} {a : Act} {v : AV}

def fenceOf (p : Pl) (rd : Option Nat) : Fence := { fn := fun _ => True, depth := none, alive := false, round := rd.map p.ρ }
theorem fenceOf_fits {q : Pl} {rd : Option Nat} {n : Nat} (h : p.fits q n) (hl : ∀ l, rd = some l → p.has n l) : fenceOf q rd = fenceOf p rd := by
  cases rd with
  | none => rfl
  | some l => simp only [fenceOf, Option.map_some, (h l (hl l rfl)).2.1]
def exitOf : Ex → Exit
  | .normal => .normal
  | .exit id => .exit id
  | .goto l => .goto l
  | .ret => .ret

def CodeFine (P : Program) (rd : Option Nat) (c : Code) (fr : Fr) (s : St) (e : Ex) (fr' : Fr) (s' : St) : Prop :=
  ∀ (B : Nat) (p : Pl) (w : World) (a : Act) (n : Nat) (Q : Exit → Act → World → Prop), Rel B p s w → B ≤ w.heap.size → fr.is p s.n a → (∀ l, rd = some l → p.has s.n l) →
    (∀ q w' a', Post B p s w q s' w' → fr'.is q s'.n a' → Q (exitOf e) a' w') → c.wpIn (fenceOf p rd) n P Q a w
def LoopFine (P : Program) (k : Nat) (rd : Option Nat) (c : Code) (fr : Fr) (s : St) (e : Ex) (fr' : Fr) (s' : St) : Prop :=
  ∀ (B : Nat) (p : Pl) (w : World) (a : Act) (n : Nat) (Q : Exit → Act → World → Prop), Rel B p s w → B ≤ w.heap.size → fr.is p s.n a → (∀ l, rd = some l → p.has s.n l) →
    (∀ q w' a', Post B p s w q s' w' → fr'.is q s'.n a' → Q (exitOf e) a' w') → Code.roundsIn (fenceOf p rd) n P c Q k a w
def OpsFine (P : Program) (rd : Option Nat) (all rest : List Oper) (fr : Fr) (s : St) (e : Ex) (fr' : Fr) (s' : St) : Prop :=
  ∀ (B : Nat) (p : Pl) (w : World) (a : Act) (n : Nat) (Q : Exit → Act → World → Prop) (L : List Nat), Rel B p s w → B ≤ w.heap.size → fr.is p s.n a → (∀ l, rd = some l → p.has s.n l) →
    L.map (fun i => all.toArray[i]?) = rest.map some →
    (∀ q w' a', Post B p s w q s' w' → fr'.is q s'.n a' → Q (exitOf e) a' w') → wpOpsIn (fenceOf p rd) n P all.toArray Q L a w
def CallFine (P : Program) (f : FuncId) (args : List AV) (s : St) (v : AV) (s' : St) : Prop :=
  ∀ (B : Nat) (p : Pl) (w : World) (us : Array Value) (n : Nat) (R : Ending → World → Prop), Rel B p s w → B ≤ w.heap.size → AVL.is p s.n args us.toList →
    (∀ q w' u, Post B p s w q s' w' → v.is q s'.n u → R (.returned u) w') → (callFunc f us).run P w = .ok (.enter f us) w ∧ CallsIn Fence.wide n P f us w R
def RoundFine (P : Program) (l : Nat) (args : List AV) (s : St) (v : AV) (s' : St) : Prop :=
  ∀ (B : Nat) (p : Pl) (w : World) (us : Array Value) (n : Nat) (R : Ending → World → Prop), Rel B p s w → B ≤ w.heap.size → AVL.is p s.n args us.toList →
    (∀ q w' u, Post B p s w q s' w' → v.is q s'.n u → R (.returned u) w') →
    ∃ fn tmps assign body, (Instr.yield (p.ρ l) us).run P w = .ok (.round (p.ρ l) fn tmps assign body) w ∧ RoundIn Fence.wide n P (p.ρ l) fn tmps assign body w R
def TaskFine (P : Program) (t : Task) (s : St) (o : Out) (s' : St) : Prop :=
  match t, o with
  | .code rd c fr, .left e fr' => CodeFine P rd c fr s e fr' s'
  | .ops rd all rest fr, .left e fr' => e = .normal ∧ OpsFine P rd all rest fr s e fr' s'
  | .call f args, .val v => CallFine P f args s v s'
  | .round l args, .val v => RoundFine P l args s v s'
  | _, _ => False
def RunFine (P : Program) (r : Run) : Prop := ∀ t s o s', r t s = some (o, s') → TaskFine P t s o s'

/-! ### Codes -/
theorem CodeFine.then_ {rd : Option Nat} {c d : Code} {fr fr1 fr2 : Fr} {s s1 s2 : St} {e : Ex} (h1 : CodeFine P rd c fr s .normal fr1 s1) (h2 : CodeFine P rd d fr1 s1 e fr2 s2) : CodeFine P rd (.seq c d) fr s e fr2 s2 := by
  intro B p w a n Q hr hB hf hrd hQ
  refine wpIn_seq (h1 B p w a n _ hr hB hf hrd fun q w' a' hp hf' => ?_)
  show d.wpIn (fenceOf p rd) n P Q a' w'
  rw [← fenceOf_fits hp.fits hrd]
  exact h2 B q w' a' n Q hp.rel (Nat.le_trans hB hp.size) hf' (fun l hl => hp.fits.has hp.le (hrd l hl)) fun q' w'' a'' hp' hf'' => hQ q' w'' a'' (hp.trans hp') hf''
theorem CodeFine.first {rd : Option Nat} {c d : Code} {fr fr1 : Fr} {s s1 : St} {e : Ex} (h1 : CodeFine P rd c fr s e fr1 s1) (he : e ≠ .normal) : CodeFine P rd (.seq c d) fr s e fr1 s1 := by
  intro B p w a n Q hr hB hf hrd hQ
  refine wpIn_seq (h1 B p w a n _ hr hB hf hrd fun q w' a' hp hf' => ?_)
  have := hQ q w' a' hp hf'
  cases e <;> first | exact absurd rfl he | exact this
theorem xSeq_cases {r : Run} {rd : Option Nat} {b : Code} {x : Option (Out × St)} {o : Out} {s' : St} (h : xSeq r rd b x = some (o, s')) :
    (∃ fr s1, x = some (.left .normal fr, s1) ∧ r (.code rd b fr) s1 = some (o, s')) ∨ (x = some (o, s') ∧ ∀ fr, o ≠ .left .normal fr) := by
  unfold xSeq at h
  split at h
  · exact .inl ⟨_, _, rfl, h⟩
  · rename_i hno
    refine .inr ⟨h, fun fr e => ?_⟩
    subst e
    exact hno _ _ h
theorem code_left {r : Run} (hr : RunFine P r) {rd : Option Nat} {c : Code} {fr : Fr} {o : Out} (h : r (.code rd c fr) s = some (o, s')) : ∃ e fr', o = .left e fr' ∧ CodeFine P rd c fr s e fr' s' := by
  have := hr _ _ _ _ h
  cases o with
  | left e fr' => exact ⟨e, fr', rfl, this⟩
  | val v => exact this.elim

theorem seq_fine {r : Run} (hr : RunFine P r) {rd : Option Nat} {c d : Code} {fr : Fr} {o : Out} (h : xSeq r rd d (r (.code rd c fr) s) = some (o, s')) : ∃ e fr', o = .left e fr' ∧ CodeFine P rd (.seq c d) fr s e fr' s' := by
  rcases xSeq_cases h with ⟨fr1, s1, h1, h2⟩ | ⟨h1, hno⟩
  · obtain ⟨e1, f1, he1, hc1⟩ := code_left hr h1
    injection he1 with he1 hf1; subst he1 hf1
    obtain ⟨e2, f2, rfl, hc2⟩ := code_left hr h2
    exact ⟨e2, f2, rfl, hc1.then_ hc2⟩
  · obtain ⟨e1, f1, rfl, hc1⟩ := code_left hr h1
    exact ⟨e1, f1, rfl, hc1.first fun e => by subst e; exact hno f1 rfl⟩
theorem block_fine {r : Run} (hr : RunFine P r) {rd : Option Nat} {c : Code} {id : Nat} {fr : Fr} {o : Out} (h : xBlock id (r (.code rd c fr) s) = some (o, s')) : ∃ e fr', o = .left e fr' ∧ CodeFine P rd (.block id c) fr s e fr' s' := by
  unfold xBlock at h
  split at h
  · rename_i j fr1 s1 h1
    obtain ⟨e1, f1, he1, hc1⟩ := code_left hr h1
    injection he1 with he1 hf1; subst he1 hf1
    split at h
    · rename_i hj
      have hj := Nat.eq_of_beq_eq_true hj
      subst hj
      injection h with h; injection h with h1 h2; subst h1 h2
      refine ⟨.normal, _, rfl, fun B p w a n Q hr hB hf hrd hQ => wpIn_block (hc1 B p w a n _ hr hB hf hrd fun q w' a' hp hf' => ?_)⟩
      show Exit.inBlock j Q (.exit j) a' w'
      simp only [Exit.inBlock, if_true]
      exact hQ q w' a' hp hf'
    · rename_i hj
      injection h with h; injection h with h1 h2; subst h1 h2
      refine ⟨.exit j, _, rfl, fun B p w a n Q hr hB hf hrd hQ => wpIn_block (hc1 B p w a n _ hr hB hf hrd fun q w' a' hp hf' => ?_)⟩
      show Exit.inBlock id Q (.exit j) a' w'
      have : j ≠ id := fun e => by subst e; simp at hj
      simp only [Exit.inBlock, if_neg this]
      exact hQ q w' a' hp hf'
  · rename_i hno
    obtain ⟨e1, f1, rfl, hc1⟩ := code_left hr h
    refine ⟨e1, f1, rfl, fun B p w a n Q hr hB hf hrd hQ => wpIn_block (hc1 B p w a n _ hr hB hf hrd fun q w' a' hp hf' => ?_)⟩
    have := hQ q w' a' hp hf'
    cases e1 with
    | exit j => exact absurd h (hno j f1 s')
    | normal => exact this
    | goto l => exact this
    | ret => exact this

theorem cond_fine {r : Run} (hr : RunFine P r) {rd : Option Nat} {c d : Code} {x : Operand} {fr : Fr} {o : Out} (h : xCond r rd c d fr s (fr.eval x) = some (o, s')) : ∃ e fr', o = .left e fr' ∧ CodeFine P rd (.cond x c d) fr s e fr' s' := by
  unfold xCond at h
  split at h
  · rename_i hx
    obtain ⟨e, f, rfl, hc⟩ := code_left hr h
    exact ⟨e, f, rfl, fun B p w a n Q hr hB hf hrd hQ => wpIn_cond (t := true) (hf.eval hx) (hc B p w a n Q hr hB hf hrd hQ)⟩
  · rename_i hx
    obtain ⟨e, f, rfl, hc⟩ := code_left hr h
    exact ⟨e, f, rfl, fun B p w a n Q hr hB hf hrd hQ => wpIn_cond (t := false) (hf.eval hx) (hc B p w a n Q hr hB hf hrd hQ)⟩
  · cases h

/-! ### Loops -/
theorem loop_fine {r : Run} {k : Nat} (hr : RunFine P r) {rd : Option Nat} {c : Code} {fr : Fr} {o : Out}
    (hl : ∀ fr s e fr' s', r (.code rd (.loop c) fr) s = some (.left e fr', s') → LoopFine P k rd c fr s e fr' s')
    (h : xSeq r rd (.loop c) (r (.code rd c fr) s) = some (o, s')) : ∃ e fr', o = .left e fr' ∧ LoopFine P (k + 1) rd c fr s e fr' s' := by
  rcases xSeq_cases h with ⟨fr1, s1, h1, h2⟩ | ⟨h1, hno⟩
  · obtain ⟨e1, f1, he1, hc1⟩ := code_left hr h1
    injection he1 with he1 hf1; subst he1 hf1
    obtain ⟨e2, f2, rfl, _⟩ := code_left hr h2
    refine ⟨e2, f2, rfl, fun B p w a n Q hr hB hf hrd hQ => ?_⟩
    rw [roundsIn_succ]
    refine hc1 B p w a n _ hr hB hf hrd fun q w' a' hp hf' => ?_
    show Code.roundsIn (fenceOf p rd) n P c Q k a' w'
    rw [← fenceOf_fits hp.fits hrd]
    exact hl _ _ _ _ _ h2 B q w' a' n Q hp.rel (Nat.le_trans hB hp.size) hf' (fun l hl => hp.fits.has hp.le (hrd l hl)) fun q' w'' a'' hp' hf'' => hQ q' w'' a'' (hp.trans hp') hf''
  · obtain ⟨e1, f1, rfl, hc1⟩ := code_left hr h1
    refine ⟨e1, f1, rfl, fun B p w a n Q hr hB hf hrd hQ => ?_⟩
    rw [roundsIn_succ]
    refine hc1 B p w a n _ hr hB hf hrd fun q w' a' hp hf' => ?_
    have := hQ q w' a' hp hf'
    cases e1 with
    | normal => exact absurd rfl (hno f1)
    | exit j => exact this
    | goto l => exact this
    | ret => exact this
theorem LoopFine.code {k : Nat} {rd : Option Nat} {c : Code} {fr fr' : Fr} {e : Ex} (h : LoopFine P k rd c fr s e fr' s') : CodeFine P rd (.loop c) fr s e fr' s' :=
  fun B p w a n Q hr hB hf hrd hQ => wpIn_loop_rounds k (h B p w a n Q hr hB hf hrd hQ)

/-! ### Operations in their order -/
theorem guard_sound {all : List Oper} {fr : Fr} {o : Oper} {b : Bool} (h : guardOk all fr o = some b) {n : Nat} (hf : fr.is p n a) : Region.wanted o (yielded all.toArray a.tmps) = b := by
  unfold guardOk at h
  unfold Region.wanted
  split at h
  · rename_i hg; injection h with h; subst h; simp [hg]
  · rename_i j want hg
    simp only [hg]
    split at h
    · rename_i g hj
      rw [lget_eq] at hj
      split at h
      · rename_i d hd
        split at h
        · rename_i c hc
          injection h with h; subst h
          obtain ⟨u, hu, huc⟩ := hf.get d _ hc
          have : yielded all.toArray a.tmps j = some c := by
            unfold yielded
            have h1 : all.toArray[j]? = some g := by simpa using hj
            simp only [h1, Option.bind_some, hd, hu, show u = .bool c from huc]
          rw [this]
          cases c <;> cases want <;> rfl
        · cases h
      · cases h
    · cases h
theorem not_defer_val {o : Oper} (h : op? P fr o.op s = some (.val v, s')) : ∀ c, o.op ≠ .defer c := fun c e => by rw [e] at h; cases h
theorem not_defer_call {o : Oper} {c : Call} (h : callOf o.op = some c) : o.op = .call c := by
  unfold callOf at h
  split at h
  · injection h with h; subst h; rename_i h'; exact h'
  · cases h
theorem fine_upon {F : Fence} {n : Nat} {o : Oper} {K : Act → World → Prop} {Q : Exit → Act → World → Prop} (hF : F.fn = fun _ => True) (hd : ∀ c, o.op ≠ .defer c) (h : Fine P B p s w (execOp a.eval o) v s')
    (hK : ∀ u q w', v.is q s'.n u → Post B p s w q s' w' → K (a.put o.dst u) w') : o.wpIn F n P a w K Q := by
  obtain ⟨u, q, w', hran, hv, hp⟩ := h
  refine ⟨fun f _ => by rw [hF]; trivial, ?_⟩
  rw [Oper.semAt_eq _ _ _ hd]
  rcases hran with hran | ⟨hran, rfl⟩
  · rw [hran]; exact hK u q w' hv hp
  · rw [hran]; exact hK _ q w' hv hp

/-- The rest, behind an operation's value. -/
theorem ops_rest {r : Run} (hr : RunFine P r) {rd : Option Nat} {all rest : List Oper} {fr : Fr} {o : Out} (h : r (.ops rd all rest fr) s = some (o, s')) : ∃ fr', o = .left .normal fr' ∧ OpsFine P rd all rest fr s .normal fr' s' := by
  have := hr _ _ _ _ h
  cases o with
  | left e fr' => obtain ⟨rfl, hx⟩ := this; exact ⟨fr', rfl, hx⟩
  | val v => exact this.elim
theorem call_val {r : Run} (hr : RunFine P r) {f : FuncId} {args : List AV} {o : Out} (h : r (.call f args) s = some (o, s')) : ∃ v, o = .val v ∧ CallFine P f args s v s' := by
  have := hr _ _ _ _ h
  cases o with
  | left e fr' => exact this.elim
  | val v => exact ⟨v, rfl, this⟩
theorem round_val {r : Run} (hr : RunFine P r) {l : Nat} {args : List AV} {o : Out} (h : r (.round l args) s = some (o, s')) : ∃ v, o = .val v ∧ RoundFine P l args s v s' := by
  have := hr _ _ _ _ h
  cases o with
  | left e fr' => exact this.elim
  | val v => exact ⟨v, rfl, this⟩
theorem map_cons_split {all rest : List Oper} {o : Oper} {L : List Nat} (h : L.map (fun i => all.toArray[i]?) = (o :: rest).map some) : ∃ i L', L = i :: L' ∧ all.toArray[i]? = some o ∧ L'.map (fun i => all.toArray[i]?) = rest.map some := by
  cases L with
  | nil => simp at h
  | cons i L' =>
    simp only [List.map_cons, List.cons.injEq] at h
    exact ⟨i, L', rfl, h.1, h.2⟩

/-- One operation of a region, at its place. -/
def wpOne (F : Fence) (n : Nat) (P : Program) (ops : Array Oper) (Q : Exit → Act → World → Prop) (o : Oper) (K : Act → World → Prop) (a : Act) (w : World) : Prop :=
  if Region.wanted o (yielded ops a.tmps) then o.wpIn F n P a w K Q
  else (∀ f, o.about P w a.eval = some f → F.fn f) ∧ K (a.put o.dst Go.undef) w
def OneFine (P : Program) (all : List Oper) (fr : Fr) (o : Oper) (s : St) (v : AV) (s' : St) : Prop :=
  ∀ (B : Nat) (p : Pl) (w : World) (a : Act) (n : Nat) (rd : Option Nat) (Q : Exit → Act → World → Prop) (K : Act → World → Prop), Rel B p s w → B ≤ w.heap.size → fr.is p s.n a →
    (∀ q w' u, Post B p s w q s' w' → v.is q s'.n u → K (a.put o.dst u) w') → wpOne (fenceOf p rd) n P all.toArray Q o K a w
theorem xBox_eq (r : Run) (fr : Fr) (s : St) (o : Op) : xBox P r fr s (boxOf P o) = match callOf o with
    | some c => xOneC r (oCall P fr s c)
    | none => xOneV (op? P fr o s) := by
  cases o <;> rfl
theorem one_fine {r : Run} (hr : RunFine P r) {all : List Oper} {fr : Fr} {o : Oper} {v : AV} (h : xOne P r all fr o s = some (v, s')) : OneFine P all fr o s v s' := by
  unfold xOne at h
  intro B p w a n rd Q K hrel hB hf hK
  unfold wpOne
  split at h
  · cases h
  · rename_i hg
    injection h with h; injection h with h1 h2; subst h1 h2
    rw [if_neg (by rw [guard_sound hg hf]; simp)]
    exact ⟨fun _ _ => trivial, hK p w _ (Post.refl hrel) (AV.undef_is _ _)⟩
  · rename_i hg
    rw [if_pos (guard_sound hg hf)]
    rw [xBox_eq] at h
    split at h
    · rename_i c hc
      have hop := not_defer_call hc
      have hnd : ∀ c', o.op ≠ .defer c' := fun c' e => by rw [hop] at e; cases e
      unfold xOneC at h
      split at h
      · rename_i v1 s1 hv
        injection h with h; injection h with h1 h2; subst h1 h2
        exact fine_upon rfl hnd (oCall_val hrel hB hf hop hv) fun u q w' hu hp => hK q w' u hp hu
      · rename_i f args s1 hv
        unfold asVal at h
        split at h
        · rename_i v2 s2 hcall
          injection h with h; injection h with h1 h2; subst h1 h2
          obtain ⟨v', hv', hcf⟩ := call_val hr hcall
          injection hv' with hv'; subst hv'
          obtain ⟨rfl, us, he, hus⟩ := op_call hf hop hv
          refine ⟨fun _ _ => trivial, ?_⟩
          obtain ⟨hent, hci⟩ := hcf B p w us (n - 1) (fun
            | .returned v, w'' => K (a.put o.dst v) w''
            | .panicked chain, w'' => Q (.panic chain) a w''
            | .outgrown, _ => LetsOut Q) hrel hB hus (fun q w' u hp hu => hK q w' u hp hu)
          rw [Oper.semAt_eq _ _ _ hnd, he, hent]
          exact ⟨fun hh => by simp [fenceOf] at hh, hci⟩
        · cases h
      · rename_i l args s1 hv
        unfold asVal at h
        split at h
        · rename_i v2 s2 hcall
          injection h with h; injection h with h1 h2; subst h1 h2
          obtain ⟨v', hv', hcf⟩ := round_val hr hcall
          injection hv' with hv'; subst hv'
          obtain ⟨rfl, hlt, us, he, hus⟩ := op_round hf hop hv
          refine ⟨fun _ _ => trivial, ?_⟩
          obtain ⟨fn, tmps, assign, body, hent, hci⟩ := hcf B p w us (n - 1) (fun
            | .returned v, w'' => K (a.put o.dst v) w''
            | .panicked chain, w'' => Q (.panic chain) a w''
            | .outgrown, _ => LetsOut Q) hrel hB hus (fun q w' u hp hu => hK q w' u hp hu)
          rw [Oper.semAt_eq _ _ _ hnd, he, hent]
          exact ⟨fun hh => by simp [fenceOf] at hh, hci⟩
        · cases h
      · cases h
    · unfold xOneV at h
      split at h
      · rename_i v1 s1 hv
        injection h with h; injection h with h1 h2; subst h1 h2
        exact fine_upon rfl (not_defer_val hv) (op_val hrel hB hf hv) fun u q w' hu hp => hK q w' u hp hu
      · cases h

theorem ops_fine {r : Run} (hr : RunFine P r) {rd : Option Nat} {all ops : List Oper} {fr : Fr} {o : Out} (h : xOps P r rd all ops fr s = some (o, s')) : ∃ fr', o = .left .normal fr' ∧ OpsFine P rd all ops fr s .normal fr' s' := by
  unfold xOps at h
  split at h
  · injection h with h; injection h with h1 h2; subst h1 h2
    refine ⟨fr, rfl, fun B p w a n Q L hr hB hf hrd hL hQ => ?_⟩
    have : L = [] := by cases L with | nil => rfl | cons => simp at hL
    subst this
    exact hQ p w a (Post.refl hr) hf
  · rename_i op rest
    split at h
    · cases h
    · rename_i v s1 hone
      obtain ⟨fr', rfl, hx⟩ := ops_rest hr h
      refine ⟨fr', rfl, fun B p w a n Q L hrel hB hf hrd hL hQ => ?_⟩
      obtain ⟨i, L', rfl, hi, hL'⟩ := map_cons_split hL
      simp only [wpOpsIn, hi]
      refine one_fine hr hone B p w a n rd Q _ hrel hB hf fun q w' u hp hu => ?_
      rw [← fenceOf_fits hp.fits hrd]
      exact hx B q w' _ n Q L' hp.rel (Nat.le_trans hB hp.size) ((hf.fits hp.fits hp.le).put _ hu) (fun l hl => hp.fits.has hp.le (hrd l hl)) hL' fun q' w'' a'' hp' hf'' => hQ q' w'' a'' (hp.trans hp') hf''

end Go.Ax
