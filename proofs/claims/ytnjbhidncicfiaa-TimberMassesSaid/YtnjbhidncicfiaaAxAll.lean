/- A symbolic run is what the model does: all tasks together. -/
import Derived.Test.YtnjbhidncicfiaaAxDraw3
namespace Go.Ax
open Go

variable {P : Program}

theorem binds_any {md : Region.Mode} {e : Edge} (h : Region.binds .any e = true) : Region.binds md e = true := by
  unfold Region.binds at h ⊢
  cases hg : e.ground <;> rw [hg] at h <;> first | rfl | cases h
theorem ready_mem {md : Region.Mode} {ops : Array Oper} {listed : Array Bool} {i : Nat} (h : i ∈ Region.ready md ops listed) :
    i < ops.size ∧ listed.getD i true = false ∧ ∃ o, ops[i]? = some o ∧ ∀ e ∈ edgesOf md o, listed.getD e false = true := by
  unfold Region.ready at h
  rw [List.mem_filter] at h
  obtain ⟨h1, h2⟩ := h
  rw [Bool.and_eq_true] at h2
  obtain ⟨h2, h3⟩ := h2
  have hi := List.mem_range.1 h1
  refine ⟨hi, by simpa using h2, ?_⟩
  cases ho : ops[i]? with
  | none => rw [ho] at h3; cases h3
  | some o =>
    rw [ho] at h3
    refine ⟨o, rfl, fun e he => ?_⟩
    simp only [Option.map_some, Option.getD_some] at h3
    rw [Array.all_eq_true_iff_forall_mem] at h3
    unfold edgesOf at he
    obtain ⟨x, hx, rfl⟩ := List.mem_map.1 he
    rw [List.mem_filter] at hx
    have := h3 x (by simpa using hx.1)
    rw [hx.2] at this
    simpa using this
theorem ready_nil {md : Region.Mode} {ops : Array Oper} {listed : Array Bool} (hsz : listed.size = ops.size) (h : Region.ready md ops listed = []) :
    ∀ i o, ops.toList[i]? = some o → listed.getD i false = false → ∃ e ∈ edgesOf md o, listed.getD e false = false := by
  intro i o ho hl
  have ho' : ops[i]? = some o := by simpa using ho
  have hi : i < ops.size := by rw [Array.getElem?_eq_some_iff] at ho'; exact ho'.1
  have hn : i ∉ Region.ready md ops listed := by rw [h]; simp
  apply Decidable.byContradiction
  intro hno
  apply hn
  unfold Region.ready
  rw [List.mem_filter]
  refine ⟨List.mem_range.2 hi, ?_⟩
  rw [Bool.and_eq_true]
  constructor
  · have : listed.getD i true = false := by
      rw [Array.getD_eq_getD_getElem?] at hl ⊢
      have hil : i < listed.size := by omega
      rw [Array.getElem?_eq_getElem hil] at hl ⊢
      exact hl
    simp only [this, Bool.not_false]
  · rw [ho']
    simp only [Option.map_some, Option.getD_some]
    rw [Array.all_eq_true_iff_forall_mem]
    intro e he
    cases hb : Region.binds md e
    · rfl
    · simp only [Bool.not_true, Bool.false_or]
      cases hle : listed.getD e.on false
      · exfalso
        apply hno
        refine ⟨e.on, ?_, hle⟩
        unfold edgesOf
        exact List.mem_map.2 ⟨e, List.mem_filter.2 ⟨by simpa using he, hb⟩, rfl⟩
      · rfl
theorem getD_set {listed : Array Bool} {i : Nat} (hi : i < listed.size) : (fun j => (listed.setIfInBounds i true).getD j false = true) = fun j => j = i ∨ listed.getD j false = true := by
  funext j
  rw [Array.getD_eq_getD_getElem?, Array.getD_eq_getD_getElem?]
  by_cases h : j = i
  · subst h
    rw [Array.getElem?_setIfInBounds_self_of_lt hi]; simp
  · rw [Array.getElem?_setIfInBounds_ne (fun e => h e.symm)]; simp [h]

section
variable {r : Run} {ops : Array Oper} {s0 : St} {fr0 : Fr} {D : Nat → Draw} {M : Nat → Nat} {O : Nat → Oper} {V : Nat → AV} {S : Nat → St}
variable {B : Nat} {p : Pl} {w0 : World} {a0 : Act}

theorem any_fine (hrun : RunFine P r) (X : Txt P r ops.toList s0 fr0 D M O V S) (Z : Static ops.toList M O) (hr : Rel B p s0 w0) (hB : B ≤ w0.heap.size) (hf0 : fr0.is p s0.n a0) {md : Region.Mode} {L0 : List Nat} (hord : orderOk md ops.toList L0 [] = true)
    {rd : Option Nat} (hrd : ∀ l, rd = some l → p.has s0.n l) {n : Nat} {Q : Exit → Act → World → Prop}
    (hQ : ∀ q w a, Post B p s0 w0 q { h := withItems (D ops.size).b (fun _ => true) (D ops.size).items, n := (D ops.size).n, lo := (D ops.size).lo } w → (D ops.size).fr.is q (D ops.size).n a → Q .normal a w) :
    ∀ (fuel : Nat) (listed : Array Bool) (q : Pl) (a : Act) (w : World), listed.size = ops.size → cntU (fun j => listed.getD j false) ops.size ≤ fuel →
      Inv ops.toList s0 fr0 D M O V S B p w0 a0 (fun j => listed.getD j false = true) q a w → wpAnyIn (fenceOf p rd) n P md ops Q fuel listed a w := by
  have hlen : ops.toList.length = ops.size := by simp
  have hend : ∀ (listed : Array Bool) (q : Pl) (a : Act) (w : World), listed.size = ops.size → Inv ops.toList s0 fr0 D M O V S B p w0 a0 (fun j => listed.getD j false = true) q a w → Region.ready md ops listed = [] → Q .normal a w := by
    intro listed q a w hsz I hnil
    have hall := order_free (f := fun j => listed.getD j false) (ready_nil hsz hnil) hord (by simp)
    obtain ⟨h1, h2⟩ := inv_end X I hr hf0 hall
    rw [hlen] at h1 h2
    exact hQ q w a h1 h2
  intro fuel
  induction fuel with
  | zero =>
    intro listed q a w hsz hcnt I
    have hall := cntU_zero (Nat.le_zero.1 hcnt)
    have hnil : Region.ready md ops listed = [] := by
      apply List.eq_nil_iff_forall_not_mem.2
      intro i hi
      obtain ⟨h1, h2, _⟩ := ready_mem hi
      have := hall i h1
      rw [Array.getD_eq_getD_getElem?, Array.getElem?_eq_getElem (by omega)] at this h2
      simp only [Option.getD_some] at this h2
      rw [h2] at this; cases this
    exact ⟨hnil, hend listed q a w hsz I hnil⟩
  | succ fuel ih =>
    intro listed q a w hsz hcnt I
    refine ⟨hend listed q a w hsz I, fun i hi => ?_⟩
    obtain ⟨h1, h2, o, ho, hedges⟩ := ready_mem hi
    have hil : i < listed.size := by omega
    have h2' : listed.getD i false = false := by
      rw [Array.getD_eq_getD_getElem?, Array.getElem?_eq_getElem hil] at h2 ⊢
      exact h2
    have hi' : i < ops.toList.length := by omega
    have hoO : o = O i := by
      have := X.ops i hi'
      have ho2 : ops.toList[i]? = some o := by simpa using ho
      rw [ho2] at this; injection this
    subst hoO
    have hpre := pre_listed Z I.closed hi' (fun e he => hedges e (by
      unfold edgesOf at he ⊢
      obtain ⟨x, hx, rfl⟩ := List.mem_map.1 he
      rw [List.mem_filter] at hx
      exact List.mem_map.2 ⟨x, List.mem_filter.2 ⟨hx.1, binds_any hx.2⟩, rfl⟩))
    have hnl : ¬ (listed.getD i false = true) := by rw [h2']; simp
    have hone := one_fine hrun (X.run i hi')
    have hfence : fenceOf q rd = fenceOf p rd := fenceOf_fits I.fits hrd
    have := hone B q w a n rd Q (wpAnyIn (fenceOf p rd) n P md ops Q fuel (listed.setIfInBounds i true)) (start_is_rel X Z I hi' hnl hpre) (Nat.le_trans hB I.grew) (start_is_fr X Z I hf0 hi' hnl hpre) (fun q' w' u hp hu => by
      refine ih (listed.setIfInBounds i true) (mix q q' (D i).n (S i).n) _ w' (by simpa using hsz) ?_ ?_
      · have hc := cntU_set (f := fun j => listed.getD j false) (g := fun j => (listed.setIfInBounds i true).getD j false) (i := i) (m := ops.size) h2' (by
          have := congrFun (getD_set hil) i
          simp only [true_or, eq_iff_iff, iff_true] at this
          exact this) h1 (fun j hj => by
          simp only [Array.getD_eq_getD_getElem?]
          rw [Array.getElem?_setIfInBounds_ne (fun e => hj e.symm)])
        omega
      · rw [getD_set hil]
        exact inv_step X Z I hi' hnl hpre hp hu)
    unfold wpOpIn
    rw [ho]
    rw [hfence] at this
    unfold wpOne at this
    simpa using this
end

theorem draw_fine {r : Run} (hrun : RunFine P r) {rd : Option Nat} {id : Nat} {ops : Array Oper} {fr : Fr} {s s' : St} {o : Out} (h : xDraw P r ops fr s = some (o, s')) :
    ∃ e fr', o = .left e fr' ∧ CodeFine P rd (.region id ops true) fr s e fr' s' := by
  unfold xDraw at h
  split at h
  · rename_i hok
    split at h
    · rename_i df hdf
      rw [forceNat_eq, forceNat_eq] at h
      injection h with h; injection h with h1 h2; subst h1 h2
      obtain ⟨D, M, O, V, S, X, hD⟩ := txt_of hdf
      obtain ⟨Z, ha, ht, hg⟩ := static_of hok X.ops X.masks
      have hD' : D ops.size = df := by rw [← hD]; simp
      refine ⟨.normal, df.fr, rfl, fun B p w a n Q hrel hB hf hrd hQ => ?_⟩
      have hany : ∀ (md : Region.Mode) (L0 : List Nat), orderOk md ops.toList L0 [] = true → ∀ t, wpOpsIn (fenceOf p rd) n P ops Q (Region.linearise md ops t) a { w with drawn := w.drawn + 1 } := fun md L0 hord t => by
        refine wpAnyIn_sound ops.size t _ a _ (any_fine hrun X Z hrel hB hf hord hrd (fun q w' a' hp hfa => ?_) ops.size (Array.replicate ops.size false) { p with ok := fun i => i < s.n ∧ p.ok i } a _ (by simp) ?_ ?_)
        · rw [hD'] at hp hfa
          exact hQ q w' a' hp hfa
        · have : (fun j => (Array.replicate ops.size false).getD j false) = fun _ => false := by
            funext j
            rw [Array.getD_eq_getD_getElem?, Array.getElem?_replicate]
            split <;> rfl
          rw [this, cntU_none]; exact Nat.le_refl _
        · have : (fun j => (Array.replicate ops.size false).getD j false = true) = fun _ => False := by
            funext j
            rw [Array.getD_eq_getD_getElem?, Array.getElem?_replicate]
            split <;> simp
          rw [this]
          exact inv_start hrel hf
      refine wpIn_region_draw fun t => ?_
      unfold Region.schedule
      split
      · exact hany .any _ ha t
      · split
        · exact hany .text _ ht _
        · exact hany .gc _ hg _
    · cases h
  · cases h

/-! ### All tasks -/
theorem code_fine {r : Run} {k : Nat} (hr : RunFine P r) (hl : ∀ rd c fr s e fr' s', r (.code rd (.loop c) fr) s = some (.left e fr', s') → LoopFine P k rd c fr s e fr' s') {rd : Option Nat} {c : Code} {fr : Fr} {s s' : St} {o : Out} (h : xCode P r rd c fr s = some (o, s')) :
    ∃ e fr', o = .left e fr' ∧ CodeFine P rd c fr s e fr' s' := by
  unfold xCode at h
  split at h
  · injection h with h; injection h with h1 h2; subst h1 h2
    exact ⟨.normal, fr, rfl, fun B p w a n Q hrel hB hf hrd hQ => wpIn_skip (hQ p w a (Post.refl hrel) hf)⟩
  · injection h with h; injection h with h1 h2; subst h1 h2
    exact ⟨.normal, fr, rfl, fun B p w a n Q hrel hB hf hrd hQ => wpIn_label (hQ p w a (Post.refl hrel) hf)⟩
  · exact draw_fine hr h
  · exact region_fine hr h
  · exact seq_fine hr h
  · exact cond_fine hr h
  · exact block_fine hr h
  · obtain ⟨e, fr', rfl, hx⟩ := loop_fine hr (fun fr s e fr' s' h => hl rd _ fr s e fr' s' h) h
    exact ⟨e, fr', rfl, hx.code⟩
  · injection h with h; injection h with h1 h2; subst h1 h2
    exact ⟨.exit _, fr, rfl, fun B p w a n Q hrel hB hf hrd hQ => wpIn_exit (hQ p w a (Post.refl hrel) hf)⟩
  · injection h with h; injection h with h1 h2; subst h1 h2
    exact ⟨.ret, fr, rfl, fun B p w a n Q hrel hB hf hrd hQ => wpIn_ret (hQ p w a (Post.refl hrel) hf)⟩
  · exact range_fine hr h
  · cases h

theorem exec_fine : ∀ (k : Nat), RunFine P (exec P k) ∧ ∀ rd c fr s e fr' s', exec P k (.code rd (.loop c) fr) s = some (.left e fr', s') → LoopFine P k rd c fr s e fr' s'
  | 0 => ⟨(fun t s o s' h => by cases h), (fun rd c fr s e fr' s' h => by cases h)⟩
  | k + 1 => by
    obtain ⟨ih, ihl⟩ := exec_fine k
    refine ⟨fun t s o s' h => ?_, fun rd c fr s e fr' s' h => ?_⟩
    · change xTask P (exec P k) t s = some (o, s') at h
      cases t with
      | code rd c fr => obtain ⟨e, fr', rfl, hx⟩ := code_fine ih ihl h; exact hx
      | ops rd all ops fr => obtain ⟨fr', rfl, hx⟩ := ops_fine ih h; exact ⟨rfl, hx⟩
      | call f args => obtain ⟨v, rfl, hx⟩ := call_fine ih h; exact hx
      | round l args => obtain ⟨v, rfl, hx⟩ := round_fine ih h; exact hx
    · change xTask P (exec P k) (.code rd (.loop c) fr) s = some (.left e fr', s') at h
      obtain ⟨e', fr'', he, hx⟩ := loop_fine ih (fun fr s e fr' s' h => ihl rd _ fr s e fr' s' h) h
      injection he with he1 he2; subst he1 he2
      exact hx

/-- A run from nothing gives a contract in whatever world. -/
theorem calls_of_exec {k : Nat} {f : FuncId} {v : AV} {s' : St} (h : exec P k (.call f []) { h := .leaf, n := 0, lo := big } = some (.val v, s')) (w : World) :
    Calls P f #[] w fun e w' => ∃ q u, e = .returned u ∧ v.is q s'.n u ∧ Rel w.heap.size q s' w' ∧ w.heap.size ≤ w'.heap.size ∧ (∀ b, b < w.heap.size → w'.heap[b]? = w.heap[b]?) ∧ w'.os = w.os ∧ w'.tape = w.tape ∧ w'.output = w.output := by
  have hx := (exec_fine (P := P) k).1 _ _ _ _ h
  have hrel : Rel w.heap.size { ρ := fun _ => 0, κ := fun _ => 0, ok := fun _ => False } { h := .leaf, n := 0, lo := big } w :=
    ⟨(fun i r hi _ => by cases hi), (fun i j hi _ _ => by obtain ⟨r, hi, _⟩ := hi; cases hi)⟩
  refine (callsIn_wide (n := 0)).1 (hx w.heap.size _ w #[] 0 _ hrel (Nat.le_refl _) trivial fun q w' u hp hu => ?_).2
  exact ⟨q, u, rfl, hu, hp.rel, hp.size, hp.below hrel (Nat.le_refl _), hp.os, hp.tape, hp.output⟩

end Go.Ax
