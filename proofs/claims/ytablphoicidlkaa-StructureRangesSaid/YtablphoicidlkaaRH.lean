/- Regions that draw their order and hold one store: each operation shown once, from facts ahead of the store and behind it. -/
import Derived.Test.YtablphoicidlkaaRG
namespace Go.Proofs.Ytablphoicidlkaa
open Go.RowKit
variable {P : Program} {ops : Array Oper} {Q : Exit → Act → World → Prop}
/-- The steps of a region but for those of the list. -/
def RStepsX (P : Program) (Q : Exit → Act → World → Prop) (a0 : Act) (w0 : World) (ds : List Nat) (L : List RK) (ex : List Nat) : Nat → List Oper → Prop
  | _, [] => True
  | i, o :: r => (ex.contains i = false → RStep P Q a0 w0 ds L i o) ∧ RStepsX P Q a0 w0 ds L ex (i + 1) r
theorem rstepsx_at {a0 : Act} {w0 : World} {ds : List Nat} {L : List RK} {ex : List Nat} : ∀ {l : List Oper} {k i : Nat} {o : Oper}, RStepsX P Q a0 w0 ds L ex k l → l[i]? = some o → ex.contains (k + i) = false → RStep P Q a0 w0 ds L (k + i) o
  | [], _, _, _, _, h, _ => by simp at h
  | x :: r, k, 0, o, hs, h, he => by
    simp at h
    subst h
    exact hs.1 he
  | x :: r, k, i + 1, o, hs, h, he => by
    have := rstepsx_at (i := i) hs.2 (by simpa using h) (by rw [Nat.add_assoc, Nat.add_comm 1]; exact he)
    rw [Nat.add_assoc, Nat.add_comm 1] at this
    exact this
theorem wp_region_one {id : Nat} {a0 : Act} {w0 : World} (ds : List Nat) (s : Nat) (L0 L1 : List RK) (ex0 ex1 : List Nat) (hm : P.follows .mixedOrders = true) (hp : opsPlainS ops ds a0.tmps.size = true) (hn : ds.Nodup) (hl : ds.length = ops.size)
    (hs : ∀ i, stores ops i = true → i = s) (hss : stores ops s = true)
    (h0 : ∀ i o, ops[i]? = some o → ex0.contains i = true → i = s ∨ s ∈ depsOf o) (h1 : ∀ i os, ops[s]? = some os → i < ops.size → ex1.contains i = true → i = s ∨ i ∈ depsOf os)
    (hany : L1.getD s rAny = rAny)
    (step0 : RStepsX P Q a0 w0 ds L0 ex0 0 ops.toList) (step1 : RStepsX P Q a0 w0 ds L1 ex1 0 ops.toList)
    (stor : ∀ o a w, ops[s]? = some o → FrEq a0 ds a → Below w0.heap.size w0 w → (∀ j, j ∈ depsOf o → rkF L0 j (a.tmps.getD (ds.getD j 0) undef) w) →
      o.wp P a w (fun a' w' => a' = a ∧ Below w0.heap.size w0 w' ∧ ∀ (j d : Nat), ds[j]? = some d → rkF L0 j (a.tmps.getD d undef) w → rkF L1 j (a.tmps.getD d undef) w') Q)
    (fin : ∀ a w, FrEq a0 ds a → Below w0.heap.size w0 w → (∀ i d, ds[i]? = some d → rkF L1 i (a.tmps.getD d undef) w) → Q .normal a w) :
    (Code.region id ops true).wp P Q a0 w0 := by
  have hdl : ∀ (i : Nat) (o : Oper), ops[i]? = some o → ∀ j, j ∈ depsOf o → j < i := fun i o ho j hj => by
    have hi : i < ops.size := (Array.getElem?_eq_some_iff.1 ho).1
    have h1 := List.all_eq_true.1 hp i (by simpa using hi)
    rw [ho] at h1
    simp only [Bool.and_eq_true] at h1
    obtain ⟨ed, hed, rfl⟩ := List.mem_map.1 hj
    have := Array.all_eq_true_iff_forall_mem.1 h1.1.2 ed (by simpa using (List.mem_filter.1 hed).1)
    rw [(List.mem_filter.1 hed).2] at this
    simpa using this
  have hget : ∀ j, j < ops.size → ds[j]? = some (ds.getD j 0) := fun j hj => by
    rw [List.getD_eq_getElem?_getD, List.getElem?_eq_getElem (by omega)]; rfl
  have hos : ∃ os, ops[s]? = some os := ⟨_, Array.getElem?_eq_getElem (stores_lt hss)⟩
  obtain ⟨os, hos⟩ := hos
  refine wp_region_stores hm ds hp hn hl (fun D => rkF (bif D s then L1 else L0)) (fun D i v w w' hb h => RK.st _ v w w' hb h) (fun D D' i v w hDD h => by rw [← hDD s hss]; exact h) ?_ ?_ ?_
  · intro D i o a w ho hns hfr hb hDi hdeps hcl hf
    have hi : i < ops.size := (Array.getElem?_eq_some_iff.1 ho).1
    have his : i ≠ s := fun e => by
      subst e
      unfold stores at hss
      rw [ho] at hss
      exact hns (by simpa using hss)
    cases hD : D s
    · have he : ex0.contains i = false := by
        cases hc : ex0.contains i
        · rfl
        · rcases h0 i o ho hc with e | e
          · exact absurd e his
          · rw [hdeps s e] at hD; cases hD
      have h := rstepsx_at (i := i) (o := o) step0 (by simpa using ho) (by rw [Nat.zero_add]; exact he)
      rw [Nat.zero_add] at h
      rw [cond_false]
      refine h a w hfr hb fun j hj => ?_
      have := hf j _ (hdeps j hj) (hget j (by have := hdl i o ho j hj; omega))
      rw [hD, cond_false] at this
      exact this
    · have he : ex1.contains i = false := by
        cases hc : ex1.contains i
        · rfl
        · rcases h1 i os hos hi hc with e | e
          · exact absurd e his
          · rw [hcl s os hos hD i e] at hDi; cases hDi
      have h := rstepsx_at (i := i) (o := o) step1 (by simpa using ho) (by rw [Nat.zero_add]; exact he)
      rw [Nat.zero_add] at h
      rw [cond_true]
      refine h a w hfr hb fun j hj => ?_
      have := hf j _ (hdeps j hj) (hget j (by have := hdl i o ho j hj; omega))
      rw [hD, cond_true] at this
      exact this
  · intro D i o a w ho hns hfr hb hDi hdeps hcl hf
    have his : i = s := hs i (by unfold stores; rw [ho]; simp [hns])
    subst his
    have hadd : addD D i i = true := by unfold addD; rw [decide_eq_true rfl]; rfl
    refine Oper.wp_mono ?_ (stor o a w ho hfr hb fun j hj => ?_)
    · rintro a' w' ⟨rfl, hbw, hall⟩
      refine ⟨rfl, hbw, fun v => ?_, fun j d hj hd => ?_⟩
      · rw [hadd, cond_true]
        unfold rkF
        rw [hany]
        exact trivial
      · have := hf j d hj hd
        rw [hDi, cond_false] at this
        rw [hadd, cond_true]
        exact hall j d hd this
    · have := hf j _ (hdeps j hj) (hget j (by have := hdl i o ho j hj; have := (Array.getElem?_eq_some_iff.1 ho).1; omega))
      rw [hDi, cond_false] at this
      exact this
  · intro a w hfr hb hf
    refine fin a w hfr hb fun i d hd => ?_
    have := hf i d hd
    rw [cond_true] at this
    exact this
end Go.Proofs.Ytablphoicidlkaa
