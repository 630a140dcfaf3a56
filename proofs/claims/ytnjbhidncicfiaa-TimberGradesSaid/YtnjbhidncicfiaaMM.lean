/- The maps of names, as ghosts. -/
import Derived.Test.YtnjbhidncicfiaaMS
import Derived.Maps.OwnSet
import Derived.Maps.OwnOps
import Derived.Maps.Views
namespace Go.Proofs.Ytnjbhidncicfiaa
open Go.RowKit

def keyL (s : ByteArray) : Lit := .string s.data.toList
theorem keyL_inj {s t : ByteArray} (h : keyL s = keyL t) : s = t := by
  unfold keyL at h
  injection h with h
  cases s; cases t
  simp at h
  subst h
  rfl
theorem keyL_ne {s t : ByteArray} (h : s ≠ t) : keyL s ≠ keyL t := fun e => h (keyL_inj e)
theorem keyL_isKey (s : ByteArray) : WideAt.IsKeyLit (keyL s) := by unfold keyL; simp [WideAt.IsKeyLit]
/-- The map D has the first k names with their numbers. -/
structure NamesOf (D : DataW Unit) (l : List Sp) (k : Nat) : Prop where
  isMap : Maps.IsMap D
  has : ∀ s, Maps.has D (keyL s) = !decide (findFrom 0 s (l.take k) = -1)
  at_ : ∀ s, findFrom 0 s (l.take k) ≠ -1 → D.atKey (keyL s) (.lit (.int .i64 0)) = .lit (.int .i64 (findFrom 0 s (l.take k)))
theorem namesOf_zero (l : List Sp) : NamesOf (.map []) l 0 := ⟨Maps.isMap_empty, fun s => by simp [Maps.has, findFrom], fun s h => by simp [findFrom] at h⟩
theorem NamesOf.succ {D : DataW Unit} {l : List Sp} {k : Nat} (h : NamesOf D l k) (hk : k < l.length) (hn : findFrom 0 l[k].nm (l.take k) = -1) : NamesOf (D.put (keyL l[k].nm) (.lit (.int .i64 k))) l (k + 1) := by
  refine ⟨h.isMap.put _ _, fun s => ?_, fun s hs => ?_⟩
  · rw [find_take hk]
    by_cases e : l[k].nm = s
    · subst e
      rw [Maps.has_put_same h.isMap (keyL_isKey _), if_pos hn]
      simp
    · rw [Maps.has_put_other (keyL_ne (Ne.symm e)), h.has s]
      simp only [e, decide_false, cond_false]
      by_cases e2 : findFrom 0 s (l.take k) = -1
      · rw [if_pos e2, e2]
      · rw [if_neg e2]
  · rw [find_take hk] at hs ⊢
    by_cases e : l[k].nm = s
    · subst e
      rw [Maps.atKey_put_same h.isMap (keyL_isKey _), if_pos hn]
      simp
    · rw [Maps.atKey_put_other (keyL_ne (Ne.symm e))]
      simp only [e, decide_false, cond_false] at hs ⊢
      by_cases e2 : findFrom 0 s (l.take k) = -1
      · rw [if_pos e2] at hs; exact absurd rfl hs
      · rw [if_neg e2]; exact h.at_ s e2
/-- The set D has these names. -/
structure SeenOf (D : DataW Unit) (ns : List ByteArray) : Prop where
  isMap : Maps.IsMap D
  at_ : ∀ s, D.atKey (keyL s) (.lit (.bool false)) = .lit (.bool (ns.any fun n => decide (n = s)))
theorem seenOf_nil : SeenOf (.map []) [] := ⟨Maps.isMap_empty, fun s => by simp [DataW.atKey]⟩
theorem SeenOf.snoc {D : DataW Unit} {ns : List ByteArray} (h : SeenOf D ns) (n : ByteArray) : SeenOf (D.put (keyL n) (.lit (.bool true))) (ns ++ [n]) := by
  refine ⟨h.isMap.put _ _, fun s => ?_⟩
  by_cases e : s = n
  · subst e
    rw [Maps.atKey_put_same h.isMap (keyL_isKey _)]
    simp
  · rw [Maps.atKey_put_other (keyL_ne e), h.at_ s]
    simp [Ne.symm e]
theorem plainElem_bool_inv {H : Type} {P : Program} {e : TypeId} (he : P.underlying e = some .bool) {v : Value} {z : DataW H × List MemPlace} (h : plainElem P e v = some z) : ∃ x, v = .bool x ∧ z = (.lit (.bool x), []) := by
  unfold plainElem at h
  rw [he] at h
  cases v <;> simp at h
  exact ⟨_, rfl, h.symm⟩
open Go.Maps (Keyed) in
/-- 'm[k]' at elements that are bools. -/
theorem lookup_own_bool {H : Type} {P : Program} (w : World) {ops : Array Oper} {rest : List Oper} {o : Oper} {a : Act} {Q : Exit → Act → World → Prop}
    (hg : o.guard = none) (m x : Operand) (t : TypeId) (hop : o.op = Op.lookup t m x false)
    (k e : TypeId) (K : Keyed P k) (ht : P.underlying t = some (.map k e)) (he : P.underlying e = some .bool) (hz : (zeroValue e).run P w = .ok (.bool false) w) (b n : Nat) (D : DataW H)
    (hm : a.eval m = .map (some b)) (hown : w.ownsMap P k (plainElem P e) b n D) (key : Value) (kl : Lit) (hx : a.eval x = key) (hkey : keyOf P k key = some kl)
    (hK : ∀ c : Bool, D.atKey kl (.lit (.bool false)) = .lit (.bool c) → wpList P ops Q rest (a.put o.dst (.bool c)) w) :
    wpList P ops Q (o :: rest) a w := by
  refine wpList_plain hg fun K' hK' => ?_
  obtain ⟨v, ps, hrun, hv⟩ := hown.lookup K ht hz (plainElem_bool he false) hkey
  obtain ⟨c, rfl, hc⟩ := plainElem_bool_inv he hv
  simp only [Prod.mk.injEq] at hc
  unfold Oper.wp
  simp [execOp, hop, hm, hx, hrun, Result.andThen]
  exact hK' _ _ (hK c hc.1)
end Go.Proofs.Ytnjbhidncicfiaa
