/- A large frame, told at once. -/
import Derived.Test.YtablphoicidlkaaRF
namespace Go.Proofs.Ytablphoicidlkaa
open Go.RowKit
def AllAt (t : Array Value) : Nat → List Value → Prop
  | _, [] => True
  | i, x :: r => t.getD i undef = x ∧ AllAt t (i + 1) r
theorem allAt_get {t : Array Value} : ∀ {xs : List Value} {i : Nat}, AllAt t i xs → ∀ k (h : k < xs.length), t.getD (i + k) undef = xs[k]
  | x :: r, i, h, 0, _ => h.1
  | x :: r, i, h, k + 1, hk => by
    have := allAt_get (xs := r) (i := i + 1) h.2 k (by simpa using hk)
    rw [show i + 1 + k = i + (k + 1) by omega] at this
    simpa using this
theorem frame_is {a : Act} {xs : List Value} (hd : a.defers = []) (hs : a.tmps.size = xs.length) (h : AllAt a.tmps 0 xs) : a = ⟨⟨xs⟩, []⟩ := by
  obtain ⟨t, d⟩ := a
  simp only at hd hs h
  subst hd
  congr 1
  refine Array.ext (by simpa using hs) fun i h1 h2 => ?_
  have := allAt_get h i (by simpa using h2)
  rw [Nat.zero_add] at this
  rw [Array.getD_eq_getD_getElem?, Array.getElem?_eq_getElem h1] at this
  simpa using this
end Go.Proofs.Ytablphoicidlkaa
