/- Walks over the timber seat: the sort, over a row of the call's own. -/
import Derived.Test.YtnjbhidncicfiaaE1
namespace Go.Proofs.Ytnjbhidncicfiaa
open Go.Shelf Go.RowKit Go.Lib Go.Sort

theorem ivCells_length (xs : List Iv) : (ivCells xs).length = xs.length * 2 := by
  unfold ivCells
  induction xs with
  | nil => rfl
  | cons x r ih => rw [List.flatMap_cons, List.length_append, ih]; simp [encIv]; omega
theorem ivCells_get : ∀ (xs : List Iv) (j : Nat), j < xs.length * 2 → (ivCells xs)[j]? = some ((encIv (xs[j / 2]!))[j % 2]!)
  | [], j, h => absurd h (by simp)
  | x :: r, 0, _ => rfl
  | x :: r, 1, _ => rfl
  | x :: r, j + 2, h => by
    have ih := ivCells_get r j (by simp at h; omega)
    rw [show ivCells (x :: r) = encIv x ++ ivCells r from rfl]
    rw [List.getElem?_append_right (by simp [encIv]), show j + 2 - (encIv x).length = j by simp [encIv], ih]
    rw [show (j + 2) / 2 = j / 2 + 1 by omega, show (j + 2) % 2 = j % 2 by omega]
    rfl
theorem flat_get (d : Array Iv) (t : Nat) (h : t < d.size * 2) : (ivCells d.toList)[t]? = some ((flatK encIv 2 d)[t]!) := by
  rw [get_flatK encIv 2 d t h, ivCells_get d.toList t (by simpa using h)]
  congr 2
  have h2 : t / 2 < d.size := by omega
  rw [getElem!_pos d (t / 2) h2, getElem!_pos d.toList (t / 2) (by simpa using h2)]
  simp
set_option maxHeartbeats 1000000 in
theorem sort_own {base n : Nat} {v : Value} {xs : List Iv} (w : World) (hown : w.ownsRow base 50 2 v n (ivCells xs)) (hn : n = xs.length) (hpos : 0 < n) (hle : n ≤ 1000) :
    Calls Try.prog 130 #[v, .func (.func 131) #[] #[]] w fun e w' => e = .returned (.tuple #[]) ∧ ∃ ys : List Iv, ys.Perm xs ∧ ys.Pairwise (fun a b => a.1 ≤ b.1) ∧ w'.ownsRow base 50 2 v n (ivCells ys) ∧ w.grownBy w' v.ownBlock := by
  obtain ⟨hl, ⟨-, h0⟩ | ⟨g, cap, cur, rfl, hb, hh, hnc, hcm, hcs, htk⟩⟩ := hown
  · omega
  have hg : g < w.heap.size := (Array.getElem?_eq_some_iff.1 hh).1
  have hsz : xs.toArray.size = n := by simp [hn]
  have hget : ∀ t, t < n * 2 → cur[t]? = some ((flatK encIv 2 xs.toArray)[t]!) := fun t ht => by
    have h1 := flat_get xs.toArray t (by rw [hsz]; exact ht)
    rw [← h1, show xs.toArray.toList = xs by simp, ← htk, List.getElem?_take_of_lt ht]
    simp
  have hH : HoldsK encIv 2 w g 0 xs.toArray := fun j hj => by
    rw [size_flatK, hsz] at hj
    refine ⟨?_, ?_⟩
    · rw [Nat.zero_add]
      have := hget j hj
      unfold World.cell?
      simp only [hh]
      exact this
    · unfold World.frozen?
      simp [hh]
  have S := sortIv_any g cap xs.toArray w hH hg (by rw [hsz]; omega)
  rw [hsz] at S
  refine S.mono fun e w' ⟨he, d', m, os, hp, hs, hw⟩ => ⟨he, d'.toList, ?_, ?_, ?_, ?_⟩
  · have := perm_of (d := xs.toArray) (d' := d') (by rw [hsz]; exact hp)
    simpa using this
  · exact sorted_of (hp.1.trans hsz).symm hs
  · have hds : d'.size = n := hp.1.trans hsz
    have hW : w'.heap[g]? = some (.cells (putCells id 0 (flatK encIv 2 d') cur) 50 (0, 0)) := by
      subst hw
      show (w.heap.modify g (onCells (putCells id 0 (flatK encIv 2 d'))) ++ os)[g]? = _
      rw [Array.getElem?_append_left (by simpa using hg), Array.getElem?_modify, if_pos rfl, hh]
      rfl
    refine ⟨by rw [ivCells_length]; simp [hds], .inr ⟨g, cap, _, rfl, hb, hW, hnc, hcm, by simp [putCells, hcs], ?_⟩⟩
    apply List.ext_getElem?
    intro t
    by_cases ht : t < n * 2
    · rw [List.getElem?_take_of_lt ht, flat_get d' t (by omega)]
      have h1 := hget t ht
      have h2 : t < (flatK encIv 2 d').size := by rw [size_flatK]; omega
      simp [putCells, h1]
      intro h3
      omega
    · rw [List.getElem?_eq_none (by simp; omega), List.getElem?_eq_none (by rw [ivCells_length]; simp; omega)]
  · subst hw
    refine ⟨rfl, rfl, rfl, by simp [sortWorldK, putRowK, putRow, mapBlock, grow, Sort.ahead], fun i hi hne => ?_⟩
    have hig : i ≠ g := fun e => hne (by rw [e]; rfl)
    show (w.heap.modify g (onCells (putCells id 0 (flatK encIv 2 d'))) ++ os)[i]? = _
    rw [Array.getElem?_append_left (by simpa using hi), Array.getElem?_modify, if_neg (Ne.symm hig)]
end Go.Proofs.Ytnjbhidncicfiaa
