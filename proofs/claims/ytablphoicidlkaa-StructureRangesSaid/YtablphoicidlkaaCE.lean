/- Rows of points that are appended to. -/
import Derived.Test.YtablphoicidlkaaCD
namespace Go.Proofs.Ytablphoicidlkaa
open Go.RowKit

def flatP : List Pt → List Value
  | [] => []
  | p :: r => .int .i64 p.a :: .int .i64 p.n :: flatP r
theorem flatP_len : ∀ l : List Pt, (flatP l).length = l.length * 2
  | [] => rfl
  | p :: r => by show (flatP r).length + 1 + 1 = _; rw [flatP_len r, List.length_cons]; omega
theorem flatP_at : ∀ (l : List Pt) (k : Nat) (h : k < l.length), (flatP l)[k * 2]? = some (.int .i64 l[k].a) ∧ (flatP l)[k * 2 + 1]? = some (.int .i64 l[k].n)
  | p :: r, 0, _ => ⟨rfl, rfl⟩
  | p :: r, k + 1, h => by
    have ih := flatP_at r k (by simpa using h)
    rw [show (k + 1) * 2 = k * 2 + 1 + 1 by omega]
    exact ih
theorem infoP : (Try.prog.info? 90).map (fun i => (i.zero, i.size, i.bytes)) = some (some (.agg #[.int .i64 0, .int .i64 0]), 2, 16) := by kernel_rfl
theorem own_pts {w : World} {base n : Nat} {v : Value} {l : List Pt} (h : w.ownsRow base 90 2 v n (flatP l)) : ∃ A c, v = .slice A n c ∧ PtRow w A n l := by
  have hl : l.length = n := by have := h.1; rw [flatP_len] at this; omega
  obtain ⟨-, ⟨rfl, h0⟩ | ⟨g, cap, cur, rfl, hb, hh, hnc, hcm, hcs, htk⟩⟩ := h
  · exact ⟨none, 0, by rw [h0], hl, fun hp => absurd hp (by omega)⟩
  · have hc : ∀ j, j < n * 2 → w.cell? ⟨g, j, none⟩ = (flatP l)[j]? := fun j hj => by
      have h1 : w.cell? ⟨g, j, none⟩ = cur[j]? := by simp [World.cell?, hh]
      rw [h1, ← Array.getElem?_toList, ← List.getElem?_take_of_lt (i := j) (j := n * 2) hj, htk]
    refine ⟨some ⟨g, 0, none⟩, cap, rfl, hl, fun hp => ⟨g, 0, rfl, (Array.getElem?_eq_some_iff.1 hh).1, fun k hk => ?_⟩⟩
    obtain ⟨f1, f2⟩ := flatP_at l k hk
    rw [Nat.zero_add]
    exact ⟨(hc _ (by omega)).trans f1, (hc _ (by omega)).trans f2⟩
/-- 'append(xs, l...)' onto an own row of points. -/
theorem run_append_pts {w : World} {base : Nat} {v : Value} {n m c : Nat} {xs : List Value} {A : Option Addr} {l : List Pt} (ty : TypeId) (hown : w.ownsRow base 90 2 v n xs) (hrow : PtRow w A m l) (hlen : n + m ≤ 1000000) (hbase : base ≤ w.heap.size) :
    ∃ v' w', (Builtin.append_ #[24, 24] ty #[v, .slice A m c]).run Try.prog w = .ok v' w' ∧ w'.ownsRow base 90 2 v' (n + m) (xs ++ flatP l) ∧ w.grownBy w' v.ownBlock ∧ (v'.ownBlock = v.ownBlock ∨ v'.ownBlock = some w.heap.size) := by
  obtain ⟨i, hi, hz0, hz1, hz2⟩ := info_parts infoP
  have hm := hrow.1
  by_cases hm0 : m = 0
  · subst hm0
    have hl : l = [] := List.eq_nil_of_length_eq_zero hm
    subst hl
    have hs : Src Try.prog i.size 24 (.slice A 0 c) 0 [] w := by
      cases A with
      | none => exact Src.ofNil w Try.underlying24 c
      | some a => exact Src.ofSlice w Try.underlying24 a 0 c [] (by simp) (fun j u h => by simp at h) (fun u h => by cases h)
    obtain ⟨aa, nn, cc, rfl, hle⟩ : ∃ aa nn cc, v = .slice aa nn cc ∧ nn ≤ cc := by
      rcases hown.2 with ⟨rfl, -⟩ | ⟨g, cap, cur, rfl, -, -, hnc, -⟩
      · exact ⟨_, _, _, rfl, Nat.le_refl _⟩
      · exact ⟨_, _, _, rfl, hnc⟩
    exact ⟨_, _, run_append_nothing w 24 24 ty 90 i Try.underlying24 hi aa nn cc hle _ hs, by show w.ownsRow base _ 2 _ (n + 0) (xs ++ []); rw [List.append_nil]; exact hown, World.grownBy.refl _ _, .inl rfl⟩
  · obtain ⟨blk, off, rfl, -, hc⟩ := hrow.2 (by omega)
    obtain ⟨v', w', hr, h2, h3, -, h5⟩ := run_append_own_at (P := Try.prog) w base 24 ty 90 i _ 2 16 Try.underlying24 hi hz0 hz1 hz2 rfl (by decide) v n xs hown ⟨blk, off, none⟩ m c (flatP l) (by rw [flatP_len]; omega) (fun j u hu => by
      have hj : j < l.length * 2 := by
        rcases Nat.lt_or_ge j (l.length * 2) with h | h
        · exact h
        · rw [List.getElem?_eq_none (by rw [flatP_len]; exact h)] at hu; cases hu
      have hjk : j / 2 < l.length := by omega
      obtain ⟨f1, f2⟩ := flatP_at l (j / 2) hjk
      obtain ⟨g1, g2⟩ := hc (j / 2) hjk
      have ha : (⟨blk, off, none⟩ : Addr).add j = ⟨blk, off + j, none⟩ := by
        unfold Addr.add
        by_cases hj0 : j = 0
        · rw [if_pos hj0, hj0]; rfl
        · rw [if_neg hj0]
      rw [ha]
      rcases Nat.mod_two_eq_zero_or_one j with e | e
      · have e2 : j / 2 * 2 = j := by omega
        rw [e2] at f1 g1
        rw [f1] at hu
        cases hu
        exact g1
      · have e2 : j / 2 * 2 + 1 = j := by omega
        rw [e2] at f2
        rw [Nat.add_assoc, e2] at g2
        rw [f2] at hu
        cases hu
        exact g2) (fun u hu => by
      have : ∀ l : List Pt, ∀ u ∈ flatP l, u.oneCell' = true := by
        intro l
        induction l with
        | nil => intro u h; cases h
        | cons p r ih =>
          intro u h
          rcases List.mem_cons.1 h with rfl | h
          · rfl
          · rcases List.mem_cons.1 h with rfl | h
            · rfl
            · exact ih u h
      exact this l u hu) (by unfold maxLen; omega) (by omega) hbase
    exact ⟨v', w', hr, h2, h3, h5⟩
theorem flatP_one : ∀ l : List Pt, ∀ u ∈ flatP l, u.oneCell' = true := by
  intro l
  induction l with
  | nil => intro u h; cases h
  | cons p r ih =>
    intro u h
    rcases List.mem_cons.1 h with rfl | h
    · rfl
    · rcases List.mem_cons.1 h with rfl | h
      · rfl
      · exact ih u h
theorem flatP_cells {w : World} {blk off : Nat} {l : List Pt} (hc : ∀ k (h : k < l.length), PtAt w blk (off + k * 2) l[k]) : ∀ j u, (flatP l)[j]? = some u → w.cell? ((⟨blk, off, none⟩ : Addr).add j) = some u := fun j u hu => by
  have hj : j < l.length * 2 := by
    rcases Nat.lt_or_ge j (l.length * 2) with h | h
    · exact h
    · rw [List.getElem?_eq_none (by rw [flatP_len]; exact h)] at hu; cases hu
  have hjk : j / 2 < l.length := by omega
  obtain ⟨f1, f2⟩ := flatP_at l (j / 2) hjk
  obtain ⟨g1, g2⟩ := hc (j / 2) hjk
  have ha : (⟨blk, off, none⟩ : Addr).add j = ⟨blk, off + j, none⟩ := by
    unfold Addr.add
    by_cases hj0 : j = 0
    · rw [if_pos hj0, hj0]; rfl
    · rw [if_neg hj0]
  rw [ha]
  rcases Nat.mod_two_eq_zero_or_one j with e | e
  · have e2 : j / 2 * 2 = j := by omega
    rw [e2] at f1 g1
    rw [f1] at hu
    cases hu
    exact g1
  · have e2 : j / 2 * 2 + 1 = j := by omega
    rw [e2] at f2
    rw [Nat.add_assoc, e2] at g2
    rw [f2] at hu
    cases hu
    exact g2
/-- 'append([][2]int{}, l...)': a copy. -/
theorem run_copy_pts {w : World} {g m c : Nat} {A : Option Addr} {l : List Pt} (ty : TypeId) (hrow : PtRow w A m l) (hlen : m ≤ 1000000) :
    ∃ A' c' w', (Builtin.append_ #[24, 24] ty #[.slice (some ⟨g, 0, none⟩) 0 0, .slice A m c]).run Try.prog w = .ok (.slice A' m c') w' ∧ PtRow w' A' m l ∧ (0 < m → ∀ a, A' = some a → w.heap.size ≤ a.block) ∧ Below w.heap.size w w' := by
  obtain ⟨i, hi, hz0, hz1, hz2⟩ := info_parts infoP
  have hm := hrow.1
  by_cases hm0 : m = 0
  · subst hm0
    have hl : l = [] := List.eq_nil_of_length_eq_zero hm
    subst hl
    have hs : Src Try.prog i.size 24 (.slice A 0 c) 0 [] w := by
      cases A with
      | none => exact Src.ofNil w Try.underlying24 c
      | some a => exact Src.ofSlice w Try.underlying24 a 0 c [] (by simp) (fun j u h => by simp at h) (fun u h => by cases h)
    exact ⟨_, _, _, run_append_nothing w 24 24 ty 90 i Try.underlying24 hi _ 0 0 (Nat.le_refl _) _ hs, ⟨rfl, fun h => absurd h (by omega)⟩, fun h => absurd h (by omega), Below.refl _ _⟩
  · obtain ⟨blk, off, rfl, -, hc⟩ := hrow.2 (by omega)
    have hr := run_append_grow (P := Try.prog) (w := w) 24 ty 90 i _ Try.underlying24 hi hz0 ⟨g, 0, none⟩ 0 0 [] (by simp) (fun j v h => by simp at h) ⟨blk, off, none⟩ m c (flatP l) (by rw [flatP_len, hz1]; omega) (flatP_cells hc) (by omega) (by omega) (by rw [Nat.zero_add, nextslicecap_zero (by omega), hz2]; omega)
    rw [Nat.zero_add] at hr
    refine ⟨_, _, _, hr, ⟨hm, fun _ => ⟨_, 0, rfl, by simp, fun k hk => ?_⟩⟩, fun _ a ha => by cases ha; exact Nat.le_refl _, (Below.drew (Below.refl _ _)).alloc (by simp) _⟩
    obtain ⟨f1, f2⟩ := flatP_at l k hk
    have hfl := flatP_len l
    have hz : ∀ j, j < l.length * 2 → (w.drew.alloc (.cells ([].toArray ++ (flatP l).toArray ++ Builtin.zeroCells (Value.agg #[.int .i64 0, .int .i64 0]).cells (grownCap w m 0 90 - m)) 90)).cell? ⟨w.heap.size, j, none⟩ = (flatP l)[j]? := fun j hj => by
      have := World.cell?_alloc_new w.drew (([].toArray ++ (flatP l).toArray ++ Builtin.zeroCells (Value.agg #[.int .i64 0, .int .i64 0]).cells (grownCap w m 0 90 - m))) 90 j
      have hsz : w.drew.heap.size = w.heap.size := by simp
      rw [hsz] at this
      rw [this]
      rw [Array.getElem?_append_left (by simp; omega)]
      simp
    rw [Nat.zero_add]
    exact ⟨(hz _ (by omega)).trans f1, (hz _ (by omega)).trans f2⟩
end Go.Proofs.Ytablphoicidlkaa
