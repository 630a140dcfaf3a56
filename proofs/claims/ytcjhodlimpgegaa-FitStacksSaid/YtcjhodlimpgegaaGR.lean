/- Rows of pieces that are appended. -/
import Derived.Test.YtcjhodlimpgegaaGB
import Derived.Deep.Upon
namespace Go.Proofs.Ytcjhodlimpgegaa
open Go.RowKit Go.Maps

def mdF (x : Md) : Nat → Value
  | 0 => .int .i64 x.s
  | 1 => .int .i64 x.r
  | 2 => .int .i64 x.m
  | 3 => .int .i64 x.g
  | 4 => .int .i64 x.lo
  | _ => .int .i64 x.hi
def mdCells : List Md → List Value
  | [] => []
  | x :: l => [mdF x 0, mdF x 1, mdF x 2, mdF x 3, mdF x 4, mdF x 5] ++ mdCells l
theorem mdCells_len : ∀ l : List Md, (mdCells l).length = l.length * 6
  | [] => rfl
  | x :: l => by
    have := mdCells_len l
    show ([mdF x 0, mdF x 1, mdF x 2, mdF x 3, mdF x 4, mdF x 5] ++ mdCells l).length = (l.length + 1) * 6
    rw [List.length_append, this]
    simp only [List.length_cons, List.length_nil]
    omega
theorem mdCells_app : ∀ a b : List Md, mdCells (a ++ b) = mdCells a ++ mdCells b
  | [], b => rfl
  | x :: a, b => by
    show _ ++ mdCells (a ++ b) = (_ ++ mdCells a) ++ mdCells b
    rw [mdCells_app a b, List.append_assoc]
theorem mdCells_get : ∀ {l : List Md} {k j : Nat} (h : k < l.length), j < 6 → (mdCells l)[k * 6 + j]? = some (mdF l[k] j)
  | [], _, _, h, _ => by simp at h
  | x :: l, 0, j, h, hj => by
    rw [Nat.zero_mul, Nat.zero_add]
    show ([mdF x 0, mdF x 1, mdF x 2, mdF x 3, mdF x 4, mdF x 5] ++ mdCells l)[j]? = some (mdF x j)
    rw [List.getElem?_append_left (by simpa using hj)]
    match j, hj with
    | 0, _ => rfl
    | 1, _ => rfl
    | 2, _ => rfl
    | 3, _ => rfl
    | 4, _ => rfl
    | 5, _ => rfl
  | x :: l, k + 1, j, h, hj => by
    have hkl : k < l.length := by simpa using h
    show ([mdF x 0, mdF x 1, mdF x 2, mdF x 3, mdF x 4, mdF x 5] ++ mdCells l)[(k + 1) * 6 + j]? = some (mdF l[k] j)
    rw [List.getElem?_append_right (by simp; omega)]
    have := mdCells_get (l := l) (k := k) (j := j) hkl hj
    rw [← this]
    congr 1
    simp
    omega
theorem mdCells_one : ∀ {l : List Md} {u : Value}, u ∈ mdCells l → u.oneCell' = true
  | [], _, h => by cases h
  | x :: l, u, h => by
    rcases List.mem_append.1 (show u ∈ [mdF x 0, mdF x 1, mdF x 2, mdF x 3, mdF x 4, mdF x 5] ++ mdCells l from h) with h | h
    · simp only [List.mem_cons, List.not_mem_nil, or_false] at h
      rcases h with rfl | rfl | rfl | rfl | rfl | rfl <;> rfl
    · exact mdCells_one h
theorem mdAt_cell {w : World} {blk off : Nat} {x : Md} (h : MdAt w blk off x) {j : Nat} (hj : j < 6) : w.cell? ⟨blk, off + j, none⟩ = some (mdF x j) := by
  obtain ⟨h0, h1, h2, h3, h4, h5⟩ := h
  match j, hj with
  | 0, _ => exact h0
  | 1, _ => exact h1
  | 2, _ => exact h2
  | 3, _ => exact h3
  | 4, _ => exact h4
  | 5, _ => exact h5
theorem mdAt_ofCells {w : World} {blk off : Nat} {x : Md} (h : ∀ j, j < 6 → w.cell? ⟨blk, off + j, none⟩ = some (mdF x j)) : MdAt w blk off x :=
  ⟨h 0 (by omega), h 1 (by omega), h 2 (by omega), h 3 (by omega), h 4 (by omega), h 5 (by omega)⟩
/-- The cells of a row, as the appending reads them. -/
theorem mdRow_news {w : World} {blk off n : Nat} {l : List Md} (h : MdRow w (some ⟨blk, off, none⟩) n l) : ∀ j u, (mdCells l)[j]? = some u → w.cell? ((⟨blk, off, none⟩ : Addr).add j) = some u := by
  intro j u hu
  have hj : j < (mdCells l).length := by
    rcases Nat.lt_or_ge j (mdCells l).length with h | h
    · exact h
    · rw [List.getElem?_eq_none h] at hu; cases hu
  rw [mdCells_len] at hj
  have hk : j / 6 < l.length := by omega
  obtain ⟨b, o, e, hb, hx⟩ := h.2 (by have := h.1; omega)
  simp only [Option.some.injEq, Addr.mk.injEq, and_true] at e
  obtain ⟨rfl, rfl⟩ := e
  have h1 := mdAt_cell (hx (j / 6) hk) (j := j % 6) (by omega)
  have h2 := mdCells_get (l := l) hk (j := j % 6) (by omega)
  rw [show j / 6 * 6 + j % 6 = j by omega] at h2
  rw [h2] at hu
  rw [← hu, ← h1]
  unfold Addr.add
  by_cases hj0 : j = 0
  · rw [if_pos hj0]; subst hj0; rfl
  · rw [if_neg hj0, show off + j / 6 * 6 + j % 6 = off + j by omega]
theorem own_mades {w : World} {base n : Nat} {v : Value} {l : List Md} (h : w.ownsRow base 44 6 v n (mdCells l)) : ∃ A c, v = .slice A n c ∧ n ≤ c ∧ MdRow w A n l := by
  have hl : l.length = n := by have := h.1; rw [mdCells_len] at this; omega
  obtain ⟨-, ⟨rfl, h0⟩ | ⟨g, cap, cur, rfl, hb, hh, hnc, hcm, hcs, htk⟩⟩ := h
  · exact ⟨none, 0, by rw [h0], by omega, hl, fun hp => absurd hp (by omega)⟩
  · refine ⟨some ⟨g, 0, none⟩, cap, rfl, hnc, hl, fun hp => ⟨g, 0, rfl, (Array.getElem?_eq_some_iff.1 hh).1, fun k hk => mdAt_ofCells fun j hj => ?_⟩⟩
    have h1 : w.cell? ⟨g, 0 + k * 6 + j, none⟩ = cur[k * 6 + j]? := by
      rw [Nat.zero_add]
      simp [World.cell?, hh]
    rw [h1, ← Array.getElem?_toList, ← List.getElem?_take_of_lt (i := k * 6 + j) (j := n * 6) (by omega), htk, mdCells_get hk hj]
theorem infoM : (Try.prog.info? 44).map (fun i => (i.zero, i.size, i.bytes)) = some (some (.agg #[.int .i64 0, .int .i64 0, .int .i64 0, .int .i64 0, .int .i64 0, .int .i64 0]), 6, 48) := by kernel_rfl
/-- 'append(xs, l...)' onto an own row of pieces. -/
theorem run_append_mades {w : World} {base : Nat} {v : Value} {n m c : Nat} {xs : List Value} {A : Option Addr} {l : List Md} (ty : TypeId) (hown : w.ownsRow base 44 6 v n xs) (hrow : MdRow w A m l) (hlen : n + m ≤ 1000000) (hbase : base ≤ w.heap.size) :
    ∃ v' w', (Builtin.append_ #[35, 35] ty #[v, .slice A m c]).run Try.prog w = .ok v' w' ∧ w'.ownsRow base 44 6 v' (n + m) (xs ++ mdCells l) ∧ w.grownBy w' v.ownBlock ∧ (v'.ownBlock = v.ownBlock ∨ v'.ownBlock = some w.heap.size) := by
  obtain ⟨i, hi, hz0, hz1, hz2⟩ := info_parts infoM
  by_cases hm : m = 0
  · subst hm
    have hl : l = [] := List.eq_nil_of_length_eq_zero hrow.1
    subst hl
    have hs : Src Try.prog i.size 35 (.slice A 0 c) 0 [] w := by
      cases A with
      | none => exact Src.ofNil w Try.underlying35 c
      | some a => exact Src.ofSlice w Try.underlying35 a 0 c [] (by simp) (fun j u h => by simp at h) (fun u h => by cases h)
    obtain ⟨aa, nn, cc, rfl, hle⟩ : ∃ aa nn cc, v = .slice aa nn cc ∧ nn ≤ cc := by
      rcases hown.2 with ⟨rfl, -⟩ | ⟨g, cap, cur, rfl, -, -, hnc, -⟩
      · exact ⟨_, _, _, rfl, Nat.le_refl _⟩
      · exact ⟨_, _, _, rfl, hnc⟩
    exact ⟨_, _, run_append_nothing w 35 35 ty 44 i Try.underlying35 hi aa nn cc hle _ hs, by show w.ownsRow base _ 6 _ (n + 0) (xs ++ []); rw [List.append_nil]; exact hown, World.grownBy.refl _ _, .inl rfl⟩
  · obtain ⟨blk, off, rfl, -, -⟩ := hrow.2 (by omega)
    obtain ⟨v', w', hr, h2, h3, -, h5⟩ := run_append_own_at (P := Try.prog) w base 35 ty 44 i _ 6 48 Try.underlying35 hi hz0 hz1 hz2 rfl (by decide) v n xs hown ⟨blk, off, none⟩ m c (mdCells l) (by rw [mdCells_len, hrow.1]) (mdRow_news hrow) (fun u hu => mdCells_one hu) (by unfold maxLen; omega) (by omega) hbase
    exact ⟨v', w', hr, h2, h3, h5⟩
theorem wpList_append_mades {w : World} {ops : Array Oper} {rest : List Oper} {o : Oper} {a : Act} {Q : Exit → Act → World → Prop} (hgd : o.guard = none) (s x : Operand)
    (ho : o.op = .call { callee := .builtin .append, args := #[s, x], argTypes := #[35, 35] })
    {base : Nat} {v : Value} {n m c : Nat} {xs : List Value} {A : Option Addr} {l : List Md} (hs : a.eval s = v) (hx : a.eval x = .slice A m c) (hown : w.ownsRow base 44 6 v n xs) (hrow : MdRow w A m l) (hlen : n + m ≤ 1000000) (hbase : base ≤ w.heap.size)
    (h : ∀ v' w', w'.ownsRow base 44 6 v' (n + m) (xs ++ mdCells l) → w.grownBy w' v.ownBlock → (v'.ownBlock = v.ownBlock ∨ v'.ownBlock = some w.heap.size) → wpList Try.prog ops Q rest (a.put o.dst v') w') :
    wpList Try.prog ops Q (o :: rest) a w := by
  refine wpList_plain hgd fun K hK => ?_
  obtain ⟨v', w', hr, h2, h3, h5⟩ := run_append_mades (c := c) o.type hown hrow hlen hbase
  unfold Oper.wp execOp
  simp only [ho, resolve, invoke, builtin, Sem.run_bind, Sem.run_pure, Result.andThen_ok, List.map_toArray, List.map_cons, List.map_nil, hs, hx, hr]
  exact hK _ _ (h v' w' h2 h3 h5)
theorem own_empty6 (w : World) (t : TypeId) (sz : Nat) : (w.alloc (.cells #[] t)).ownsRow w.heap.size t sz (.slice (some ⟨w.heap.size, 0, none⟩) 0 0) 0 [] :=
  ⟨by simp, .inr ⟨_, 0, #[], rfl, Nat.le_refl _, by first | (unfold World.alloc; simp; done) | (simp [World.alloc_eq]; done) | (simp [go_sem]; done), Nat.le_refl _, Nat.zero_le _, by simp, by simp⟩⟩
end Go.Proofs.Ytcjhodlimpgegaa
