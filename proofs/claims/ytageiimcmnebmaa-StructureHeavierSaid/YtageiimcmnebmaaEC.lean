/- A row of points is cloned. -/
import Derived.Test.YtageiimcmnebmaaEB
namespace Go.Proofs.Ytageiimcmnebmaa
open Go.RowKit

theorem run_clone_pts {w : World} {g m c : Nat} {A : Option Addr} {l : List Pt} (ty : TypeId) (hrow : PtRow w A m l) (hlen : m ≤ 1000000) :
    ∃ A' c' w', (Builtin.append_ #[24, 24] ty #[.slice (some ⟨g, 0, none⟩) 0 0, .slice A m c]).run Try.prog w = .ok (.slice A' m c') w' ∧ PtRow w' A' m l ∧ (0 < m → A' = some ⟨w.heap.size, 0, none⟩ ∧ ∀ j, w'.frozen? ⟨w.heap.size, j, none⟩ = false) ∧ Below w.heap.size w w' := by
  obtain ⟨i, hi, hz0, hz1, hz2⟩ := info_parts infoP
  have hm := hrow.1
  by_cases hm0 : m = 0
  · subst hm0
    have hl : l = [] := List.eq_nil_of_length_eq_zero hm
    subst hl
    have hs : Src Try.prog i.size 24 (.slice A 0 c) 0 [] w := by
      cases A with
      | none => exact Src.ofNil w Try.underlying24 c
      | some a => exact Src.ofSlice w Try.underlying24 a 0 c [] (by simp) (fun j u h => by simp at h) (fun u h => by cases h)
    exact ⟨_, _, _, run_append_nothing w 24 24 ty 90 i Try.underlying24 hi _ 0 0 (Nat.le_refl _) _ hs, ⟨rfl, fun h => absurd h (by omega)⟩, fun h => absurd h (by omega), Below.refl _ _⟩
  · obtain ⟨blk, off, rfl, -, hc⟩ := hrow.2 (by omega)
    have hr := run_append_grow (P := Try.prog) (w := w) 24 ty 90 i _ Try.underlying24 hi hz0 ⟨g, 0, none⟩ 0 0 [] (by simp) (fun j v h => by simp at h) ⟨blk, off, none⟩ m c (flatP l) (by rw [flatP_len, hz1]; omega) (flatP_cells hc) (by omega) (by omega) (by rw [Nat.zero_add, nextslicecap_zero (by omega), hz2]; omega)
    rw [Nat.zero_add] at hr
    refine ⟨_, _, _, hr, ⟨hm, fun _ => ⟨_, 0, rfl, by simp, fun k hk => ?_⟩⟩, fun _ => ⟨rfl, fun j => by simp [go_sem]⟩, (Below.drew (Below.refl _ _)).alloc (by simp) _⟩
    obtain ⟨f1, f2⟩ := flatP_at l k hk
    have hfl := flatP_len l
    have hz : ∀ j, j < l.length * 2 → (w.drew.alloc (.cells ([].toArray ++ (flatP l).toArray ++ Builtin.zeroCells (Value.agg #[.int .i64 0, .int .i64 0]).cells (grownCap w m 0 90 - m)) 90)).cell? ⟨w.heap.size, j, none⟩ = (flatP l)[j]? := fun j hj => by
      have := World.cell?_alloc_new w.drew (([].toArray ++ (flatP l).toArray ++ Builtin.zeroCells (Value.agg #[.int .i64 0, .int .i64 0]).cells (grownCap w m 0 90 - m))) 90 j
      have hsz : w.drew.heap.size = w.heap.size := by simp
      rw [hsz] at this
      rw [this]
      rw [Array.getElem?_append_left (by simp; omega)]
      simp
    rw [Nat.zero_add]
    exact ⟨(hz _ (by omega)).trans f1, (hz _ (by omega)).trans f2⟩
theorem wpList_clone_pts {w : World} {ops : Array Oper} {rest : List Oper} {o : Oper} {a : Act} {Q : Exit → Act → World → Prop} (hgd : o.guard = none) (s x : Operand)
    (ho : o.op = .call { callee := .builtin .append, args := #[s, x], argTypes := #[24, 24] })
    {g n c : Nat} {A : Option Addr} {l : List Pt} (hs : a.eval s = .slice (some ⟨g, 0, none⟩) 0 0) (hx : a.eval x = .slice A n c) (hrow : PtRow w A n l) (hlen : n ≤ 1000000)
    (h : ∀ A' c' w', PtRow w' A' n l → (0 < n → A' = some ⟨w.heap.size, 0, none⟩ ∧ ∀ j, w'.frozen? ⟨w.heap.size, j, none⟩ = false) → Below w.heap.size w w' → wpList Try.prog ops Q rest (a.put o.dst (.slice A' n c')) w') :
    wpList Try.prog ops Q (o :: rest) a w := by
  refine wpList_plain hgd fun K hK => ?_
  obtain ⟨A', c', w', hr, h2, h3, h5⟩ := run_clone_pts (c := c) (g := g) o.type hrow hlen
  unfold Oper.wp execOp
  simp only [ho, resolve, invoke, builtin, Sem.run_bind, Sem.run_pure, Result.andThen_ok, List.map_toArray, List.map_cons, List.map_nil, hs, hx, hr]
  exact hK _ _ (h A' c' w' h2 h3 h5)
/-- 'append(xs, p)' onto an own row of points. -/
theorem wpList_append_pts {w : World} {ops : Array Oper} {rest : List Oper} {o : Oper} {a : Act} {Q : Exit → Act → World → Prop} (hgd : o.guard = none) (s x : Operand)
    (ho : o.op = .call { callee := .builtin .append, args := #[s, x], argTypes := #[24, 24] })
    {base : Nat} {v : Value} {n m c : Nat} {xs : List Value} {A : Option Addr} {l : List Pt} (hs : a.eval s = v) (hx : a.eval x = .slice A m c) (hown : w.ownsRow base 90 2 v n xs) (hrow : PtRow w A m l) (hlen : n + m ≤ 1000000) (hbase : base ≤ w.heap.size)
    (h : ∀ v' w', w'.ownsRow base 90 2 v' (n + m) (xs ++ flatP l) → w.grownBy w' v.ownBlock → (v'.ownBlock = v.ownBlock ∨ v'.ownBlock = some w.heap.size) → wpList Try.prog ops Q rest (a.put o.dst v') w') :
    wpList Try.prog ops Q (o :: rest) a w := by
  refine wpList_plain hgd fun K hK => ?_
  obtain ⟨v', w', hr, h2, h3, h5⟩ := run_append_pts (c := c) o.type hown hrow hlen hbase
  unfold Oper.wp execOp
  simp only [ho, resolve, invoke, builtin, Sem.run_bind, Sem.run_pure, Result.andThen_ok, List.map_toArray, List.map_cons, List.map_nil, hs, hx, hr]
  exact hK _ _ (h v' w' h2 h3 h5)
theorem below_ownP {B : Nat} {a w w' : World} {v : Value} {n : Nat} {xs : List Value} (hb : Below B a w) (hB : B ≤ w.heap.size) (hown : w.ownsRow B 90 2 v n xs) (hg : w.grownBy w' v.ownBlock) : Below B a w' :=
  hb.grown hg hB (fun j hj => (hown.lt j hj).1)
/-- The row's block is one of the world's blocks from B on, and not frozen. -/
def Own (B : Nat) (w : World) (A : Option Addr) : Prop := ∃ g, A = some ⟨g, 0, none⟩ ∧ B ≤ g ∧ ∀ j, w.frozen? ⟨g, j, none⟩ = false
set_option maxHeartbeats 1000000 in
set_option maxRecDepth 20000 in
theorem clone_any {A : Option Addr} {n c : Nat} {l : List Pt} (hn : n ≤ 1000000) (w : World) (h : PtRow w A n l) :
    Calls Try.prog 110 #[.slice A n c] w fun e w' => ∃ A' c', e = .returned (.slice A' n c') ∧ PtRow w' A' n l ∧ (0 < n → Own w.heap.size w' A') ∧ Below w.heap.size w w' := by
  cases A with
  | none =>
    have hz : n = 0 := by
      rcases Nat.eq_zero_or_pos n with h0 | h0
      · exact h0
      · obtain ⟨_, _, e, -⟩ := h.2 h0; cases e
    subst hz
    have hr := h.1
    clear h
    have he : ∀ w : World, (binOp .eql 24 (.slice none 0 c) (.slice none 0 0)).run Try.prog w = .ok (.bool true) w := fun _ => rfl
    go_enter Try.func110, Try.ntmps110
    go_wp2
    go_ret
    exact ⟨none, 0, rfl, ⟨hr, fun h => absurd h (by omega)⟩, fun h => absurd h (by omega), Below.refl _ _⟩
  | some a =>
    have HR := Lib.hid (h.below ((Below.refl w.heap.size w).alloc (Nat.le_refl _) (.cells #[] 90)))
    have he : ∀ w : World, (binOp .eql 24 (.slice (some a) n c) (.slice none 0 0)).run Try.prog w = .ok (.bool false) w := fun _ => rfl
    clear h
    go_enter Try.func110, Try.ntmps110
    go_wp2_with (at_builtin; refine wpList_clone_pts rfl _ _ rfl rfl rfl HR.out hn ?_; intro A' c' w' hp ho hb; have HP := Lib.hid hp; have HO := Lib.hid ho; have HB := Lib.hid (((Below.refl w.heap.size w).alloc (Nat.le_refl _) (.cells #[] 90)).trans (hb.mono (by simp))); clear hp ho hb)
    go_ret
    exact ⟨_, _, rfl, HP.out, fun h => ⟨_, (HO.out h).1, by simp, (HO.out h).2⟩, HB.out⟩
end Go.Proofs.Ytageiimcmnebmaa
