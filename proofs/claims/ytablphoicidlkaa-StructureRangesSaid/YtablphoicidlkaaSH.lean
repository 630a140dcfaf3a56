/- Walks over beams: rows of numbers that are appended to. -/
import Derived.Deep.Upon
import Derived.OwnWalk
import Derived.Laws.OwnMore
import Derived.Lib.SmallJoins
import Derived.Test.YtablphoicidlkaaSG
namespace Go.Proofs.Ytablphoicidlkaa
open Go.RowKit

theorem infoI : (Try.prog.info? 3).map (fun i => (i.zero, i.size, i.bytes)) = some (some (.int .i64 0), 1, 8) := by kernel_rfl
theorem own_ints {w : World} {base n : Nat} {v : Value} {l : List Int} (h : w.ownsRow base 3 1 v n (l.map (Value.int .i64))) : ∃ A c, v = .slice A n c ∧ IntRow w A n l := by
  have hl : l.length = n := by have := h.1; rw [List.length_map] at this; omega
  obtain ⟨-, ⟨rfl, h0⟩ | ⟨g, cap, cur, rfl, hb, hh, hnc, hcm, hcs, htk⟩⟩ := h
  · exact ⟨none, 0, by rw [h0], hl, fun hp => absurd hp (by omega)⟩
  · refine ⟨some ⟨g, 0, none⟩, cap, rfl, hl, fun hp => ⟨g, 0, rfl, (Array.getElem?_eq_some_iff.1 hh).1, fun k hk => ?_⟩⟩
    show w.cell? ⟨g, 0 + k * 1, none⟩ = _
    rw [Nat.zero_add, Nat.mul_one]
    have h1 : w.cell? ⟨g, k, none⟩ = cur[k]? := by simp [World.cell?, hh]
    rw [h1, ← Array.getElem?_toList, ← List.getElem?_take_of_lt (i := k) (j := n * 1) (by omega), htk]
    simp [hk]
/-- 'append(xs, l...)' onto an own row of numbers. -/
theorem run_append_ints {w : World} {base : Nat} {v : Value} {n m c : Nat} {xs : List Value} {A : Option Addr} {l : List Int} (ty : TypeId) (hown : w.ownsRow base 3 1 v n xs) (hrow : IntRow w A m l) (hlen : n + m ≤ 1000000) (hbase : base ≤ w.heap.size) :
    ∃ v' w', (Builtin.append_ #[111, 111] ty #[v, .slice A m c]).run Try.prog w = .ok v' w' ∧ w'.ownsRow base 3 1 v' (n + m) (xs ++ l.map (Value.int .i64)) ∧ w.grownBy w' v.ownBlock ∧ (v'.ownBlock = v.ownBlock ∨ v'.ownBlock = some w.heap.size) := by
  obtain ⟨i, hi, hz0, hz1, hz2⟩ := info_parts infoI
  have hm := hrow.1
  by_cases hm0 : m = 0
  · subst hm0
    have hl : l = [] := List.eq_nil_of_length_eq_zero hm
    subst hl
    have hs : Src Try.prog i.size 111 (.slice A 0 c) 0 [] w := by
      cases A with
      | none => exact Src.ofNil w Try.underlying111 c
      | some a => exact Src.ofSlice w Try.underlying111 a 0 c [] (by simp) (fun j u h => by simp at h) (fun u h => by cases h)
    obtain ⟨aa, nn, cc, rfl, hle⟩ : ∃ aa nn cc, v = .slice aa nn cc ∧ nn ≤ cc := by
      rcases hown.2 with ⟨rfl, -⟩ | ⟨g, cap, cur, rfl, -, -, hnc, -⟩
      · exact ⟨_, _, _, rfl, Nat.le_refl _⟩
      · exact ⟨_, _, _, rfl, hnc⟩
    exact ⟨_, _, run_append_nothing w 111 111 ty 3 i Try.underlying111 hi aa nn cc hle _ hs, by show w.ownsRow base _ 1 _ (n + 0) (xs ++ []); rw [List.append_nil]; exact hown, World.grownBy.refl _ _, .inl rfl⟩
  · obtain ⟨blk, off, rfl, -, hc⟩ := hrow.2 (by omega)
    obtain ⟨v', w', hr, h2, h3, -, h5⟩ := run_append_own_at (P := Try.prog) w base 111 ty 3 i _ 1 8 Try.underlying111 hi hz0 hz1 hz2 rfl (by decide) v n xs hown ⟨blk, off, none⟩ m c (l.map (Value.int .i64)) (by rw [List.length_map]; omega) (fun j u hu => by
      rw [List.getElem?_map] at hu
      have hj : j < l.length := by
        rcases Nat.lt_or_ge j l.length with h | h
        · exact h
        · rw [List.getElem?_eq_none h] at hu; cases hu
      rw [List.getElem?_eq_getElem hj] at hu
      simp only [Option.map_some, Option.some.injEq] at hu
      have hcj : w.cell? ⟨blk, off + j * 1, none⟩ = some (.int .i64 l[j]) := hc j hj
      rw [← hu, ← hcj, Nat.mul_one]
      unfold Addr.add
      by_cases hj0 : j = 0
      · rw [if_pos hj0, hj0]; rfl
      · rw [if_neg hj0]) (fun u hu => by
      obtain ⟨x, -, rfl⟩ := List.mem_map.1 hu
      rfl) (by unfold maxLen; omega) (by omega) hbase
    exact ⟨v', w', hr, h2, h3, h5⟩
theorem wpList_append_ints {w : World} {ops : Array Oper} {rest : List Oper} {o : Oper} {a : Act} {Q : Exit → Act → World → Prop} (hgd : o.guard = none) (s x : Operand)
    (ho : o.op = .call { callee := .builtin .append, args := #[s, x], argTypes := #[111, 111] })
    {base : Nat} {v : Value} {n m c : Nat} {xs : List Value} {A : Option Addr} {l : List Int} (hs : a.eval s = v) (hx : a.eval x = .slice A m c) (hown : w.ownsRow base 3 1 v n xs) (hrow : IntRow w A m l) (hlen : n + m ≤ 1000000) (hbase : base ≤ w.heap.size)
    (h : ∀ v' w', w'.ownsRow base 3 1 v' (n + m) (xs ++ l.map (Value.int .i64)) → w.grownBy w' v.ownBlock → (v'.ownBlock = v.ownBlock ∨ v'.ownBlock = some w.heap.size) → wpList Try.prog ops Q rest (a.put o.dst v') w') :
    wpList Try.prog ops Q (o :: rest) a w := by
  refine wpList_plain hgd fun K hK => ?_
  obtain ⟨v', w', hr, h2, h3, h5⟩ := run_append_ints (c := c) o.type hown hrow hlen hbase
  unfold Oper.wp execOp
  simp only [ho, resolve, invoke, builtin, Sem.run_bind, Sem.run_pure, Result.andThen_ok, List.map_toArray, List.map_cons, List.map_nil, hs, hx, hr]
  exact hK _ _ (h v' w' h2 h3 h5)
theorem below_own {B : Nat} {a w w' : World} {v : Value} {n : Nat} {xs : List Value} (hb : Below B a w) (hB : B ≤ w.heap.size) (hown : w.ownsRow B 3 1 v n xs) (hg : w.grownBy w' v.ownBlock) : Below B a w' :=
  hb.grown hg hB (fun j hj => (hown.lt j hj).1)

/-- A world in which the terms of a moment lie. -/
def MtOut (b : Bm) (l : List Pt) (S x : Int) (w : World) (e : Ending) (w' : World) : Prop := ∃ (A : Option Addr) (m c : Nat) (zs : List Int), e = .returned (.slice A m c) ∧ IntRow w' A m zs ∧ m ≤ 1000 ∧ sumL id zs = mom b l S x ∧ Below w.heap.size w w'
theorem mom_bds {b : Bm} {l : List Pt} {S x : Int} (hb : BmOk b) (hl : WtOk b.s l S) (x0 : 0 ≤ x) (x1 : x ≤ b.s) : (frR b l S * x).natAbs ≤ 2000000000000000 ∧ (S * x * x).natAbs ≤ 2000000000000000 ∧ (mom b l S x).natAbs ≤ 10000000000000000 := by
  obtain ⟨h1, h2, h3⟩ := fr_take_bd hb hl l.length
  rw [List.take_length] at h1 h2 h3
  have hs := hb.s0; have hs1 := hb.s1
  have E1 : Ev b.s b.s 2000 := .of (by omega)
  have E2 : Ev x x 2000 := .of (by omega)
  have E3 : Ev S S 20000 := .of (by have := hl.S0; have := hl.S1; omega)
  have E4 : Ev (frR b l S) (frR b l S) 1000000000000 := .of h1
  have b1 := ev_bd (M := 2000000000000000) (Ev.mul E4 E2) (by decide +kernel)
  have b2 := ev_bd (M := 2000000000000000) (Ev.mul (Ev.mul E3 E2) E2) (by decide +kernel)
  have b3 := ev_bd (M := 2000000000000000) (Ev.mul (Ev.mul (Ev.neg E3) E2) E2) (by decide +kernel)
  have b4 := sumL_bd8 (f := cutM b x) (B := 100000000000) hl.len (fun p hp => by
    have hp' := hl.pt p hp
    have E5 : Ev p.n p.n 2000 := .of (by have := hp'.n0; have := hp'.n1; omega)
    have E6 : Ev p.a p.a 2000 := .of (by have := hp'.a0; have := hp'.a1; omega)
    unfold cutM
    cases decide (p.a ≤ x)
    · show (0 : Int).natAbs ≤ _; decide
    · exact ev_bd (Ev.mul (Ev.mul (Ev.mul (Ev.lit (-2)) E1) E5) (Ev.sub E2 E6)) (by decide +kernel))
  refine ⟨b1, b2, ?_⟩
  unfold mom
  omega
end Go.Proofs.Ytablphoicidlkaa
