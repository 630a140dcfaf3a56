/- Rows of points that grow, burdens that are copied. -/
import Derived.Test.YtablphoicidlkaaCF
import Derived.Test.YtablphoicidlkaaBG
namespace Go.Proofs.Ytablphoicidlkaa
open Go.RowKit

theorem wpList_append_pts {w : World} {ops : Array Oper} {rest : List Oper} {o : Oper} {a : Act} {Q : Exit → Act → World → Prop} (hgd : o.guard = none) (s x : Operand)
    (ho : o.op = .call { callee := .builtin .append, args := #[s, x], argTypes := #[24, 24] })
    {base : Nat} {v : Value} {n m c : Nat} {xs : List Value} {A : Option Addr} {l : List Pt} (hs : a.eval s = v) (hx : a.eval x = .slice A m c) (hown : w.ownsRow base 90 2 v n xs) (hrow : PtRow w A m l) (hlen : n + m ≤ 1000000) (hbase : base ≤ w.heap.size)
    (h : ∀ v' w', w'.ownsRow base 90 2 v' (n + m) (xs ++ flatP l) → w.grownBy w' v.ownBlock → (v'.ownBlock = v.ownBlock ∨ v'.ownBlock = some w.heap.size) → wpList Try.prog ops Q rest (a.put o.dst v') w') :
    wpList Try.prog ops Q (o :: rest) a w := by
  refine wpList_plain hgd fun K hK => ?_
  obtain ⟨v', w', hr, h2, h3, h5⟩ := run_append_pts (c := c) o.type hown hrow hlen hbase
  unfold Oper.wp execOp
  simp only [ho, resolve, invoke, builtin, Sem.run_bind, Sem.run_pure, Result.andThen_ok, List.map_toArray, List.map_cons, List.map_nil, hs, hx, hr]
  exact hK _ _ (h v' w' h2 h3 h5)
theorem below_ownP {B : Nat} {a w w' : World} {v : Value} {n : Nat} {xs : List Value} (hb : Below B a w) (hB : B ≤ w.heap.size) (hown : w.ownsRow B 90 2 v n xs) (hg : w.grownBy w' v.ownBlock) : Below B a w' :=
  hb.grown hg hB (fun j hj => (hown.lt j hj).1)
theorem set_belowP {w : World} {base : Nat} {v : Value} {n : Nat} {xs : List Value} (h : w.ownsRow base 90 2 v n xs) {a : Addr} (ha : a.block < base) (u : Value) : (w.setCell a u).ownsRow base 90 2 v n xs := by
  refine ⟨h.1, ?_⟩
  rcases h.2 with h0 | ⟨g, cap, cur, e, hb, hh, hr⟩
  · exact .inl h0
  · refine .inr ⟨g, cap, cur, e, hb, ?_, hr⟩
    have hne : a.block ≠ g := by omega
    simp only [World.setCell, Array.getElem?_modify]
    rw [if_neg hne]
    exact hh
theorem flatP_append (a b : List Pt) : flatP (a ++ b) = flatP a ++ flatP b := by
  induction a with
  | nil => rfl
  | cons p r ih => show _ :: _ :: flatP (r ++ b) = _; rw [ih]; rfl
theorem ptrow_newq (w : World) (p : Pt) (t : TypeId) : PtRow (w.alloc (.cells #[.int .i64 p.a, .int .i64 p.n] t)) (some ⟨w.heap.size, 0, none⟩) 1 [p] := by
  refine ⟨rfl, fun _ => ⟨w.heap.size, 0, rfl, by simp, fun k hk => ?_⟩⟩
  have hk0 : k = 0 := by simp at hk; omega
  subst hk0
  exact ⟨by simp [go_sem], by simp [go_sem]⟩
theorem rstep_copied {Q : Exit → Act → World → Prop} {L : List RK} {i : Nat} {o : Oper} {a : Act} {w : World} {A : Option Addr} {n c : Nat} {S : Int} {l : List Pt} (hn : n ≤ 1000000) (hrow : PtRow w A n l) (hr : (execOp a.eval o).run Try.prog w = .ok (.enter 22 #[buV A n c S]) w) (hL : L.getD i rAny = rBur 0 l n S) :
    o.wp Try.prog a w (fun a' w' => ∃ v, a' = a.put o.dst v ∧ Below w.heap.size w w' ∧ rkF L i v w') Q := by
  unfold Oper.wp
  rw [hr]
  refine (copied_any hn w hrow).mono fun e w' ⟨A', c', he, hp, hb⟩ => ?_
  subst he
  exact ⟨_, rfl, hb, by unfold rkF; rw [hL]; exact ⟨A', c', rfl, hp, fun _ _ _ => Nat.zero_le _⟩⟩
def rPtr0 (B : Nat) : RK := ⟨fun v w => ∃ blk, v = .pointer (some ⟨blk, 0, none⟩) ∧ B ≤ blk ∧ blk < w.heap.size ∧ w.cell? ⟨blk, 0, none⟩ = some (.int .i64 0) ∧ w.cell? ⟨blk, 1, none⟩ = some (.int .i64 0) ∧ w.frozen? ⟨blk, 0, none⟩ = false ∧ w.frozen? ⟨blk, 1, none⟩ = false, fun _ _ _ hb ⟨blk, e, h0, h1, h2, h3, h4, h5⟩ => ⟨blk, e, h0, Nat.lt_of_lt_of_le h1 hb.size, ((bcell hb).1 _ _ h1).trans h2, ((bcell hb).1 _ _ h1).trans h3, ((bcell hb).2 _ _ h1).trans h4, ((bcell hb).2 _ _ h1).trans h5⟩⟩
theorem rstep_alloc {P : Program} {Q : Exit → Act → World → Prop} {L : List RK} {i : Nat} {o : Oper} {a : Act} {w : World} {B : Nat} (hB : B ≤ w.heap.size) (hr : (execOp a.eval o).run P w = .ok (.value (.pointer (some ⟨w.heap.size, 0, none⟩))) (w.alloc (.cells #[.int .i64 0, .int .i64 0] 30))) (hL : L.getD i rAny = rPtr0 B) :
    o.wp P a w (fun a' w' => ∃ v, a' = a.put o.dst v ∧ Below w.heap.size w w' ∧ rkF L i v w') Q := by
  unfold Oper.wp
  rw [hr]
  exact ⟨_, rfl, (Below.refl _ _).alloc (Nat.le_refl _) _, by unfold rkF; rw [hL]; exact ⟨_, rfl, hB, by simp, by simp [go_sem], by simp [go_sem], by simp [go_sem], by simp [go_sem]⟩⟩
end Go.Proofs.Ytablphoicidlkaa
