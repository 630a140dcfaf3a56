/- Walks over the fits: the reference's corners. -/
import Derived.Test.YtcjhodlimpgegaaGreatHC
import Derived.Deep.Upon
import Derived.OwnWalk
namespace Go.Proofs.YtcjhodlimpgegaaGreat
open Go.RowKit Go.Maps

/-- 'append(xs, l...)' onto an own row of numbers. -/
theorem run_append_ints {w : World} {base : Nat} {v : Value} {n m c : Nat} {xs : List Value} {A : Option Addr} {l : List Int} (ty : TypeId) (hown : w.ownsRow base 3 1 v n xs) (hrow : IntsAt w A l) (hm : l.length = m) (hA : m = 0 → A = none ∨ ∃ a, A = some a) (hlen : n + m ≤ 1000000) (hbase : base ≤ w.heap.size) :
    ∃ v' w', (Builtin.append_ #[25, 25] ty #[v, .slice A m c]).run Tryz.prog w = .ok v' w' ∧ w'.ownsRow base 3 1 v' (n + m) (xs ++ l.map (Value.int .i64)) ∧ w.grownBy w' v.ownBlock ∧ (v'.ownBlock = v.ownBlock ∨ v'.ownBlock = some w.heap.size) := by
  obtain ⟨i, hi, hz0, hz1, hz2⟩ := info_parts infoI
  by_cases hm0 : m = 0
  · subst hm0
    have hl : l = [] := List.eq_nil_of_length_eq_zero hm
    subst hl
    have hs : Src Tryz.prog i.size 25 (.slice A 0 c) 0 [] w := by
      cases A with
      | none => exact Src.ofNil w Tryz.underlying25 c
      | some a => exact Src.ofSlice w Tryz.underlying25 a 0 c [] (by simp) (fun j u h => by simp at h) (fun u h => by cases h)
    obtain ⟨aa, nn, cc, rfl, hle⟩ : ∃ aa nn cc, v = .slice aa nn cc ∧ nn ≤ cc := by
      rcases hown.2 with ⟨rfl, -⟩ | ⟨g, cap, cur, rfl, -, -, hnc, -⟩
      · exact ⟨_, _, _, rfl, Nat.le_refl _⟩
      · exact ⟨_, _, _, rfl, hnc⟩
    exact ⟨_, _, run_append_nothing w 25 25 ty 3 i Tryz.underlying25 hi aa nn cc hle _ hs, by show w.ownsRow base _ 1 _ (n + 0) (xs ++ []); rw [List.append_nil]; exact hown, World.grownBy.refl _ _, .inl rfl⟩
  · obtain ⟨blk, off, rfl, -, hc⟩ := hrow (by intro h; rw [h] at hm; simp at hm; omega)
    obtain ⟨v', w', hr, h2, h3, -, h5⟩ := run_append_own_at (P := Tryz.prog) w base 25 ty 3 i _ 1 8 Tryz.underlying25 hi hz0 hz1 hz2 rfl (by decide) v n xs hown ⟨blk, off, none⟩ m c (l.map (Value.int .i64)) (by rw [List.length_map]; omega) (fun j u hu => by
      rw [List.getElem?_map] at hu
      have hj : j < l.length := by
        rcases Nat.lt_or_ge j l.length with h | h
        · exact h
        · rw [List.getElem?_eq_none h] at hu; cases hu
      rw [List.getElem?_eq_getElem hj] at hu
      simp only [Option.map_some, Option.some.injEq] at hu
      rw [← hu, ← hc j hj]
      unfold Addr.add
      by_cases hj0 : j = 0
      · rw [if_pos hj0, hj0]; rfl
      · rw [if_neg hj0]) (fun u hu => by
      obtain ⟨x, -, rfl⟩ := List.mem_map.1 hu
      rfl) (by unfold maxLen; omega) (by omega) hbase
    exact ⟨v', w', hr, h2, h3, h5⟩
theorem wpList_append_ints {w : World} {ops : Array Oper} {rest : List Oper} {o : Oper} {a : Act} {Q : Exit → Act → World → Prop} (hgd : o.guard = none) (s x : Operand)
    (ho : o.op = .call { callee := .builtin .append, args := #[s, x], argTypes := #[25, 25] })
    {base : Nat} {v : Value} {n m c : Nat} {xs : List Value} {A : Option Addr} {l : List Int} (hs : a.eval s = v) (hx : a.eval x = .slice A m c) (hown : w.ownsRow base 3 1 v n xs) (hrow : IntsAt w A l) (hm : l.length = m) (hlen : n + m ≤ 1000000) (hbase : base ≤ w.heap.size)
    (h : ∀ v' w', w'.ownsRow base 3 1 v' (n + m) (xs ++ l.map (Value.int .i64)) → w.grownBy w' v.ownBlock → (v'.ownBlock = v.ownBlock ∨ v'.ownBlock = some w.heap.size) → wpList Tryz.prog ops Q rest (a.put o.dst v') w') :
    wpList Tryz.prog ops Q (o :: rest) a w := by
  refine wpList_plain hgd fun K hK => ?_
  obtain ⟨v', w', hr, h2, h3, h5⟩ := run_append_ints (c := c) o.type hown hrow hm (fun _ => by cases A; exact .inl rfl; exact .inr ⟨_, rfl⟩) hlen hbase
  unfold Oper.wp execOp
  simp only [ho, resolve, invoke, builtin, Sem.run_bind, Sem.run_pure, Result.andThen_ok, List.map_toArray, List.map_cons, List.map_nil, hs, hx, hr]
  exact hK _ _ (h v' w' h2 h3 h5)
theorem own_empty (w : World) (t : TypeId) (sz : Nat) : (w.alloc (.cells #[] t)).ownsRow w.heap.size t sz (.slice (some ⟨w.heap.size, 0, none⟩) 0 0) 0 [] :=
  ⟨by simp, .inr ⟨_, 0, #[], rfl, Nat.le_refl _, by first | (unfold World.alloc; simp; done) | (simp [World.alloc_eq]; done) | (simp [go_sem]; done), Nat.le_refl _, Nat.zero_le _, by simp, by simp⟩⟩
set_option maxHeartbeats 1000000 in
theorem copyInts_any {M : Option Addr} {N c : Nat} {ms : List Int} (hm : ms.length = N) (hN : N ≤ 1000000) (w : World) (hM : IntsAt w M ms) :
    Calls Tryz.prog 103 #[.slice M N c] w fun e w' => ∃ v, e = .returned v ∧ w'.ownsRow w.heap.size 3 1 v N (ms.map (Value.int .i64)) ∧ Below w.heap.size w w' := by
  have HM := Lib.hid (hM.below ((Below.refl w.heap.size w).alloc (Nat.le_refl _) (.cells #[] 3)))
  clear hM
  go_enter Tryz.func103, Tryz.ntmps103
  go_wp2_with (at_builtin; refine wpList_append_ints rfl _ _ rfl rfl rfl (own_empty w 3 1) HM.out hm (by omega) (by simp) ?_; intro v4 w4 hown4 hgrow4 hloc4)
  go_ret
  refine ⟨_, rfl, by simpa using hown4, ((Below.refl w.heap.size w).alloc (Nat.le_refl _) _).grown hgrow4 (by simp) (fun j hj => ?_)⟩
  cases hj; exact Nat.le_refl _
set_option maxHeartbeats 1000000 in
theorem rvalue_any {nm : ByteArray} {A A' M : Option Addr} {n c n' c' c2 N : Nat} {le mo side : Int} {o i0 : List Md} {ms : List Int} (hs : side = -1 ∨ side = 1) (ho : ∀ x ∈ o, MdOk x) (hi' : ∀ x ∈ i0, MdOk x) (hn : n + n' ≤ 20) (hN : (gsOf (o ++ i0)).length = N) (hl : ms.length = N) (hms : ∀ t ∈ ms, 0 ≤ t ∧ t ≤ 400)
    (w : World) (hA : MdRow w A n o) (hA' : MdRow w A' n' i0) (hM : IntsAt w M ms) :
    Calls Tryz.prog 104 #[ftV nm A n c A' n' c' le mo, .slice M N c2, .int .i64 side] w fun e w' => e = .returned (.int .i64 (bif decide (side = 1) then vL i0 o (gsOf (o ++ i0)) ms else vL o i0 (gsOf (o ++ i0)) ms)) ∧ Below w.heap.size w w' := by
  have hB0 : Below w.heap.size w (w.alloc (.cells #[.string nm, .slice A n c, .slice A' n' c', .int .i64 le, .int .i64 mo] 24)) := (Below.refl _ _).alloc (Nat.le_refl _) _
  rcases hs with rfl | rfl
  · have R1 := Lib.hid (rleast_any (nm := nm) (c := c) (c' := c') (c2 := c2) (le := le) (mo := mo) ho hi' hn hN hl hms _ (hA.below hB0) (hA'.below hB0) (hM.below hB0))
    obtain ⟨v, hv⟩ : ∃ v, vL o i0 (gsOf (o ++ i0)) ms = v := ⟨_, rfl⟩
    rw [show (bif decide ((-1 : Int) = 1) then vL i0 o (gsOf (o ++ i0)) ms else vL o i0 (gsOf (o ++ i0)) ms) = vL o i0 (gsOf (o ++ i0)) ms from rfl]
    rw [hv] at R1 ⊢
    clear hv hA hA' hM ho hi' hms
    unfold ftV at R1 ⊢
    go_enter Tryz.func104, Tryz.ntmps104
    go_wp2_with (go_at_call 21; refine Calls.mono R1.out ?_; rintro e w1 ⟨rfl, hb1⟩)
    go_ret
    exact ⟨rfl, hB0.trans (hb1.mono (by simp))⟩
  · have R1 := Lib.hid (rgreatest_any (nm := nm) (c := c) (c' := c') (c2 := c2) (le := le) (mo := mo) ho hi' hn hN hl hms _ (hA.below hB0) (hA'.below hB0) (hM.below hB0))
    have bd : -400000000000000 ≤ vL i0 o (gsOf (o ++ i0)) ms ∧ vL i0 o (gsOf (o ++ i0)) ms ≤ 400000000000000 := by
      have ab := fun g => at_bd (gs := gsOf (o ++ i0)) (g := g) hms
      have h1 := sumL_bd (f := fun x => lowM x (atM (gsOf (o ++ i0)) ms x.g)) (B := 1000000000000) (l := i0) (fun x hx => low_bd (hi' x hx) (ab _).1 (ab _).2)
      have h2 := sumL_bd (f := fun x => hiM x (atM (gsOf (o ++ i0)) ms x.g)) (B := 1000000000000) (l := o) (fun x hx => hi_bd (ho x hx) (ab _).1 (ab _).2)
      have := hA.1; have := hA'.1
      unfold vL
      omega
    rw [show (bif decide ((1 : Int) = 1) then vL i0 o (gsOf (o ++ i0)) ms else vL o i0 (gsOf (o ++ i0)) ms) = vL i0 o (gsOf (o ++ i0)) ms from rfl]
    obtain ⟨v, hv⟩ : ∃ v, vL i0 o (gsOf (o ++ i0)) ms = v := ⟨_, rfl⟩
    rw [hv] at R1 bd ⊢
    have hw1 : wrap64 (-(-v)) = v := by rw [Int.neg_neg]; exact w64 (by omega)
    have hw2 : IntKind.i64.wrap (-(-v)) = v := by rw [Int.neg_neg, IntKind.wrap_i64]; omega
    have hw3 : wrap64 v = v := w64 (by omega)
    clear hv hA hA' hM ho hi' hms
    unfold ftV at R1 ⊢
    go_enter Tryz.func104, Tryz.ntmps104
    go_wp2_with (go_at_call 22; refine Calls.mono R1.out ?_; rintro e w1 ⟨rfl, hb1⟩)
    go_ret
    exact ⟨ret_int (by first | rfl | (simp; done) | (rw [Int.neg_neg])), hB0.trans (hb1.mono (by simp))⟩
end Go.Proofs.YtcjhodlimpgegaaGreat
