/- Walks over the timber seat: openings. -/
import Derived.Test.YtnjbhidncicfiaaE3
import Derived.Shelf.SlSortCmp.NoneTotal
import Derived.Handy
namespace Go.Proofs.Ytnjbhidncicfiaa
open Go.Shelf Go.RowKit Go.Lib Go.Sort

theorem own_form {w : World} {base n : Nat} {v : Value} {xs : List Iv} (h : w.ownsRow base 50 2 v n (ivCells xs)) (hn : 0 < n) : ∃ g cap, v = .slice (some ⟨g, 0, none⟩) n cap ∧ g < w.heap.size ∧ n ≤ cap ∧ cap ≤ maxLen := by
  obtain ⟨hl, ⟨-, h0⟩ | ⟨g, cap, cur, rfl, hb, hh, hnc, hcm, hcs, htk⟩⟩ := h
  · omega
  · exact ⟨g, cap, rfl, (Array.getElem?_eq_some_iff.1 hh).1, hnc, hcm⟩
theorem own_lt {w : World} {base n : Nat} {v : Value} {xs : List Value} (h : w.ownsRow base 50 2 v n xs) : ∀ j, v.ownBlock = some j → j < w.heap.size := by
  intro j hj
  rcases h.2 with ⟨rfl, -⟩ | ⟨g, cap, cur, rfl, hb, hh, -⟩
  · cases hj
  · simp [Value.ownBlock] at hj; subst hj; exact (Array.getElem?_eq_some_iff.1 hh).1
/-- The sort, an empty slice too. -/
theorem sort_any {base n : Nat} {v : Value} {xs : List Iv} (w : World) (hown : w.ownsRow base 50 2 v n (ivCells xs)) (hn : n = xs.length) (hle : n ≤ 1000) :
    Calls Try.prog 130 #[v, .func (.func 131) #[] #[]] w fun e w' => e = .returned (.tuple #[]) ∧ ∃ ys : List Iv, ys.Perm xs ∧ ys.Pairwise (fun a b => a.1 ≤ b.1) ∧ w'.ownsRow base 50 2 v n (ivCells ys) ∧ w.grownBy w' v.ownBlock := by
  by_cases h0 : n = 0
  · have hx : xs = [] := List.eq_nil_of_length_eq_zero (by omega)
    have hform : ∃ p cap, v = .slice p 0 cap := by
      rcases hown.2 with ⟨rfl, -⟩ | ⟨g, cap, cur, rfl, -⟩
      · exact ⟨_, _, rfl⟩
      · subst h0; exact ⟨_, _, rfl⟩
    obtain ⟨p, cap, rfl⟩ := hform
    refine (AnyF.slices_SortFunc_none Try.sortIv p cap (.func (.func 131) #[] #[]) w).mono fun e w' ⟨he, hw⟩ => ⟨he, [], ?_, List.Pairwise.nil, ?_, ?_⟩
    · rw [hx]
    · rw [hw, ← hx]; exact hown
    · rw [hw]; exact World.grownBy.refl w _
  · exact sort_own w hown hn (by omega) hle
set_option maxHeartbeats 4000000 in
set_option maxRecDepth 20000 in
theorem openings_any {base n : Nat} {v : Value} {xs : List Iv} {en : Int} (w : World) (hown : w.ownsRow base 50 2 v n (ivCells xs)) (hn : n = xs.length) (hle : n ≤ 60) (hbase : base ≤ w.heap.size) :
    Calls Try.prog 119 #[v, .int .i64 en] w fun e w' => ∃ (r : Value) (m : Nat) (ys : List Iv), e = .returned r ∧ ys.Perm xs ∧ ys.Pairwise (fun a b => a.1 ≤ b.1) ∧ m = (opn 0 (ys ++ [(en, en)])).length ∧ w'.ownsRow base 50 2 r m (ivCells (opn 0 (ys ++ [(en, en)]))) ∧ w.grownBy w' v.ownBlock := by
  have S := Lib.hid (sort_any w hown hn (by omega))
  obtain ⟨i0, hi, hz0, hz1, hz2⟩ := info_parts info50
  have HN := Lib.hid hn
  clear hown hn
  go_enter Try.func119, Try.ntmps119
  go_wp2_with (first | (go_at_call 130; (refine Calls.mono S.out ?_); rintro e w1 ⟨rfl, ys, hp, hs, hown1, hg1⟩; have hb1 : base ≤ w1.heap.size := Nat.le_trans hbase hg1.size) | (at_builtin; refine wpList_append_own_at _ rfl _ _ 84 rfl base 50 i0 (.agg #[.int .i64 0, .int .i64 0]) 2 16 Try.underlying84 hi hz0 hz1 hz2 rfl (by decide) _ _ _ rfl (hown1.alloc _) ⟨w1.heap.size, 0, none⟩ 1 1 [.int .i64 en, .int .i64 en] rfl rfl (cell_two_new _ _ _ _ rfl) (two_oneCell _ _) (by unfold maxLen; omega) (by omega) (by simp; omega) ?_; intro v' w2 hown2 hgrow2 hnil2 hloc2; rw [← ivCells_snoc ys (en, en)] at hown2; obtain ⟨g2, cap2, rfl, hg2, hnc2, hcm2⟩ := own_form hown2 (by omega)))
  have hlen : (ys ++ [(en, en)]).length = n + 1 := by rw [List.length_append, hp.length_eq, ← HN.out]; rfl
  obtain ⟨ts, hts⟩ : ∃ ts, ys ++ [(en, en)] = ts := ⟨_, rfl⟩
  rw [hts] at hown2 hlen
  have HG : Hid (w.grownBy w2 v.ownBlock) := Lib.hid (by
    have a1 := hg1
    refine ⟨hgrow2.os.trans a1.os, hgrow2.tape.trans a1.tape, hgrow2.output.trans a1.output, Nat.le_trans a1.size (Nat.le_trans (by simp) hgrow2.size), fun i hi hne => ?_⟩
    rw [hgrow2.block i (by simp; have := a1.size; omega) hne, Below.heap_alloc w1 _ i (by have := a1.size; omega)]
    exact a1.block i hi hne)
  have HOWN := Lib.hid hown2
  have HP := Lib.hid hp
  have HS := Lib.hid hs
  have HTS := Lib.hid hts
  have hb2 : base ≤ w2.heap.size := Nat.le_trans hb1 (Nat.le_trans (by simp) hgrow2.size)
  clear hown1 hown2 hp hs hts hgrow2 hnil2 hloc2 hg1 hb1 S
  go_loopw [5, 6, 18] (fun ov fr i wr => ∃ k : Nat, k ≤ n + 1 ∧ i = .int .i64 k ∧ fr = .int .i64 (opSt (ts.take k) ([], 0)).2 ∧ wr.ownsRow w2.heap.size 50 2 ov (opSt (ts.take k) ([], 0)).1.length (ivCells (opSt (ts.take k) ([], 0)).1) ∧ Below w2.heap.size w2 wr) (fun _ _ i _ => n + 1 - (intOf i).toNat)
  case atStart => exact ⟨0, Nat.zero_le _, rfl, rfl, ⟨rfl, .inl ⟨rfl, rfl⟩⟩, Below.refl _ _⟩
  case round =>
    obtain ⟨k, hk, rfl, rfl, hov, hbw⟩ := hrel
    have HB := Lib.hid hbw
    by_cases hlt : k < n + 1
    · have hkl : k < ts.length := by omega
      have hstep := Lib.hid (opSt_take ([], 0) hkl)
      have hlenk := opSt_len (ts.take k) ([], 0)
      obtain ⟨g3, cap3, e3, -, hg3, hn3, hc3, c0, c1, -⟩ := own_cell HOWN.out hlen.symm hkl
      injection e3 with e31 e32 e33
      injection e31 with e31
      injection e31 with e31
      subst e31 e33
      rw [Nat.zero_add] at c0 c1
      have d0 := (hbw.cell (p := ⟨g2, k * 2, none⟩) hg2).trans c0
      have d1 := (hbw.cell (p := ⟨g2, k * 2 + 1, none⟩) hg2).trans c1
      obtain ⟨t, ht⟩ : ∃ t, ts[k] = t := ⟨_, rfl⟩
      rw [ht] at d0 d1 hstep
      obtain ⟨t1, t2⟩ := t
      simp only at d0 d1 hstep
      obtain ⟨st, hst⟩ : ∃ st, opSt (ts.take k) ([], 0) = st := ⟨_, rfl⟩
      rw [hst] at hov hstep hlenk ⊢
      obtain ⟨op, fr⟩ := st
      simp only at hov hstep hlenk ⊢
      have hop : op.length ≤ 61 := by rw [List.length_take] at hlenk; simp at hlenk; omega
      have hwr := hbw.size
      have hbr : g2 < wr.heap.size := by omega
      clear c0 c1 ht hst hbw hlenk
      by_cases hf : fr < t1
      · have hstep2 : Hid (opSt (ts.take (k + 1)) ([], 0) = (op ++ [(fr, t1)], max fr t2)) := Lib.hid (by rw [hstep.out, if_pos hf])
        go_wp2_with (at_builtin; refine wpList_append_own_at _ rfl _ _ 84 rfl w2.heap.size 50 i0 (.agg #[.int .i64 0, .int .i64 0]) 2 16 Try.underlying84 hi hz0 hz1 hz2 rfl (by decide) _ _ _ rfl ((hov.alloc _).alloc _) ⟨wr.heap.size + 1, 0, none⟩ 1 1 [.int .i64 fr, .int .i64 t1] rfl rfl (cell_two_new _ _ _ _ (by simp)) (two_oneCell _ _) (by unfold maxLen; omega) (by omega) (by simp; omega) ?_; intro v3 w3 hown3 hgrow3 hnil3 hloc3; have m1 : w3.cell? ⟨wr.heap.size, 1, none⟩ = some (.int .i64 t2) := hgrow3.cell (by simp [go_sem]) (by intro e; have := own_lt hov _ e.symm; simp at this))
        all_goals
          go_roundw
          case rel =>
            refine ⟨k + 1, by omega, by go_num, ?_, ?_, ?_⟩
            · first | (rw [hstep2.out]; done) | (rw [hstep2.out]; show Value.int .i64 _ = Value.int .i64 (max fr t2); congr 1; omega)
            · rw [hstep2.out]; simp only; rw [ivCells_snoc]; simpa using hown3
            · exact (((HB.out.alloc HB.out.size _).alloc (by have := HB.out.size; simp; omega) _)).grown hgrow3 (by have := HB.out.size; simp; omega) (fun j hj => own_ge hov j hj)
          case measure => first | (simp [intOf]; done) | (simp [intOf]; omega)
      · have hstep2 : Hid (opSt (ts.take (k + 1)) ([], 0) = (op, max fr t2)) := Lib.hid (by rw [hstep.out, if_neg hf])
        go_wp2
        all_goals
          go_roundw
          case rel =>
            refine ⟨k + 1, by omega, by go_num, ?_, ?_, ?_⟩
            · first | (rw [hstep2.out]; done) | (rw [hstep2.out]; show Value.int .i64 _ = Value.int .i64 (max fr t2); congr 1; omega)
            · rw [hstep2.out]; exact hov.alloc _
            · exact HB.out.alloc HB.out.size _
          case measure => first | (simp [intOf]; done) | (simp [intOf]; omega)
    · have hk' : k = n + 1 := by omega
      have hall : ts.take k = ts := List.take_of_length_le (by omega)
      rw [hall] at hov
      have hop := opSt_opn ts [] 0
      rw [List.nil_append] at hop
      rw [hop] at hov
      clear hbw
      subst hk'
      go_wp2
      go_ret
      exact ⟨_, _, ys, rfl, HP.out, HS.out, by rw [HTS.out], by rw [HTS.out]; exact ⟨hov.1, hov.2.imp id fun ⟨g, cap, cur, h1, h2, h3⟩ => ⟨g, cap, cur, h1, Nat.le_trans hb2 h2, h3⟩⟩, by
        have G := HG.out
        exact ⟨HB.out.os.trans G.os, HB.out.tape.trans G.tape, HB.out.output.trans G.output, Nat.le_trans G.size HB.out.size, fun i hi hne => (HB.out.block i (Nat.lt_of_lt_of_le hi G.size)).trans (G.block i hi hne)⟩⟩
end Go.Proofs.Ytnjbhidncicfiaa
