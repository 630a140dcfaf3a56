/- Walks over the fits: the least clearance of a season. -/
import Derived.Test.YtffmaoalnilkkaaFF
import Derived.Maps.AppendAt
namespace Go.Proofs.Ytffmaoalnilkkaa
open Go.RowKit Go.Maps

theorem own_kept {w w' : World} {base e size n : Nat} {v : Value} {xs : List Value} (h : w.ownsRow base e size v n xs) (hb : Below w.heap.size w w') : w'.ownsRow base e size v n xs := by
  refine ⟨h.1, h.2.imp id ?_⟩
  rintro ⟨g, cap, cur, h1, h2, h3, h4⟩
  exact ⟨g, cap, cur, h1, h2, (hb.block g (Array.getElem?_eq_some_iff.1 h3).1).trans h3, h4⟩
theorem own_low {w : World} {base base' e size n : Nat} {v : Value} {xs : List Value} (h : w.ownsRow base e size v n xs) (hb : base' ≤ base) : w.ownsRow base' e size v n xs := by
  refine ⟨h.1, h.2.imp id ?_⟩
  rintro ⟨g, cap, cur, h1, h2, h3⟩
  exact ⟨g, cap, cur, h1, Nat.le_trans hb h2, h3⟩
theorem own_ge {w : World} {base e size n : Nat} {v : Value} {xs : List Value} (h : w.ownsRow base e size v n xs) : ∀ j, v.ownBlock = some j → base ≤ j := by
  intro j hj
  rcases h.2 with ⟨rfl, -⟩ | ⟨g, cap, cur, rfl, hb, -⟩
  · cases hj
  · simp [Value.ownBlock] at hj; subst hj; exact hb
theorem infoI : (Try.prog.info? 3).map (fun i => (i.zero, i.size, i.bytes)) = some (some (.int .i64 0), 1, 8) := by kernel_rfl
theorem moistS_take (o i : List Md) (lo hi : Int) {k : Nat} (h : k < (gsOf (o ++ i)).length) : (moistS o i lo hi).take (k + 1) = (moistS o i lo hi).take k ++ [bif decide (share hi o i (gsOf (o ++ i))[k] < share lo o i (gsOf (o ++ i))[k]) then hi else lo] := by
  have hl : k < (moistS o i lo hi).length := by unfold moistS; rw [List.length_map]; exact h
  rw [List.take_succ_eq_append_getElem hl]
  congr 2
  unfold moistS
  exact List.getElem_map _
theorem lowG_bd {o i : List Md} {lo hi g : Int} (ho : ∀ x ∈ o, MdOk x) (hi' : ∀ x ∈ i, MdOk x) (l0 : 0 ≤ lo) (l1 : lo ≤ 400) (h0 : 0 ≤ hi) (h1 : hi ≤ 400) (hl : o.length ≤ 20) (hl' : i.length ≤ 20) : -20000000000000 ≤ lowG o i lo hi g ∧ lowG o i lo hi g ≤ 20000000000000 := by
  unfold lowG
  cases decide (share hi o i g < share lo o i g)
  · exact share_bd ho hi' l0 l1 hl hl'
  · exact share_bd ho hi' h0 h1 hl hl'
theorem least_take_bd {o i : List Md} {lo hi : Int} (ho : ∀ x ∈ o, MdOk x) (hi' : ∀ x ∈ i, MdOk x) (l0 : 0 ≤ lo) (l1 : lo ≤ 400) (h0 : 0 ≤ hi) (h1 : hi ≤ 400) (hl : o.length ≤ 20) (hl' : i.length ≤ 20) (k : Nat) :
    -400000000000000 ≤ sumL (lowG o i lo hi) ((gsOf (o ++ i)).take k) ∧ sumL (lowG o i lo hi) ((gsOf (o ++ i)).take k) ≤ 400000000000000 := by
  have hb := sumL_bd (f := lowG o i lo hi) (B := 20000000000000) (l := (gsOf (o ++ i)).take k) (fun g _ => lowG_bd ho hi' l0 l1 h0 h1 hl hl')
  have hn := gsOf_length (o ++ i)
  have hm : ((gsOf (o ++ i)).take k).length ≤ 20 := by rw [List.length_take]; omega
  omega
set_option maxHeartbeats 8000000 in
set_option maxRecDepth 20000 in
theorem leastOver_any {nm sn : ByteArray} {A A' : Option Addr} {n c n' c' : Nat} {le mo lo hi : Int} {o i0 : List Md} (ho : ∀ x ∈ o, MdOk x) (hi' : ∀ x ∈ i0, MdOk x) (hn : n + n' ≤ 20) (l0 : 0 ≤ lo) (l1 : lo ≤ 400) (h0 : 0 ≤ hi) (h1 : hi ≤ 400)
    (w : World) (hA : MdRow w A n o) (hA' : MdRow w A' n' i0) :
    Calls Try.prog 82 #[.agg #[.string nm, .slice A n c, .slice A' n' c', .int .i64 le, .int .i64 mo], .agg #[.string sn, .int .i64 lo, .int .i64 hi]] w
      fun e w' => ∃ v, e = .returned (.tuple #[.int .i64 (leastS o i0 lo hi), v]) ∧ w'.ownsRow w.heap.size 3 1 v (moistS o i0 lo hi).length ((moistS o i0 lo hi).map (Value.int .i64)) ∧ Below w.heap.size w w' := by
  have hol := hA.1
  have hil := hA'.1
  have GL := gsOf_length (o ++ i0)
  have hmlen : (moistS o i0 lo hi).length = (gsOf (o ++ i0)).length := by unfold moistS; rw [List.length_map]
  have BD := Lib.hid (fun k => least_take_bd ho hi' l0 l1 h0 h1 (by omega) (by omega) k)
  have BG := Lib.hid (fun g => And.intro (share_bd (g := g) ho hi' l0 l1 (by omega) (by omega)) (share_bd (g := g) ho hi' h0 h1 (by omega) (by omega)))
  have HG := Lib.hid (fun g (hg : g ∈ gsOf (o ++ i0)) => (show 0 ≤ g ∧ g ≤ 19 by
    obtain ⟨x, hx, he⟩ := List.any_eq_true.1 ((mem_gsOf (fun x hx => (List.mem_append.1 hx).elim (ho x) (hi' x)) g).1 hg)
    have he' : x.g = g := of_decide_eq_true he
    have hk := (List.mem_append.1 hx).elim (ho x) (hi' x)
    rw [← he']; exact ⟨hk.g0, hk.g1⟩))
  have S1 := fun W hq (hr : MdRow W A n o) (hr' : MdRow W A' n' i0) => Lib.hid (shares_lo (qb := w.heap.size + 1) (nm := nm) (c := c) (c' := c') (le := le) (mo := mo) ho hi' hn l0 l1 W hq hr hr')
  have S2 := fun W hq (hr : MdRow W A n o) (hr' : MdRow W A' n' i0) => Lib.hid (shares_hi (qb := w.heap.size + 1) (nm := nm) (c := c) (c' := c') (le := le) (mo := mo) ho hi' hn h0 h1 W hq hr hr')
  have S3 := fun W (hr : MdRow W A n o) (hr' : MdRow W A' n' i0) => Lib.hid (groupsOf_any (nm := nm) (c := c) (c' := c') (le := le) (mo := mo) ho hi' hn W hr hr')
  have hB0 : Below w.heap.size w ((w.alloc (.cells #[.string nm, .slice A n c, .slice A' n' c', .int .i64 le, .int .i64 mo] 37)).alloc (.cells #[.string sn, .int .i64 lo, .int .i64 hi] 46)) := ((Below.refl _ _).alloc (Nat.le_refl _) _).alloc (by simp) _
  have HMD := Lib.hid (fun wx (hb : Below w.heap.size w wx) => And.intro (hA.below hb) (hA'.below hb))
  obtain ⟨i1, hi1, hz0, hz1, hz2⟩ := info_parts infoI
  clear hA hA' ho hi'
  go_enter Try.func82, Try.ntmps82
  go_upto_region 1 with fail
  have hs0 : w.heap.size + 1 < ((w.alloc (.cells #[.string nm, .slice A n c, .slice A' n' c', .int .i64 le, .int .i64 mo] 37)).alloc (.cells #[.string sn, .int .i64 lo, .int .i64 hi] 46)).heap.size := by simp
  have e0 : ((w.alloc (.cells #[.string nm, .slice A n c, .slice A' n' c', .int .i64 le, .int .i64 mo] 37)).alloc (.cells #[.string sn, .int .i64 lo, .int .i64 hi] 46)).cell? ⟨w.heap.size, 0, none⟩ = some (.string nm) := by simp [go_sem]
  have e1 : ((w.alloc (.cells #[.string nm, .slice A n c, .slice A' n' c', .int .i64 le, .int .i64 mo] 37)).alloc (.cells #[.string sn, .int .i64 lo, .int .i64 hi] 46)).cell? ⟨w.heap.size, 1, none⟩ = some (.slice A n c) := by simp [go_sem]
  have e2 : ((w.alloc (.cells #[.string nm, .slice A n c, .slice A' n' c', .int .i64 le, .int .i64 mo] 37)).alloc (.cells #[.string sn, .int .i64 lo, .int .i64 hi] 46)).cell? ⟨w.heap.size, 2, none⟩ = some (.slice A' n' c') := by simp [go_sem]
  have e3 : ((w.alloc (.cells #[.string nm, .slice A n c, .slice A' n' c', .int .i64 le, .int .i64 mo] 37)).alloc (.cells #[.string sn, .int .i64 lo, .int .i64 hi] 46)).cell? ⟨w.heap.size, 3, none⟩ = some (.int .i64 le) := by simp [go_sem]
  have e4 : ((w.alloc (.cells #[.string nm, .slice A n c, .slice A' n' c', .int .i64 le, .int .i64 mo] 37)).alloc (.cells #[.string sn, .int .i64 lo, .int .i64 hi] 46)).cell? ⟨w.heap.size, 4, none⟩ = some (.int .i64 mo) := by simp [go_sem]
  have q1 : ((w.alloc (.cells #[.string nm, .slice A n c, .slice A' n' c', .int .i64 le, .int .i64 mo] 37)).alloc (.cells #[.string sn, .int .i64 lo, .int .i64 hi] 46)).cell? ⟨w.heap.size + 1, 1, none⟩ = some (.int .i64 lo) := by simp [go_sem]
  have q2 : ((w.alloc (.cells #[.string nm, .slice A n c, .slice A' n' c', .int .i64 le, .int .i64 mo] 37)).alloc (.cells #[.string sn, .int .i64 lo, .int .i64 hi] 46)).cell? ⟨w.heap.size + 1, 2, none⟩ = some (.int .i64 hi) := by simp [go_sem]
  generalize ((w.alloc (.cells #[.string nm, .slice A n c, .slice A' n' c', .int .i64 le, .int .i64 mo] 37)).alloc (.cells #[.string sn, .int .i64 lo, .int .i64 hi] 46)) = W0 at hB0 hs0 e0 e1 e2 e3 e4 q1 q2 ⊢
  have HB0 := Lib.hid hB0
  have KC := Lib.hid (fun wx (hb : Below W0.heap.size W0 wx) => (show wx.cell? ⟨w.heap.size, 0, none⟩ = some (.string nm) ∧ wx.cell? ⟨w.heap.size, 1, none⟩ = some (.slice A n c) ∧ wx.cell? ⟨w.heap.size, 2, none⟩ = some (.slice A' n' c') ∧ wx.cell? ⟨w.heap.size, 3, none⟩ = some (.int .i64 le) ∧ wx.cell? ⟨w.heap.size, 4, none⟩ = some (.int .i64 mo) ∧ wx.cell? ⟨w.heap.size + 1, 1, none⟩ = some (.int .i64 lo) ∧ wx.cell? ⟨w.heap.size + 1, 2, none⟩ = some (.int .i64 hi) from by
    have k := (bcell hb).1
    exact ⟨(k _ _ (by omega)).trans e0, (k _ _ (by omega)).trans e1, (k _ _ (by omega)).trans e2, (k _ _ (by omega)).trans e3, (k _ _ (by omega)).trans e4, (k _ _ hs0).trans q1, (k _ _ hs0).trans q2⟩))
  clear hB0
  go_wp2_with (first
    | (go_at_call 49; refine Calls.mono (S3 _ (HMD.out _ (HB0.out.trans (hb2.mono (by have := HB0.out.size; omega)))).1 (HMD.out _ (HB0.out.trans (hb2.mono (by have := HB0.out.size; omega)))).2).out ?_; rintro e w3 ⟨G, gc, rfl, hG, hb3⟩; have hb3' := hb2.trans (hb3.mono hb2.size); obtain ⟨e0'', e1'', e2'', e3'', e4'', q1'', q2''⟩ := KC.out w3 hb3')
    | (go_at_call 96; with_reducible refine Calls.mono (S1 _ q1 (HMD.out _ HB0.out).1 (HMD.out _ HB0.out).2).out ?_; rintro e w1 ⟨D1, rfl, hown1, hsh1, hb1⟩; obtain ⟨e0', e1', e2', e3', e4', q1', q2'⟩ := KC.out w1 hb1)
    | (go_at_call 96; refine Calls.mono (S2 _ q2' (HMD.out _ (HB0.out.trans (hb1.mono (by have := HB0.out.size; omega)))).1 (HMD.out _ (HB0.out.trans (hb1.mono (by have := HB0.out.size; omega)))).2).out ?_; rintro e w2 ⟨D2, rfl, hown2, hsh2, hb12⟩; have hb2 : Below W0.heap.size W0 w2 := hb1.trans (hb12.mono hb1.size); obtain ⟨e0'', e1'', e2'', e3'', e4'', q1'', q2''⟩ := KC.out w2 hb2))
  have hs3 : W0.heap.size ≤ w3.heap.size := hb3'.size
  have hownA : w3.ownsMap Try.prog 3 (plainElem Try.prog 3) (W0.heap.size + 1) 20 D1 := (hown1.kept (below_grown hb12 none) (by simp)).kept (below_grown hb3 none) (by simp)
  have hownB : w3.ownsMap Try.prog 3 (plainElem Try.prog 3) (w1.heap.size + 1) 20 D2 := hown2.kept (below_grown hb3 none) (by simp)
  have HOA := Lib.hid hownA; have HOB := Lib.hid hownB; have HSA := Lib.hid hsh1; have HSB := Lib.hid hsh2
  have HB3 := Lib.hid hb3'
  have HGI := Lib.hid hG
  have HML := Lib.hid hmlen
  clear e0' e1' e2' e3' e4' q1' q2' e0 e1 e2 e3 e4 q1 q2 hownA hownB hown1 hown2 hsh1 hsh2 hb1 hb12 hb2 hb3 hb3' hG S1 S2 S3 hmlen
  obtain ⟨N, hN⟩ : ∃ N, (gsOf (o ++ i0)).length = N := ⟨_, rfl⟩
  rw [hN] at GL ⊢
  have HN := Lib.hid hN
  clear hN
  obtain ⟨wz, hwz⟩ : ∃ wz, wz = w := ⟨_, rfl⟩
  go_loopw [8, 9, 21] (fun l v i wr => ∃ (k : Nat), k ≤ N ∧ i = .int .i64 k ∧ l = .int .i64 (sumL (lowG o i0 lo hi) ((gsOf (o ++ i0)).take k)) ∧ wr.ownsRow w3.heap.size 3 1 v k (((moistS o i0 lo hi).take k).map (Value.int .i64)) ∧ Below w3.heap.size w3 wr) (fun _ _ i _ => N - (intOf i).toNat)
  case atStart => exact ⟨0, Nat.zero_le _, rfl, rfl, ⟨rfl, .inl ⟨rfl, rfl⟩⟩, Below.refl _ _⟩
  case round =>
    obtain ⟨k, hk, rfl, rfl, hov, hbw⟩ := hrel
    have HB := Lib.hid hbw
    have hsw := hbw.size
    have c1 : wr.cell? ⟨w.heap.size + 1, 1, none⟩ = some (.int .i64 lo) := (hbw.cell (p := ⟨w.heap.size + 1, 1, none⟩) (by show w.heap.size + 1 < _; omega)).trans q1''
    have c2 : wr.cell? ⟨w.heap.size + 1, 2, none⟩ = some (.int .i64 hi) := (hbw.cell (p := ⟨w.heap.size + 1, 2, none⟩) (by show w.heap.size + 1 < _; omega)).trans q2''
    have hoA := HOA.out.kept (below_grown hbw none) (by simp)
    have hoB := HOB.out.kept (below_grown hbw none) (by simp)
    clear hbw
    by_cases hlt : k < N
    · have hkg : k < (gsOf (o ++ i0)).length := by rw [HN.out]; exact hlt
      obtain ⟨gb, go', rfl, hgb, hgc⟩ := HGI.out (by intro h; rw [h] at hkg; simp at hkg)
      have cg := (HB.out.cell (p := ⟨gb, go' + k, none⟩) hgb).trans (hgc k hkg)
      have HST := Lib.hid (sumL_take_succ (lowG o i0 lo hi) (gsOf (o ++ i0)) hkg)
      have HTM := Lib.hid (moistS_take o i0 lo hi hkg)
      have hgr := HG.out _ (List.getElem_mem hkg)
      have bg := BG.out ((gsOf (o ++ i0))[k])
      have bd := BD.out k
      clear hgc
      obtain ⟨g, hg⟩ : ∃ g, (gsOf (o ++ i0))[k] = g := ⟨_, rfl⟩
      rw [hg] at cg HST HTM hgr bg
      clear hg
      have hl1 := look_int hoA (by omega) (HSA.out.at_ g)
      have hl2 := look_int hoB (by omega) (HSB.out.at_ g)
      unfold lowG at HST
      obtain ⟨sl, hsl⟩ : ∃ sl, share lo o i0 g = sl := ⟨_, rfl⟩
      obtain ⟨sh, hsh⟩ : ∃ sh, share hi o i0 g = sh := ⟨_, rfl⟩
      obtain ⟨acc, hacc⟩ : ∃ acc, sumL (lowG o i0 lo hi) ((gsOf (o ++ i0)).take k) = acc := ⟨_, rfl⟩
      simp only [hsl, hsh] at HST HTM hl1 hl2 bg
      change Hid (sumL (lowG o i0 lo hi) ((gsOf (o ++ i0)).take (k + 1)) = sumL (lowG o i0 lo hi) ((gsOf (o ++ i0)).take k) + bif decide (sh < sl) then sh else sl) at HST
      rw [hacc] at HST bd ⊢
      clear hsl hsh hacc hoA hoB
      by_cases hcmp : sh < sl
      · rw [decide_eq_true hcmp] at HST HTM
        simp only [cond_true] at HST HTM

        go_wp2_with (at_builtin; refine wpList_append_own_at _ rfl _ _ 32 rfl w3.heap.size 3 i1 (.int .i64 0) 1 8 Try.underlying32 hi1 hz0 hz1 hz2 rfl (by decide) _ _ _ rfl (hov.alloc _) ⟨wr.heap.size, 0, none⟩ 1 1 [.int .i64 hi] rfl rfl (cell_one_new _ _ _) (ints_oneCell .i64 [hi]) (by unfold maxLen; omega) (by omega) (by simp; omega) ?_; intro v4 w4 hown4 hgrow4 hnil4 hloc4)
        go_roundw
        case rel =>
          refine ⟨k + 1, by omega, by go_num, ?_, ?_, ?_⟩
          · rw [← HST.out]
          · rw [HTM.out, List.map_append]; exact hown4
          · exact (HB.out.alloc (by omega) _).grown hgrow4 (by simp; omega) (fun j hj => own_ge hov j hj)
        case measure => simp [intOf]; omega
      · rw [decide_eq_false hcmp] at HST HTM
        simp only [cond_false] at HST HTM

        go_wp2_with (at_builtin; refine wpList_append_own_at _ rfl _ _ 32 rfl w3.heap.size 3 i1 (.int .i64 0) 1 8 Try.underlying32 hi1 hz0 hz1 hz2 rfl (by decide) _ _ _ rfl (hov.alloc _) ⟨wr.heap.size, 0, none⟩ 1 1 [.int .i64 lo] rfl rfl (cell_one_new _ _ _) (ints_oneCell .i64 [lo]) (by unfold maxLen; omega) (by omega) (by simp; omega) ?_; intro v4 w4 hown4 hgrow4 hnil4 hloc4)
        go_roundw
        case rel =>
          refine ⟨k + 1, by omega, by go_num, ?_, ?_, ?_⟩
          · rw [← HST.out]
          · rw [HTM.out, List.map_append]; exact hown4
          · exact (HB.out.alloc (by omega) _).grown hgrow4 (by simp; omega) (fun j hj => own_ge hov j hj)
        case measure => simp [intOf]; omega
    · have hk' : k = N := by omega
      subst hk'
      have hfull : (gsOf (o ++ i0)).take k = gsOf (o ++ i0) := List.take_of_length_le (by rw [HN.out]; omega)
      have hmf : (moistS o i0 lo hi).take k = moistS o i0 lo hi := List.take_of_length_le (by rw [HML.out, HN.out]; omega)
      rw [hmf] at hov
      rw [hfull]
      clear hoA hoB
      go_wp2
      go_ret2
      refine ⟨_, rfl, ?_, HB0.out.trans ((HB3.out.mono (by omega)).trans (HB.out.mono (by omega)))⟩
      rw [HML.out, HN.out]
      exact own_low hov (by omega)
end Go.Proofs.Ytffmaoalnilkkaa
