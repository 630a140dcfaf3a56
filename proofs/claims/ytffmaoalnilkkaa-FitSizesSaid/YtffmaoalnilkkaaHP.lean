/- Walks over the fits: the size of a piece at a moisture. -/
import Derived.Test.YtffmaoalnilkkaaHO
import Derived.Test.YtffmaoalnilkkaaHJ
namespace Go.Proofs.Ytffmaoalnilkkaa
open Go.RowKit Go.Maps

theorem leastAtS_one {p : Md} (hp : MdOk p) {tf : Int → Int} {t : Int} (ht : tf p.g = t) : leastAtS tf [p] [] = lowM p t ∧ leastAtS tf [] [p] = -(hiM p t) := by
  subst ht
  have s1 : share (tf p.g) [p] [] p.g = lowM p (tf p.g) := by unfold share shO shI sumL; simp [sumL]
  have s2 : share (tf p.g) [] [p] p.g = -(hiM p (tf p.g)) := by unfold share shO shI sumL; simp [sumL]
  have e1 : gsOf ([p] ++ []) = [p.g] := gs_one hp
  have e2 : gsOf ([] ++ [p]) = [p.g] := gs_one hp
  unfold leastAtS
  rw [e1, e2, sumL_one, sumL_one, s1, s2]
  exact ⟨rfl, rfl⟩
def tfOne (g m x : Int) : Int := bif decide (g = x) then m else 0
def dOne (g m : Int) : DataW Unit := (DataW.map []).put (intL g) (.lit (.int .i64 m))
theorem dOne_at (g m x : Int) : (dOne g m).atKey (intL x) (.lit (.int .i64 0)) = .lit (.int .i64 (tfOne g m x)) := by
  unfold dOne tfOne
  by_cases e : g = x
  · subst e
    rw [atKey_put_same Maps.isMap_empty (intL_isKey _)]
    simp
  · rw [atKey_put_other (fun h => e (intL_inj h).symm)]
    simp [e, DataW.atKey]
theorem MdAt.grown {w w' : World} {b nn blk off : Nat} {D : DataW Unit} {s : Md} (h : MdAt w blk off s) (hm : w.ownsMap Try.prog 3 (plainElem Try.prog 3) b nn D) (hg : w.grownBy w' (some b)) (hlt : blk < w.heap.size) : MdAt w' blk off s := by
  have hne : blk ≠ b := by
    intro e
    subst e
    obtain ⟨es, clock, hb, -⟩ := hm
    have := h.1
    simp [World.cell?, hb] at this
  obtain ⟨h0, h1, h2, h3, h4, h5⟩ := h
  have k : ∀ o, w'.cell? ⟨blk, o, none⟩ = w.cell? ⟨blk, o, none⟩ := fun o => hg.cell_far ⟨blk, o, none⟩ hlt (fun e => hne (by injection e))
  exact ⟨by rw [k, h0], by rw [k, h1], by rw [k, h2], by rw [k, h3], by rw [k, h4], by rw [k, h5]⟩
theorem MdRow.grown {w w' : World} {A : Option Addr} {n b nn : Nat} {D : DataW Unit} {l : List Md} (h : MdRow w A n l) (hm : w.ownsMap Try.prog 3 (plainElem Try.prog 3) b nn D) (hg : w.grownBy w' (some b)) : MdRow w' A n l :=
  RowOf.keep h hg.size (fun _ _ _ hlt hx => MdAt.grown hx hm hg hlt)
set_option maxHeartbeats 4000000 in
set_option maxRecDepth 20000 in
theorem sizeAt_ok {p : Md} {m : Int} (hp : MdOk p) (m0 : 0 ≤ m) (m1 : m ≤ 400) (w : World) :
    Calls Try.prog 20 #[mdV p, .int .i64 m] w fun e w' => e = .returned (.tuple #[outV (lowM p m) (hiM p m), .int .i64 0]) ∧ Below w.heap.size w w' := by
  have CM := fun wx => Lib.hid (made_any (w := wx) (madeCode_ok hp))
  have X1 : Hid (allIn 0 400 [m] = true) := Lib.hid (by simp [allIn, outB]; omega)
  have AL := fun wx => Lib.hid (alone_any p wx)
  have CO := Lib.hid (fun wx A b nn (hM : World.ownsMap wx Try.prog 3 (plainElem Try.prog 3) b nn (dOne p.g m)) (hA : MdRow wx A 1 [p]) => clearanceAt_any (nm := ⟨#[]⟩) (A := A) (A' := none) (n := 1) (c := 1) (n' := 0) (c' := 0) (le := 0) (mo := 0) (o := [p]) (i0 := []) (tf := tfOne p.g m) (Lib.hid (fun g => by unfold tfOne; cases decide (p.g = g) <;> simp <;> omega)) (Lib.hid (dOne_at p.g m)) (fun x hx => by simp at hx; rw [hx]; exact hp) (fun x hx => by cases hx) (by omega) (by omega) (by omega) wx hM hA (mdRow0 wx))
  obtain ⟨x1, x2⟩ := leastAtS_one hp (tf := tfOne p.g m) (t := m) (by simp [tfOne])
  rw [x1, x2, Int.neg_neg] at CO
  have g0 := hp.g0
  have g1 := hp.g1
  clear x1 x2 hp
  unfold outV at CO ⊢
  obtain ⟨x, hx⟩ : ∃ x, lowM p m / 1000000 = x := ⟨_, rfl⟩
  obtain ⟨y, hy⟩ : ∃ y, upM (hiM p m) = y := ⟨_, rfl⟩
  simp only [hx, hy] at CO ⊢
  clear hx hy
  have HROW : Hid (∀ (wx w' : World) A, MdRow wx A 1 [p] → Below wx.heap.size wx w' → MdRow w' A 1 [p]) := Lib.hid (fun wx w' A h hb => h.below hb)
  have HROWG : Hid (∀ (wx w' : World) A b nn (D : DataW Unit), MdRow wx A 1 [p] → wx.ownsMap Try.prog 3 (plainElem Try.prog 3) b nn D → wx.grownBy w' (some b) → MdRow w' A 1 [p]) := Lib.hid (fun wx w' A b nn D h hm hg => h.grown hm hg)
  obtain ⟨R, hR⟩ : ∃ R : World → Option Addr → Prop, R = fun wx A => MdRow wx A 1 [p] := ⟨_, rfl⟩
  have HRE : Hid (∀ wx A, MdRow wx A 1 [p] = R wx A) := Lib.hid (fun wx A => by rw [hR])
  simp only [HRE.out] at CO AL HROW HROWG
  clear hR HRE
  obtain ⟨ps, pr, pm, pg, plo, phi⟩ := p
  unfold mdV ftV at *
  simp only at CM AL CO g0 g1 ⊢
  have hmk := @run_makeMap Try.prog
  have hB0 : Below w.heap.size w ((w.alloc (.cells #[.int .i64 ps, .int .i64 pr, .int .i64 pm, .int .i64 pg, .int .i64 plo, .int .i64 phi] 44)).alloc (.cells #[.int .i64 0, .int .i64 0] 48)) := ((Below.refl _ _).alloc (Nat.le_refl _) _).alloc (by simp) _
  go_enter Try.func20, Try.ntmps20
  go_upto_region 1 with fail
  have hs0 : ((w.alloc (.cells #[.int .i64 ps, .int .i64 pr, .int .i64 pm, .int .i64 pg, .int .i64 plo, .int .i64 phi] 44)).alloc (.cells #[.int .i64 0, .int .i64 0] 48)).heap.size = w.heap.size + 2 := by simp
  have hq : ∀ j (hj : j < 6), ((w.alloc (.cells #[.int .i64 ps, .int .i64 pr, .int .i64 pm, .int .i64 pg, .int .i64 plo, .int .i64 phi] 44)).alloc (.cells #[.int .i64 0, .int .i64 0] 48)).cell? ⟨w.heap.size, j, none⟩ = #[Value.int .i64 ps, .int .i64 pr, .int .i64 pm, .int .i64 pg, .int .i64 plo, .int .i64 phi][j]? := by
    intro j hj; simp [go_sem]
  have hqr : ∀ j (hj : j < 2), ((w.alloc (.cells #[.int .i64 ps, .int .i64 pr, .int .i64 pm, .int .i64 pg, .int .i64 plo, .int .i64 phi] 44)).alloc (.cells #[.int .i64 0, .int .i64 0] 48)).cell? ⟨w.heap.size + 1, j, none⟩ = #[Value.int .i64 0, .int .i64 0][j]? := by
    intro j hj; simp [go_sem]
  have hqf : ∀ j (hj : j < 2), ((w.alloc (.cells #[.int .i64 ps, .int .i64 pr, .int .i64 pm, .int .i64 pg, .int .i64 plo, .int .i64 phi] 44)).alloc (.cells #[.int .i64 0, .int .i64 0] 48)).frozen? ⟨w.heap.size + 1, j, none⟩ = false := by
    intro j hj; simp [go_sem]
  generalize ((w.alloc (.cells #[.int .i64 ps, .int .i64 pr, .int .i64 pm, .int .i64 pg, .int .i64 plo, .int .i64 phi] 44)).alloc (.cells #[.int .i64 0, .int .i64 0] 48)) = W0 at hB0 hs0 hq hqr hqf ⊢
  have HB0 := Lib.hid hB0
  have LW := Lib.hid (fun wx (hb : Below W0.heap.size W0 wx) => (show Below w.heap.size w wx from HB0.out.trans (hb.mono HB0.out.size)))
  have KS := Lib.hid (fun wx (hb : Below W0.heap.size W0 wx) => (show wx.cell? ⟨w.heap.size, 0, none⟩ = some (.int .i64 ps) ∧ wx.cell? ⟨w.heap.size, 0 + 1, none⟩ = some (.int .i64 pr) ∧ wx.cell? ⟨w.heap.size, 0 + 2, none⟩ = some (.int .i64 pm) ∧ wx.cell? ⟨w.heap.size, 0 + 3, none⟩ = some (.int .i64 pg) ∧ wx.cell? ⟨w.heap.size, 0 + 4, none⟩ = some (.int .i64 plo) ∧ wx.cell? ⟨w.heap.size, 0 + 5, none⟩ = some (.int .i64 phi) ∧ wx.cell? ⟨w.heap.size, 3, none⟩ = some (.int .i64 pg) from by
    have k := (bcell hb).1
    exact ⟨(k _ _ (by omega)).trans (hq 0 (by omega)), (k _ _ (by omega)).trans (hq 1 (by omega)), (k _ _ (by omega)).trans (hq 2 (by omega)), (k _ _ (by omega)).trans (hq 3 (by omega)), (k _ _ (by omega)).trans (hq 4 (by omega)), (k _ _ (by omega)).trans (hq 5 (by omega)), (k _ _ (by omega)).trans (hq 3 (by omega))⟩))
  have KR := Lib.hid (fun wx (hb : Below W0.heap.size W0 wx) => (show wx.cell? ⟨w.heap.size + 1, 0, none⟩ = some (.int .i64 0) ∧ wx.cell? ⟨w.heap.size + 1, 1, none⟩ = some (.int .i64 0) ∧ wx.frozen? ⟨w.heap.size + 1, 0, none⟩ = false ∧ wx.frozen? ⟨w.heap.size + 1, 1, none⟩ = false from by
    obtain ⟨k, kf⟩ := bcell hb
    exact ⟨(k _ _ (by omega)).trans (hqr 0 (by omega)), (k _ _ (by omega)).trans (hqr 1 (by omega)), (kf _ _ (by omega)).trans (hqf 0 (by omega)), (kf _ _ (by omega)).trans (hqf 1 (by omega))⟩))
  have hlow : w.heap.size ≤ w.heap.size + 1 := by omega
  obtain ⟨e0, e1, e2, e3, e4, e5, e6⟩ := KS.out W0 (Below.refl _ _)
  clear hq hqr hqf hs0 hB0
  go_upto_region 6 with (first | (go_at_call 23; refine Calls.mono (CM _).out ?_; rintro e w1 ⟨rfl, hb1⟩) | (go_at_call 54; (with_reducible refine (withinOne_fit X1.out _ _ (by simp)).mono ?_); rintro e w2 ⟨rfl, hb2⟩; have hB2 := hb1.trans (hb2.mono hb1.size)))
  have HB2 := Lib.hid hB2
  have HD2 := Lib.hid (hB2.drew)
  clear e0 e1 e2 e3 e4 e5 e6 hb1 hb2 hB2
  obtain ⟨e0, e1, e2, e3, e4, e5, e6⟩ := KS.out w2 HB2.out
  have hHD := HB2.out.size
  have HDM : Hid (Below W0.heap.size W0 (w2.alloc (.map #[] 0)).drew) := Lib.hid ((HB2.out.alloc hHD _).drew)
  obtain ⟨i0, i1, i2, i3, i4, i5, i6⟩ := KS.out _ HDM.out
  have hmM := (World.ownsMap_made (H := Unit) w2 Try.prog 3 (plainElem Try.prog 3)).drew
  obtain ⟨wi, hruni, howni, hgi⟩ := upd_int (g := pg) (S := m) hmM (by unfold maxLen; omega) (by omega) (by omega)
  have HBI : Hid (Below W0.heap.size W0 wi) := Lib.hid (HDM.out.grown hgi (HDM.out.size) (fun j hj => by cases hj; omega))
  obtain ⟨l0, l1, l2, l3, l4, l5, l6⟩ := KS.out _ HBI.out
  go_region_with (first
    | (go_at_call 55; refine Calls.mono (CO.out _ _ _ _ hcM hcR) ?_; rintro e w5 ⟨rfl, hb5⟩; have hB5 := hcB.trans (hb5.mono hcB.size); obtain ⟨z0, z1, y0, y1⟩ := KR.out w5 hB5)
    | (go_at_call 56; with_reducible refine Calls.mono (AL wi).out ?_; rintro e w3 ⟨blk, rfl, hcR, hb3⟩; have hcB := HBI.out.trans (hb3.mono HBI.out.size); have hcM := howni.kept (below_grown hb3 none) (by simp))
    | (go_at_call 56; with_reducible refine Calls.mono (AL (w2.alloc (.map #[] 0)).drew).out ?_; rintro e w3 ⟨blk, rfl, hrow, hb3⟩; have hB3 := HDM.out.trans (hb3.mono HDM.out.size); obtain ⟨j0, j1, j2, j3, j4, j5, j6⟩ := KS.out w3 hB3; have hm3 := hmM.kept (below_grown hb3 none) (by simp); obtain ⟨w4, hrun4, hcM, hg4⟩ := upd_int (g := pg) (S := m) hm3 (by unfold maxLen; omega) (by omega) (by omega); have hcB := hB3.grown hg4 hB3.size (fun j hj => by cases hj; omega); have hcR := HROWG.out _ _ _ _ _ _ hrow hm3 hg4)
    | (go_at_call 56; with_reducible refine Calls.mono (AL w2.drew).out ?_; rintro e w3 ⟨blk, rfl, hrow, hb3⟩; have hB3 := HD2.out.trans (hb3.mono HD2.out.size); obtain ⟨j0, j1, j2, j3, j4, j5, j6⟩ := KS.out w3 hB3; obtain ⟨h0, h1, h2, h3, h4, h5, h6⟩ := KS.out (w3.alloc (.map #[] 0)) (hB3.alloc hB3.size _); have hm3 := World.ownsMap_made (H := Unit) w3 Try.prog 3 (plainElem Try.prog 3); obtain ⟨w4, hrun4, hcM, hg4⟩ := upd_int (g := pg) (S := m) hm3 (by unfold maxLen; omega) (by omega) (by omega); have hB34 : Below w3.heap.size w3 w4 := ((Below.refl w3.heap.size w3).alloc (Nat.le_refl _) _).grown hg4 (by simp) (fun j hj => by cases hj; omega); have hcB := hB3.trans (hB34.mono hB3.size); have hcR := HROW.out _ _ _ hrow hB34))
  all_goals
    rename_i K hK
    refine hK _ _ ?_
    go_wp2
    refine bodyPost_ret (v := .tuple #[.agg #[.int .i64 x, .int .i64 y], .int .i64 0]) (by simp [results, Try.results20, go_sem, z0, z1]) rfl ⟨rfl, ?_⟩
    repeat (refine Below.setCell ?_ (by first | (simp; done) | (simp; omega)) _)
    exact LW.out _ hB5
end Go.Proofs.Ytffmaoalnilkkaa
