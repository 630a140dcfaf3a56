/- Walks over beams: the reactions of a burden. -/
import Derived.Test.YtablphoicidlkaaSF
namespace Go.Proofs.Ytablphoicidlkaa
open Go.RowKit

theorem ev_bd {x : Int} {N M : Nat} (h : Ev x x N) (hN : Nat.ble N M = true) : x.natAbs ≤ M := h.bd hN
theorem fr_bds {b : Bm} {p : Pt} (hb : BmOk b) (hp : PtOk b.s p) : (ptR b p).natAbs ≤ 100000000000 ∧ (ptQ b p).natAbs ≤ 100000000000 ∧ (ptM b p).natAbs ≤ 100000000000 := by
  have E1 : Ev b.s b.s 2000 := .of (by have := hb.s0; have := hb.s1; omega)
  have E2 : Ev p.a p.a 2000 := .of (by have := hp.a0; have := hp.a1; have := hb.s1; omega)
  have E3 : Ev p.n p.n 2000 := .of (by have := hp.n0; have := hp.n1; omega)
  unfold ptR ptQ ptM
  rcases hb.e0 with e | e <;> rw [e]
  · refine ⟨ev_bd (Ev.mul (Ev.mul (Ev.lit 2) E3) (Ev.sub E1 E2)) (by decide +kernel), ev_bd (Ev.mul (Ev.mul (Ev.lit 2) E3) E2) (by decide +kernel), by show (0 : Int).natAbs ≤ _; decide⟩
  · refine ⟨ev_bd (Ev.mul (Ev.mul (Ev.lit 2) E1) E3) (by decide +kernel), by show (0 : Int).natAbs ≤ _; decide, ev_bd (Ev.mul (Ev.mul (Ev.mul (Ev.lit (-2)) E1) E3) E2) (by decide +kernel)⟩
theorem sp_bds {b : Bm} {S : Int} (hb : BmOk b) (h0 : -20000 ≤ S) (h1 : S ≤ 20000) : (spR b S).natAbs ≤ 100000000000 ∧ (spQ b S).natAbs ≤ 100000000000 ∧ (spM b S).natAbs ≤ 100000000000 := by
  have E1 : Ev b.s b.s 2000 := .of (by have := hb.s0; have := hb.s1; omega)
  have E3 : Ev S S 20000 := .of (by omega)
  unfold spR spQ spM
  rcases hb.e0 with e | e <;> rw [e]
  · refine ⟨ev_bd (Ev.mul E3 E1) (by decide +kernel), ev_bd (Ev.mul E3 E1) (by decide +kernel), by show (0 : Int).natAbs ≤ _; decide⟩
  · refine ⟨ev_bd (Ev.mul (Ev.mul (Ev.lit 2) E1) E3) (by decide +kernel), by show (0 : Int).natAbs ≤ _; decide, ev_bd (Ev.mul (Ev.mul (Ev.neg E3) E1) E1) (by decide +kernel)⟩
/-- The three sums over the first weights. -/
def frK (b : Bm) (l : List Pt) (S : Int) (k : Nat) : Int × Int × Int := (frR b (l.take k) S, frQ b (l.take k) S, frM b (l.take k) S)
theorem fr_take_bd {b : Bm} {l : List Pt} {S : Int} (hb : BmOk b) (hl : WtOk b.s l S) (k : Nat) : (frR b (l.take k) S).natAbs ≤ 1000000000000 ∧ (frQ b (l.take k) S).natAbs ≤ 1000000000000 ∧ (frM b (l.take k) S).natAbs ≤ 1000000000000 := by
  obtain ⟨s1, s2, s3⟩ := sp_bds hb hl.S0 hl.S1
  have hlen : (l.take k).length ≤ 8 := Nat.le_trans (List.length_take_le' ..) hl.len
  have hm : ∀ p ∈ l.take k, PtOk b.s p := fun p hp => hl.pt p (List.mem_of_mem_take hp)
  have h1 := sumL_bd8 (f := ptR b) hlen (fun p hp => (fr_bds hb (hm p hp)).1)
  have h2 := sumL_bd8 (f := ptQ b) hlen (fun p hp => (fr_bds hb (hm p hp)).2.1)
  have h3 := sumL_bd8 (f := ptM b) hlen (fun p hp => (fr_bds hb (hm p hp)).2.2)
  unfold frR frQ frM
  omega
theorem frR_succ {b : Bm} {l : List Pt} {S : Int} {k : Nat} (h : k < l.length) : frR b (l.take (k + 1)) S = frR b (l.take k) S + ptR b l[k] := by unfold frR; rw [sumL_take_succ _ _ h]; omega
theorem frQ_succ {b : Bm} {l : List Pt} {S : Int} {k : Nat} (h : k < l.length) : frQ b (l.take (k + 1)) S = frQ b (l.take k) S + ptQ b l[k] := by unfold frQ; rw [sumL_take_succ _ _ h]; omega
theorem frM_succ {b : Bm} {l : List Pt} {S : Int} {k : Nat} (h : k < l.length) : frM b (l.take (k + 1)) S = frM b (l.take k) S + ptM b l[k] := by unfold frM; rw [sumL_take_succ _ _ h]; omega
theorem run_indexF (x y z i v : Int) (h : (i = 0 ∧ v = x) ∨ (i = 1 ∧ v = y) ∨ (i = 2 ∧ v = z)) (w : World) :
    (Instr.index 151 (.agg #[.int .i64 x, .int .i64 y, .int .i64 z]) (.int .i64 i)).run Try.prog w = .ok (.int .i64 v) w := by
  rcases h with ⟨rfl, rfl⟩ | ⟨rfl, rfl⟩ | ⟨rfl, rfl⟩ <;> kernel_rfl
def frV3 (x y z : Int) : Value := .agg #[.int .i64 x, .int .i64 y, .int .i64 z]
set_option maxHeartbeats 8000000 in
set_option maxRecDepth 20000 in
theorem reactions_any {b : Bm} {A : Option Addr} {n c : Nat} {S : Int} {l : List Pt} (hb : BmOk b) (hl : WtOk b.s l S) (w : World) (h : PtRow w A n l) :
    Calls Try.prog 91 #[bmV b, buV A n c S] w fun e w' => e = .returned (frV3 (frR b l S) (frQ b l S) (frM b l S)) ∧ Below w.heap.size w w' := by
  have HR := Lib.hid h
  have hle : l.length ≤ n := by have := h.1; omega
  have hge : n ≤ l.length := by have := h.1; omega
  have hn8 : n ≤ 8 := by have := hl.len; omega
  have HWT := Lib.hid hl
  have HBM := Lib.hid hb
  have SP := fun wx => Lib.hid (toSpread_any hb hl.S0 hl.S1 wx)
  have HBD := Lib.hid (fr_take_bd hb hl)
  have HE : Hid (frR b l S = frR b (l.take n) S ∧ frQ b l S = frQ b (l.take n) S ∧ frM b l S = frM b (l.take n) S) := Lib.hid (by rw [List.take_of_length_le hle]; exact ⟨rfl, rfl, rfl⟩)
  have H0 : Hid (spR b S = frR b (l.take 0) S ∧ spQ b S = frQ b (l.take 0) S ∧ spM b S = frM b (l.take 0) S) := Lib.hid (by unfold frR frQ frM; simp [sumL])
  have TP := fun (p : Pt) (hp : PtOk b.s p) wx => Lib.hid (toPoint_any hb hp wx)
  clear h hl hb
  unfold buV frV3
  have hbv : bmV b = .agg #[.int .i64 b.s, .int .i64 b.w, .int .i64 b.t, .int .i64 b.e] := rfl
  rw [hbv] at SP TP ⊢
  clear hbv
  obtain ⟨r0, hr0⟩ : ∃ x, spR b S = x := ⟨_, rfl⟩
  obtain ⟨q0, hq0⟩ : ∃ x, spQ b S = x := ⟨_, rfl⟩
  obtain ⟨m0, hm0⟩ : ∃ x, spM b S = x := ⟨_, rfl⟩
  rw [hr0, hq0, hm0] at SP H0
  clear hr0 hq0 hm0
  go_enter Try.func91, Try.ntmps91
  go_upto_region 2 with (go_at_call 140; (refine Calls.mono (SP _).out ?_); rintro e w1 ⟨rfl, hb1⟩)
  have hz1 := hb1.size
  simp at hz1
  have hB1 : Hid (Below w.heap.size w w1) := Lib.hid ((((((Below.refl _ _).alloc (Nat.le_refl _) _).alloc (by simp) _).alloc (by simp; try omega) _)).trans (hb1.mono (by simp; omega)))
  have HC := Lib.hid (fun wx (hbx : Below w1.heap.size w1 wx) => (show (wx.cell? ⟨w.heap.size, 0, none⟩ = some (.int .i64 b.s) ∧ wx.cell? ⟨w.heap.size, 0 + 1, none⟩ = some (.int .i64 b.w) ∧ wx.cell? ⟨w.heap.size, 0 + 2, none⟩ = some (.int .i64 b.t) ∧ wx.cell? ⟨w.heap.size, 0 + 3, none⟩ = some (.int .i64 b.e)) ∧ wx.cell? ⟨w.heap.size + 1, 0, none⟩ = some (.slice A n c) from by
    have k := (bcell hbx).1
    have k1 := (bcell hb1).1
    exact ⟨⟨(k _ _ (by omega)).trans ((k1 _ _ (by simp; omega)).trans (by simp [go_sem])), (k _ _ (by omega)).trans ((k1 _ _ (by simp; omega)).trans (by simp [go_sem])), (k _ _ (by omega)).trans ((k1 _ _ (by simp; omega)).trans (by simp [go_sem])), (k _ _ (by omega)).trans ((k1 _ _ (by simp; omega)).trans (by simp [go_sem]))⟩, (k _ _ (by omega)).trans ((k1 _ _ (by simp; try omega)).trans (by simp [go_sem]))⟩))
  have hres : Hid (∀ k, k < 3 → w1.cell? ⟨w.heap.size + 2, k, none⟩ = some (.int .i64 0) ∧ w1.frozen? ⟨w.heap.size + 2, k, none⟩ = false) := Lib.hid (fun k hk => by
    obtain ⟨k1, k2⟩ := bcell hb1
    match k, hk with
    | 0, _ => exact ⟨(k1 _ _ (by simp)).trans (by simp [go_sem]), (k2 _ _ (by simp)).trans (by simp [go_sem])⟩
    | 1, _ => exact ⟨(k1 _ _ (by simp)).trans (by simp [go_sem]), (k2 _ _ (by simp)).trans (by simp [go_sem])⟩
    | 2, _ => exact ⟨(k1 _ _ (by simp)).trans (by simp [go_sem]), (k2 _ _ (by simp)).trans (by simp [go_sem])⟩)
  have HQ : Hid ((w1.alloc (.cells #[.int .i64 r0, .int .i64 q0, .int .i64 m0] 151)).cell? ⟨w1.heap.size, 0, none⟩ = some (.int .i64 r0) ∧ (w1.alloc (.cells #[.int .i64 r0, .int .i64 q0, .int .i64 m0] 151)).cell? ⟨w1.heap.size, 1, none⟩ = some (.int .i64 q0) ∧ (w1.alloc (.cells #[.int .i64 r0, .int .i64 q0, .int .i64 m0] 151)).cell? ⟨w1.heap.size, 2, none⟩ = some (.int .i64 m0) ∧ (∀ k, (w1.alloc (.cells #[.int .i64 r0, .int .i64 q0, .int .i64 m0] 151)).frozen? ⟨w1.heap.size, k, none⟩ = false) ∧ Below w1.heap.size w1 (w1.alloc (.cells #[.int .i64 r0, .int .i64 q0, .int .i64 m0] 151))) := Lib.hid (by
    refine ⟨by simp [go_sem], by simp [go_sem], by simp [go_sem], fun k => by simp [go_sem], (Below.refl _ _).alloc (Nat.le_refl _) _⟩)
  have hw2 := (HC.out _ HQ.out.2.2.2.2).2
  obtain ⟨w2, he2⟩ : ∃ w2, w1.alloc (.cells #[.int .i64 r0, .int .i64 q0, .int .i64 m0] 151) = w2 := ⟨_, rfl⟩
  rw [he2] at HQ hw2 ⊢
  clear he2 hb1
  generalize hB : w1.heap.size = B at *
  go_wp2
  go_loopw [17] (fun i wr => ∃ k : Nat, k ≤ n ∧ i = .int .i64 k ∧ wr.cell? ⟨B, 0, none⟩ = some (.int .i64 (frR b (l.take k) S)) ∧ wr.cell? ⟨B, 1, none⟩ = some (.int .i64 (frQ b (l.take k) S)) ∧ wr.cell? ⟨B, 2, none⟩ = some (.int .i64 (frM b (l.take k) S)) ∧ (∀ j, wr.frozen? ⟨B, j, none⟩ = false) ∧ Below B w1 wr) (fun i _ => n - (intOf i).toNat)
  case atStart =>
    obtain ⟨q1, q2, q3, q4, q5⟩ := HQ.out
    obtain ⟨h1, h2, h3⟩ := H0.out
    exact ⟨0, Nat.zero_le _, rfl, by rw [← h1]; exact q1, by rw [← h2]; exact q2, by rw [← h3]; exact q3, q4, q5⟩
  case round =>
    obtain ⟨k, hk, rfl, hq0, hq1, hq2, hqf, hbw⟩ := hrel
    by_cases hlt : k < n
    · have hkl : k < l.length := by omega
      have HB := Lib.hid hbw
      obtain ⟨⟨c0, c1, c2, c3⟩, c4⟩ := HC.out wr hbw
      have HBW := Lib.hid (hB1.out.trans (hbw.mono (by omega)))
      clear hbw
      obtain ⟨blk, off, rfl, hblk, hx⟩ := HR.out.2 (by omega)
      obtain ⟨hp0, hp1⟩ := (hx k hkl).below HBW.out hblk
      have hpo := HWT.out.pt l[k] (List.getElem_mem hkl)
      have HS := Lib.hid (And.intro (frR_succ (b := b) (S := S) hkl) (And.intro (frQ_succ (b := b) (S := S) hkl) (frM_succ (b := b) (S := S) hkl)))
      obtain ⟨f1, f2, f3⟩ := fr_bds HBM.out hpo
      obtain ⟨g1, g2, g3⟩ := HBD.out k
      obtain ⟨p, hpe⟩ : ∃ x, l[k] = x := ⟨_, rfl⟩
      rw [hpe] at hp0 hp1 hpo HS f1 f2 f3
      clear hx hpe
      have TPP := fun wx => TP p hpo wx
      obtain ⟨a, v⟩ := p
      simp only at hp0 hp1 TPP
      generalize hrp : ptR b ⟨a, v⟩ = rp at *
      generalize hqp : ptQ b ⟨a, v⟩ = qp at *
      generalize hmp : ptM b ⟨a, v⟩ = mp at *
      generalize frR b (List.take k l) S = rk at *
      generalize frQ b (List.take k l) S = qk at *
      generalize frM b (List.take k l) S = mk at *
      clear hrp hqp hmp
      have r1 : -2000000000000 ≤ rk ∧ rk ≤ 2000000000000 ∧ -2000000000000 ≤ qk ∧ qk ≤ 2000000000000 ∧ -2000000000000 ≤ mk ∧ mk ≤ 2000000000000 := by omega
      have r2 : -2000000000000 ≤ rp ∧ rp ≤ 2000000000000 ∧ -2000000000000 ≤ qp ∧ qp ≤ 2000000000000 ∧ -2000000000000 ≤ mp ∧ mp ≤ 2000000000000 := by omega
      clear f1 f2 f3 g1 g2 g3
      have hwl : B < wr.heap.size := World.block_lt_of_cell? wr _ hq0
      have hl0 : w.heap.size < wr.heap.size := by omega
      have hl1 : w.heap.size + 1 < wr.heap.size := by omega
      have hl2 : blk < wr.heap.size := by omega
      go_upto_block 6 with (go_at_call 141; (refine Calls.mono (TPP _).out ?_); rintro e w3 ⟨rfl, hb3⟩)
      have hz3 := hb3.size
      simp at hz3
      obtain ⟨k3, f3⟩ := bcell hb3
      have y0 : w3.cell? ⟨B, 0, none⟩ = some (.int .i64 rk) := (k3 _ _ (by simp; omega)).trans ((World.cell?_alloc_lt _ _ _ hwl).trans hq0)
      have y1 : w3.cell? ⟨B, 1, none⟩ = some (.int .i64 qk) := (k3 _ _ (by simp; omega)).trans ((World.cell?_alloc_lt _ _ _ hwl).trans hq1)
      have y2 : w3.cell? ⟨B, 2, none⟩ = some (.int .i64 mk) := (k3 _ _ (by simp; omega)).trans ((World.cell?_alloc_lt _ _ _ hwl).trans hq2)
      have y3 : Hid (∀ j, w3.frozen? ⟨B, j, none⟩ = false) := Lib.hid (fun j => (f3 _ _ (by simp; omega)).trans (by rw [← hqf j]; exact ((Below.refl wr.heap.size wr).alloc (Nat.le_refl _) _).frozen (p := ⟨B, j, none⟩) hwl))
      have HB3 : Hid (Below B w1 w3) := Lib.hid ((HB.out.alloc (by omega) _).trans (hb3.mono (by simp; omega)))
      have Y0 := Lib.hid y0; have Y1 := Lib.hid y1; have Y2 := Lib.hid y2
      clear hb3 k3 f3 hq0 hq1 hq2 hqf c0 c1 c2 c3 c4 hp0 hp1 y0 y1 y2
      go_loopw [8, 9, 27] (fun _ _ i wq => ∃ j : Nat, j ≤ 3 ∧ i = .int .i64 j ∧ wq.cell? ⟨B, 0, none⟩ = some (.int .i64 (bif decide (0 < j) then rk + rp else rk)) ∧ wq.cell? ⟨B, 1, none⟩ = some (.int .i64 (bif decide (1 < j) then qk + qp else qk)) ∧ wq.cell? ⟨B, 2, none⟩ = some (.int .i64 (bif decide (2 < j) then mk + mp else mk)) ∧ (∀ j, wq.frozen? ⟨B, j, none⟩ = false) ∧ Below B w1 wq) (fun _ _ i _ => 3 - (intOf i).toNat)
      case atStart => exact ⟨0, by omega, rfl, Y0.out, Y1.out, Y2.out, y3.out, HB3.out⟩
      case round =>
        obtain ⟨j, hj, rfl, z0, z1, z2, zf, hbq⟩ := hrel
        have HBQ := Lib.hid hbq
        clear hbq
        have IX0 := run_indexF rp qp mp _ _ (.inl ⟨rfl, rfl⟩)
        have IX1 := run_indexF rp qp mp _ _ (.inr (.inl ⟨rfl, rfl⟩))
        have IX2 := run_indexF rp qp mp _ _ (.inr (.inr ⟨rfl, rfl⟩))
        obtain rfl | rfl | rfl | rfl : j = 0 ∨ j = 1 ∨ j = 2 ∨ j = 3 := by omega
        · replace z0 : wr.cell? ⟨B, 0, none⟩ = some (.int .i64 (rk)) := z0
          replace z1 : wr.cell? ⟨B, 1, none⟩ = some (.int .i64 (qk)) := z1
          replace z2 : wr.cell? ⟨B, 2, none⟩ = some (.int .i64 (mk)) := z2
          go_wp2
          exact ⟨⟨1, by omega, rfl, World.cell?_setCell_same _ _ _ z0, (World.cell?_setCell_other _ _ _ _ (by simp)).trans z1, (World.cell?_setCell_other _ _ _ _ (by simp)).trans z2, fun q => by rw [World.frozen?_setCell]; exact zf q, HBQ.out.setCell (Nat.le_refl _) _⟩, by simp [intOf]⟩
        · replace z0 : wr.cell? ⟨B, 0, none⟩ = some (.int .i64 (rk + rp)) := z0
          replace z1 : wr.cell? ⟨B, 1, none⟩ = some (.int .i64 (qk)) := z1
          replace z2 : wr.cell? ⟨B, 2, none⟩ = some (.int .i64 (mk)) := z2
          go_wp2
          exact ⟨⟨2, by omega, rfl, (World.cell?_setCell_other _ _ _ _ (by simp)).trans z0, World.cell?_setCell_same _ _ _ z1, (World.cell?_setCell_other _ _ _ _ (by simp)).trans z2, fun q => by rw [World.frozen?_setCell]; exact zf q, HBQ.out.setCell (Nat.le_refl _) _⟩, by simp [intOf]⟩
        · replace z0 : wr.cell? ⟨B, 0, none⟩ = some (.int .i64 (rk + rp)) := z0
          replace z1 : wr.cell? ⟨B, 1, none⟩ = some (.int .i64 (qk + qp)) := z1
          replace z2 : wr.cell? ⟨B, 2, none⟩ = some (.int .i64 (mk)) := z2
          go_wp2
          exact ⟨⟨3, by omega, rfl, (World.cell?_setCell_other _ _ _ _ (by simp)).trans z0, (World.cell?_setCell_other _ _ _ _ (by simp)).trans z1, World.cell?_setCell_same _ _ _ z2, fun q => by rw [World.frozen?_setCell]; exact zf q, HBQ.out.setCell (Nat.le_refl _) _⟩, by simp [intOf]⟩
        · replace z0 : wr.cell? ⟨B, 0, none⟩ = some (.int .i64 (rk + rp)) := z0
          replace z1 : wr.cell? ⟨B, 1, none⟩ = some (.int .i64 (qk + qp)) := z1
          replace z2 : wr.cell? ⟨B, 2, none⟩ = some (.int .i64 (mk + mp)) := z2
          obtain ⟨e1, e2, e3⟩ := HS.out
          go_wp2
          go_roundw
          case rel => exact ⟨k + 1, by omega, by go_num, by rw [e1]; exact z0, by rw [e2]; exact z1, by rw [e3]; exact z2, zf, HBQ.out⟩
          case measure => simp [intOf]; omega
    · obtain rfl : k = n := by omega
      obtain ⟨e1, e2, e3⟩ := HE.out
      rw [← e1] at hq0
      rw [← e2] at hq1
      rw [← e3] at hq2
      have E1 := Lib.hid e1; have E2 := Lib.hid e2; have E3 := Lib.hid e3
      clear e1 e2 e3
      have k9 := bcell (hB ▸ hbw : Below w1.heap.size w1 wr)
      have p0 := (k9.1 (w.heap.size + 2) 0 (by omega)).trans (hres.out 0 (by omega)).1
      have p1 := (k9.1 (w.heap.size + 2) 1 (by omega)).trans (hres.out 1 (by omega)).1
      have p2 := (k9.1 (w.heap.size + 2) 2 (by omega)).trans (hres.out 2 (by omega)).1
      have g0 := (k9.2 (w.heap.size + 2) 0 (by omega)).trans (hres.out 0 (by omega)).2
      have g1 := (k9.2 (w.heap.size + 2) 1 (by omega)).trans (hres.out 1 (by omega)).2
      have g2 := (k9.2 (w.heap.size + 2) 2 (by omega)).trans (hres.out 2 (by omega)).2
      have HBW := Lib.hid (hB1.out.trans (hbw.mono (by omega)))
      clear k9 hbw
      obtain ⟨rr, hrr⟩ : ∃ x, frR b l S = x := ⟨_, rfl⟩
      obtain ⟨qq, hqq⟩ : ∃ x, frQ b l S = x := ⟨_, rfl⟩
      obtain ⟨mm, hmm⟩ : ∃ x, frM b l S = x := ⟨_, rfl⟩
      rw [hrr] at hq0
      rw [hqq] at hq1
      rw [hmm] at hq2
      have HRR := Lib.hid hrr; have HQQ := Lib.hid hqq; have HMM := Lib.hid hmm
      clear hrr hqq hmm
      go_wp2
      refine bodyPost_ret (v := .agg #[.int .i64 rr, .int .i64 qq, .int .i64 mm]) (by simp [results, Try.results91, go_sem, p0, p1, p2]) rfl ⟨by rw [HRR.out, HQQ.out, HMM.out], ?_⟩
      exact ((HBW.out.setCell (by simp; omega) _).setCell (by simp; omega) _).setCell (by simp; omega) _
end Go.Proofs.Ytablphoicidlkaa
