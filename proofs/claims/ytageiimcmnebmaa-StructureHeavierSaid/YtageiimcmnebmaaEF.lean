/- Heavier weights: the reference. -/
import Derived.Test.YtageiimcmnebmaaEE
import Derived.Test.YtageiimcmnebmaaCA
import Derived.Test.YtageiimcmnebmaaSX
import Derived.Test.YtageiimcmnebmaaBG
namespace Go.Proofs.Ytageiimcmnebmaa
open Go.RowKit

theorem set_belowP {w : World} {base : Nat} {v : Value} {n : Nat} {xs : List Value} (h : w.ownsRow base 90 2 v n xs) {a : Addr} (ha : a.block < base) (u : Value) : (w.setCell a u).ownsRow base 90 2 v n xs := by
  refine ⟨h.1, ?_⟩
  rcases h.2 with h0 | ⟨g, cap, cur, e, hb, hh, hr⟩
  · exact .inl h0
  · refine .inr ⟨g, cap, cur, e, hb, ?_, hr⟩
    have hne : a.block ≠ g := by omega
    simp only [World.setCell, Array.getElem?_modify]
    rw [if_neg hne]
    exact hh
theorem wpSeq_append_pts {w : World} {rest : List Oper} {o : Oper} {a : Act} {Q : Exit → Act → World → Prop} (s x : Operand)
    (ho : o.op = .call { callee := .builtin .append, args := #[s, x], argTypes := #[24, 24] })
    {base : Nat} {v : Value} {n m c : Nat} {xs : List Value} {A : Option Addr} {l : List Pt} (hs : a.eval s = v) (hx : a.eval x = .slice A m c) (hown : w.ownsRow base 90 2 v n xs) (hrow : PtRow w A m l) (hlen : n + m ≤ 1000000) (hbase : base ≤ w.heap.size)
    (h : ∀ v' w', w'.ownsRow base 90 2 v' (n + m) (xs ++ flatP l) → Below base w w' → w.heap.size ≤ w'.heap.size → wpSeq Try.prog Q rest (a.put o.dst v') w') :
    wpSeq Try.prog Q (o :: rest) a w := by
  obtain ⟨v', w', hr, h2, h3, h5⟩ := run_append_pts (c := c) o.type hown hrow hlen hbase
  show o.wp _ a w _ _
  unfold Oper.wp execOp
  simp only [ho, resolve, invoke, builtin, Sem.run_bind, Sem.run_pure, Result.andThen_ok, List.map_toArray, List.map_cons, List.map_nil, hs, hx, hr]
  exact h v' w' h2 (below_ownP (Below.refl base w) hbase hown h3) h3.size
theorem flatP_append (a b : List Pt) : flatP (a ++ b) = flatP a ++ flatP b := by
  induction a with
  | nil => rfl
  | cons p r ih => show _ :: _ :: flatP (r ++ b) = _; rw [ih]; rfl
theorem take_stepP {p x : Int} {k : Nat} {l : List Pt} {q : Pt} (hk : k < l.length) (hq : l[k] = q) (hx : hvI q.n p = x) : flatP ((l.take (k + 1)).map (hvP p)) = flatP ((l.take k).map (hvP p)) ++ flatP [⟨q.a, x⟩] := by
  rw [List.take_succ_eq_append_getElem hk, List.map_append, flatP_append, hq, ← hx]
  rfl
theorem ptrow_newq (w : World) (p : Pt) (t : TypeId) : PtRow (w.alloc (.cells #[.int .i64 p.a, .int .i64 p.n] t)) (some ⟨w.heap.size, 0, none⟩) 1 [p] := by
  refine ⟨rfl, fun _ => ⟨w.heap.size, 0, rfl, by simp, fun k hk => ?_⟩⟩
  have hk0 : k = 0 := by simp at hk; omega
  subst hk0
  exact ⟨by simp [go_sem], by simp [go_sem]⟩
def rRowQ (p : Pt) : RK := ⟨fun v w => ∃ b, v = .slice (some ⟨b, 0, none⟩) 1 1 ∧ PtRow w (some ⟨b, 0, none⟩) 1 [p], fun _ _ _ hb ⟨b, e, h⟩ => ⟨b, e, h.below hb⟩⟩
theorem rstep_rowq {P : Program} {Q : Exit → Act → World → Prop} {L : List RK} {i : Nat} {o : Oper} {a : Act} {w : World} {p : Pt} {t : TypeId} (hr : (execOp a.eval o).run P w = .ok (.value (.slice (some ⟨w.heap.size, 0, none⟩) 1 1)) (w.alloc (.cells #[.int .i64 p.a, .int .i64 p.n] t))) (hL : L.getD i rAny = rRowQ p) :
    o.wp P a w (fun a' w' => ∃ v, a' = a.put o.dst v ∧ Below w.heap.size w w' ∧ rkF L i v w') Q := by
  unfold Oper.wp
  rw [hr]
  exact ⟨_, rfl, (Below.refl _ _).alloc (Nat.le_refl _) _, by unfold rkF; rw [hL]; exact ⟨_, rfl, ptrow_newq w p t⟩⟩
/-- Ahead of the k-th weight. -/
def RefI (w0 : World) (pH n : Nat) (l : List Pt) (hS p : Int) (i : Value) (wr : World) : Prop := ∃ (k : Nat) (v : Value), k ≤ n ∧ i = .int .i64 k ∧ Below w0.heap.size w0 wr ∧ wr.cell? ⟨pH, 0, none⟩ = some v ∧ wr.cell? ⟨pH, 1, none⟩ = some (.int .i64 hS) ∧ wr.frozen? ⟨pH, 0, none⟩ = false ∧ pH + 1 ≤ wr.heap.size ∧ wr.ownsRow (pH + 1) 90 2 v k (flatP ((l.take k).map (hvP p)))
set_option maxHeartbeats 8000000 in
set_option maxRecDepth 20000 in
theorem rheavier_any {A : Option Addr} {n c : Nat} {S p : Int} {l : List Pt} (hn : n ≤ 999999) (w : World) (h : PtRow w A n l) :
    Calls Try.prog 45 #[buV A n c S, .int .i64 p] w fun e w' => HvOut l S p w e w' := by
  have HR := Lib.hid h
  have hle : l.length ≤ n := by have := h.1; omega
  have hge : n ≤ l.length := by have := h.1; omega
  have CW := Lib.hid (fun wx (hx : Below w.heap.size w wx) => rweights_any (c := c) (S := S) (span := 2000) wx (h.below hx) (by unfold maxLen; omega))
  have WI := fun wx => Lib.hid (within_any p 1000 5000 wx)
  have CE := Lib.hid (fun wx A c (h : PtRow wx A n (l.map (hvP p))) => rweights_any (c := c) (S := hvI S p) (span := 2000) wx h (by unfold maxLen; omega))
  have HV0 : Hid (wtsE 2000 l S ≠ 0 → hvR l S p = (wtsE 2000 l S, 0, [])) := Lib.hid (fun h => by
    have e : hvE l S p = wtsE 2000 l S := by unfold hvE; rw [firstE_cons, show (wtsE 2000 l S == 0) = false from by simpa using h]; rfl
    unfold hvR; rw [e, if_neg h])
  have HV3 : Hid (wtsE 2000 l S = 0 → wiB p 1000 5000 = false → hvR l S p = (2, 0, [])) := Lib.hid (fun h h2 => by
    have e : hvE l S p = 2 := by unfold hvE; rw [h, rng_wi, h2]; rfl
    unfold hvR; rw [e, if_neg (by decide)])
  have HOK : Hid (wtsE 2000 l S = 0 → wiB p 1000 5000 = true → hvE l S p = 0) := Lib.hid (fun h h2 => by unfold hvE; rw [h, rng_wi, h2]; rfl)
  have HOK2 := Lib.hid (fun h : hvE l S p = 0 => hvE_ok.1 h)
  have HV1 : Hid (hvE l S p = 0 → wtsE 2000 (l.map (hvP p)) (hvI S p) = 0 → hvR l S p = (0, hvI S p, l.map (hvP p))) := Lib.hid (fun h h2 => by unfold hvR; rw [if_pos h, if_pos h2])
  have HV2 : Hid (hvE l S p = 0 → wtsE 2000 (l.map (hvP p)) (hvI S p) ≠ 0 → hvR l S p = (8, 0, [])) := Lib.hid (fun h h2 => by unfold hvR; rw [if_pos h, if_neg h2])
  have MU := Lib.hid (fun x (h0 : Int.natAbs x ≤ 20000) (h1 : 0 ≤ p) (h2 : p ≤ 5000) wx => rheavy_any (n := x) h0 h1 h2 wx)
  clear h
  unfold HvOut
  generalize wtsE 2000 l S = e1 at *
  generalize wiB p 1000 5000 = wb at *
  generalize hvE l S p = ee at *
  generalize hvR l S p = RR at *
  obtain ⟨hS, hSV⟩ : ∃ x, hvI S p = x := ⟨_, rfl⟩
  rw [hSV] at CE HV1 HV2
  have HSV := Lib.hid hSV
  clear hSV
  unfold buV at *
  go_enter Try.func45, Try.ntmps45
  go_upto_region 1 with fail
  obtain ⟨w0, hw0⟩ : ∃ w0, ((w.alloc (.cells #[.slice A n c, .int .i64 S] 26)).alloc (.cells #[.slice none 0 0, .int .i64 0] 26)) = w0 := ⟨_, rfl⟩
  have HB0 : Hid (Below w.heap.size w w0) := Lib.hid (by rw [← hw0]; exact (((Below.refl _ _).alloc (Nat.le_refl _) _).alloc (by simp; try omega) _))
  have HC := Lib.hid (fun wx (hb : Below w0.heap.size w0 wx) => (show wx.cell? ⟨w.heap.size, 0, none⟩ = some (.slice A n c) ∧ wx.cell? ⟨w.heap.size, 1, none⟩ = some (.int .i64 S) ∧ wx.cell? ⟨w.heap.size + 1, 0, none⟩ = some (.slice none 0 0) ∧ wx.cell? ⟨w.heap.size + 1, 1, none⟩ = some (.int .i64 0) ∧ wx.frozen? ⟨w.heap.size + 1, 0, none⟩ = false ∧ wx.frozen? ⟨w.heap.size + 1, 1, none⟩ = false from by
    subst hw0
    obtain ⟨k, kf⟩ := bcell hb
    exact ⟨(k _ _ (by simp; try omega)).trans (by simp [go_sem]), (k _ _ (by simp; try omega)).trans (by simp [go_sem]), (k _ _ (by simp; try omega)).trans (by simp [go_sem]), (k _ _ (by simp; try omega)).trans (by simp [go_sem]), (kf _ _ (by simp; try omega)).trans (by simp [go_sem]), (kf _ _ (by simp; try omega)).trans (by simp [go_sem])⟩))
  rw [hw0]
  clear hw0
  have HZ0 := Lib.hid (Below.refl w0.heap.size w0)
  obtain ⟨c0, c1, c2, c3, z1_0, z1_1⟩ := HC.out w0 HZ0.out
  go_upto_region 2 with (go_at_call 94; (with_reducible refine Calls.mono (CW.out _ HB0.out) ?_); rintro e w5 ⟨rfl, hb1⟩)
  have H5 := Lib.hid hb1
  clear hb1 CW
  have HBX := Lib.hid (HB0.out.trans (H5.out.mono HB0.out.size))
  clear c0 c1 c2 c3 z1_0 z1_1
  obtain ⟨c0, c1, c2, c3, z1_0, z1_1⟩ := HC.out w5 H5.out
  by_cases he : e1 = 0
  · subst he
    cases wb with
    | false =>
      have HRV := Lib.hid (HV3.out rfl rfl)
      clear HV0 HV1 HV2 HV3 HOK HOK2
      go_wp2_with (go_at_call 32; (with_reducible refine Calls.mono (WI _).out ?_); rintro e w9 ⟨rfl, rfl⟩)
      refine bodyPost_ret (v := .tuple #[.agg #[.slice none 0 0, .int .i64 0], .int .i64 2]) (by simp [results, Try.results45, go_sem, c2, c3]) rfl ⟨none, 0, 0, by rw [HRV.out], by rw [HRV.out]; exact ⟨rfl, fun h => absurd h (by decide)⟩, ?_⟩
      exact (HBX.out.setCell (p := ⟨w.heap.size + 1, 0, none⟩) (by simp) _).setCell (p := ⟨w.heap.size + 1, 1, none⟩) (by simp) _
    | true =>
      obtain rfl := HOK.out rfl rfl
      obtain ⟨hwt, p0, p1⟩ := HOK2.out rfl
      have HS1 := Lib.hid (HV1.out rfl)
      have HS2 := Lib.hid (HV2.out rfl)
      have MS := fun wx => Lib.hid (MU.out S (by have := hwt.S0; have := hwt.S1; omega) (by omega) p1 wx)
      have HN : Hid (∀ q ∈ l, q.n.natAbs ≤ 20000) := Lib.hid (fun q hq => by have := (hwt.pt q hq).n0; have := (hwt.pt q hq).n1; omega)
      rw [HSV.out] at MS
      clear HV0 HV1 HV2 HV3 HOK HOK2 hwt HSV
      go_wp2_with (first | (go_at_call 32; (with_reducible refine Calls.mono (WI _).out ?_); rintro e w9 ⟨rfl, rfl⟩) | (go_at_call 112; (with_reducible refine Calls.mono (MS _).out ?_); rintro e w9 ⟨rfl, rfl⟩) | fail)
      obtain ⟨w4, hw4⟩ : ∃ w4, w5.alloc (.cells #[.slice none 0 0, .int .i64 hS] 26) = w4 := ⟨_, rfl⟩
      have H4 : Hid (Below w0.heap.size w0 w4) := Lib.hid (by rw [← hw4]; exact H5.out.alloc H5.out.size _)
      obtain ⟨pH, hpH⟩ : ∃ x, w5.heap.size = x := ⟨_, rfl⟩
      have hpw : w0.heap.size ≤ pH := by rw [← hpH]; exact H5.out.size
      have HH4 : Hid (RefI w0 pH n l hS p (.int .i64 0) w4) := Lib.hid ⟨0, .slice none 0 0, Nat.zero_le _, rfl, H4.out, by rw [← hw4, ← hpH]; simp [go_sem], by rw [← hw4, ← hpH]; simp [go_sem], by rw [← hw4, ← hpH]; simp [go_sem], by rw [← hw4, ← hpH]; simp, by simpa [flatP] using World.ownsRow_nil w4 (pH + 1) 90 2⟩
      rw [hw4, hpH]
      clear hw4 hpH MS WI
      go_loopw [8] (fun i wr => RefI w0 pH n l hS p i wr) (fun i _ => n - (intOf i).toNat)
      case atStart => exact HH4.out
      case round =>
        obtain ⟨k, vv, hk, rfl, hbw, q0, q1, q2, q3, hO⟩ := hrel
        clear c0 c1 c2 c3 z1_0 z1_1
        have HB := Lib.hid hbw
        have HBW := Lib.hid (HB0.out.trans (hbw.mono HB0.out.size))
        obtain ⟨d0, d1, d2, d3, z1_0, z1_1⟩ := HC.out wr hbw
        have HO := Lib.hid hO
        have HQ := Lib.hid (And.intro q0 (And.intro q1 (And.intro q2 q3)))
        clear hbw hO HH4 q0 q1 q2 q3
        have hk64 : IntKind.i64.wrap (k : Int) = k := i64w (w64 (by omega))
        have hk0 : (0 : Int) ≤ (k : Int) := by omega
        have hnm : n ≤ 9223372036854775807 := by omega
        by_cases hlt : k < n
        · have hkl : k < l.length := by omega
          obtain ⟨blk, off, rfl, hblk, hx⟩ := HR.out.2 (by omega)
          have PP := (hx k hkl).below HBW.out hblk
          have hnv := HN.out _ (List.getElem_mem hkl)
          obtain ⟨pt, hpe⟩ : ∃ x, l[k] = x := ⟨_, rfl⟩
          rw [hpe] at PP hnv
          obtain ⟨a, v⟩ := pt
          unfold PtAt at PP
          simp only at PP hnv
          have MV := fun wx => Lib.hid (MU.out v hnv (by omega) p1 wx)
          obtain ⟨hv, hhv⟩ : ∃ x, hvI v p = x := ⟨_, rfl⟩
          rw [hhv] at MV
          have HST := Lib.hid (take_stepP (p := p) (x := hv) hkl hpe hhv)
          have hblk2 : blk < wr.heap.size := Nat.lt_of_lt_of_le hblk HBW.out.size
          clear hhv hpe hnv hx MU HN HS1 HS2 CE
          have hki : (k : Int) < (n : Int) := by omega
          have HCR := Lib.hid (fun wx (hb : Below wr.heap.size wr wx) => let h := HC.out wx (HB.out.trans (hb.mono HB.out.size)); And.intro h.1 (And.intro (((bcell hb).1 _ _ HQ.out.2.2.2).trans HQ.out.1) (And.intro (((bcell hb).1 _ _ hblk2).trans PP.1) (((bcell hb).1 _ _ hblk2).trans PP.2))))
          go_wp2
          refine wp_region_tail [31, 32, 33, 34, 35, 36, 37, 38, 39, 40, 41, 42, 43, 44, 45, 46, 47, 48] [rEq (.pointer (some ⟨pH, 0, none⟩)), rEq (vv), rEq (.pointer (some ⟨w.heap.size, 0, none⟩)), rEq (.slice (some ⟨blk, off, none⟩) n c), rEq (.int .i64 (k : Int)), rEq (.pointer (some ⟨blk, off + k * 2, none⟩)), rEq (.pointer (some ⟨blk, off + k * 2, none⟩)), rEq (.int .i64 a), rEq (.pointer (some ⟨w.heap.size, 0, none⟩)), rEq (.slice (some ⟨blk, off, none⟩) n c), rEq (.int .i64 (k : Int)), rEq (.pointer (some ⟨blk, off + k * 2, none⟩)), rEq (.pointer (some ⟨blk, off + k * 2 + 1, none⟩)), rEq (.int .i64 v), rEq (.int .i64 p), rEq (.int .i64 hv), rEq (.agg #[.int .i64 a, .int .i64 hv]), (rRowQ ⟨a, hv⟩)] (by kernel_rfl) (by kernel_rfl) (by decide) (by decide +kernel) ⟨?_, ?_, ?_, ?_, ?_, ?_, ?_, ?_, ?_, ?_, ?_, ?_, ?_, ?_, ?_, ?_, ?_, ?_, trivial⟩ ?_
          · intro ac wx hf hb hd -- 0
            have f7 : ac.tmps[7]?.getD undef = .pointer (some ⟨pH, 0, none⟩) := by rw [← Array.getD_eq_getD_getElem?]; exact hf.same 7 (by decide)
            exact rstep_eq (by simp [execOp, Act.eval, f7, go_sem]) rfl
          · intro ac wx hf hb hd -- 1
            have d0 : ac.tmps[31]?.getD undef = .pointer (some ⟨pH, 0, none⟩) := by rw [← Array.getD_eq_getD_getElem?]; exact hd 0 (by decide)
            obtain ⟨c0, q0, e0, e1⟩ := HCR.out wx hb
            exact rstep_eq (by simp [execOp, Act.eval, d0, q0, go_sem]) rfl
          · intro ac wx hf hb hd -- 2
            have f2 : ac.tmps[2]?.getD undef = .pointer (some ⟨w.heap.size, 0, none⟩) := by rw [← Array.getD_eq_getD_getElem?]; exact hf.same 2 (by decide)
            exact rstep_eq (by simp [execOp, Act.eval, f2, go_sem]) rfl
          · intro ac wx hf hb hd -- 3
            have d2 : ac.tmps[33]?.getD undef = .pointer (some ⟨w.heap.size, 0, none⟩) := by rw [← Array.getD_eq_getD_getElem?]; exact hd 2 (by decide)
            obtain ⟨c0, q0, e0, e1⟩ := HCR.out wx hb
            exact rstep_eq (by simp [execOp, Act.eval, d2, c0, go_sem]) rfl
          · intro ac wx hf hb hd -- 4
            have f8 : ac.tmps[8]?.getD undef = .int .i64 (k : Int) := by rw [← Array.getD_eq_getD_getElem?]; exact hf.same 8 (by decide)
            exact rstep_eq (by simp [execOp, Act.eval, f8, go_sem]) rfl
          · intro ac wx hf hb hd -- 5
            have d3 : ac.tmps[34]?.getD undef = .slice (some ⟨blk, off, none⟩) n c := by rw [← Array.getD_eq_getD_getElem?]; exact hd 3 (by decide)
            have d4 : ac.tmps[35]?.getD undef = .int .i64 (k : Int) := by rw [← Array.getD_eq_getD_getElem?]; exact hd 4 (by decide)
            exact rstep_eq (by simp [execOp, Act.eval, d3, d4, hki, hk0, go_sem]) rfl
          · intro ac wx hf hb hd -- 6
            have d5 : ac.tmps[36]?.getD undef = .pointer (some ⟨blk, off + k * 2, none⟩) := by rw [← Array.getD_eq_getD_getElem?]; exact hd 5 (by decide)
            exact rstep_eq (by simp [execOp, Act.eval, d5, go_sem]) rfl
          · intro ac wx hf hb hd -- 7
            have d6 : ac.tmps[37]?.getD undef = .pointer (some ⟨blk, off + k * 2, none⟩) := by rw [← Array.getD_eq_getD_getElem?]; exact hd 6 (by decide)
            obtain ⟨c0, q0, e0, e1⟩ := HCR.out wx hb
            exact rstep_eq (by simp [execOp, Act.eval, d6, e0, go_sem]) rfl
          · intro ac wx hf hb hd -- 8
            have f2 : ac.tmps[2]?.getD undef = .pointer (some ⟨w.heap.size, 0, none⟩) := by rw [← Array.getD_eq_getD_getElem?]; exact hf.same 2 (by decide)
            exact rstep_eq (by simp [execOp, Act.eval, f2, go_sem]) rfl
          · intro ac wx hf hb hd -- 9
            have d8 : ac.tmps[39]?.getD undef = .pointer (some ⟨w.heap.size, 0, none⟩) := by rw [← Array.getD_eq_getD_getElem?]; exact hd 8 (by decide)
            obtain ⟨c0, q0, e0, e1⟩ := HCR.out wx hb
            exact rstep_eq (by simp [execOp, Act.eval, d8, c0, go_sem]) rfl
          · intro ac wx hf hb hd -- 10
            have f8 : ac.tmps[8]?.getD undef = .int .i64 (k : Int) := by rw [← Array.getD_eq_getD_getElem?]; exact hf.same 8 (by decide)
            exact rstep_eq (by simp [execOp, Act.eval, f8, go_sem]) rfl
          · intro ac wx hf hb hd -- 11
            have d9 : ac.tmps[40]?.getD undef = .slice (some ⟨blk, off, none⟩) n c := by rw [← Array.getD_eq_getD_getElem?]; exact hd 9 (by decide)
            have d10 : ac.tmps[41]?.getD undef = .int .i64 (k : Int) := by rw [← Array.getD_eq_getD_getElem?]; exact hd 10 (by decide)
            exact rstep_eq (by simp [execOp, Act.eval, d9, d10, hki, hk0, go_sem]) rfl
          · intro ac wx hf hb hd -- 12
            have d11 : ac.tmps[42]?.getD undef = .pointer (some ⟨blk, off + k * 2, none⟩) := by rw [← Array.getD_eq_getD_getElem?]; exact hd 11 (by decide)
            exact rstep_eq (by simp [execOp, Act.eval, d11, go_sem]) rfl
          · intro ac wx hf hb hd -- 13
            have d12 : ac.tmps[43]?.getD undef = .pointer (some ⟨blk, off + k * 2 + 1, none⟩) := by rw [← Array.getD_eq_getD_getElem?]; exact hd 12 (by decide)
            obtain ⟨c0, q0, e0, e1⟩ := HCR.out wx hb
            exact rstep_eq (by simp [execOp, Act.eval, d12, e1, go_sem]) rfl
          · intro ac wx hf hb hd -- 14
            have f1 : ac.tmps[1]?.getD undef = .int .i64 p := by rw [← Array.getD_eq_getD_getElem?]; exact hf.same 1 (by decide)
            exact rstep_eq (by simp [execOp, Act.eval, f1, go_sem]) rfl
          · intro ac wx hf hb hd -- 15
            have d13 : ac.tmps[44]?.getD undef = .int .i64 v := by rw [← Array.getD_eq_getD_getElem?]; exact hd 13 (by decide)
            have d14 : ac.tmps[45]?.getD undef = .int .i64 p := by rw [← Array.getD_eq_getD_getElem?]; exact hd 14 (by decide)
            refine rstep_call (f := 112) (args := #[.int .i64 v, .int .i64 p]) (by simp [Act.eval, d13, d14, go_sem]) ?_ rfl
            exact (MV wx).out.mono fun e w' ⟨he, hw⟩ => ⟨he, hw ▸ Below.refl _ _⟩
          · intro ac wx hf hb hd -- 16
            have d7 : ac.tmps[38]?.getD undef = .int .i64 a := by rw [← Array.getD_eq_getD_getElem?]; exact hd 7 (by decide)
            have d15 : ac.tmps[46]?.getD undef = .int .i64 hv := by rw [← Array.getD_eq_getD_getElem?]; exact hd 15 (by decide)
            exact rstep_eq (by simp [execOp, Act.eval, d7, d15, go_sem]) rfl
          · intro ac wx hf hb hd -- 17
            have d16 : ac.tmps[47]?.getD undef = .agg #[.int .i64 a, .int .i64 hv] := by rw [← Array.getD_eq_getD_getElem?]; exact hd 16 (by decide)
            exact rstep_rowq (p := ⟨a, hv⟩) (by simp [execOp, Act.eval, d16, go_sem]; rfl) rfl
          rintro ⟨⟨ll⟩, df⟩ wx hf hbwx hall
          have hdf : df = [] := hf.defers
          subst hdf
          have hsz : ll.length = 56 := hf.size
          obtain ⟨x0, ll0, rfl, hsz0⟩ := cons_of hsz
          obtain ⟨x1, ll1, rfl, hsz1⟩ := cons_of hsz0
          obtain ⟨x2, ll2, rfl, hsz2⟩ := cons_of hsz1
          obtain ⟨x3, ll3, rfl, hsz3⟩ := cons_of hsz2
          obtain ⟨x4, ll4, rfl, hsz4⟩ := cons_of hsz3
          obtain ⟨x5, ll5, rfl, hsz5⟩ := cons_of hsz4
          obtain ⟨x6, ll6, rfl, hsz6⟩ := cons_of hsz5
          obtain ⟨x7, ll7, rfl, hsz7⟩ := cons_of hsz6
          obtain ⟨x8, ll8, rfl, hsz8⟩ := cons_of hsz7
          obtain ⟨x9, ll9, rfl, hsz9⟩ := cons_of hsz8
          obtain ⟨x10, ll10, rfl, hsz10⟩ := cons_of hsz9
          obtain ⟨x11, ll11, rfl, hsz11⟩ := cons_of hsz10
          obtain ⟨x12, ll12, rfl, hsz12⟩ := cons_of hsz11
          obtain ⟨x13, ll13, rfl, hsz13⟩ := cons_of hsz12
          obtain ⟨x14, ll14, rfl, hsz14⟩ := cons_of hsz13
          obtain ⟨x15, ll15, rfl, hsz15⟩ := cons_of hsz14
          obtain ⟨x16, ll16, rfl, hsz16⟩ := cons_of hsz15
          obtain ⟨x17, ll17, rfl, hsz17⟩ := cons_of hsz16
          obtain ⟨x18, ll18, rfl, hsz18⟩ := cons_of hsz17
          obtain ⟨x19, ll19, rfl, hsz19⟩ := cons_of hsz18
          obtain ⟨x20, ll20, rfl, hsz20⟩ := cons_of hsz19
          obtain ⟨x21, ll21, rfl, hsz21⟩ := cons_of hsz20
          obtain ⟨x22, ll22, rfl, hsz22⟩ := cons_of hsz21
          obtain ⟨x23, ll23, rfl, hsz23⟩ := cons_of hsz22
          obtain ⟨x24, ll24, rfl, hsz24⟩ := cons_of hsz23
          obtain ⟨x25, ll25, rfl, hsz25⟩ := cons_of hsz24
          obtain ⟨x26, ll26, rfl, hsz26⟩ := cons_of hsz25
          obtain ⟨x27, ll27, rfl, hsz27⟩ := cons_of hsz26
          obtain ⟨x28, ll28, rfl, hsz28⟩ := cons_of hsz27
          obtain ⟨x29, ll29, rfl, hsz29⟩ := cons_of hsz28
          obtain ⟨x30, ll30, rfl, hsz30⟩ := cons_of hsz29
          obtain ⟨x31, ll31, rfl, hsz31⟩ := cons_of hsz30
          obtain ⟨x32, ll32, rfl, hsz32⟩ := cons_of hsz31
          obtain ⟨x33, ll33, rfl, hsz33⟩ := cons_of hsz32
          obtain ⟨x34, ll34, rfl, hsz34⟩ := cons_of hsz33
          obtain ⟨x35, ll35, rfl, hsz35⟩ := cons_of hsz34
          obtain ⟨x36, ll36, rfl, hsz36⟩ := cons_of hsz35
          obtain ⟨x37, ll37, rfl, hsz37⟩ := cons_of hsz36
          obtain ⟨x38, ll38, rfl, hsz38⟩ := cons_of hsz37
          obtain ⟨x39, ll39, rfl, hsz39⟩ := cons_of hsz38
          obtain ⟨x40, ll40, rfl, hsz40⟩ := cons_of hsz39
          obtain ⟨x41, ll41, rfl, hsz41⟩ := cons_of hsz40
          obtain ⟨x42, ll42, rfl, hsz42⟩ := cons_of hsz41
          obtain ⟨x43, ll43, rfl, hsz43⟩ := cons_of hsz42
          obtain ⟨x44, ll44, rfl, hsz44⟩ := cons_of hsz43
          obtain ⟨x45, ll45, rfl, hsz45⟩ := cons_of hsz44
          obtain ⟨x46, ll46, rfl, hsz46⟩ := cons_of hsz45
          obtain ⟨x47, ll47, rfl, hsz47⟩ := cons_of hsz46
          obtain ⟨x48, ll48, rfl, hsz48⟩ := cons_of hsz47
          obtain ⟨x49, ll49, rfl, hsz49⟩ := cons_of hsz48
          obtain ⟨x50, ll50, rfl, hsz50⟩ := cons_of hsz49
          obtain ⟨x51, ll51, rfl, hsz51⟩ := cons_of hsz50
          obtain ⟨x52, ll52, rfl, hsz52⟩ := cons_of hsz51
          obtain ⟨x53, ll53, rfl, hsz53⟩ := cons_of hsz52
          obtain ⟨x54, ll54, rfl, hsz54⟩ := cons_of hsz53
          obtain ⟨x55, ll55, rfl, hsz55⟩ := cons_of hsz54
          obtain rfl := List.eq_nil_of_length_eq_zero hsz55
          obtain rfl : x0 = _ := hf.same 0 (by decide)
          obtain rfl : x1 = .int .i64 p := hf.same 1 (by decide)
          obtain rfl : x2 = .pointer (some ⟨w.heap.size, 0, none⟩) := hf.same 2 (by decide)
          obtain rfl : x3 = _ := hf.same 3 (by decide)
          obtain rfl : x4 = .pointer (some ⟨w.heap.size + 1, 0, none⟩) := hf.same 4 (by decide)
          obtain rfl : x5 = _ := hf.same 5 (by decide)
          obtain rfl : x6 = _ := hf.same 6 (by decide)
          obtain rfl : x7 = .pointer (some ⟨pH, 0, none⟩) := hf.same 7 (by decide)
          obtain rfl : x8 = .int .i64 (k : Int) := hf.same 8 (by decide)
          obtain rfl : x9 = _ := hf.same 9 (by decide)
          obtain rfl : x10 = _ := hf.same 10 (by decide)
          obtain rfl : x11 = _ := hf.same 11 (by decide)
          obtain rfl : x12 = _ := hf.same 12 (by decide)
          obtain rfl : x13 = _ := hf.same 13 (by decide)
          obtain rfl : x14 = _ := hf.same 14 (by decide)
          obtain rfl : x15 = _ := hf.same 15 (by decide)
          obtain rfl : x16 = _ := hf.same 16 (by decide)
          obtain rfl : x17 = _ := hf.same 17 (by decide)
          obtain rfl : x18 = _ := hf.same 18 (by decide)
          obtain rfl : x19 = _ := hf.same 19 (by decide)
          obtain rfl : x20 = _ := hf.same 20 (by decide)
          obtain rfl : x21 = _ := hf.same 21 (by decide)
          obtain rfl : x22 = _ := hf.same 22 (by decide)
          obtain rfl : x23 = _ := hf.same 23 (by decide)
          obtain rfl : x24 = _ := hf.same 24 (by decide)
          obtain rfl : x25 = _ := hf.same 25 (by decide)
          obtain rfl : x26 = _ := hf.same 26 (by decide)
          obtain rfl : x27 = _ := hf.same 27 (by decide)
          obtain rfl : x28 = _ := hf.same 28 (by decide)
          obtain rfl : x29 = _ := hf.same 29 (by decide)
          obtain rfl : x30 = _ := hf.same 30 (by decide)
          obtain rfl : x31 = .pointer (some ⟨pH, 0, none⟩) := hall 0 31 rfl
          obtain rfl : x32 = vv := hall 1 32 rfl
          obtain rfl : x33 = .pointer (some ⟨w.heap.size, 0, none⟩) := hall 2 33 rfl
          obtain rfl : x34 = .slice (some ⟨blk, off, none⟩) n c := hall 3 34 rfl
          obtain rfl : x35 = .int .i64 (k : Int) := hall 4 35 rfl
          obtain rfl : x36 = .pointer (some ⟨blk, off + k * 2, none⟩) := hall 5 36 rfl
          obtain rfl : x37 = .pointer (some ⟨blk, off + k * 2, none⟩) := hall 6 37 rfl
          obtain rfl : x38 = .int .i64 a := hall 7 38 rfl
          obtain rfl : x39 = .pointer (some ⟨w.heap.size, 0, none⟩) := hall 8 39 rfl
          obtain rfl : x40 = .slice (some ⟨blk, off, none⟩) n c := hall 9 40 rfl
          obtain rfl : x41 = .int .i64 (k : Int) := hall 10 41 rfl
          obtain rfl : x42 = .pointer (some ⟨blk, off + k * 2, none⟩) := hall 11 42 rfl
          obtain rfl : x43 = .pointer (some ⟨blk, off + k * 2 + 1, none⟩) := hall 12 43 rfl
          obtain rfl : x44 = .int .i64 v := hall 13 44 rfl
          obtain rfl : x45 = .int .i64 p := hall 14 45 rfl
          obtain rfl : x46 = .int .i64 hv := hall 15 46 rfl
          obtain rfl : x47 = .agg #[.int .i64 a, .int .i64 hv] := hall 16 47 rfl
          obtain rfl : x49 = _ := hf.same 49 (by decide)
          obtain rfl : x50 = _ := hf.same 50 (by decide)
          obtain rfl : x51 = _ := hf.same 51 (by decide)
          obtain rfl : x52 = _ := hf.same 52 (by decide)
          obtain rfl : x53 = _ := hf.same 53 (by decide)
          obtain rfl : x54 = _ := hf.same 54 (by decide)
          obtain rfl : x55 = _ := hf.same 55 (by decide)
          obtain ⟨b17, hx17, r17⟩ : ∃ b, x48 = .slice (some ⟨b, 0, none⟩) 1 1 ∧ PtRow wx (some ⟨b, 0, none⟩) 1 [⟨a, hv⟩] := hall 17 48 rfl
          subst hx17
          clear hall hf
          clear hsz hsz0 hsz1 hsz2 hsz3 hsz4 hsz5 hsz6 hsz7 hsz8 hsz9 hsz10 hsz11 hsz12 hsz13 hsz14 hsz15 hsz16 hsz17 hsz18 hsz19 hsz20 hsz21 hsz22 hsz23 hsz24 hsz25 hsz26 hsz27 hsz28 hsz29 hsz30 hsz31 hsz32 hsz33 hsz34 hsz35 hsz36 hsz37 hsz38 hsz39 hsz40 hsz41 hsz42 hsz43 hsz44 hsz45 hsz46 hsz47 hsz48 hsz49 hsz50 hsz51 hsz52 hsz53 hsz54 hsz55
          have HBr := Lib.hid (hbwx.mono (Nat.le_refl _))
          have HOx := Lib.hid (HO.out.kept (below_grown5 HBr.out) (own_ne _))
          have q4 := Lib.hid (Nat.le_trans HQ.out.2.2.2 HBr.out.size)
          clear hbwx
          refine wpSeq_append_pts (.tmp 32) (.tmp 48) rfl rfl rfl HOx.out r17 (by omega) q4.out ?_
          intro v' w' hown hbl hsz
          rw [← HST.out] at hown
          obtain ⟨A2, c2, hv2, -⟩ := own_pts hown
          subst hv2
          have s1 := (hbl.cell (p := ⟨pH, 0, none⟩) (Nat.lt_succ_self _)).trans (((bcell HBr.out).1 _ _ HQ.out.2.2.2).trans HQ.out.1)
          have s2 := (hbl.frozen (p := ⟨pH, 0, none⟩) (Nat.lt_succ_self _)).trans (((bcell HBr.out).2 _ _ HQ.out.2.2.2).trans HQ.out.2.2.1)
          have s3 := Lib.hid ((hbl.cell (p := ⟨pH, 1, none⟩) (Nat.lt_succ_self _)).trans (((bcell HBr.out).1 _ _ HQ.out.2.2.2).trans HQ.out.2.1))
          have HOW := Lib.hid hown
          have HSZ := Lib.hid (Nat.le_trans q4.out hsz)
          have HB1 := Lib.hid (((HB.out.trans (HBr.out.mono HB.out.size)).trans (hbl.mono (by omega))).setCell (p := ⟨pH, 0, none⟩) hpw (.slice A2 (k + 1) c2))
          have S1 := Lib.hid s1
          have S2 := Lib.hid s2
          clear hown hbl hsz
          simp [wpSeq_cons, wpSeq_nil, Oper.wp, Oper.upon, execOp, Act.eval, go_sem, s1, s2]
          go_wp2
          go_roundw
          case rel => exact ⟨k + 1, _, by omega, by go_num, HB1.out, World.cell?_setCell_same _ _ _ S1.out, (World.cell?_setCell_other _ _ _ _ (fun h => by injection h with h1 h2 _; exact absurd h2 (by decide))).trans s3.out, by rw [World.frozen?_setCell]; exact S2.out, by simpa using HSZ.out, set_belowP HOW.out (Nat.lt_succ_self _) _⟩
          case measure => simp [intOf]; omega
        · obtain rfl : k = n := by omega
          have hOO := HO.out
          rw [List.take_of_length_le hle] at hOO
          obtain ⟨A', c', hvv, hX⟩ := own_pts hOO
          subst hvv
          have HX := Lib.hid hX
          have CE2 := Lib.hid (CE.out wr A' c' hX)
          have hw0 : w.heap.size + 1 < w0.heap.size := World.block_lt_of_cell? w0 _ (HC.out w0 HZ0.out).2.2.1
          have hfar : Hid (0 < k → ∀ a, A' = some a → a.block ≠ w.heap.size + 1) := Lib.hid (fun h a e => by
            subst e
            have := (hOO.lt a.block rfl).1
            omega)
          clear hOO hX
          obtain ⟨e3, he3⟩ : ∃ x, wtsE 2000 (l.map (hvP p)) hS = x := ⟨_, rfl⟩
          rw [he3] at CE2 HS1 HS2
          clear he3 CE MU HN
          by_cases h3 : e3 = 0
          · subst h3
            have HRV := Lib.hid (HS1.out rfl)
            clear HS1 HS2
            obtain ⟨q0, q1, -, -⟩ := HQ.out
            go_wp2_with (go_at_call 94; (with_reducible refine Calls.mono CE2.out ?_); rintro e w7 ⟨rfl, hb7⟩; have H7 := Lib.hid hb7; clear hb7; obtain ⟨f0, f1, f2, f3, y1_0, y1_1⟩ := HC.out w7 (HB.out.trans (H7.out.mono HB.out.size)); have g0 := ((bcell H7.out).1 _ _ HQ.out.2.2.2).trans HQ.out.1; have g1 := ((bcell H7.out).1 _ _ HQ.out.2.2.2).trans HQ.out.2.1)
            refine bodyPost_ret (v := .tuple #[.agg #[.slice A' k c', .int .i64 hS], .int .i64 0]) (by simp [results, Try.results45, go_sem, f2, f3]) rfl ⟨A', k, c', by rw [HRV.out], by rw [HRV.out]; exact ptrow_other (ptrow_other (HX.out.below H7.out) hfar.out) hfar.out, ?_⟩
            exact ((HBW.out.trans (H7.out.mono HBW.out.size)).setCell (p := ⟨w.heap.size + 1, 0, none⟩) (by simp) _).setCell (p := ⟨w.heap.size + 1, 1, none⟩) (by simp) _
          · have HRV := Lib.hid (HS2.out h3)
            have e1' : (e3 == 0) = false := by simpa using h3
            have e2' : (e3 != 0) = true := by simpa using h3
            clear HS1 HS2
            obtain ⟨q0, q1, -, -⟩ := HQ.out
            go_wp2_with (go_at_call 94; (with_reducible refine Calls.mono CE2.out ?_); rintro e w7 ⟨rfl, hb7⟩; have H7 := Lib.hid hb7; clear hb7; obtain ⟨f0, f1, f2, f3, y1_0, y1_1⟩ := HC.out w7 (HB.out.trans (H7.out.mono HB.out.size)))
            refine bodyPost_ret (v := .tuple #[.agg #[.slice none 0 0, .int .i64 0], .int .i64 8]) (by simp [results, Try.results45, go_sem, f2, f3]) rfl ⟨none, 0, 0, by rw [HRV.out], by rw [HRV.out]; exact ⟨rfl, fun h => absurd h (by decide)⟩, ?_⟩
            exact ((HBW.out.trans (H7.out.mono HBW.out.size)).setCell (p := ⟨w.heap.size + 1, 0, none⟩) (by simp) _).setCell (p := ⟨w.heap.size + 1, 1, none⟩) (by simp) _
  · have e1' : (e1 == 0) = false := by simpa using he
    have e2' : (e1 != 0) = true := by simpa using he
    have HRV := Lib.hid (HV0.out he)
    clear HV0 HV1 HV2 HV3 HOK HOK2
    go_wp2
    refine bodyPost_ret (v := .tuple #[.agg #[.slice none 0 0, .int .i64 0], .int .i64 e1]) (by simp [results, Try.results45, go_sem, c2, c3]) rfl ⟨none, 0, 0, by rw [HRV.out], by rw [HRV.out]; exact ⟨rfl, fun h => absurd h (by decide)⟩, ?_⟩
    exact (HBX.out.setCell (p := ⟨w.heap.size + 1, 0, none⟩) (by simp) _).setCell (p := ⟨w.heap.size + 1, 1, none⟩) (by simp) _
end Go.Proofs.Ytageiimcmnebmaa
