/- Walks over frames: stiffness, push, drift. -/
import Derived.Test.YtablphoicidlkaaSU
namespace Go.Proofs.Ytablphoicidlkaa
open Go.RowKit

structure ByBd (x : By) : Prop where
  h0 : 1 ≤ x.h
  h1 : x.h ≤ 3000
  w0 : 1 ≤ x.w
  w1 : x.w ≤ 3000
  t0 : 0 ≤ x.t
  t1 : x.t ≤ 100
  g0 : 0 ≤ x.g
  g1 : x.g ≤ 2000
  jl : x.js.length ≤ 8
  jj : ∀ j ∈ x.js, 0 ≤ j ∧ j ≤ 1000000
theorem BayOk.bd {x : By} (h : BayOk x) : ByBd x := ⟨h.h0, h.h1, h.w0, h.w1, h.t0, h.t1, h.g0, h.g1, h.jl, h.jj⟩
def stf (x : By) : Int := x.g * x.t * x.w * x.h + 1000 * sumL id x.js
theorem js_bd {x : By} (h : ByBd x) : 0 ≤ sumL id x.js ∧ sumL id x.js ≤ 8000000 := by
  have h1 := sumL_bd8 (f := id) (B := 1000000) h.jl (fun j hj => by have := h.jj j hj; show j.natAbs ≤ _; omega)
  have h2 : ∀ l : List Int, (∀ j ∈ l, 0 ≤ j) → 0 ≤ sumL id l := by
    intro l
    induction l with
    | nil => intro _; exact Int.le_refl 0
    | cons a r ih =>
      intro hh
      have a1 := hh a (List.mem_cons_self ..)
      have a2 := ih fun j hj => hh j (List.mem_cons_of_mem _ hj)
      show 0 ≤ a + sumL id r
      omega
  have := h2 x.js fun j hj => (h.jj j hj).1
  omega
theorem stf_bd {x : By} (h : ByBd x) : 0 ≤ stf x ∧ stf x ≤ 2000000000000 := by
  have E1 : Ev x.g x.g 2000 := .of (by have := h.g0; have := h.g1; omega)
  have E2 : Ev x.t x.t 100 := .of (by have := h.t0; have := h.t1; omega)
  have E3 : Ev x.w x.w 3000 := .of (by have := h.w0; have := h.w1; omega)
  have E4 : Ev x.h x.h 3000 := .of (by have := h.h0; have := h.h1; omega)
  have b1 := ev_bd (M := 1800000000000) (Ev.mul (Ev.mul (Ev.mul E1 E2) E3) E4) (by decide +kernel)
  have b2 : 0 ≤ x.g * x.t * x.w * x.h := Int.mul_nonneg (Int.mul_nonneg (Int.mul_nonneg h.g0 h.t0) (by have := h.w0; omega)) (by have := h.h0; omega)
  have b3 := js_bd h
  unfold stf
  omega
theorem sumL_nn {α : Type} {f : α → Int} : ∀ {l : List α}, (∀ x ∈ l, 0 ≤ f x) → 0 ≤ sumL f l
  | [], _ => Int.le_refl 0
  | x :: r, h => by
    have a1 := h x (List.mem_cons_self ..)
    have a2 := sumL_nn (l := r) fun j hj => h j (List.mem_cons_of_mem _ hj)
    show 0 ≤ f x + sumL f r
    omega
theorem stif_bd {l : List By} (hl : l.length ≤ 12) (h : ∀ x ∈ l, ByBd x) (k : Nat) : 0 ≤ sumL stf (l.take k) ∧ sumL stf (l.take k) ≤ 24000000000000 := by
  have h1 := sumL_bd (f := stf) (B := 2000000000000) (l := l.take k) (fun x hx => by have := stf_bd (h x (List.mem_of_mem_take hx)); omega)
  have h2 := sumL_nn (f := stf) (l := l.take k) (fun x hx => (stf_bd (h x (List.mem_of_mem_take hx))).1)
  have h3 : (l.take k).length ≤ 12 := Nat.le_trans (List.length_take_le' ..) hl
  have h4 := Nat.mul_le_mul_right 2000000000000 h3
  omega
set_option maxHeartbeats 4000000 in
set_option maxRecDepth 20000 in
theorem stiffnessOf_any {A : Option Addr} {n c : Nat} {l : List By} (hl : l.length ≤ 12) (hb : ∀ x ∈ l, ByBd x) (w : World) (h : BayRow w A n l) :
    Calls Try.prog 124 #[.slice A n c] w fun e w' => e = .returned (.int .i64 (sumL stf l)) ∧ Below w.heap.size w w' := by
  have HR := Lib.hid h
  have hle : l.length ≤ n := by have := h.1; omega
  have hge : n ≤ l.length := by have := h.1; omega
  have HBD := Lib.hid (stif_bd hl hb)
  have HOK := Lib.hid hb
  clear h hb
  go_enter Try.func124, Try.ntmps124
  go_wp2
  go_loopw [3, 8] (fun s i wr => ∃ (k : Nat) (v : Int), k ≤ n ∧ i = .int .i64 k ∧ s = .int .i64 v ∧ v = sumL stf (l.take k) ∧ Below w.heap.size w wr) (fun _ i _ => n - (intOf i).toNat)
  case atStart => exact ⟨0, 0, Nat.zero_le _, rfl, rfl, rfl, Below.refl _ _⟩
  case round =>
    obtain ⟨k, v, hk, rfl, rfl, hv, hbw⟩ := hrel
    have HV := Lib.hid hv
    have HB := Lib.hid hbw
    have hvb := HBD.out k
    rw [← hv] at hvb
    clear hv
    by_cases hlt : k < n
    · have hkl : k < l.length := by omega
      have hvb2 := HBD.out (k + 1)
      obtain ⟨blk, off, rfl, hblk, hx⟩ := HR.out.2 (by omega)
      obtain ⟨⟨c0, c1, c2, c3⟩, A, m, cc, c4, hjr, hm⟩ := BayAt.below (hx k hkl) hbw hblk
      have hsz := hbw.size
      have hbl : blk < wr.heap.size := by omega
      have hbd := HOK.out l[k] (List.getElem_mem hkl)
      have HS := Lib.hid (sumL_take_succ stf l hkl)
      obtain ⟨x, hxe⟩ : ∃ x, l[k] = x := ⟨_, rfl⟩
      rw [hxe] at c0 c1 c2 c3 hbd HS hjr
      rw [HS.out, ← HV.out] at hvb2
      clear hx hxe
      have SU := Lib.hid (fun wx (hx : Below wr.heap.size wr wx) => sum_any (c := cc) wx (hjr.below hx) hm)
      have jb := js_bd hbd
      have sb := stf_bd hbd
      rw [w64 (x := sumL id x.js) (by omega)] at SU
      have E1 : Ev x.g x.g 2000 := .of (by have := hbd.g0; have := hbd.g1; omega)
      have E2 : Ev x.t x.t 100 := .of (by have := hbd.t0; have := hbd.t1; omega)
      have E3 : Ev x.w x.w 3000 := .of (by have := hbd.w0; have := hbd.w1; omega)
      have E4 : Ev x.h x.h 3000 := .of (by have := hbd.h0; have := hbd.h1; omega)
      have E5 : Ev (sumL id x.js) (sumL id x.js) 8000000 := .of (by omega)
      have p1 : IntKind.i64.wrap (x.g * x.t) = x.g * x.t := i64w (by (apply Ev.e; repeat' (first | with_reducible assumption | with_reducible apply Ev.wrap | with_reducible apply Ev.mul | with_reducible apply Ev.add | with_reducible apply Ev.sub | with_reducible apply Ev.neg | exact Ev.lit _ | (decide +kernel))))
      have p2 : IntKind.i64.wrap (x.g * x.t * x.w) = x.g * x.t * x.w := i64w (by (apply Ev.e; repeat' (first | with_reducible assumption | with_reducible apply Ev.wrap | with_reducible apply Ev.mul | with_reducible apply Ev.add | with_reducible apply Ev.sub | with_reducible apply Ev.neg | exact Ev.lit _ | (decide +kernel))))
      have p3 : IntKind.i64.wrap (x.g * x.t * x.w * x.h) = x.g * x.t * x.w * x.h := i64w (by (apply Ev.e; repeat' (first | with_reducible assumption | with_reducible apply Ev.wrap | with_reducible apply Ev.mul | with_reducible apply Ev.add | with_reducible apply Ev.sub | with_reducible apply Ev.neg | exact Ev.lit _ | (decide +kernel))))
      have p4 : IntKind.i64.wrap (1000 * sumL id x.js) = 1000 * sumL id x.js := i64w (by (apply Ev.e; repeat' (first | with_reducible assumption | with_reducible apply Ev.wrap | with_reducible apply Ev.mul | with_reducible apply Ev.add | with_reducible apply Ev.sub | with_reducible apply Ev.neg | exact Ev.lit _ | (decide +kernel))))
      have p5 : IntKind.i64.wrap (x.g * x.t * x.w * x.h + 1000 * sumL id x.js) = stf x := i64w (x := stf x) (w64 (by omega))
      have p6 : IntKind.i64.wrap (v + stf x) = v + stf x := i64w (w64 (by omega))
      clear E1 E2 E3 E4 E5 hbd hjr jb sb hvb hvb2 hbw hm
      generalize sumL id x.js = J at *
      generalize stf x = sx at *
      generalize x.g = g at *
      generalize x.t = t at *
      generalize x.w = ww at *
      generalize x.h = hh at *
      have HBA : Hid (∀ nq, Below wr.heap.size wr ((wr.alloc (.cells #[.int .i64 hh, .int .i64 ww, .int .i64 t, .int .i64 g, .slice A m cc] 113)).drewN nq)) := Lib.hid (fun nq => below_drewN ((Below.refl _ _).alloc (Nat.le_refl _) _) nq)
      have HBA1 : Hid (Below wr.heap.size wr ((wr.alloc (.cells #[.int .i64 hh, .int .i64 ww, .int .i64 t, .int .i64 g, .slice A m cc] 113)).drew)) := Lib.hid (HBA.out 1)
      go_wp2
      go_quiet ((go_at_call 142; exact Calls.quiet_of_same ((SU.out _ (by first | exact HBA.out _ | exact HBA1.out)).mono fun e w' ⟨he, hw⟩ => ⟨he, hw.symm⟩)))
      go_wp2
      exact ⟨⟨k + 1, v + sx, by omega, by go_num, rfl, by rw [HV.out, HS.out], HB.out.trans ((HBA.out _).mono HB.out.size)⟩, by simp [intOf]; omega⟩
    · obtain rfl : k = n := by omega
      go_wp2
      go_ret
      exact ⟨ret_int (by rw [HV.out, List.take_of_length_le (by omega)]), HB.out⟩
theorem bay_head {w : World} {A : Option Addr} {n : Nat} {l : List By} (h : BayRow w A n l) (hp : 0 < l.length) : ∃ blk off, A = some ⟨blk, off, none⟩ ∧ blk < w.heap.size ∧ w.cell? ⟨blk, off, none⟩ = some (.int .i64 (headH l)) := by
  obtain ⟨blk, off, e, hb, hx⟩ := h.2 (by have := h.1; omega)
  refine ⟨blk, off, e, hb, ?_⟩
  have := (hx 0 hp).1.1
  rw [show off + 0 * 5 = off by omega] at this
  rw [this]
  cases l with
  | nil => simp at hp
  | cons x r => rfl
set_option maxHeartbeats 1000000 in
theorem push_any {A : Option Addr} {n c : Nat} {l : List By} {N : Int} (hp : 0 < l.length) (h0 : 0 ≤ headH l) (h1 : headH l ≤ 3000) (n0 : 0 ≤ N) (n1 : N ≤ 100000) (w : World) (h : BayRow w A n l) :
    Calls Try.prog 125 #[.slice A n c, .int .i64 N] w fun e w' => e = .returned (.int .i64 (N * headH l * headH l)) ∧ Below w.heap.size w w' := by
  have hn := h.1
  obtain ⟨blk, off, rfl, hb, hc⟩ := bay_head h hp
  clear h
  have hn0 : (0 : Int) < (n : Int) := by omega
  have hn1 : 0 < n := by omega
  clear hn
  generalize headH l = hh at *
  have E1 : Ev hh hh 3000 := .of (by omega)
  have E2 : Ev N N 100000 := .of (by omega)
  have p1 : IntKind.i64.wrap (N * hh) = N * hh := i64w (by (apply Ev.e; repeat' (first | with_reducible assumption | with_reducible apply Ev.wrap | with_reducible apply Ev.mul | with_reducible apply Ev.add | with_reducible apply Ev.sub | with_reducible apply Ev.neg | exact Ev.lit _ | (decide +kernel))))
  have p2 : IntKind.i64.wrap (N * hh * hh) = N * hh * hh := i64w (by (apply Ev.e; repeat' (first | with_reducible assumption | with_reducible apply Ev.wrap | with_reducible apply Ev.mul | with_reducible apply Ev.add | with_reducible apply Ev.sub | with_reducible apply Ev.neg | exact Ev.lit _ | (decide +kernel))))
  clear E1 E2
  go_enter Try.func125, Try.ntmps125
  go_wp2
  go_quiet (fail)
  go_wp2
  go_ret
  exact ⟨rfl, below_drewN (Below.refl _ _) _⟩
def pushV (l : List By) (N : Int) : Int := N * headH l * headH l
def driE (l : List By) (N : Int) : Int := firstE [baysE l, rngE 0 100000 [N]]
theorem driE_ok {l : List By} {N : Int} : driE l N = 0 ↔ BaysOk l ∧ 0 ≤ N ∧ N ≤ 100000 := by
  unfold driE
  rw [firstE_ok]
  simp only [List.mem_cons, List.not_mem_nil, or_false, forall_eq_or_imp, forall_eq, baysE_ok, rngE_ok]
/-- The error of a drift: also that there is none. -/
def driE2 (l : List By) (N : Int) : Int := bif driE l N == 0 then (bif sumL stf l == 0 then 12 else 0) else driE l N
theorem headH_bd {l : List By} (h : BaysOk l) : 1 ≤ headH l ∧ headH l ≤ 3000 := by
  have hp := h.n0
  cases l with
  | nil => simp at hp
  | cons x r =>
    have := (h.ok x (List.mem_cons_self ..)).1
    exact ⟨this.h0, this.h1⟩
set_option maxHeartbeats 4000000 in
set_option maxRecDepth 20000 in
theorem drift_any {A : Option Addr} {n c : Nat} {l : List By} {N : Int} (w : World) (h : BayRow w A n l) (hn : n ≤ maxLen) :
    Calls Try.prog 63 #[.slice A n c, .int .i64 N] w fun e w' => e = .returned (fr1 (driE2 l N) (pushV l N) (sumL stf l)) ∧ Below w.heap.size w w' := by
  have CB := Lib.hid (fun wx (hx : Below w.heap.size w wx) => checkBays_any (c := c) wx (h.below hx) hn)
  have C1 := fun wx b (h : IntRow wx (some ⟨b, 0, none⟩) 1 [N]) => Lib.hid (checkRange_any (c := 1) (lo := 0) (hi := 100000) wx h (by decide))
  have ST := Lib.hid (fun (he : driE l N = 0) wx (hx : Below w.heap.size w wx) => let k := (driE_ok.1 he).1; stiffnessOf_any (c := c) k.n1 (fun x hx => (k.ok x hx).1.bd) wx (h.below hx))
  have PU := Lib.hid (fun (he : driE l N = 0) wx (hx : Below w.heap.size w wx) => let k := driE_ok.1 he; push_any (c := c) (N := N) (by have := k.1.n0; omega) (by have := headH_bd k.1; omega) (headH_bd k.1).2 k.2.1 k.2.2 wx (h.below hx))
  have BD := Lib.hid (fun (he : driE l N = 0) => (show (0 ≤ sumL stf l ∧ sumL stf l ≤ 24000000000000) ∧ (pushV l N).natAbs ≤ 9000000000000000000 from by
    have k := driE_ok.1 he
    have k1 := stif_bd k.1.n1 (fun x hx => (k.1.ok x hx).1.bd) l.length
    rw [List.take_length] at k1
    have k2 := headH_bd k.1
    have E1 : Ev (headH l) (headH l) 3000 := .of (by omega)
    have E2 : Ev N N 100000 := .of (by omega)
    exact ⟨k1, ev_bd (Ev.mul (Ev.mul E2 E1) E1) (by decide +kernel)⟩))
  have HE : Hid (driE l N = firstE [baysE l, rngE 0 100000 [N]]) := Lib.hid rfl
  have HE2 : Hid (driE2 l N = bif driE l N == 0 then (bif sumL stf l == 0 then 12 else 0) else driE l N) := Lib.hid rfl
  have hpv : N * headH l * headH l = pushV l N := rfl
  rw [hpv] at PU
  clear hpv h hn
  generalize driE2 l N = e9 at *
  generalize driE l N = ee at *
  generalize baysE l = e1 at *
  generalize rngE 0 100000 [N] = e2 at *
  generalize pushV l N = nu at *
  generalize sumL stf l = dd at *
  have C3 := fun wx b (h : IntRow wx (some ⟨b, 0, none⟩) 2 [e1, e2]) => Lib.hid (firstError_any (c := 2) wx h (by decide))
  rw [← HE.out] at C3
  clear HE
  go_enter Try.func63, Try.ntmps63
  have hB0 : Hid (Below w.heap.size w (w.alloc (.cells #[.int .i64 0, .int .i64 0] 30))) := Lib.hid ((Below.refl _ _).alloc (Nat.le_refl _) _)
  go_upto_region 2 with (first | (go_at_call 67; (refine Calls.mono (CB.out _ hB0.out) ?_); rintro e w1 ⟨rfl, hb1⟩; have R1 := Lib.hid (intRow_new w1 [N] 3 _ rfl (n := 1) rfl); have R2 := Lib.hid (show IntRow ((w1.alloc (.cells #[.int .i64 N] 3)).alloc (.cells #[.int .i64 e1, .int .i64 e2] 31)) (some ⟨w1.heap.size + 1, 0, none⟩) 2 [e1, e2] from (by have := intRow_new (w1.alloc (.cells #[.int .i64 N] 3)) [e1, e2] 31 _ rfl (n := 2) rfl; simpa using this))) | (go_at_call 96; (refine Calls.mono (C1 _ _ R1.out).out ?_); rintro e w2 ⟨rfl, rfl⟩) | (go_at_call 95; (refine Calls.mono (C3 _ _ R2.out).out ?_); rintro e w3 ⟨rfl, rfl⟩))
  obtain ⟨w5, hw5⟩ : ∃ w5, ((w1.alloc (.cells #[.int .i64 N] 3)).alloc (.cells #[.int .i64 e1, .int .i64 e2] 31)) = w5 := ⟨_, rfl⟩
  have hb5 : Below (w.alloc (.cells #[.int .i64 0, .int .i64 0] 30)).heap.size (w.alloc (.cells #[.int .i64 0, .int .i64 0] 30)) w5 := by rw [← hw5]; exact (hb1.alloc hb1.size _).alloc (by have := hb1.size; simp; simp at this; omega) _
  rw [hw5]
  clear hw5 hb1 R1 R2
  have hz1 := hb5.size
  simp at hz1
  have HBX : Hid (Below w.heap.size w w5) := Lib.hid (((Below.refl _ _).alloc (Nat.le_refl _) _).trans (hb5.mono (by simp; try omega)))
  have HC := Lib.hid (fun wx (hb : Below w5.heap.size w5 wx) => (show wx.cell? ⟨w.heap.size, 0, none⟩ = some (.int .i64 0) ∧ wx.cell? ⟨w.heap.size, 1, none⟩ = some (.int .i64 0) ∧ wx.frozen? ⟨w.heap.size, 0, none⟩ = false ∧ wx.frozen? ⟨w.heap.size, 1, none⟩ = false from by
    obtain ⟨k, kf⟩ := bcell hb
    obtain ⟨k1, kf1⟩ := bcell hb5
    exact ⟨(k _ _ (by omega)).trans ((k1 _ _ (by simp; try omega)).trans (by simp [go_sem])), (k _ _ (by omega)).trans ((k1 _ _ (by simp; try omega)).trans (by simp [go_sem])), (kf _ _ (by omega)).trans ((kf1 _ _ (by simp; try omega)).trans (by simp [go_sem])), (kf _ _ (by omega)).trans ((kf1 _ _ (by simp; try omega)).trans (by simp [go_sem]))⟩))
  clear hb5
  have hb := Below.refl w5.heap.size w5
  obtain ⟨c0, c1, z0_0, z0_1⟩ := HC.out w5 hb
  by_cases he : ee = 0
  · subst he
    have ST2 := Lib.hid (ST.out rfl w5 HBX.out)
    have PU2 := Lib.hid (PU.out rfl)
    have bd := BD.out rfl
    by_cases h0 : dd = 0
    · subst h0
      clear ST PU BD PU2
      go_wp2_with (go_at_call 124; (refine Calls.mono ST2.out ?_); rintro e w2 ⟨rfl, hb2⟩; obtain ⟨e0, e1, y0_0, y0_1⟩ := HC.out w2 (hb.trans (hb2.mono hb.size)))
      refine bodyPost_ret (v := .tuple #[.agg #[.int .i64 0, .int .i64 0], .int .i64 12]) (by simp [results, Try.results63, go_sem, e0, e1]) rfl ⟨by rw [HE2.out]; rfl, ?_⟩
      exact ((HBX.out.trans (hb2.mono HBX.out.size)).setCell (p := ⟨w.heap.size, 0, none⟩) (by simp) _).setCell (p := ⟨w.heap.size, 1, none⟩) (by simp) _
    · have d1 : (dd == 0) = false := by simpa using h0
      have AD := Lib.hid (fun wx A n c zs (hr : IntRow wx A n zs) (hn : n ≤ 1000) (hs : sumL id zs = nu) => added_any (c := c) (d := dd) wx hr (by unfold maxLen; omega) (by omega) (by omega) hs (by omega))
      have D1 := Lib.hid d1
      have HN : Hid (frV nu dd = .agg #[.int .i64 (lowN nu dd), .int .i64 (lowD nu dd)]) := Lib.hid rfl
      unfold frV at AD
      generalize lowN nu dd = nn at *
      generalize lowD nu dd = de at *
      clear ST PU BD bd
      go_wp2_with (first | (go_at_call 124; (refine Calls.mono ST2.out ?_); rintro e w2 ⟨rfl, hb2⟩; have HB2 := Lib.hid (HBX.out.trans (hb2.mono HBX.out.size)); have HW2 := Lib.hid (hb.trans (hb2.mono hb.size)); clear hb2) | (go_at_call 125; (refine Calls.mono (PU2.out _ HB2.out) ?_); rintro e w3 ⟨rfl, hb3⟩; have HB3 := Lib.hid (HB2.out.trans (hb3.mono HB2.out.size)); have HW3 := Lib.hid (HW2.out.trans (hb3.mono HW2.out.size)); clear hb3) | (go_at_call 92; (refine Calls.mono (AD.out _ _ _ _ [nu] (intRow_new _ _ _ _ rfl rfl) (by decide) (by simp [sumL])) ?_); rintro e w4 ⟨rfl, hb4⟩; have HW4 := Lib.hid ((HW3.out.alloc HW3.out.size (.cells #[.int .i64 nu] 3)).trans (hb4.mono (by have := HW3.out.size; simp; omega))); have HB4 := Lib.hid ((HB3.out.alloc HB3.out.size (.cells #[.int .i64 nu] 3)).trans (hb4.mono (by have := HB3.out.size; simp; omega))); obtain ⟨e0, e1, y0_0, y0_1⟩ := HC.out w4 HW4.out))
      refine bodyPost_ret (v := .tuple #[.agg #[.int .i64 nn, .int .i64 de], .int .i64 0]) (by simp [results, Try.results63, go_sem, e0, e1]) rfl ⟨by rw [HE2.out, D1.out]; show _ = Ending.returned (fr1 0 nu dd); rw [fr1_ok, HN.out], ?_⟩
      exact (HB4.out.setCell (p := ⟨w.heap.size, 0, none⟩) (by simp) _).setCell (p := ⟨w.heap.size, 1, none⟩) (by simp) _
  · have e1' : (ee == 0) = false := by simpa using he
    have e2' : (ee != 0) = true := by simpa using he
    have E1 := Lib.hid e1'
    go_wp2
    refine bodyPost_ret (v := .tuple #[.agg #[.int .i64 0, .int .i64 0], .int .i64 ee]) (by simp [results, Try.results63, go_sem, c0, c1]) rfl ⟨by rw [HE2.out, E1.out]; show _ = Ending.returned (fr1 ee nu dd); rw [fr1_bad he], ?_⟩
    exact (HBX.out.setCell (p := ⟨w.heap.size, 0, none⟩) (by simp) _).setCell (p := ⟨w.heap.size, 1, none⟩) (by simp) _
end Go.Proofs.Ytablphoicidlkaa
