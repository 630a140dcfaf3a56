/- Walks over the fits: slots. -/
import Derived.Test.YtffmaoalnilkkaaFS
import Derived.BigRegion
namespace Go.Proofs.Ytffmaoalnilkkaa
open Go.RowKit Go.Maps

set_option maxHeartbeats 1000000 in
theorem roundedDown_any {x : Int} (hx : -1000000000000000 ≤ x ∧ x ≤ 1000000000000000) (w : World) :
    Calls Try.prog 84 #[.int .i64 x] w fun e w' => e = .returned (.int .i64 (x / 1000000)) ∧ w = w' := by
  by_cases h : x.tmod 1000000 < 0
  · have e1 : x.tdiv 1000000 - 1 = x / 1000000 := by
      have := Int.mul_tdiv_add_tmod x 1000000
      have := Int.mul_ediv_add_emod x 1000000
      have := Int.emod_nonneg x (show (1000000 : Int) ≠ 0 by decide)
      have := Int.emod_lt_of_pos x (show (0 : Int) < 1000000 by decide)
      have : -1000000 < x.tmod 1000000 := Int.lt_tmod_of_pos x (by decide)
      omega
    have E := Lib.hid e1
    have hb : -1000000000000000 ≤ x.tdiv 1000000 ∧ x.tdiv 1000000 ≤ 1000000000000000 := by omega
    obtain ⟨q, hq⟩ : ∃ q, x.tdiv 1000000 = q := ⟨_, rfl⟩
    rw [hq] at hb E
    clear e1
    go_enter Try.func84, Try.ntmps84
    go_wp2
    go_ret
    exact ⟨ret_int E.out, rfl⟩
  · have e1 : x.tdiv 1000000 = x / 1000000 := by
      have := Int.mul_tdiv_add_tmod x 1000000
      have := Int.mul_ediv_add_emod x 1000000
      have := Int.emod_nonneg x (show (1000000 : Int) ≠ 0 by decide)
      have := Int.emod_lt_of_pos x (show (0 : Int) < 1000000 by decide)
      have : x.tmod 1000000 < 1000000 := Int.tmod_lt_of_pos x (by decide)
      omega
    have E := Lib.hid e1
    clear e1
    go_enter Try.func84, Try.ntmps84
    go_wp2
    go_ret
    exact ⟨ret_int E.out, rfl⟩

def upM (d : Int) : Int := -((-d) / 1000000)
theorem roundedUp_any {x : Int} (hx : -1000000000000000 ≤ x ∧ x ≤ 1000000000000000) (w : World) :
    Calls Try.prog 61 #[.int .i64 x] w fun e w' => e = .returned (.int .i64 (upM x)) ∧ w = w' := by
  have hw1 : IntKind.i64.wrap (-x) = -x := by rw [IntKind.wrap_i64]; omega
  have hw2 : wrap64 (-x) = -x := w64 (by omega)
  have RD := fun wx => Lib.hid (roundedDown_any (x := -x) (w := wx) (by omega))
  obtain ⟨q, hq⟩ : ∃ q, (-x) / 1000000 = q := ⟨_, rfl⟩
  have hb : -1000000000000000 ≤ q ∧ q ≤ 1000000000000000 := by omega
  have HV : Hid (upM x = -q) := Lib.hid (by unfold upM; rw [hq])
  rw [hq] at RD
  have hw3 : IntKind.i64.wrap (-q) = -q := by rw [IntKind.wrap_i64]; omega
  have hw4 : wrap64 (-q) = -q := w64 (by omega)
  clear hq
  go_enter Try.func61, Try.ntmps61
  go_wp2_with (go_at_call 84; refine Calls.mono (RD _).out ?_; rintro e w1 ⟨rfl, rfl⟩)
  go_ret
  exact ⟨ret_int HV.out.symm, rfl⟩
def loFrom (a : Int) (l : List Sn) : Int := l.foldl (fun a s => min a s.lo) a
def hiFrom (a : Int) (l : List Sn) : Int := l.foldl (fun a s => max a s.hi) a
theorem loFrom_succ (a : Int) {l : List Sn} {k : Nat} (h : k < l.length) : loFrom a (l.take (k + 1)) = min (loFrom a (l.take k)) l[k].lo := by
  unfold loFrom; rw [List.take_succ_eq_append_getElem h, List.foldl_append]; rfl
theorem hiFrom_succ (a : Int) {l : List Sn} {k : Nat} (h : k < l.length) : hiFrom a (l.take (k + 1)) = max (hiFrom a (l.take k)) l[k].hi := by
  unfold hiFrom; rw [List.take_succ_eq_append_getElem h, List.foldl_append]; rfl
theorem loFrom_bd {a : Int} : ∀ {l : List Sn}, 0 ≤ a → a ≤ 400 → (∀ s ∈ l, SnOk s) → 0 ≤ loFrom a l ∧ loFrom a l ≤ 400
  | [], h0, h1, _ => ⟨h0, h1⟩
  | s :: r, h0, h1, h => by
    have hs := h s (by simp)
    have := hs.l0; have := hs.l1; have := hs.h1
    exact loFrom_bd (a := min a s.lo) (by omega) (by omega) (fun x hx => h x (by simp [hx]))
theorem hiFrom_bd {a : Int} : ∀ {l : List Sn}, 0 ≤ a → a ≤ 400 → (∀ s ∈ l, SnOk s) → 0 ≤ hiFrom a l ∧ hiFrom a l ≤ 400
  | [], h0, h1, _ => ⟨h0, h1⟩
  | s :: r, h0, h1, h => by
    have hs := h s (by simp)
    have := hs.l0; have := hs.l1; have := hs.h1
    exact hiFrom_bd (a := max a s.hi) (by omega) (by omega) (fun x hx => h x (by simp [hx]))
/-- The length of a slot. -/
def slotS (p : Md) (screw : Int) : List Sn → Int
  | [] => screw
  | s :: r => screw + upM (hiM p (hiFrom s.hi (s :: r)) - hiM p (loFrom s.lo (s :: r)))
theorem slotS_cons (p : Md) (screw : Int) {l : List Sn} (h : 0 < l.length) : slotS p screw l = screw + upM (hiM p (hiFrom l[0].hi l) - hiM p (loFrom l[0].lo l)) := by
  cases l with
  | nil => simp at h
  | cons s r => rfl
set_option maxHeartbeats 4000000 in
set_option maxRecDepth 20000 in
theorem slot_ok {p : Md} {screw : Int} {S : Option Addr} {m d : Nat} {l : List Sn} (hp : MdOk p) (hs : allIn 1 10000 [screw] = true) (hl : snsCode l = 0) (w : World) (hS : SnRow w S m l) :
    Calls Try.prog 29 #[mdV p, .int .i64 screw, .slice S m d] w fun e w' => e = .returned (.tuple #[.int .i64 (slotS p screw l), .int .i64 0]) ∧ Below w.heap.size w w' := by
  have hlen := hS.1
  have h24 := (snsCode_ok hl).1
  have HSO := Lib.hid (snsCode_ok hl).2
  have CM := fun wx => Lib.hid (made_any (w := wx) (madeCode_ok hp))
  have CS := Lib.hid (fun wx (hb : Below w.heap.size w wx) => checkSeasons_any (d := d) hl (by unfold maxLen; omega) wx (hS.below hb))
  have X := Lib.hid hs
  have s0 := (allIn_one.1 hs).1
  have s1 := (allIn_one.1 hs).2
  have HSR := Lib.hid hS
  have ML := Lib.hid (fun wx t (t0 : 0 ≤ t) (t1 : t ≤ 400) => millionths_fit (w := wx) (mov_hi hp t0 t1))
  have MB := Lib.hid (fun t (t0 : 0 ≤ t) (t1 : t ≤ 400) => millis_bd (mov_hi hp t0 t1))
  have hsz : 0 ≤ p.s + p.hi ∧ p.s + p.hi ≤ 600000 := by have := hp.s0; have := hp.s1; have := hp.h0; have := hp.h1; omega
  clear hp hs hl hS
  obtain ⟨ps, pr, pm, pg, plo, phi⟩ := p
  unfold mdV at CM ML ⊢
  simp only at CM ML MB hsz ⊢
  have hw0 : IntKind.i64.wrap (ps + phi) = ps + phi := by rw [IntKind.wrap_i64]; omega
  by_cases hm0 : m = 0
  · subst hm0
    have hnil : l = [] := List.eq_nil_of_length_eq_zero hlen
    subst hnil
    go_enter Try.func29, Try.ntmps29
    go_wp2_with (first | (go_at_call 23; refine Calls.mono (CM _).out ?_; rintro e w1 ⟨rfl, hb1⟩; have hB1 := ((Below.refl w.heap.size w).alloc (Nat.le_refl _) (.cells #[.int .i64 ps, .int .i64 pr, .int .i64 pm, .int .i64 pg, .int .i64 plo, .int .i64 phi] 44)).trans (hb1.mono (by simp))) | (go_at_call 54; (with_reducible refine (withinOne_fit X.out _ _ (by simp)).mono ?_); rintro e w2 ⟨rfl, hb2⟩; have hB2 := hB1.trans (hb2.mono hB1.size)) | (go_at_call 13; refine Calls.mono (CS.out _ hB2) ?_; rintro e w3 ⟨rfl, hb3⟩; have hB3 := hB2.trans (hb3.mono hB2.size)))
    go_ret2
    exact ⟨rfl, hB3⟩
  · have hpos : 0 < l.length := by omega
    obtain ⟨blk, off, rfl, hblk, hx⟩ := HSR.out.2 (by omega)
    have HX := Lib.hid hx
    have x0 := hx 0 hpos
    have o0 := HSO.out l[0] (List.getElem_mem hpos)
    have HSL := Lib.hid (slotS_cons ⟨ps, pr, pm, pg, plo, phi⟩ screw hpos)
    clear hx
    obtain ⟨q, hq⟩ : ∃ q, l[0] = q := ⟨_, rfl⟩
    rw [hq] at x0 o0 HSL
    clear hq
    obtain ⟨n0, lo0, hi0⟩ := q
    obtain ⟨y0, y1, y2, -⟩ := x0
    obtain ⟨ol, om, oh⟩ := o0
    simp only at y0 y1 y2 ol om oh HSL
    rw [show off + 0 * 3 = off by omega] at y0 y1 y2
    have hmp : (0 : Int) < (m : Int) := by omega
    have hme : ((m : Int) == 0) = false := by simp; omega
    go_enter Try.func29, Try.ntmps29
    go_wp2_with (first | (go_at_call 23; refine Calls.mono (CM _).out ?_; rintro e w1 ⟨rfl, hb1⟩; have hB1 := ((Below.refl w.heap.size w).alloc (Nat.le_refl _) (.cells #[.int .i64 ps, .int .i64 pr, .int .i64 pm, .int .i64 pg, .int .i64 plo, .int .i64 phi] 44)).trans (hb1.mono (by simp))) | (go_at_call 54; (with_reducible refine (withinOne_fit X.out _ _ (by simp)).mono ?_); rintro e w2 ⟨rfl, hb2⟩; have hB2 := hB1.trans (hb2.mono hB1.size); have hP2 := hb1.trans (hb2.mono hb1.size)) | (go_at_call 13; refine Calls.mono (CS.out _ hB2) ?_; rintro e w3 ⟨rfl, hb3⟩; have hB3 := hB2.trans (hb3.mono hB2.size); have hP3 := hP2.trans (hb3.mono hP2.size)))
    have z1 := (hB3.cell (p := ⟨blk, off + 1, none⟩) hblk).trans y1
    have z2 := (hB3.cell (p := ⟨blk, off + 2, none⟩) hblk).trans y2
    go_quiet (fail)
    go_wp2
    have HPC := Lib.hid (fun wx (hb : Below w3.heap.size w3 wx) => (show Below w3.heap.size w3 wx ∧ wx.cell? ⟨w.heap.size, 0, none⟩ = some (.int .i64 ps) ∧ wx.cell? ⟨w.heap.size, 5, none⟩ = some (.int .i64 phi) ∧ wx.cell? ⟨w.heap.size, 0 + 1, none⟩ = some (.int .i64 pr) ∧ wx.cell? ⟨w.heap.size, 0 + 2, none⟩ = some (.int .i64 pm) ∧ wx.cell? ⟨w.heap.size, 0 + 3, none⟩ = some (.int .i64 pg) ∧ wx.cell? ⟨w.heap.size, 0 + 4, none⟩ = some (.int .i64 plo) ∧ wx.cell? ⟨w.heap.size, 0 + 5, none⟩ = some (.int .i64 phi) from by
      have hx := hP3.trans (hb.mono hP3.size)
      have kc := (bcell hx).1
      refine ⟨hb, ?_, ?_, ?_, ?_, ?_, ?_, ?_⟩
      all_goals (rw [kc _ _ (by simp), World.cell?_alloc_new]; rfl)))
    have HB3 := Lib.hid hB3
    have hs3 := hB3.size
    clear z1 z2 hb1 hb2 hb3 hB1 hB2 hB3 hP2 hP3 CM CS y0 y1 y2
    have HBQ : Hid (Below w3.heap.size w3 (w3.drewN nq)) := Lib.hid (below_drewN (Below.refl _ _) _)
    have HLO := Lib.hid (fun k => loFrom_bd (l := l.take k) ol (Int.le_trans om oh) (fun s hs => HSO.out s (List.mem_of_mem_take hs)))
    have HHI := Lib.hid (fun k => hiFrom_bd (l := l.take k) (Int.le_trans ol om) oh (fun s hs => HSO.out s (List.mem_of_mem_take hs)))
    generalize w3.drewN nq = W at HBQ ⊢
    go_loopw [10, 11, 43] (fun a b i wr => ∃ k : Nat, k ≤ m ∧ i = .int .i64 k ∧ a = .int .i64 (loFrom lo0 (l.take k)) ∧ b = .int .i64 (hiFrom hi0 (l.take k)) ∧ Hid (Below w3.heap.size w3 wr)) (fun _ _ i _ => m - (intOf i).toNat)
    case atStart => exact ⟨0, Nat.zero_le _, rfl, rfl, rfl, HBQ⟩
    case round =>
      obtain ⟨k, hk, rfl, rfl, rfl, HB⟩ := hrel
      by_cases hlt : k < m
      · have hkl : k < l.length := by omega
        have hxx := ((HX.out k hkl).below HB3.out hblk).below HB.out (Nat.lt_of_lt_of_le hblk hs3)
        have H1 := Lib.hid (loFrom_succ lo0 hkl)
        have H2 := Lib.hid (hiFrom_succ hi0 hkl)
        have hok := HSO.out l[k] (List.getElem_mem hkl)
        obtain ⟨x, hxe⟩ : ∃ x, l[k] = x := ⟨_, rfl⟩
        rw [hxe] at hxx H1 H2 hok
        clear hxe
        obtain ⟨sn, slo, shi⟩ := x
        obtain ⟨c0, c1, c2, -⟩ := hxx
        have k0 := hok.l0; have k1 := hok.l1; have k2 := hok.h1
        simp only at c0 c1 c2 H1 H2 k0 k1 k2
        have b1 := HLO.out k; have b2 := HHI.out k
        try simp only at b1 b2
        obtain ⟨A, hA⟩ : ∃ A, loFrom lo0 (l.take k) = A := ⟨_, rfl⟩
        obtain ⟨B, hB⟩ : ∃ B, hiFrom hi0 (l.take k) = B := ⟨_, rfl⟩
        rw [hA] at H1 b1 ⊢
        rw [hB] at H2 b2 ⊢
        clear hA hB hok
        have hsr := HB.out.size
        go_wp2
        go_region
        all_goals
          go_wp2
          go_roundw
          case rel => exact ⟨k + 1, by omega, by go_num, by rw [H1.out], by rw [H2.out], Lib.hid ((HB.out.alloc hsr _).drew)⟩
          case measure => simp [intOf]; omega
      · have hk' : k = m := by omega
        subst hk'
        have hfull : l.take k = l := List.take_of_length_le (by omega)
        have b1 := HLO.out k; have b2 := HHI.out k
        simp only [hfull] at b1 b2 ⊢
        obtain ⟨A, hA⟩ : ∃ A, loFrom lo0 l = A := ⟨_, rfl⟩
        obtain ⟨B, hB⟩ : ∃ B, hiFrom hi0 l = B := ⟨_, rfl⟩
        rw [hA] at HSL b1 ⊢
        rw [hB] at HSL b2 ⊢
        clear hA hB hfull
        have M1 := fun wx => Lib.hid (ML.out wx A b1.1 b1.2)
        have M2 := fun wx => Lib.hid (ML.out wx B b2.1 b2.2)
        have n1 := MB.out A b1.1 b1.2
        have n2 := MB.out B b2.1 b2.2
        unfold hiM at HSL
        simp only at HSL
        obtain ⟨u, hu⟩ : ∃ u, millis (ps + phi) pr pm A = u := ⟨_, rfl⟩
        obtain ⟨v, hv⟩ : ∃ v, millis (ps + phi) pr pm B = v := ⟨_, rfl⟩
        simp only [hu] at M1 n1 HSL
        simp only [hv] at M2 n2 HSL
        clear hu hv
        have hwd : IntKind.i64.wrap (v - u) = v - u := by rw [IntKind.wrap_i64]; omega
        have RU := fun wx => Lib.hid (roundedUp_any (x := v - u) (w := wx) (by omega))
        have ubd : -1000001 ≤ upM (v - u) ∧ upM (v - u) ≤ 1000001 := by unfold upM; omega
        obtain ⟨up, hup⟩ : ∃ up, upM (v - u) = up := ⟨_, rfl⟩
        simp only [hup] at RU HSL ubd
        clear hup
        have hwe : IntKind.i64.wrap (screw + up) = screw + up := by rw [IntKind.wrap_i64]; omega
        obtain ⟨-, d0, d5, e1, e2, e3, e4, e5⟩ := HPC.out wr HB.out
        go_wp2
        have HBR := HB
        clear d0 d5 e1 e2 e3 e4 e5
        go_region_held3 (fun wx => Below w3.heap.size w3 wx ∧ wx.cell? ⟨w.heap.size, 0, none⟩ = some (.int .i64 ps) ∧ wx.cell? ⟨w.heap.size, 5, none⟩ = some (.int .i64 phi) ∧ wx.cell? ⟨w.heap.size, 0 + 1, none⟩ = some (.int .i64 pr) ∧ wx.cell? ⟨w.heap.size, 0 + 2, none⟩ = some (.int .i64 pm) ∧ wx.cell? ⟨w.heap.size, 0 + 3, none⟩ = some (.int .i64 pg) ∧ wx.cell? ⟨w.heap.size, 0 + 4, none⟩ = some (.int .i64 plo) ∧ wx.cell? ⟨w.heap.size, 0 + 5, none⟩ = some (.int .i64 phi)) ((first | assumption | (exact HPC.out _ HBR.out.drew) | (exact HPC.out _ (Below.trans (And.left (by assumption)) (Below.mono hba (Below.size (And.left (by assumption)))))))) (first | (go_at_call 62; (first | with_reducible refine Calls.mono (M1 _).out ?_ | with_reducible refine Calls.mono (M2 _).out ?_); rintro e wa ⟨rfl, hba⟩) | (go_at_call 61; refine Calls.mono (RU _).out ?_; rintro e wb ⟨rfl, rfl⟩))
        all_goals
          go_wp2
          go_ret2
          exact ⟨by rw [HSL.out]; rfl, HB3.out.trans (Below.mono (And.left (by assumption)) hs3)⟩
end Go.Proofs.Ytffmaoalnilkkaa
