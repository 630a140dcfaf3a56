/- Walks over the timber seat: the widest sound rectangle, the program's. -/
import Derived.Test.YtnjbhidncicfiaaF4
import Derived.Laws.OwnMore
namespace Go.Proofs.Ytnjbhidncicfiaa
open Go.Shelf Go.RowKit Go.Lib Go.Sort

/-- A rectangle's four cells. -/
def Rc4 (w : World) (g : Nat) (r : Rc) : Prop :=
  (w.cell? ⟨g, 0, none⟩ = some (.int .i64 r.x1) ∧ w.cell? ⟨g, 1, none⟩ = some (.int .i64 r.y1) ∧ w.cell? ⟨g, 2, none⟩ = some (.int .i64 r.x2) ∧ w.cell? ⟨g, 3, none⟩ = some (.int .i64 r.y2)) ∧
  (w.frozen? ⟨g, 0, none⟩ = false ∧ w.frozen? ⟨g, 1, none⟩ = false ∧ w.frozen? ⟨g, 2, none⟩ = false ∧ w.frozen? ⟨g, 3, none⟩ = false)
theorem Rc4.below {w w' : World} {g n : Nat} {r : Rc} (h : Rc4 w g r) (hb : Below n w w') (hg : g < n) : Rc4 w' g r := by
  obtain ⟨⟨a, b, c, d⟩, ⟨a', b', c', d'⟩⟩ := h
  have k1 : ∀ o, w'.cell? ⟨g, o, none⟩ = w.cell? ⟨g, o, none⟩ := fun o => hb.cell (p := ⟨g, o, none⟩) hg
  have k2 : ∀ o, w'.frozen? ⟨g, o, none⟩ = w.frozen? ⟨g, o, none⟩ := fun o => hb.frozen (p := ⟨g, o, none⟩) hg
  exact ⟨⟨(k1 _).trans a, (k1 _).trans b, (k1 _).trans c, (k1 _).trans d⟩, ⟨(k2 _).trans a', (k2 _).trans b', (k2 _).trans c', (k2 _).trans d'⟩⟩
theorem cso {w : World} {g i j : Nat} {v : Value} (h : i ≠ j) : (w.setCell ⟨g, i, none⟩ v).cell? ⟨g, j, none⟩ = w.cell? ⟨g, j, none⟩ := World.cell?_setCell_other _ _ _ _ (by simp [h])
theorem Rc4.put {w : World} {g : Nat} {r : Rc} (h : Rc4 w g r) (a b c d : Int) :
    Rc4 ((((w.setCell ⟨g, 0, none⟩ (.int .i64 a)).setCell ⟨g, 1, none⟩ (.int .i64 b)).setCell ⟨g, 2, none⟩ (.int .i64 c)).setCell ⟨g, 3, none⟩ (.int .i64 d)) g ⟨a, b, c, d⟩ := by
  obtain ⟨⟨h0, h1, h2, h3⟩, ⟨f0, f1, f2, f3⟩⟩ := h
  refine ⟨⟨?_, ?_, ?_, ?_⟩, ⟨?_, ?_, ?_, ?_⟩⟩
  · rw [cso (by decide), cso (by decide), cso (by decide)]; exact World.cell?_setCell_same _ _ _ h0
  · rw [cso (by decide), cso (by decide)]; exact World.cell?_setCell_same _ _ _ (by rw [cso (by decide)]; exact h1)
  · rw [cso (by decide)]; exact World.cell?_setCell_same _ _ _ (by rw [cso (by decide), cso (by decide)]; exact h2)
  · exact World.cell?_setCell_same _ _ _ (by rw [cso (by decide), cso (by decide), cso (by decide)]; exact h3)
  all_goals simp only [World.frozen?_setCell]; assumption
theorem own_far {w : World} {base e size n : Nat} {v : Value} {xs : List Value} (h : w.ownsRow base e size v n xs) {p : Addr} (hp : p.block < base) (u : Value) : (w.setCell p u).ownsRow base e size v n xs := by
  obtain ⟨hl, h | ⟨g, cap, cur, he, hb, hh, hr⟩⟩ := h
  · exact ⟨hl, .inl h⟩
  · exact ⟨hl, .inr ⟨g, cap, cur, he, hb, by rw [Below.heap_setCell _ _ _ _ (by omega)]; exact hh, hr⟩⟩
set_option maxHeartbeats 8000000 in
set_option maxRecDepth 20000 in
theorem widest_any {nm sp : ByteArray} {ln wd th cu mo : Int} {D : Option Addr} {dn dc : Nat} {ds : List Rc} {q : Int} (hb : BdOk ⟨nm, sp, ln, wd, th, cu, mo, ds⟩) (hq0 : 1 ≤ q) (hq1 : q ≤ ln) (w : World) (hd : RcRow w D dn ds) :
    Calls Try.prog 97 #[.agg #[.string nm, .string sp, .int .i64 ln, .int .i64 wd, .int .i64 th, .int .i64 cu, .int .i64 mo, .slice D dn dc], .int .i64 q] w fun e w' => e = .returned (.agg #[.int .i64 (widR ⟨nm, sp, ln, wd, th, cu, mo, ds⟩ q).x1, .int .i64 (widR ⟨nm, sp, ln, wd, th, cu, mo, ds⟩ q).y1, .int .i64 (widR ⟨nm, sp, ln, wd, th, cu, mo, ds⟩ q).x2, .int .i64 (widR ⟨nm, sp, ln, wd, th, cu, mo, ds⟩ q).y2]) ∧ Below w.heap.size w w' := by
  have hdl := hd.1
  have hdn := hb.dn
  simp only at hdn
  have hdn' : dn ≤ 60 := by omega
  have hl0 := hb.l0; have hl1 := hb.l1; have hw0 := hb.w0; have hw1 := hb.w1
  simp only at hl0 hl1 hw0 hw1
  obtain ⟨i0, hi, hz0, hz1, hz2⟩ := info_parts info3
  have HD := Lib.hid hd
  have HBD := Lib.hid hb
  clear hd hb
  go_enter Try.func97, Try.ntmps97
  go_wp2
  go_loopw [5, 17] (fun v i wr => ∃ k : Nat, k ≤ dn ∧ i = .int .i64 k ∧ wr.ownsRow (w.heap.size + 2) 3 1 v (begT (ln - q) (ds.take k)).length (intCells (begT (ln - q) (ds.take k))) ∧ Below (w.heap.size + 2) ((w.alloc (.cells #[.string nm, .string sp, .int .i64 ln, .int .i64 wd, .int .i64 th, .int .i64 cu, .int .i64 mo, .slice D dn dc] 34)).alloc (.cells #[.int .i64 0, .int .i64 0, .int .i64 0, .int .i64 0] 75)) wr) (fun _ i _ => dn - (intOf i).toNat)
  case atStart => exact ⟨0, Nat.zero_le _, rfl, by simpa [begT, intCells] using World.ownsRow_lit (base := w.heap.size + 2) (e := 3) (size := 1) ((w.alloc (.cells #[.string nm, .string sp, .int .i64 ln, .int .i64 wd, .int .i64 th, .int .i64 cu, .int .i64 mo, .slice D dn dc] 34)).alloc (.cells #[.int .i64 0, .int .i64 0, .int .i64 0, .int .i64 0] 75)) #[.int .i64 0] 1 (by simp) (by unfold maxLen; omega) rfl, (Below.refl _ _).alloc (by simp) _⟩
  case round =>
    obtain ⟨k, hk, rfl, hov, hbw⟩ := hrel
    have HB := Lib.hid hbw
    have HBW := Lib.hid (show Below w.heap.size w wr from (((Below.refl w.heap.size w).alloc (Nat.le_refl _) _).alloc (by simp) _).trans (hbw.mono (by omega)))
    have hsz := hbw.size
    simp at hsz
    have kB : ∀ o, wr.cell? ⟨w.heap.size, o, none⟩ = _ := fun o => hbw.cell (p := ⟨w.heap.size, o, none⟩) (by simp)
    have q2 := kB 2
    simp [go_sem] at q2
    have hs0 : w.heap.size < wr.heap.size := by omega
    clear hbw kB
    by_cases hlt : k < dn
    · have hkl : k < ds.length := by omega
      obtain ⟨bk, of, rfl, hbk, hx⟩ := HD.out.2 (by omega)
      have hxx := (hx k hkl).below HBW.out hbk
      have hln := begT_len (m := ln - q) (ds := ds.take k)
      rw [List.length_take] at hln
      have TI := fun h1 => Lib.hid (begT_in (m := ln - q) hkl h1)
      have TO := fun h1 => Lib.hid (begT_out (m := ln - q) hkl h1)
      clear hx
      obtain ⟨tk, htk⟩ : ∃ tk, begT (ln - q) (ds.take k) = tk := ⟨_, rfl⟩
      rw [htk] at hov TI TO hln
      clear htk
      have hdk := (HBD.out.each ds[k] (List.getElem_mem hkl))
      obtain ⟨d, hdd⟩ : ∃ d, ds[k] = d := ⟨_, rfl⟩
      rw [hdd] at hxx TI TO hdk
      clear hdd
      obtain ⟨a1, b1, a2, b2⟩ := d
      obtain ⟨c0, c1, c2, c3⟩ := hxx
      simp only at c0 c1 c2 c3 TI TO
      have hlk : tk.length ≤ 61 := by omega
      clear hln
      by_cases hle : a2 ≤ ln - q
      · have HT := TI hle
        have hleb : decide (a2 ≤ ln - q) = true := decide_eq_true hle
        clear TI TO
        go_wp2_with (at_builtin; refine wpList_append_own_at _ rfl _ _ 117 rfl (w.heap.size + 2) 3 i0 (.int .i64 0) 1 8 Try.underlying117 hi hz0 hz1 hz2 rfl (by decide) _ _ _ rfl ((hov.alloc _).alloc _) ⟨wr.heap.size + 1, 0, none⟩ 1 1 [.int .i64 a2] rfl rfl (by first | exact cell_one_new _ _ _ | (intro j u h; match j, h with | 0, h => simp at h; subst h; simp [Addr.add, go_sem])) (by intro u hu; simp at hu; subst hu; rfl) (by unfold maxLen; omega) (by omega) (by first | omega | (simp; omega)) ?_; intro v3 w3 hown3 hgrow3 hnil3 hloc3)
        all_goals
          go_roundw
          case rel =>
            refine ⟨k + 1, by omega, by go_num, ?_, ?_⟩
            · rw [HT.out, List.length_append]; simpa [intCells] using hown3
            · exact (((HB.out.alloc (by first | omega | (simp; omega)) _).alloc (by first | omega | (simp; omega)) _)).grown hgrow3 (by first | omega | (simp; omega)) (fun j hj => own_ge hov j hj)
          case measure => first | (simp [intOf]; done) | (simp [intOf]; omega)
      · have HT := TO hle
        have hleb : decide (a2 ≤ ln - q) = false := decide_eq_false hle
        clear TI TO
        go_wp2
        go_roundw
        case rel =>
          refine ⟨k + 1, by omega, by go_num, ?_, ?_⟩
          · rw [HT.out]; exact hov.alloc _
          · exact HB.out.alloc (by first | omega | (simp; omega)) _
        case measure => first | (simp [intOf]; done) | (simp [intOf]; omega)
    · have hk' : dn = k := by omega
      have hall : ds.take k = ds := List.take_of_length_le (by omega)
      rw [hall] at hov
      have hel := begT_len (m := ln - q) (ds := ds)
      subst hk'
      have hpp := sortedL_perm (begT (ln - q) ds)
      have hss := Lib.hid (sortedL_le (begT (ln - q) ds))
      have hse := Lib.hid (fun v (h : v ∈ sortedL (begT (ln - q) ds)) => begs_in HBD.out (n := q) (x := v) hq1 (hpp.mem_iff.1 h))
      have HWR := Lib.hid (widR_prog HBD.out (n := q) hq1 (bs := sortedL (begT (ln - q) ds)) hpp hss.out)
      have hsl := hpp.length_eq
      obtain ⟨es, hes⟩ : ∃ es, sortedL (begT (ln - q) ds) = es := ⟨_, rfl⟩
      obtain ⟨m, hm⟩ : ∃ m, (begT (ln - q) ds).length = m := ⟨_, rfl⟩
      have HM := Lib.hid (show es.length = m by rw [← hes, hsl, hm])
      have hm3 : m ≤ 61 := by omega
      rw [hm] at hov
      obtain ⟨pe, ce, rfl⟩ := own_sl1 hov
      have S := Lib.hid (sortInts_any wr hov hm.symm (by omega))
      rw [hes] at S HWR hse hss
      have HV := Lib.hid (own_ge1 hov)
      clear hov hes hpp hel hsl hm hdl hall
      go_wp2_with (go_at_call 118; (refine Calls.mono S.out ?_); rintro e w1 ⟨rfl, hown1, hg1⟩)
      have HB1 := Lib.hid (show Below (w.heap.size + 2) ((w.alloc (.cells #[.string nm, .string sp, .int .i64 ln, .int .i64 wd, .int .i64 th, .int .i64 cu, .int .i64 mo, .slice D dn dc] 34)).alloc (.cells #[.int .i64 0, .int .i64 0, .int .i64 0, .int .i64 0] 75)) w1 from HB.out.grown hg1 (by first | omega | (simp; omega)) (fun j hj => (HV.out j hj).1))
      have hs1 : w.heap.size + 2 ≤ w1.heap.size := by have := HB1.out.size; simp at this; omega
      have HOW := Lib.hid hown1
      clear hg1 S HB HBW HV hown1 q2 hsz hs0 hk hlt
      have HW1 := Lib.hid (show Below w.heap.size w w1 from (((Below.refl w.heap.size w).alloc (Nat.le_refl _) _).alloc (by simp) _).trans (HB1.out.mono (by omega)))
      have K1 : ∀ o, w1.cell? ⟨w.heap.size, o, none⟩ = _ := fun o => HB1.out.cell (p := ⟨w.heap.size, o, none⟩) (by simp)
      have q0 := K1 0; have q1 := K1 1; have q2 := K1 2; have q3 := K1 3; have q4 := K1 4; have q5 := K1 5; have q6 := K1 6; have q7 := K1 7
      simp [go_sem] at q0 q1 q2 q3 q4 q5 q6 q7
      have HQ := Lib.hid (And.intro q0 (And.intro q1 (And.intro q2 (And.intro q3 (And.intro q4 (And.intro q5 (And.intro q6 q7)))))))
      have K2 : ∀ o, w1.cell? ⟨w.heap.size + 1, o, none⟩ = _ := fun o => HB1.out.cell (p := ⟨w.heap.size + 1, o, none⟩) (by simp)
      have K3 : ∀ o, w1.frozen? ⟨w.heap.size + 1, o, none⟩ = _ := fun o => HB1.out.frozen (p := ⟨w.heap.size + 1, o, none⟩) (by simp)
      have HR := Lib.hid (show Rc4 w1 (w.heap.size + 1) zeroR by refine ⟨⟨?_, ?_, ?_, ?_⟩, ⟨?_, ?_, ?_, ?_⟩⟩ <;> first | (rw [K2]; simp [go_sem]; rfl) | (rw [K3]; simp [go_sem]))
      clear q0 q1 q2 q3 q4 q5 q6 q7 K1 K2 K3 HB1
      go_loopw [38] (fun i wr => ∃ k : Nat, k ≤ m ∧ i = .int .i64 k ∧ Below w1.heap.size w1 wr ∧ w1.heap.size < wr.heap.size ∧ Rc4 wr w1.heap.size (bTo ⟨nm, sp, ln, wd, th, cu, mo, ds⟩ q es k)) (fun i _ => m - (intOf i).toNat)
      case atStart => exact ⟨0, Nat.zero_le _, rfl, (Below.refl _ _).alloc (Nat.le_refl _) _, by simp, by refine ⟨⟨?_, ?_, ?_, ?_⟩, ⟨?_, ?_, ?_, ?_⟩⟩ <;> (simp [go_sem]; try rfl)⟩
      case round =>
        obtain ⟨k, hk, rfl, hbw, hsr, hbest⟩ := hrel
        have HB := Lib.hid hbw
        have HBW := Lib.hid (HW1.out.trans (hbw.mono (by omega)))
        have kB : ∀ o, wr.cell? ⟨w.heap.size, o, none⟩ = w1.cell? ⟨w.heap.size, o, none⟩ := fun o => hbw.cell (p := ⟨w.heap.size, o, none⟩) (by simp only; omega)
        have q0 := (kB 0).trans HQ.out.1; have q1 := (kB 1).trans HQ.out.2.1; have q2 := (kB 2).trans HQ.out.2.2.1; have q3 := (kB 3).trans HQ.out.2.2.2.1; have q4 := (kB 4).trans HQ.out.2.2.2.2.1; have q5 := (kB 5).trans HQ.out.2.2.2.2.2.1; have q6 := (kB 6).trans HQ.out.2.2.2.2.2.2.1; have q7 := (kB 7).trans HQ.out.2.2.2.2.2.2.2
        have hsz := hbw.size
        have hsr0 : w.heap.size < wr.heap.size := by omega
        have HBE := Lib.hid hbest
        have HR1 := Lib.hid (HR.out.below hbw (by omega))
        clear kB
        by_cases hlt : k < m
        · have hkl : k < es.length := by have := HM.out; omega
          have hkj : (k : Int) < m := by omega
          obtain ⟨g, cap, e1, -, hg, -, -, hcell⟩ := own_int HOW.out HM.out.symm (by omega)
          injection e1 with e11 _ e13
          subst e11 e13
          have c0 := (hbw.cell (p := ⟨g, k, none⟩) hg).trans (hcell k hkl)
          have HT1 := Lib.hid (bTo_step (b := ⟨nm, sp, ln, wd, th, cu, mo, ds⟩) (n := q) hkl)
          have hEb := hse.out _ (List.getElem_mem hkl)
          obtain ⟨E, hE⟩ : ∃ E, es[k] = E := ⟨_, rfl⟩
          rw [hE] at c0 HT1 hEb
          have HY := Lib.hid (bTo_yin HBD.out (n := q) (bs := es) k)
          obtain ⟨r0, hr0⟩ : ∃ r0, bTo ⟨nm, sp, ln, wd, th, cu, mo, ds⟩ q es k = r0 := ⟨_, rfl⟩
          rw [hr0] at HT1 HBE HY
          clear hcell hE hr0 hbest
          obtain ⟨hE0, hE1⟩ := hEb
          have hwE : IntKind.i64.wrap (E + q) = E + q := by rw [IntKind.wrap_i64]; omega
          have HOL := Lib.hid (openL_is HBD.out E (E + q))
          have AC := fun wx hbx => Lib.hid (across_any (nm := nm) (sp := sp) (ln := ln) (wd := wd) (th := th) (cu := cu) (mo := mo) (dc := dc) (a := E) (e := E + q) hdn' wx (RcRow.below HD.out (HBW.out.trans hbx)))
          have hal : (acrossL ⟨nm, sp, ln, wd, th, cu, mo, ds⟩ E (E + q)).length ≤ 60 := Nat.le_trans acT_len (by first | omega | (simp only; omega))
          have OPN := fun base v n wx h1 h2 h3 h4 => Lib.hid (openings_any (base := base) (v := v) (n := n) (xs := acrossL ⟨nm, sp, ln, wd, th, cu, mo, ds⟩ E (E + q)) (en := wd) wx h1 h2 h3 h4)
          have HUN := fun ys h1 h2 => Lib.hid (open_unique (open_prog (us := ys) (across_ok HBD.out E (E + q)) h1 h2) (openL_is HBD.out E (E + q)))
          simp only at HUN
          obtain ⟨ol, hol⟩ : ∃ ol, openL ⟨nm, sp, ln, wd, th, cu, mo, ds⟩ E (E + q) = ol := ⟨_, rfl⟩
          rw [hol] at HOL HT1 HUN
          clear hol
          go_upto_region 13 with fail
          go_cut [38, 50, 51, 52] from 38 to 77 (fun iv rv nv jv wx => iv = .int .i64 k ∧ (∃ p2 cp2, rv = .slice p2 ol.length cp2) ∧ nv = .int .i64 ol.length ∧ jv = .int .i64 0 ∧ wx.ownsRow wr.heap.size 50 2 rv ol.length (ivCells ol) ∧ Below wr.heap.size wr wx)
          case first =>
            go_region_with (first | (go_at_call 119; have h := hownA; refine Calls.mono (OPN wr.heap.size _ _ _ hownA rfl hal hbA.size).out ?_; rintro e w3 ⟨r3, m3, ys, rfl, hp3, hs3, hm3', hown3, hg3⟩; rw [(HUN ys hp3 hs3).out] at hown3 hm3'; subst hm3'; obtain ⟨p3, cp3, rfl, -⟩ := own_sl hown3) | (go_at_call 120; refine Calls.mono (AC _ (by first | exact (Below.refl _ _).drew | exact Below.refl _ _)).out ?_; rintro e w2 ⟨r2, rfl, hownA, hbA⟩; have q3A := (hbA.cell (p := ⟨w.heap.size, 3, none⟩) (by simp; omega)).trans (show _ = some (Value.int .i64 wd) by simpa [go_sem] using q3)))
            all_goals
              go_wp2_with fail
              go_meet
              exact ⟨rfl, ⟨_, _, rfl⟩, rfl, rfl, hown3, ((Below.refl wr.heap.size wr).drew.trans (hbA.mono (Nat.le_refl _))).grown hg3 hbA.size (fun j hj => own_ge hownA j hj)⟩
          case rest =>
            obtain ⟨rfl, ⟨p2, cp2, rfl⟩, rfl, rfl, hownB, hbB⟩ := hcut
            obtain ⟨-, -, -, hnm⟩ := own_sl hownB
            have HEA := fun p hp => Lib.hid (open_each HOL.out p hp)
            have HOB := Lib.hid hownB
            have HBB := Lib.hid (HB.out.trans (hbB.mono hsz))
            have HRC := Lib.hid (HBE.out.below hbB hsr)
            have hbsz := hbB.size
            obtain ⟨n, hn⟩ : ∃ n, ol.length = n := ⟨_, rfl⟩
            have HNN := Lib.hid hn
            rw [hn] at HOB hnm HT1 ⊢
            have hnn : n ≤ 9223372036854775807 := hnm
            have HOY := Lib.hid (fun j (hj : j ≤ ol.length) => oTo_yin (x := E) (n := q) (l := ol) HY.out (fun p hp => (HEA p hp).out) j hj)
            clear hownB hbB hn q0 q1 q2 q3 q4 q5 q6 q7 c0 AC OPN HUN
            go_wp2
            obtain ⟨wq, rfl⟩ : ∃ wq, wq = wr := ⟨_, rfl⟩
            go_loopw [52] (fun jv wz => ∃ j : Nat, j ≤ n ∧ jv = .int .i64 j ∧ Below w1.heap.size w1 wz ∧ wq.heap.size ≤ wz.heap.size ∧ wz.ownsRow wq.heap.size 50 2 (.slice p2 n cp2) n (ivCells ol) ∧ Rc4 wz w1.heap.size (oTo r0 E q ol j)) (fun jv _ => n - (intOf jv).toNat)
            case atStart => exact ⟨0, Nat.zero_le _, rfl, HBB.out, hbsz, HOB.out, HRC.out⟩
            case round =>
              obtain ⟨j, hj, rfl, hbz, hzz, hoz2, hrz⟩ := hrel
              have HBZ := Lib.hid hbz
              have HOZ2 := Lib.hid hoz2
              have HRZ := Lib.hid hrz
              have hY := HOY.out j (show j ≤ ol.length by have := HNN.out; omega)
              have hz1 : w1.heap.size < wr.heap.size := by omega
              by_cases hjn : j < n
              · have hjl : j < ol.length := by have := HNN.out; omega
                have hji : (j : Int) < n := by omega
                obtain ⟨g3, cap3, e3, -, hg3, -, -, d0, d1, -⟩ := own_cell HOZ2.out HNN.out.symm hjl
                injection e3 with e31 _ e33
                subst e31 e33
                rw [Nat.zero_add] at d0 d1
                have HS := Lib.hid (oTo_step (r := r0) (x := E) (n := q) hjl)
                obtain ⟨ho0, ho1, ho2⟩ := (HEA _ (List.getElem_mem hjl)).out
                obtain ⟨X, hX⟩ : ∃ X, ol[j].1 = X := ⟨_, rfl⟩
                obtain ⟨Y, hY'⟩ : ∃ Y, ol[j].2 = Y := ⟨_, rfl⟩
                rw [hX] at d0 HS ho0 ho1
                rw [hY'] at d1 HS ho1 ho2
                obtain ⟨r, hr⟩ : ∃ r, oTo r0 E q ol j = r := ⟨_, rfl⟩
                rw [hr] at HS hY hrz HRZ
                clear hX hY' hr hbz hoz2
                obtain ⟨x1, y1, x2, y2⟩ := r
                obtain ⟨hY0, hY1, hY2⟩ := hY
                simp only at hY0 hY1 hY2
                obtain ⟨⟨b0, b1, b2, b3⟩, ⟨f0, f1, f2, f3⟩⟩ := hrz
                simp only at b0 b1 b2 b3
                by_cases hwd : y2 - y1 < Y - X
                · have HSP := Lib.hid (HS.out.trans (pick_lt (r := ⟨x1, y1, x2, y2⟩) (c := ⟨E, X, E + q, Y⟩) hwd))
                  have hdd : decide (y2 - y1 < Y - X) = true := decide_eq_true hwd
                  clear HS
                  go_wp2
                  go_roundw
                  case rel =>
                    refine ⟨j + 1, by omega, by go_num, ?_, ?_, ?_, ?_⟩
                    · refine Below.alloc ?_ (by simp [World.setCell]; omega) _
                      repeat (refine Below.setCell ?_ (by simp) _)
                      exact HBZ.out
                    · simp [World.setCell]; omega
                    · refine World.ownsRow.alloc ?_ _
                      repeat (refine own_far ?_ (by simp; omega) _)
                      exact HOZ2.out
                    · rw [HSP.out]
                      refine Rc4.below ?_ ((Below.refl _ _).alloc (Nat.le_refl _) _) (by simp [World.setCell]; omega)
                      exact HRZ.out.put _ _ _ _
                  case measure => first | (simp [intOf]; done) | (simp [intOf]; omega)
                · have HSP := Lib.hid (HS.out.trans (pick_ge (r := ⟨x1, y1, x2, y2⟩) (c := ⟨E, X, E + q, Y⟩) hwd))
                  have hdd : decide (y2 - y1 < Y - X) = false := decide_eq_false hwd
                  clear HS
                  go_wp2
                  go_roundw
                  case rel =>
                    refine ⟨j + 1, by omega, by go_num, HBZ.out.alloc (by omega) _, by simp; omega, HOZ2.out.alloc _, ?_⟩
                    rw [HSP.out]; exact HRZ.out.below ((Below.refl wr.heap.size wr).alloc (Nat.le_refl _) _) hz1
                  case measure => first | (simp [intOf]; done) | (simp [intOf]; omega)
              · have hjn' : j = n := by omega
                subst hjn'
                clear hbz hoz2 hrz hY
                go_wp2
                go_roundw
                case rel => exact ⟨k + 1, by omega, by go_num, HBZ.out, by omega, by rw [HT1.out]; exact HRZ.out⟩
                case measure => first | (simp [intOf]; done) | (simp [intOf]; omega)
        · have hk' : k = m := by omega
          have hall : bTo ⟨nm, sp, ln, wd, th, cu, mo, ds⟩ q es k = widR ⟨nm, sp, ln, wd, th, cu, mo, ds⟩ q := by rw [hk', ← HM.out]; exact HWR.out
          rw [hall] at HBE
          subst hk'
          obtain ⟨⟨b0, b1, b2, b3⟩, -⟩ := HBE.out
          obtain ⟨-, ⟨f0, f1, f2, f3⟩⟩ := HR1.out
          have HR2 := HR1
          obtain ⟨⟨z0, z1, z2, z3⟩, -⟩ := HR1.out
          have hsr1 : w.heap.size + 1 < wr.heap.size := by omega
          clear hbest hall
          go_wp2
          refine bodyPost_ret (v := .agg #[.int .i64 (widR ⟨nm, sp, ln, wd, th, cu, mo, ds⟩ q).x1, .int .i64 (widR ⟨nm, sp, ln, wd, th, cu, mo, ds⟩ q).y1, .int .i64 (widR ⟨nm, sp, ln, wd, th, cu, mo, ds⟩ q).x2, .int .i64 (widR ⟨nm, sp, ln, wd, th, cu, mo, ds⟩ q).y2]) (by simp [results, Try.results97, go_sem, z0, z1, z2, z3]) rfl ⟨rfl, ?_⟩
          repeat (refine Below.setCell ?_ (by simp) _)
          exact HBW.out
end Go.Proofs.Ytnjbhidncicfiaa
