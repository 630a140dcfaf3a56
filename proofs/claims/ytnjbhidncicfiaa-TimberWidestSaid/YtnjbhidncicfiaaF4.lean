/- Walks over the timber seat: the area under defects, the program's. -/
import Derived.Test.YtnjbhidncicfiaaF3
import Derived.Test.YtnjbhidncicfiaaEC
import Derived.Test.YtnjbhidncicfiaaMC
import Derived.Deep.CutRange
namespace Go.Proofs.Ytnjbhidncicfiaa
open Go.Shelf Go.RowKit Go.Lib Go.Sort

theorem own_sl1 {w : World} {base n : Nat} {v : Value} {xs : List Value} (h : w.ownsRow base 3 1 v n xs) : ∃ p cap, v = .slice p n cap := by
  obtain ⟨-, ⟨rfl, h0⟩ | ⟨g, cap, cur, rfl, -⟩⟩ := h
  · subst h0; exact ⟨none, 0, rfl⟩
  · exact ⟨_, cap, rfl⟩
def enT (ds : List Rc) : List Int := ds.flatMap fun d => [d.x1, d.x2]
theorem enT_len (ds : List Rc) : (enT ds).length = 2 * ds.length := by
  unfold enT
  induction ds with
  | nil => rfl
  | cons d r ih => rw [List.flatMap_cons, List.length_append, ih]; simp; omega
theorem enT_succ {ds : List Rc} {k : Nat} (h : k < ds.length) : enT (ds.take (k + 1)) = enT (ds.take k) ++ [ds[k].x1, ds[k].x2] := by
  unfold enT; rw [List.take_succ_eq_append_getElem h, List.flatMap_append]; simp
theorem intCells_two (zs : List Int) (a b : Int) : intCells (zs ++ [a, b]) = intCells zs ++ [.int .i64 a, .int .i64 b] := by unfold intCells; simp
def lastL (a : Int) : List Int → Int
  | [] => a
  | e :: r => lastL e r
theorem lastL_snoc : ∀ (l : List Int) (a e : Int), lastL a (l ++ [e]) = e
  | [], _, _ => rfl
  | _ :: r, _, e => lastL_snoc r _ e
theorem strips_snoc {b : Bd} : ∀ (l : List Int) (a e : Int), strips b a (l ++ [e]) = strips b a l + (e - lastL a l) * stripW b (lastL a l) e
  | [], a, e => by show (e - a) * stripW b a e + 0 = 0 + (e - a) * stripW b a e; omega
  | x :: r, a, e => by
    show (x - a) * stripW b a x + strips b x (r ++ [e]) = (x - a) * stripW b a x + strips b x r + (e - lastL x r) * stripW b (lastL x r) e
    rw [strips_snoc r x e]; omega
theorem strips_bounds {b : Bd} (hb : BdOk b) : ∀ {l : List Int} {a : Int}, a ≤ b.ln → l.Pairwise (fun x y => x ≤ y) → (∀ v ∈ l, a ≤ v ∧ v ≤ b.ln) → 0 ≤ strips b a l ∧ strips b a l ≤ (b.ln - a) * b.wd
  | [], a, h, _, _ => ⟨Int.le_refl _, Int.mul_nonneg (by omega) (by have := hb.w0; omega)⟩
  | e :: r, a, h, hs, hv => by
    have hs' := List.pairwise_cons.1 hs
    have he := hv e (List.mem_cons_self ..)
    obtain ⟨h1, h2⟩ := strips_bounds hb (l := r) (a := e) he.2 hs'.2 fun v hv' => ⟨hs'.1 v hv', (hv v (List.mem_cons_of_mem _ hv')).2⟩
    obtain ⟨h3, h4⟩ := strip_bounds hb a e
    have h5 : 0 ≤ (e - a) * stripW b a e := Int.mul_nonneg (by omega) h3
    have h6 : (e - a) * stripW b a e ≤ (e - a) * b.wd := Int.mul_le_mul_of_nonneg_left h4 (by omega)
    have h7 : (b.ln - a) * b.wd = (e - a) * b.wd + (b.ln - e) * b.wd := by rw [← Int.add_mul]; congr 1; omega
    show 0 ≤ (e - a) * stripW b a e + strips b e r ∧ (e - a) * stripW b a e + strips b e r ≤ _
    omega
theorem last_in : ∀ {l : List Int} {a M : Int}, 0 ≤ a → a ≤ M → (∀ v ∈ l, 0 ≤ v ∧ v ≤ M) → 0 ≤ lastL a l ∧ lastL a l ≤ M
  | [], _, _, h0, h1, _ => ⟨h0, h1⟩
  | e :: r, _, _, _, _, h => last_in (l := r) (h e (List.mem_cons_self ..)).1 (h e (List.mem_cons_self ..)).2 fun v hv => h v (List.mem_cons_of_mem _ hv)
theorem last_le : ∀ {l : List Int} {a e : Int}, a ≤ e → (∀ v ∈ l, v ≤ e) → lastL a l ≤ e
  | [], _, _, h, _ => h
  | x :: r, _, _, _, h => last_le (l := r) (h x (List.mem_cons_self ..)) fun v hv => h v (List.mem_cons_of_mem _ hv)
theorem area_top {b : Bd} (hb : BdOk b) {a : Int} (h0 : 0 ≤ a) (h1 : a ≤ b.ln) {c : Int} (hc : 0 ≤ c) (h2 : c ≤ b.wd) : 0 ≤ a * c ∧ a * c ≤ 60000000000 := by
  have hl := hb.l1; have hw := hb.w1
  refine ⟨Int.mul_nonneg h0 hc, Int.le_trans (Int.mul_le_mul_of_nonneg_right (show a ≤ 600000 by omega) hc) ?_⟩
  omega
theorem lens_take {l : List Iv} {j : Nat} (h : j < l.length) : lens (l.take (j + 1)) = lens (l.take j) + (l[j].2 - l[j].1) := by
  rw [List.take_succ_eq_append_getElem h, lens_append]; simp [lens]
theorem lens_nonneg : ∀ {l : List Iv}, (∀ p ∈ l, p.1 < p.2) → 0 ≤ lens l
  | [], _ => Int.le_refl _
  | p :: r, h => by
    have := lens_nonneg (l := r) fun q hq => h q (List.mem_cons_of_mem _ hq)
    have := h p (List.mem_cons_self ..)
    show 0 ≤ (p.2 - p.1) + lens r
    omega
theorem lens_part {l : List Iv} (h : ∀ p ∈ l, p.1 < p.2) (j : Nat) : 0 ≤ lens (l.take j) ∧ lens (l.take j) ≤ lens l := by
  have h1 := lens_nonneg (l := l.take j) fun p hp => h p (List.mem_of_mem_take hp)
  have h2 := lens_nonneg (l := l.drop j) fun p hp => h p (List.mem_of_mem_drop hp)
  have h3 := lens_append (l.take j) (l.drop j)
  rw [List.take_append_drop] at h3
  omega
theorem lens_open {b : Bd} (_ : BdOk b) (a e : Int) : lens (openL b a e) = b.wd - stripW b a e := by unfold stripW openL; omega
set_option maxHeartbeats 4000000 in
set_option maxRecDepth 20000 in
theorem defective_any {nm sp : ByteArray} {ln wd th cu mo : Int} {D : Option Addr} {dn dc : Nat} {ds : List Rc} (hb : BdOk ⟨nm, sp, ln, wd, th, cu, mo, ds⟩) (w : World) (hd : RcRow w D dn ds) :
    Calls Try.prog 89 #[.agg #[.string nm, .string sp, .int .i64 ln, .int .i64 wd, .int .i64 th, .int .i64 cu, .int .i64 mo, .slice D dn dc]] w fun e w' => e = .returned (.int .i64 (covered ⟨nm, sp, ln, wd, th, cu, mo, ds⟩)) ∧ Below w.heap.size w w' := by
  have hdl := hd.1
  have hdn := hb.dn
  simp only at hdn
  have hdn' : dn ≤ 60 := by omega
  have hl0 := hb.l0; have hl1 := hb.l1; have hw0 := hb.w0; have hw1 := hb.w1
  simp only at hl0 hl1 hw0 hw1
  obtain ⟨i0, hi, hz0, hz1, hz2⟩ := info_parts info3
  have HD := Lib.hid hd
  have HBD := Lib.hid hb
  clear hd hb
  go_enter Try.func89, Try.ntmps89
  go_wp2
  go_loopw [3, 16] (fun v i wr => ∃ k : Nat, k ≤ dn ∧ i = .int .i64 k ∧ wr.ownsRow (w.heap.size + 1) 3 1 v (enT (ds.take k)).length (intCells (enT (ds.take k))) ∧ Below (w.heap.size + 1) (w.alloc (.cells #[.string nm, .string sp, .int .i64 ln, .int .i64 wd, .int .i64 th, .int .i64 cu, .int .i64 mo, .slice D dn dc] 34)) wr) (fun _ i _ => dn - (intOf i).toNat)
  case atStart => exact ⟨0, Nat.zero_le _, rfl, ⟨rfl, .inl ⟨rfl, rfl⟩⟩, Below.refl _ _⟩
  case round =>
    obtain ⟨k, hk, rfl, hov, hbw⟩ := hrel
    have HB := Lib.hid hbw
    have HBW := Lib.hid (show Below w.heap.size w wr from ((Below.refl w.heap.size w).alloc (Nat.le_refl _) _).trans (hbw.mono (by omega)))
    have hsz := hbw.size
    simp at hsz
    clear hbw
    by_cases hlt : k < dn
    · have hkl : k < ds.length := by omega
      obtain ⟨bk, of, rfl, hbk, hx⟩ := HD.out.2 (by omega)
      have hxx := (hx k hkl).below HBW.out hbk
      have HT := Lib.hid (enT_succ hkl)
      have hln := enT_len (ds.take k)
      rw [List.length_take] at hln
      clear hx
      obtain ⟨tk, htk⟩ : ∃ tk, enT (ds.take k) = tk := ⟨_, rfl⟩
      rw [htk] at hov HT hln
      clear htk
      obtain ⟨d, hdd⟩ : ∃ d, ds[k] = d := ⟨_, rfl⟩
      rw [hdd] at hxx HT
      clear hdd
      obtain ⟨a1, b1, a2, b2⟩ := d
      obtain ⟨c0, c1, c2, c3⟩ := hxx
      simp only at c0 c1 c2 c3 HT
      have hlk : tk.length ≤ 120 := by omega
      clear hln
      go_wp2_with (at_builtin; refine wpList_append_own_at _ rfl _ _ 117 rfl (w.heap.size + 1) 3 i0 (.int .i64 0) 1 8 Try.underlying117 hi hz0 hz1 hz2 rfl (by decide) _ _ _ rfl ((hov.alloc _).alloc _) ⟨wr.heap.size + 1, 0, none⟩ 2 2 [.int .i64 a1, .int .i64 a2] rfl rfl (cell_two_new _ _ _ _ (by simp)) (two_oneCell _ _) (by unfold maxLen; omega) (by omega) (by simp; omega) ?_; intro v3 w3 hown3 hgrow3 hnil3 hloc3)
      all_goals
        go_roundw
        case rel =>
          refine ⟨k + 1, by omega, by go_num, ?_, ?_⟩
          · rw [HT.out, intCells_two, List.length_append]; exact hown3
          · exact (((HB.out.alloc hsz _).alloc (by simp; omega) _)).grown hgrow3 (by simp; omega) (fun j hj => own_ge hov j hj)
        case measure => first | (simp [intOf]; done) | (simp [intOf]; omega)
    · have hk' : dn = k := by omega
      have hall : ds.take k = ds := List.take_of_length_le (by omega)
      rw [hall] at hov
      have hel := enT_len ds
      subst hk'
      have hpp := sortedL_perm (enT ds)
      have hss := Lib.hid (sortedL_le (enT ds))
      have hse := Lib.hid (fun v (h : v ∈ sortedL (enT ds)) => ends_mem HBD.out (v := v) (hpp.mem_iff.1 h))
      have HCV := Lib.hid (strips_covered HBD.out (es := sortedL (enT ds)) hpp hss.out)
      have hsl := hpp.length_eq
      have hpp := sortedL_perm (enT ds)
      obtain ⟨es, hes⟩ : ∃ es, sortedL (enT ds) = es := ⟨_, rfl⟩
      obtain ⟨m, hm⟩ : ∃ m, (enT ds).length = m := ⟨_, rfl⟩
      have HM := Lib.hid (show es.length = m by rw [← hes, hsl, hm])
      have hm3 : m ≤ 120 := by omega
      rw [hm] at hov
      obtain ⟨pe, ce, rfl⟩ := own_sl1 hov
      have S := Lib.hid (sortInts_any wr hov hm.symm (by omega))
      rw [hes] at S HCV hse hss
      have HV := Lib.hid (own_ge1 hov)
      clear hov hes hpp hel hsl hm hdl
      go_wp2_with (go_at_call 118; (refine Calls.mono S.out ?_); rintro e w1 ⟨rfl, hown1, hg1⟩)
      have HOW := Lib.hid hown1
      have HB1 := Lib.hid (show Below (w.heap.size + 1) (w.alloc (.cells #[.string nm, .string sp, .int .i64 ln, .int .i64 wd, .int .i64 th, .int .i64 cu, .int .i64 mo, .slice D dn dc] 34)) w1 from HB.out.grown hg1 hsz (fun j hj => (HV.out j hj).1))
      have hs1 : w.heap.size < w1.heap.size := by have := HB1.out.size; simp at this; omega
      clear hg1 hown1 S
      clear HB HBW HV
      have HW1 := Lib.hid (show Below w.heap.size w w1 from ((Below.refl w.heap.size w).alloc (Nat.le_refl _) _).trans (HB1.out.mono (by simp)))
      have K1 : ∀ o, w1.cell? ⟨w.heap.size, o, none⟩ = _ := fun o => HB1.out.cell (p := ⟨w.heap.size, o, none⟩) (by simp)
      have q0 := K1 0; have q1 := K1 1; have q2 := K1 2; have q3 := K1 3; have q4 := K1 4; have q5 := K1 5; have q6 := K1 6; have q7 := K1 7
      simp [go_sem] at q0 q1 q2 q3 q4 q5 q6 q7
      have HQ := Lib.hid (And.intro q0 (And.intro q1 (And.intro q2 (And.intro q3 (And.intro q4 (And.intro q5 (And.intro q6 q7)))))))
      clear q0 q1 q2 q3 q4 q5 q6 q7 K1 HB1
      go_loopw [6, 7, 32] (fun av lv i wr => ∃ k : Nat, k ≤ m ∧ i = .int .i64 k ∧ av = .int .i64 (strips ⟨nm, sp, ln, wd, th, cu, mo, ds⟩ 0 (es.take k)) ∧ lv = .int .i64 (lastL 0 (es.take k)) ∧ Below w1.heap.size w1 wr) (fun _ _ i _ => m - (intOf i).toNat)
      case atStart => exact ⟨0, Nat.zero_le _, rfl, rfl, rfl, Below.refl _ _⟩
      case round =>
        obtain ⟨k, hk, rfl, rfl, rfl, hbw⟩ := hrel
        have HB := Lib.hid hbw
        have HBW := Lib.hid (HW1.out.trans (hbw.mono (by omega)))
        have kB : ∀ o, wr.cell? ⟨w.heap.size, o, none⟩ = w1.cell? ⟨w.heap.size, o, none⟩ := fun o => hbw.cell (p := ⟨w.heap.size, o, none⟩) hs1
        have q0 := (kB 0).trans HQ.out.1; have q1 := (kB 1).trans HQ.out.2.1; have q2 := (kB 2).trans HQ.out.2.2.1; have q3 := (kB 3).trans HQ.out.2.2.2.1; have q4 := (kB 4).trans HQ.out.2.2.2.2.1; have q5 := (kB 5).trans HQ.out.2.2.2.2.2.1; have q6 := (kB 6).trans HQ.out.2.2.2.2.2.2.1; have q7 := (kB 7).trans HQ.out.2.2.2.2.2.2.2
        have hsz := hbw.size
        have hsr : w.heap.size < wr.heap.size := by omega
        clear kB
        have hsub : ∀ v ∈ es.take k, (0 : Int) ≤ v ∧ v ≤ ln := fun v hv => hse.out v (List.mem_of_mem_take hv)
        have hAB := strips_bounds HBD.out (l := es.take k) (a := 0) (by first | omega | (simp only; omega)) (hss.out.sublist (List.take_sublist _ _)) hsub
        have hLb := last_in (l := es.take k) (a := 0) (M := ln) (by omega) (by omega) hsub
        by_cases hlt : k < m
        · have hkl : k < es.length := by have := HM.out; omega
          have hkj : (k : Int) < m := by omega
          obtain ⟨g, cap, e1, -, hg, -, -, hcell⟩ := own_int HOW.out HM.out.symm (by omega)
          injection e1 with e11 _ e13
          subst e11 e13
          have c0 := (hbw.cell (p := ⟨g, k, none⟩) hg).trans (hcell k hkl)
          have HT1 := Lib.hid (show strips ⟨nm, sp, ln, wd, th, cu, mo, ds⟩ 0 (es.take (k + 1)) = _ by rw [List.take_succ_eq_append_getElem hkl, strips_snoc])
          have HT2 := Lib.hid (show lastL 0 (es.take (k + 1)) = _ by rw [List.take_succ_eq_append_getElem hkl, lastL_snoc])
          have hEb := hse.out _ (List.getElem_mem hkl)
          have hLE := last_le (l := es.take k) (a := 0) (e := es[k]) hEb.1 (fun v hv => by
            obtain ⟨j, hj, rfl⟩ := List.mem_iff_getElem.1 hv
            rw [List.length_take] at hj
            rw [List.getElem_take]
            exact List.pairwise_iff_getElem.1 hss.out j k (by omega) hkl (by omega))
          obtain ⟨E, hE⟩ : ∃ E, es[k] = E := ⟨_, rfl⟩
          rw [hE] at c0 HT1 HT2 hEb hLE
          obtain ⟨L, hL⟩ : ∃ L, lastL 0 (es.take k) = L := ⟨_, rfl⟩
          rw [hL] at HT1 hLE hLb ⊢
          obtain ⟨A, hA⟩ : ∃ A, strips ⟨nm, sp, ln, wd, th, cu, mo, ds⟩ 0 (es.take k) = A := ⟨_, rfl⟩
          rw [hA] at HT1 hAB ⊢
          clear hcell hE hL hA hsub
          have hSb := strip_bounds HBD.out L E
          simp only at hEb hLb hSb hAB
          have hA0 := hAB.1
          have hA2 : A ≤ 60000000000 := Int.le_trans hAB.2 (area_top HBD.out (by first | omega | (simp only; omega)) (by first | omega | (simp only; omega)) (by first | omega | (simp only; omega)) (by first | omega | (simp only; omega))).2
          have hPb := area_top HBD.out (a := E - L) (c := stripW ⟨nm, sp, ln, wd, th, cu, mo, ds⟩ L E) (by omega) (by first | omega | (simp only; omega)) hSb.1 (by first | omega | (simp only; omega))
          have HOL := Lib.hid (openL_is HBD.out L E)
          have HLN := Lib.hid (lens_open HBD.out L E)
          simp only at HLN
          have AC := fun wx hbx => Lib.hid (across_any (nm := nm) (sp := sp) (ln := ln) (wd := wd) (th := th) (cu := cu) (mo := mo) (dc := dc) (a := L) (e := E) hdn' wx (RcRow.below HD.out (HBW.out.trans hbx)))
          have hal : (acrossL ⟨nm, sp, ln, wd, th, cu, mo, ds⟩ L E).length ≤ 60 := Nat.le_trans acT_len (by first | omega | (simp only; omega))
          have OPN := fun base v n wx h1 h2 h3 h4 => Lib.hid (openings_any (base := base) (v := v) (n := n) (xs := acrossL ⟨nm, sp, ln, wd, th, cu, mo, ds⟩ L E) (en := wd) wx h1 h2 h3 h4)
          have HUN := fun ys h1 h2 => Lib.hid (open_unique (open_prog (us := ys) (across_ok HBD.out L E) h1 h2) (openL_is HBD.out L E))
          simp only at HUN
          obtain ⟨ol, hol⟩ : ∃ ol, openL ⟨nm, sp, ln, wd, th, cu, mo, ds⟩ L E = ol := ⟨_, rfl⟩
          rw [hol] at HOL HLN HUN
          obtain ⟨SW, hSW⟩ : ∃ SW, stripW ⟨nm, sp, ln, wd, th, cu, mo, ds⟩ L E = SW := ⟨_, rfl⟩
          rw [hSW] at HLN HT1 hPb hSb
          clear hol hSW hAB
          go_upto_region 13 with fail
          go_cut [32, 44, 45, 46] from 32 to 66 (fun iv rv nv jv wx => iv = .int .i64 k ∧ (∃ p2 cp2, rv = .slice p2 ol.length cp2) ∧ nv = .int .i64 ol.length ∧ jv = .int .i64 0 ∧ wx.ownsRow wr.heap.size 50 2 rv ol.length (ivCells ol) ∧ Below wr.heap.size wr wx)
          case first =>
            go_region_with (first | (go_at_call 119; have h := hownA; refine Calls.mono (OPN wr.heap.size _ _ _ hownA rfl hal hbA.size).out ?_; rintro e w3 ⟨r3, m3, ys, rfl, hp3, hs3, hm3', hown3, hg3⟩; rw [(HUN ys hp3 hs3).out] at hown3 hm3'; subst hm3'; obtain ⟨p3, cp3, rfl, -⟩ := own_sl hown3) | (go_at_call 120; refine Calls.mono (AC _ (by first | exact (Below.refl _ _).drew | exact Below.refl _ _)).out ?_; rintro e w2 ⟨r2, rfl, hownA, hbA⟩; have q3A := (hbA.cell (p := ⟨w.heap.size, 3, none⟩) (by simp; omega)).trans (show _ = some (Value.int .i64 wd) by simpa [go_sem] using q3)))
            all_goals
              go_wp2_with fail
              go_meet
              exact ⟨rfl, ⟨_, _, rfl⟩, rfl, rfl, hown3, ((Below.refl wr.heap.size wr).drew.trans (hbA.mono (Nat.le_refl _))).grown hg3 hbA.size (fun j hj => own_ge hownA j hj)⟩
          case rest =>
            obtain ⟨rfl, ⟨p2, cp2, rfl⟩, rfl, rfl, hownB, hbB⟩ := hcut
            obtain ⟨-, -, -, hnm⟩ := own_sl hownB
            have HEA := fun p hp => Lib.hid (open_each HOL.out p hp)
            have HLP := fun j => Lib.hid (lens_part (l := ol) (fun p hp => (open_each HOL.out p hp).2.1) j)
            have HOB := Lib.hid hownB
            have HBB := Lib.hid (HB.out.trans (hbB.mono hsz))
            have hbsz := hbB.size
            obtain ⟨n, hn⟩ : ∃ n, ol.length = n := ⟨_, rfl⟩
            have HNN := Lib.hid hn
            rw [hn] at HOB hnm ⊢
            have hnn : n ≤ 9223372036854775807 := hnm
            have K2 : ∀ o, wc.cell? ⟨w.heap.size, o, none⟩ = wr.cell? ⟨w.heap.size, o, none⟩ := fun o => hbB.cell (p := ⟨w.heap.size, o, none⟩) hsr
            clear hownB hbB hn q0 q1 q2 q4 q5 q6 q7 c0 K2 AC OPN HUN
            have hLN := HLN.out
            go_wp2
            go_loopw [10, 46] (fun cv jv wz => ∃ j : Nat, j ≤ n ∧ jv = .int .i64 j ∧ cv = .int .i64 (wd - lens (ol.take j)) ∧ Below wc.heap.size wc wz) (fun _ jv _ => n - (intOf jv).toNat)
            case atStart => exact ⟨0, Nat.zero_le _, rfl, by simp [lens], Below.refl _ _⟩
            case round =>
              obtain ⟨j, hj, rfl, rfl, hbz⟩ := hrel
              have HBZ := Lib.hid hbz
              have hzz := hbz.size
              obtain ⟨hT0, hT1⟩ := (HLP j).out
              by_cases hjn : j < n
              · have hjl : j < ol.length := by have := HNN.out; omega
                have hji : (j : Int) < n := by omega
                obtain ⟨g3, cap3, e3, -, hg3, -, -, d0, d1, -⟩ := own_cell HOB.out HNN.out.symm hjl
                injection e3 with e31 _ e33
                subst e31 e33
                rw [Nat.zero_add] at d0 d1
                have m0 := (hbz.cell (p := ⟨g3, j * 2, none⟩) hg3).trans d0
                have m1 := (hbz.cell (p := ⟨g3, j * 2 + 1, none⟩) hg3).trans d1
                have LT := Lib.hid (lens_take hjl)
                obtain ⟨ho0, ho1, ho2⟩ := (HEA _ (List.getElem_mem hjl)).out
                obtain ⟨X, hX⟩ : ∃ X, ol[j].1 = X := ⟨_, rfl⟩
                obtain ⟨Y, hY⟩ : ∃ Y, ol[j].2 = Y := ⟨_, rfl⟩
                rw [hX] at m0 LT ho0 ho1
                rw [hY] at m1 LT ho1 ho2
                obtain ⟨T, hT⟩ : ∃ T, lens (ol.take j) = T := ⟨_, rfl⟩
                rw [hT] at LT hT0 hT1 ⊢
                clear d0 d1 hX hY hT hbz
                go_wp2
                go_roundw
                case rel => exact ⟨j + 1, by omega, by go_num, by rw [LT.out]; congr 1; omega, HBZ.out.alloc HBZ.out.size _⟩
                case measure => first | (simp [intOf]; done) | (simp [intOf]; omega)
              · have hjn' : j = n := by omega
                have hall : ol.take j = ol := List.take_of_length_le (by have := HNN.out; omega)
                have hcov : wd - lens (ol.take j) = SW := by rw [hall, hLN]; omega
                rw [hcov]
                subst hjn'
                clear hbz hall hcov
                go_wp2
                go_roundw
                case rel => exact ⟨k + 1, by omega, by go_num, by rw [HT1.out]; first | done | rfl | (congr 1; rw [wrap64_in _ (by omega)]), by rw [HT2.out], HBB.out.trans (HBZ.out.mono (by omega))⟩
                case measure => first | (simp [intOf]; done) | (simp [intOf]; omega)
        · have hk' : k = m := by omega
          have hall : es.take k = es := List.take_of_length_le (by have := HM.out; omega)
          rw [hall, HCV.out]
          subst hk'
          go_wp2
          go_ret
          exact ⟨rfl, HBW.out⟩
end Go.Proofs.Ytnjbhidncicfiaa
