/- Walks over the timber seat: the reference's sorted lists. Walks over the timber seat: the reference's lines of a board. Walks over the timber seat: the reference's clear lengths: what its loop does to an owned row. Walks over the timber seat: the reference's Clear. -/
import Derived.Test.YtnjbhidncicfiaaE5
import Derived.Handy
import Derived.Test.YtnjbhidncicfiaaMC
import Derived.Deep.AppendLies
import Derived.Deep.RegionHeldLaw
import Derived.BigQuiet
namespace Go.Proofs.Ytnjbhidncicfiaa
open Go.RowKit

def intCells (zs : List Int) : List Value := zs.map (Value.int .i64)
theorem intCells_length (zs : List Int) : (intCells zs).length = zs.length := by unfold intCells; simp
theorem intCells_snoc (zs : List Int) (a : Int) : intCells (zs ++ [a]) = intCells zs ++ [.int .i64 a] := by unfold intCells; simp
def lessThan (a : Int) (zs : List Int) : List Int := zs.filter fun z => decide (z < a)
theorem less_snoc (a : Int) (zs : List Int) (z : Int) : lessThan a (zs ++ [z]) = if z < a then lessThan a zs ++ [z] else lessThan a zs := by
  unfold lessThan
  rw [List.filter_append]
  by_cases h : z < a
  · rw [if_pos h]; simp [h]
  · rw [if_neg h]; simp [h]
theorem less_take {a : Int} {zs : List Int} {k : Nat} (h : k < zs.length) : lessThan a (zs.take (k + 1)) = if zs[k] < a then lessThan a (zs.take k) ++ [zs[k]] else lessThan a (zs.take k) := by
  rw [List.take_succ_eq_append_getElem h, less_snoc]
theorem less_len (a : Int) (zs : List Int) : (lessThan a zs).length ≤ zs.length := List.length_filter_le _ _
theorem insS_in {a : Int} : ∀ {zs : List Int}, Asc zs → a ∈ zs → insS a zs = zs
  | [], _, h => by cases h
  | z :: r, hs, h => by
    have hp := List.pairwise_cons.1 hs
    unfold insS
    by_cases e : z = a
    · rw [if_pos e]
    · rw [if_neg e]
      rcases List.mem_cons.1 h with e2 | h2
      · exact absurd e2.symm e
      · rw [if_pos (hp.1 a h2), insS_in hp.2 h2]
theorem insS_out {a : Int} : ∀ {zs : List Int}, Asc zs → a ∉ zs → insS a zs = lessThan a zs ++ [a] ++ zs.drop (lessThan a zs).length
  | [], _, _ => rfl
  | z :: r, hs, h => by
    have hp := List.pairwise_cons.1 hs
    have hz : z ≠ a := fun e => h (by rw [e]; exact List.mem_cons_self ..)
    have hr : a ∉ r := fun hh => h (List.mem_cons_of_mem _ hh)
    unfold insS
    rw [if_neg hz]
    by_cases e : z < a
    · rw [if_pos e, insS_out hp.2 hr]
      have hl : lessThan a (z :: r) = z :: lessThan a r := by unfold lessThan; simp [e]
      rw [hl]; simp
    · rw [if_neg e]
      have hl : lessThan a (z :: r) = [] := by
        unfold lessThan
        rw [List.filter_eq_nil_iff]
        intro x hx
        rcases List.mem_cons.1 hx with rfl | hx
        · simp [e]
        · have := hp.1 x hx; simp; omega
      rw [hl]; simp
theorem info3 : (Try.prog.info? 3).map (fun i => (i.zero, i.size, i.bytes)) = some (some (.int .i64 0), 1, 8) := by kernel_rfl
theorem own_ge1 {w : World} {base e : Nat} {size n : Nat} {v : Value} {xs : List Value} (h : w.ownsRow base e size v n xs) : ∀ j, v.ownBlock = some j → base ≤ j ∧ j < w.heap.size := by
  intro j hj
  rcases h.2 with ⟨rfl, -⟩ | ⟨g, cap, cur, rfl, hb, hh, -⟩
  · cases hj
  · simp [Value.ownBlock] at hj; subst hj; exact ⟨hb, (Array.getElem?_eq_some_iff.1 hh).1⟩
/-- The cells of an owned row of numbers. -/
theorem own_int {w : World} {base n : Nat} {v : Value} {zs : List Int} (h : w.ownsRow base 3 1 v n (intCells zs)) (hn : n = zs.length) (hpos : 0 < n) :
    ∃ g cap, v = .slice (some ⟨g, 0, none⟩) n cap ∧ base ≤ g ∧ g < w.heap.size ∧ n ≤ cap ∧ cap ≤ maxLen ∧ ∀ k (hk : k < zs.length), w.cell? ⟨g, k, none⟩ = some (.int .i64 zs[k]) := by
  obtain ⟨hl, ⟨-, h0⟩ | ⟨g, cap, cur, rfl, hb, hh, hnc, hcm, hcs, htk⟩⟩ := h
  · omega
  · refine ⟨g, cap, rfl, hb, (Array.getElem?_eq_some_iff.1 hh).1, hnc, hcm, fun k hk => ?_⟩
    have h1 : cur[k]? = (intCells zs)[k]? := by rw [← htk, List.getElem?_take_of_lt (by omega)]; simp
    unfold World.cell?
    simp only [hh]
    have h2 : (intCells zs)[k]? = some (.int .i64 zs[k]) := by unfold intCells; simp [hk]
    simp [h1, h2]
set_option maxHeartbeats 4000000 in
set_option maxRecDepth 20000 in
theorem sortedWith_any {base n : Nat} {v : Value} {zs : List Int} {a : Int} (w : World) (hown : w.ownsRow base 3 1 v n (intCells zs)) (hn : n = zs.length) (hpos : 0 < n) (hle : n ≤ 300) (hasc : Asc zs) (_hbase : base ≤ w.heap.size) :
    Calls Try.prog 122 #[v, .int .i64 a] w fun e w' => ∃ r : Value, e = .returned r ∧ w'.ownsRow base 3 1 r (insS a zs).length (intCells (insS a zs)) ∧ Below w.heap.size w w' := by
  obtain ⟨g, cap, rfl, hbg, hgl, hnc, hcm, hcell⟩ := own_int hown hn hpos
  obtain ⟨i0, hi, hz0, hz1, hz2⟩ := info_parts info3
  have HC := Lib.hid hcell
  have HOWN := Lib.hid hown
  have HA := Lib.hid hasc
  have HNN := Lib.hid hn
  have hn' : (n : Int) ≤ 300 := by omega
  have hn1 : n ≤ zs.length := by omega
  have hn2 : zs.length ≤ n := by omega
  clear hcell hown hasc hn
  go_enter Try.func122, Try.ntmps122
  go_wp2
  go_loopw [5, 6] (fun ov i wr => ∃ k : Nat, k ≤ n ∧ i = .int .i64 k ∧ (∀ j (hj : j < zs.length), j < k → zs[j] ≠ a) ∧ wr.ownsRow w.heap.size 3 1 ov (lessThan a (zs.take k)).length (intCells (lessThan a (zs.take k))) ∧ Below w.heap.size w wr) (fun _ i _ => n - (intOf i).toNat)
  case atStart => exact ⟨0, Nat.zero_le _, rfl, fun j _ h => absurd h (by omega), ⟨rfl, .inl ⟨rfl, rfl⟩⟩, Below.refl _ _⟩
  case round =>
    obtain ⟨k, hk, rfl, hno, hov, hbw⟩ := hrel
    have HB := Lib.hid hbw
    have HNO := Lib.hid hno
    have hwr := hbw.size
    clear hno
    by_cases hlt : k < n
    · have hkl : k < zs.length := by omega
      have c0 := (hbw.cell (p := ⟨g, k, none⟩) hgl).trans (HC.out k hkl)
      have hstep := Lib.hid (less_take (a := a) hkl)
      have hll := less_len a (zs.take k)
      rw [List.length_take] at hll
      have HIN := Lib.hid (fun h : zs[k] = a => insS_in HA.out (h ▸ List.getElem_mem hkl))
      obtain ⟨z, hz⟩ : ∃ z, zs[k] = z := ⟨_, rfl⟩
      have HZ := Lib.hid hz
      rw [hz] at c0 hstep HIN
      obtain ⟨lt, hlt2⟩ : ∃ lt, lessThan a (zs.take k) = lt := ⟨_, rfl⟩
      rw [hlt2] at hov hstep hll
      clear hz hbw hlt2
      by_cases he : z = a
      · have HR := Lib.hid (HIN.out he)
        have hb : (z == a) = true := by rw [beq_iff_eq]; exact he
        clear he
        go_wp2
        go_ret
        refine ⟨_, rfl, ?_, HB.out⟩
        rw [HR.out, ← HNN.out]
        exact HOWN.out.kept ⟨HB.out.os, HB.out.tape, HB.out.output, HB.out.size, fun i hi _ => HB.out.block i hi⟩ (row := none) (.inr (by simp [Value.ownBlock]))
      · have hb : (z == a) = false := by rw [beq_eq_false_iff_ne]; exact he
        have HNO2 : Hid (∀ (j : Nat) (hj : j < zs.length), j < k + 1 → zs[j] ≠ a) := Lib.hid (fun j hj hjk => by
          by_cases e : j = k
          · subst e; rw [HZ.out]; exact he
          · exact HNO.out j hj (by omega))
        by_cases hza : z < a
        · have hs2 : Hid (lessThan a (zs.take (k + 1)) = lt ++ [z]) := Lib.hid (by rw [hstep.out, if_pos hza])
          go_wp2_with (at_builtin; refine wpList_append_own_at _ rfl _ _ 117 rfl w.heap.size 3 i0 (.int .i64 0) 1 8 Try.underlying117 hi hz0 hz1 hz2 rfl (by decide) _ _ _ rfl (hov.alloc _) ⟨wr.heap.size, 0, none⟩ 1 1 [.int .i64 z] rfl rfl (cell_one_new _ _ _) (by intro u hu; simp at hu; subst hu; rfl) (by unfold maxLen; omega) (by omega) (by simp; omega) ?_; intro v3 w3 hown3 hgrow3 hnil3 hloc3)
          go_roundw
          case rel =>
            refine ⟨k + 1, by omega, by go_num, HNO2.out, ?_, ?_⟩
            · rw [hs2.out, intCells_snoc]; simpa using hown3
            · exact (HB.out.alloc HB.out.size _).grown hgrow3 (by have := HB.out.size; simp; omega) (fun j hj => (own_ge1 hov j hj).1)
          case measure => first | (simp [intOf]; done) | (simp [intOf]; omega)
        · have hs2 : Hid (lessThan a (zs.take (k + 1)) = lt) := Lib.hid (by rw [hstep.out, if_neg hza])
          go_wp2
          go_roundw
          case rel =>
            refine ⟨k + 1, by omega, by go_num, HNO2.out, ?_, HB.out⟩
            rw [hs2.out]; exact hov
          case measure => first | (simp [intOf]; done) | (simp [intOf]; omega)
    · have hk' : k = n := by omega
      have hall : zs.take k = zs := List.take_of_length_le (by omega)
      rw [hall] at hov
      have hmem : a ∉ zs := fun h => by
        obtain ⟨j, hj, e⟩ := List.getElem_of_mem h
        exact HNO.out j hj (by omega) e
      have HR := Lib.hid (insS_out HA.out hmem)
      have hll := less_len a zs
      obtain ⟨lt, hlt2⟩ : ∃ lt, lessThan a zs = lt := ⟨_, rfl⟩
      rw [hlt2] at hov HR hll
      clear hlt2 hbw hmem hall
      subst hk'
      have hdl : (zs.drop lt.length).length = k - lt.length := by rw [List.length_drop]; omega
      have HC2 := fun (wx : World) (hx : ∀ o, wx.cell? ⟨g, o, none⟩ = w.cell? ⟨g, o, none⟩) => Lib.hid (show ∀ j u, (intCells (zs.drop lt.length))[j]? = some u → wx.cell? ((⟨g, lt.length, none⟩ : Addr).add j) = some u from fun j u hu => by
        unfold intCells at hu
        rw [List.getElem?_map, List.getElem?_drop] at hu
        rcases hz : zs[lt.length + j]? with _ | z
        · rw [hz] at hu; cases hu
        · rw [hz] at hu
          obtain ⟨h1, h2⟩ := List.getElem?_eq_some_iff.1 hz
          simp at hu
          have e : (⟨g, lt.length, none⟩ : Addr).add j = ⟨g, lt.length + j, none⟩ := by
            by_cases h0 : j = 0
            · subst h0; simp [Addr.add]
            · simp [Addr.add, h0]
          rw [e, hx]
          have := HC.out _ h1
          rw [h2, hu] at this
          exact this)
      have hll2 : lt.length ≤ k := by omega
      have hlk : (lt.length : Int) ≤ k := by omega
      have hcapm : cap ≤ maxLen := hcm
      by_cases hcl : cap = lt.length
      · have hempty : zs.drop lt.length = [] := List.eq_nil_of_length_eq_zero (by omega)
        have HC3 := fun (wx : World) (hx : ∀ o, wx.cell? ⟨g, o, none⟩ = w.cell? ⟨g, o, none⟩) => Lib.hid (show ∀ j u, (intCells (zs.drop lt.length))[j]? = some u → wx.cell? ((⟨g, 0, none⟩ : Addr).add j) = some u from fun j u hu => by
          rw [hempty] at hu
          simp [intCells] at hu)
        clear hempty
        go_wp2_with (at_builtin; first | (refine wpList_append_own_at _ rfl _ _ 117 rfl w.heap.size 3 i0 (.int .i64 0) 1 8 Try.underlying117 hi hz0 hz1 hz2 rfl (by decide) _ _ _ rfl (hov.alloc _) ⟨wr.heap.size, 0, none⟩ 1 1 [.int .i64 a] rfl rfl (cell_one_new _ _ _) (by intro u hu; simp at hu; subst hu; rfl) (by unfold maxLen; omega) (by omega) (by simp; omega) ?_; intro v3 w3 hown3 hgrow3 hnil3 hloc3; rw [← intCells_snoc] at hown3; have hb3 := Lib.hid ((HB.out.alloc HB.out.size _).grown hgrow3 (by have := HB.out.size; simp; omega) (fun j hj => (own_ge1 hov j hj).1)); obtain ⟨g3, cap3, rfl, hbg3, hgl3, hnc3, hcm3, -⟩ := own_int hown3 (by simp) (by omega)) | ((refine wpList_append_own_at _ rfl _ _ 117 rfl w.heap.size 3 i0 (.int .i64 0) 1 8 Try.underlying117 hi hz0 hz1 hz2 rfl (by decide) _ _ _ rfl hown3 ⟨g, 0, none⟩ (k - lt.length) 0 (intCells (zs.drop lt.length)) rfl (by rw [intCells_length, hdl]; omega) (HC3 _ (fun o => hb3.out.cell (p := ⟨g, o, none⟩) hgl)).out (ints_oneCell _ _) (by unfold maxLen; omega) (by omega) (Nat.le_trans hb3.out.size (Nat.le_refl _)) ?_; intro v4 w4 hown4 hgrow4 hnil4 hloc4)))
        go_ret
        refine ⟨_, rfl, ?_, ?_⟩
        · rw [HR.out]
          unfold intCells at *
          have hle4 : (lt ++ [a] ++ zs.drop lt.length).length = lt.length + 1 + (k - lt.length) := by rw [List.length_append, hdl]; simp
          rw [hle4, List.map_append]
          exact ⟨hown4.1, hown4.2.imp id fun ⟨g, cap, cur, h1, h2, h3⟩ => ⟨g, cap, cur, h1, by omega, h3⟩⟩
        · exact hb3.out.grown hgrow4 hb3.out.size (fun j hj => (own_ge1 hown3 j hj).1)
      · go_wp2_with (at_builtin; first | (refine wpList_append_own_at _ rfl _ _ 117 rfl w.heap.size 3 i0 (.int .i64 0) 1 8 Try.underlying117 hi hz0 hz1 hz2 rfl (by decide) _ _ _ rfl (hov.alloc _) ⟨wr.heap.size, 0, none⟩ 1 1 [.int .i64 a] rfl rfl (cell_one_new _ _ _) (by intro u hu; simp at hu; subst hu; rfl) (by unfold maxLen; omega) (by omega) (by simp; omega) ?_; intro v3 w3 hown3 hgrow3 hnil3 hloc3; rw [← intCells_snoc] at hown3; have hb3 := Lib.hid ((HB.out.alloc HB.out.size _).grown hgrow3 (by have := HB.out.size; simp; omega) (fun j hj => (own_ge1 hov j hj).1)); obtain ⟨g3, cap3, rfl, hbg3, hgl3, hnc3, hcm3, -⟩ := own_int hown3 (by simp) (by omega)) | ((refine wpList_append_own_at _ rfl _ _ 117 rfl w.heap.size 3 i0 (.int .i64 0) 1 8 Try.underlying117 hi hz0 hz1 hz2 rfl (by decide) _ _ _ rfl hown3 ⟨g, lt.length, none⟩ (k - lt.length) (cap - lt.length) (intCells (zs.drop lt.length)) rfl (by rw [intCells_length, hdl]; omega) (HC2 _ (fun o => hb3.out.cell (p := ⟨g, o, none⟩) hgl)).out (ints_oneCell _ _) (by unfold maxLen; omega) (by omega) (Nat.le_trans hb3.out.size (Nat.le_refl _)) ?_; intro v4 w4 hown4 hgrow4 hnil4 hloc4)))
        go_ret
        refine ⟨_, rfl, ?_, ?_⟩
        · rw [HR.out]
          unfold intCells at *
          have hle4 : (lt ++ [a] ++ zs.drop lt.length).length = lt.length + 1 + (k - lt.length) := by rw [List.length_append, hdl]; simp
          rw [hle4, List.map_append]
          exact ⟨hown4.1, hown4.2.imp id fun ⟨g, cap, cur, h1, h2, h3⟩ => ⟨g, cap, cur, h1, by omega, h3⟩⟩
        · exact hb3.out.grown hgrow4 hb3.out.size (fun j hj => (own_ge1 hown3 j hj).1)
end Go.Proofs.Ytnjbhidncicfiaa
namespace Go.Proofs.Ytnjbhidncicfiaa
open Go.RowKit

theorem insS_len {a : Int} : ∀ {l : List Int}, 0 < (insS a l).length ∧ (insS a l).length ≤ l.length + 1
  | [] => by unfold insS; simp
  | z :: r => by
    have h := insS_len (a := a) (l := r)
    unfold insS
    by_cases e : z = a
    · rw [if_pos e]; simp
    · rw [if_neg e]
      by_cases f : z < a
      · rw [if_pos f]; simp; omega
      · rw [if_neg f]; simp
def lnF (f g : Rc → Int) (ds : List Rc) (l : List Int) : List Int := ds.foldl (fun l d => insS (g d) (insS (f d) l)) l
theorem lnF_len {f g : Rc → Int} : ∀ {ds : List Rc} {l : List Int}, 0 < l.length → 0 < (lnF f g ds l).length ∧ (lnF f g ds l).length ≤ l.length + 2 * ds.length
  | [], l, h => ⟨h, by simp [lnF]⟩
  | d :: r, l, h => by
    have h1 := insS_len (a := f d) (l := l)
    have h2 := insS_len (a := g d) (l := insS (f d) l)
    have h3 := lnF_len (f := f) (g := g) (ds := r) (l := insS (g d) (insS (f d) l)) h2.1
    refine ⟨h3.1, Nat.le_trans h3.2 ?_⟩
    simp
    omega
theorem lnF_asc {f g : Rc → Int} {ds : List Rc} {l : List Int} (h : Asc l) : Asc (lnF f g ds l) := (fold_lines ds l h).1
theorem lnF_take {f g : Rc → Int} {ds : List Rc} {l : List Int} {k : Nat} (h : k < ds.length) : lnF f g (ds.take (k + 1)) l = insS (g ds[k]) (insS (f ds[k]) (lnF f g (ds.take k) l)) := by
  unfold lnF
  rw [List.take_succ_eq_append_getElem h, List.foldl_append]
  rfl
theorem own_new1 (w : World) (x : Int) : (w.alloc (.cells #[.int .i64 x] 3)).ownsRow w.heap.size 3 1 (.slice (some ⟨w.heap.size, 0, none⟩) 1 1) 1 (intCells [x]) :=
  ⟨rfl, .inr ⟨w.heap.size, 1, #[.int .i64 x], rfl, Nat.le_refl _, by show (w.heap.push _)[w.heap.size]? = _; simp, Nat.le_refl _, by decide, rfl, rfl⟩⟩
set_option maxHeartbeats 4000000 in
set_option maxRecDepth 20000 in
theorem lines_x {nm sp : ByteArray} {ln wd th cu mo : Int} {D : Option Addr} {dn dc : Nat} {ds : List Rc} (hb : BdOk ⟨nm, sp, ln, wd, th, cu, mo, ds⟩) (w : World) (hd : RcRow w D dn ds) :
    Calls Try.prog 94 #[.agg #[.string nm, .string sp, .int .i64 ln, .int .i64 wd, .int .i64 th, .int .i64 cu, .int .i64 mo, .slice D dn dc], .bool false] w fun e w' => ∃ r : Value, e = .returned r ∧ w'.ownsRow w.heap.size 3 1 r (xLines ⟨nm, sp, ln, wd, th, cu, mo, ds⟩).length (intCells (xLines ⟨nm, sp, ln, wd, th, cu, mo, ds⟩)) ∧ Below w.heap.size w w' := by
  have hdl := hd.1
  have hdn := hb.dn
  simp only at hdn
  have hdn' : dn ≤ 60 := by omega
  have HD := Lib.hid hd
  have h0 := insS_len (a := ln) (l := [0])
  have hl0 : (insS ln [0]).length ≤ 2 := by have := h0.2; simpa using this
  have ha0 := Lib.hid (insS_asc (n := ln) (asc_one 0))
  have hX : Hid (xLines ⟨nm, sp, ln, wd, th, cu, mo, ds⟩ = lnF (fun d => d.x1) (fun d => d.x2) ds (insS ln [0])) := Lib.hid rfl
  clear hd hb
  obtain ⟨L0, hL0⟩ : ∃ L0, insS ln [0] = L0 := ⟨_, rfl⟩
  rw [hL0] at h0 hl0 ha0 hX
  have h00 := h0.1
  have HL0 := Lib.hid hL0
  clear h0 hL0
  go_enter Try.func94, Try.ntmps94
  go_wp2_with (go_at_call 122; refine Calls.mono (sortedWith_any (base := w.heap.size + 1) (zs := [0]) (a := ln) _ (by simpa using own_new1 (w.alloc (.cells #[.string nm, .string sp, .int .i64 ln, .int .i64 wd, .int .i64 th, .int .i64 cu, .int .i64 mo, .slice D dn dc] 34)) 0) rfl (by decide) (by decide) (asc_one 0) (by simp)) ?_; rintro e w1 ⟨r1, rfl, hown1, hb1⟩; rw [HL0.out] at hown1)
  have HB1 : Hid (Below (w.heap.size + 1) (w.alloc (.cells #[.string nm, .string sp, .int .i64 ln, .int .i64 wd, .int .i64 th, .int .i64 cu, .int .i64 mo, .slice D dn dc] 34)) w1) := Lib.hid (((Below.refl _ _).alloc (by simp) _).trans (hb1.mono (by simp)))
  have HO1 := Lib.hid hown1
  clear hown1 hb1
  go_loopw [5, 6] (fun ov i wr => ∃ k : Nat, k ≤ dn ∧ i = .int .i64 k ∧ wr.ownsRow (w.heap.size + 1) 3 1 ov (lnF (fun d => d.x1) (fun d => d.x2) (ds.take k) L0).length (intCells (lnF (fun d => d.x1) (fun d => d.x2) (ds.take k) L0)) ∧ Below (w.heap.size + 1) (w.alloc (.cells #[.string nm, .string sp, .int .i64 ln, .int .i64 wd, .int .i64 th, .int .i64 cu, .int .i64 mo, .slice D dn dc] 34)) wr) (fun _ i _ => dn - (intOf i).toNat)
  case atStart => exact ⟨0, Nat.zero_le _, rfl, HO1.out, HB1.out⟩
  case round =>
    obtain ⟨k, hk, rfl, hov, hbw⟩ := hrel
    have HB := Lib.hid hbw
    have HBW := Lib.hid (show Below w.heap.size w wr from ((Below.refl w.heap.size w).alloc (Nat.le_refl _) _).trans (hbw.mono (by omega)))
    have kB : ∀ o, wr.cell? ⟨w.heap.size, o, none⟩ = _ := fun o => hbw.cell (p := ⟨w.heap.size, o, none⟩) (by simp)
    have q7 := kB 7
    simp [go_sem] at q7
    have hsz := hbw.size
    simp at hsz
    clear kB hbw
    have hll := lnF_len (f := fun d => d.x1) (g := fun d => d.x2) (ds := ds.take k) (l := L0) h00
    rw [List.length_take] at hll
    have HAS := Lib.hid (lnF_asc (f := fun d => d.x1) (g := fun d => d.x2) (ds := ds.take k) ha0.out)
    have HOV := Lib.hid hov
    by_cases hlt : k < dn
    · have hkl : k < ds.length := by omega
      obtain ⟨bk, of, rfl, hbk, hx⟩ := HD.out.2 (by omega)
      have hxx := (hx k hkl).below HBW.out hbk
      have HT := Lib.hid (lnF_take (f := fun d => d.x1) (g := fun d => d.x2) (l := L0) hkl)
      clear hx hov
      obtain ⟨lt, hlt2⟩ : ∃ lt, lnF (fun d => d.x1) (fun d => d.x2) (ds.take k) L0 = lt := ⟨_, rfl⟩
      rw [hlt2] at hll HAS HOV HT
      clear hlt2
      obtain ⟨d, hdd⟩ : ∃ d, ds[k] = d := ⟨_, rfl⟩
      rw [hdd] at hxx HT
      clear hdd
      obtain ⟨a1, b1, a2, b2⟩ := d
      obtain ⟨c0, c1, c2, c3⟩ := hxx
      simp only at c0 c1 c2 c3 HT
      have hl1 := insS_len (a := a1) (l := lt)
      have hlt1 : lt.length ≤ 122 := by omega
      have hlt0 := hll.1
      have HAS1 := Lib.hid (insS_asc (n := a1) HAS.out)
      clear hll
      go_wp2
      go_region_with (first | (go_at_call 122; have hown1' := hown1; refine Calls.mono (sortedWith_any (base := w.heap.size + 1) (zs := insS a1 lt) (a := a2) _ hown1 rfl hl1.1 (by omega) HAS1.out (by have := hb1.size; simp at this; omega)) ?_; rintro e w2 ⟨r2, rfl, hown2, hb2⟩) | (go_at_call 122; refine Calls.mono (sortedWith_any (base := w.heap.size + 1) (zs := lt) (a := a1) _ (HOV.out.alloc _) rfl (by omega) (by omega) HAS.out (by simp; omega)) ?_; rintro e w1 ⟨r1, rfl, hown1, hb1⟩; have y2 := (hb1.cell (p := ⟨wr.heap.size, 2, none⟩) (by simp)).trans (show _ = some (Value.int .i64 a2) by simp [go_sem])))
      all_goals
        go_wp2
        go_roundw
        case rel =>
          refine ⟨k + 1, by omega, by go_num, ?_, ?_⟩
          · rw [HT.out]; exact hown2
          · exact ((HB.out.alloc hsz _).drew.trans (hb1.mono (show w.heap.size + 1 ≤ _ by simp; omega))).trans (hb2.mono (show w.heap.size + 1 ≤ _ by have := hb1.size; simp at this; omega))
        case measure => first | (simp [intOf]; done) | (simp [intOf]; omega)
    · have hk' : k = dn := by omega
      have hall : ds.take k = ds := List.take_of_length_le (by omega)
      rw [hall] at hov
      subst hk'
      go_wp2
      go_ret
      refine ⟨_, rfl, ?_, HBW.out⟩
      rw [hX.out]
      exact ⟨hov.1, hov.2.imp id fun ⟨g, cap, cur, h1, h2, h3⟩ => ⟨g, cap, cur, h1, by omega, h3⟩⟩
end Go.Proofs.Ytnjbhidncicfiaa
namespace Go.Proofs.Ytnjbhidncicfiaa
open Go.RowKit

/-- A store into an owned row. -/
theorem own_setcell {w : World} {base e size n cap g : Nat} {xs : List Value} (h : w.ownsRow base e size (.slice (some ⟨g, 0, none⟩) n cap) n xs) {o : Nat} (_ho : o < n * size) (u : Value) :
    (w.setCell ⟨g, o, none⟩ u).ownsRow base e size (.slice (some ⟨g, 0, none⟩) n cap) n (xs.set o u) := by
  obtain ⟨hl, ⟨he, -⟩ | ⟨g', cap', cur, he, hb, hh, hnc, hcm, hcs, htk⟩⟩ := h
  · cases he
  · injection he with e1 e2 e3
    injection e1 with e1
    injection e1 with e1
    subst e1 e3
    refine ⟨by simpa using hl, .inr ⟨g, cap, cur.setIfInBounds o u, rfl, hb, ?_, hnc, hcm, by simpa using hcs, ?_⟩⟩
    · simp [World.setCell, Array.getElem?_modify, hh]
    · rw [Array.toList_setIfInBounds, List.take_set, htk]
theorem iv_set {l : List Iv} {p : Iv} {y : Int} {n : Nat} (hn : n = l.length) : (ivCells (l ++ [p])).set (n * 2 + 1) (.int .i64 y) = ivCells (l ++ [(p.1, y)]) := by
  rw [ivCells_snoc, ivCells_snoc, List.set_append]
  have hl := ivCells_length l
  rw [if_neg (by omega), show n * 2 + 1 - (ivCells l).length = 1 by omega]
  rfl
theorem addSeg_join {l : List Iv} {p : Iv} {x y : Int} (h : p.2 = x) : addSeg (l ++ [p]) x y = l ++ [(p.1, y)] := by
  unfold addSeg
  rw [List.getLast?_append]
  simp [h]
theorem addSeg_new {l : List Iv} {x y : Int} (h : ∀ l' p, l = l' ++ [p] → p.2 ≠ x) : addSeg l x y = l ++ [(x, y)] := by
  rcases List.eq_nil_or_concat l with rfl | ⟨l', p, rfl⟩
  · rfl
  · unfold addSeg
    have := h l' p (by simp)
    simp [this]
theorem addSeg_len {l : List Iv} {x y : Int} : (addSeg l x y).length ≤ l.length + 1 := by
  rcases List.eq_nil_or_concat l with rfl | ⟨l', p, rfl⟩
  · simp [addSeg]
  · by_cases h : p.2 = x
    · have := addSeg_join (l := l') (y := y) h
      simp at this ⊢
      rw [this]; simp
    · unfold addSeg; simp [h]
theorem clrTo_len {b : Bd} {xs : List Int} : ∀ i, (clrTo b xs i).length ≤ i
  | 0 => Nat.le_refl _
  | i + 1 => by
    have := clrTo_len (b := b) (xs := xs) i
    have h := addSeg_len (l := clrTo b xs i) (x := xs.getD i 0) (y := xs.getD (i + 1) 0)
    show (bif soundB b ⟨xs.getD i 0, 0, xs.getD (i + 1) 0, b.wd⟩ then addSeg (clrTo b xs i) (xs.getD i 0) (xs.getD (i + 1) 0) else clrTo b xs i).length ≤ i + 1
    cases soundB b ⟨xs.getD i 0, 0, xs.getD (i + 1) 0, b.wd⟩
    · rw [cond_false]; omega
    · rw [cond_true]; omega
end Go.Proofs.Ytnjbhidncicfiaa
namespace Go.Proofs.Ytnjbhidncicfiaa
open Go.RowKit

theorem clr_step {b : Bd} {xs : List Int} {k : Nat} {x y : Int} {v : Bool} (hx : xs[k]? = some x) (hy : xs[k + 1]? = some y) (hv : soundB b ⟨x, 0, y, b.wd⟩ = v) : clrTo b xs (k + 1) = bif v then addSeg (clrTo b xs k) x y else clrTo b xs k := by
  show (bif soundB b ⟨xs.getD k 0, 0, xs.getD (k + 1) 0, b.wd⟩ then addSeg (clrTo b xs k) (xs.getD k 0) (xs.getD (k + 1) 0) else clrTo b xs k) = _
  rw [List.getD_eq_getElem?_getD, List.getD_eq_getElem?_getD, hx, hy, Option.getD_some, Option.getD_some, hv]
theorem own_kept {w w' : World} {base e size n : Nat} {v : Value} {xs : List Value} (h : w.ownsRow base e size v n xs) (hb : Below w.heap.size w w') : w'.ownsRow base e size v n xs :=
  ⟨h.1, h.2.imp id fun ⟨g, cap, cur, h1, h2, h3, h4⟩ => ⟨g, cap, cur, h1, h2, (hb.block g (Array.getElem?_eq_some_iff.1 h3).1).trans h3, h4⟩⟩
theorem own_none {w : World} {base n : Nat} {v : Value} {xs : List Value} (h : w.ownsRow base 50 2 v n xs) (hn : n = 0) : ∃ p cap, v = .slice p 0 cap := by
  subst hn
  rcases h.2 with ⟨rfl, -⟩ | ⟨g, cap, cur, rfl, -⟩
  · exact ⟨_, _, rfl⟩
  · exact ⟨_, _, rfl⟩
theorem kept10 {W wx w' : World} {b g k : Nat} {v0 v1 v2 v3 v4 v5 v6 v7 x y : Value} (hb : Below wx.heap.size wx w') (h : Below W.heap.size W wx ∧ wx.cell? ⟨b, 0, none⟩ = some v0 ∧ wx.cell? ⟨b, 1, none⟩ = some v1 ∧ wx.cell? ⟨b, 2, none⟩ = some v2 ∧ wx.cell? ⟨b, 3, none⟩ = some v3 ∧ wx.cell? ⟨b, 4, none⟩ = some v4 ∧ wx.cell? ⟨b, 5, none⟩ = some v5 ∧ wx.cell? ⟨b, 6, none⟩ = some v6 ∧ wx.cell? ⟨b, 7, none⟩ = some v7 ∧ wx.cell? ⟨g, k, none⟩ = some x ∧ wx.cell? ⟨g, k + 1, none⟩ = some y) (h0 : b < W.heap.size) (h1 : g < W.heap.size) : Below W.heap.size W w' ∧ w'.cell? ⟨b, 0, none⟩ = some v0 ∧ w'.cell? ⟨b, 1, none⟩ = some v1 ∧ w'.cell? ⟨b, 2, none⟩ = some v2 ∧ w'.cell? ⟨b, 3, none⟩ = some v3 ∧ w'.cell? ⟨b, 4, none⟩ = some v4 ∧ w'.cell? ⟨b, 5, none⟩ = some v5 ∧ w'.cell? ⟨b, 6, none⟩ = some v6 ∧ w'.cell? ⟨b, 7, none⟩ = some v7 ∧ w'.cell? ⟨g, k, none⟩ = some x ∧ w'.cell? ⟨g, k + 1, none⟩ = some y := by
  obtain ⟨a, c0, c1, c2, c3, c4, c5, c6, c7, c8, c9⟩ := h
  have hs := a.size
  have k : ∀ b o, b < W.heap.size → w'.cell? ⟨b, o, none⟩ = wx.cell? ⟨b, o, none⟩ := fun b o hlt => hb.cell (p := ⟨b, o, none⟩) (Nat.lt_of_lt_of_le hlt hs)
  exact ⟨a.trans (hb.mono hs), by rw [k _ _ h0, c0], by rw [k _ _ h0, c1], by rw [k _ _ h0, c2], by rw [k _ _ h0, c3], by rw [k _ _ h0, c4], by rw [k _ _ h0, c5], by rw [k _ _ h0, c6], by rw [k _ _ h0, c7], by rw [k _ _ h1, c8], by rw [k _ _ h1, c9]⟩
set_option maxHeartbeats 4000000 in
set_option maxRecDepth 20000 in
theorem clearRef_any {nm sp : ByteArray} {ln wd th cu mo : Int} {D : Option Addr} {dn dc : Nat} {ds : List Rc} (hb : BdOk ⟨nm, sp, ln, wd, th, cu, mo, ds⟩) (w : World) (hd : RcRow w D dn ds) :
    Calls Try.prog 52 #[.agg #[.string nm, .string sp, .int .i64 ln, .int .i64 wd, .int .i64 th, .int .i64 cu, .int .i64 mo, .slice D dn dc]] w fun e w' => ∃ r : Value, e = .returned r ∧ w'.ownsRow w.heap.size 50 2 r (clrTo ⟨nm, sp, ln, wd, th, cu, mo, ds⟩ (xLines ⟨nm, sp, ln, wd, th, cu, mo, ds⟩) ((xLines ⟨nm, sp, ln, wd, th, cu, mo, ds⟩).length - 1)).length (ivCells (clrTo ⟨nm, sp, ln, wd, th, cu, mo, ds⟩ (xLines ⟨nm, sp, ln, wd, th, cu, mo, ds⟩) ((xLines ⟨nm, sp, ln, wd, th, cu, mo, ds⟩).length - 1))) ∧ Below w.heap.size w w' := by
  have hdn := hb.dn
  simp only at hdn
  have hdl := hd.1
  have hdn' : dn ≤ 60 := by omega
  have hdm : dn ≤ maxLen := by unfold maxLen; omega
  obtain ⟨i0, hi, hz0, hz1, hz2⟩ := info_parts info50
  have hBL : Below w.heap.size w (w.alloc (.cells #[.string nm, .string sp, .int .i64 ln, .int .i64 wd, .int .i64 th, .int .i64 cu, .int .i64 mo, .slice D dn dc] 34)) := (Below.refl _ _).alloc (Nat.le_refl _) _
  have hd1 := RcRow.below hd hBL
  have LX := Lib.hid (lines_x (dc := dc) hb _ hd1)
  have hxl := x_first hb
  have hl2 := hxl.2.1
  have hlm : (xLines ⟨nm, sp, ln, wd, th, cu, mo, ds⟩).length ≤ 122 := by
    have h1 := insS_len (a := ln) (l := [0])
    have h2 := lnF_len (f := fun d => d.x1) (g := fun d => d.x2) (ds := ds) (l := insS ln [0]) h1.1
    have h3 : xLines ⟨nm, sp, ln, wd, th, cu, mo, ds⟩ = lnF (fun d => d.x1) (fun d => d.x2) ds (insS ln [0]) := rfl
    have h4 := h1.2
    simp at h4
    rw [h3]; omega
  have HD := Lib.hid hd
  have HBL := Lib.hid hBL
  obtain ⟨xs, hxs⟩ : ∃ xs, xLines ⟨nm, sp, ln, wd, th, cu, mo, ds⟩ = xs := ⟨_, rfl⟩
  rw [hxs] at LX hl2 hlm ⊢
  clear hxs hxl hd hd1 hBL hb
  go_enter Try.func52, Try.ntmps52
  go_wp2_with (go_at_call 94; refine Calls.mono LX.out ?_; rintro e w1 ⟨r1, rfl, hown1, hb1⟩; obtain ⟨g, cap, rfl, hbg, hgl, hnc, hcm, hcell⟩ := own_int hown1 rfl (by omega))
  have HB1 := Lib.hid hb1
  have HC := Lib.hid hcell
  have hs1 : w.heap.size < w1.heap.size := by have := hb1.size; simp at this; omega
  have HW1 := Lib.hid (HBL.out.trans (hb1.mono (by simp)))
  clear hcell hb1 hown1 LX
  obtain ⟨n, hn⟩ : ∃ n, xs.length = n := ⟨_, rfl⟩
  rw [hn] at hl2 hlm hnc
  have hn1 : n ≤ xs.length := by omega
  have hn2 : xs.length ≤ n := by omega
  have HNX := Lib.hid hn
  clear hn
  go_loopw [4, 5] (fun ov i wr => ∃ k : Nat, k + 1 ≤ n ∧ i = .int .i64 k ∧ wr.ownsRow w1.heap.size 50 2 ov (clrTo ⟨nm, sp, ln, wd, th, cu, mo, ds⟩ xs k).length (ivCells (clrTo ⟨nm, sp, ln, wd, th, cu, mo, ds⟩ xs k)) ∧ Below w1.heap.size w1 wr) (fun _ i _ => n - (intOf i).toNat)
  case atStart => exact ⟨0, by omega, rfl, ⟨rfl, .inl ⟨rfl, rfl⟩⟩, Below.refl _ _⟩
  case round =>
    obtain ⟨k, hk, rfl, hov, hbw⟩ := hrel
    have HB := Lib.hid hbw
    have HBW := Lib.hid (HW1.out.trans (hbw.mono (by omega)))
    have kB : ∀ o, wr.cell? ⟨w.heap.size, o, none⟩ = _ := fun o => (hbw.cell (p := ⟨w.heap.size, o, none⟩) hs1).trans (HB1.out.cell (p := ⟨w.heap.size, o, none⟩) (by simp))
    have q0 := kB 0; have q1 := kB 1; have q2 := kB 2; have q3 := kB 3; have q4 := kB 4; have q5 := kB 5; have q6 := kB 6; have q7 := kB 7
    simp [go_sem] at q0 q1 q2 q3 q4 q5 q6 q7
    have hsz := hbw.size
    clear kB
    have hkn : (k : Int) + 1 ≤ n := by omega
    by_cases hlt : k + 1 < n
    · have hk0 : k < xs.length := by omega
      have hk1 : k + 1 < xs.length := by omega
      have hlti : (k : Int) + 1 < n := by omega
      have hki : (k : Int) + 1 < xs.length := by omega
      have hkj : (k : Int) < xs.length := by omega
      have hwk : IntKind.i64.wrap ((k : Int) + 1) = (k : Int) + 1 := by rw [IntKind.wrap_i64]; omega
      have htk : ((k : Int) + 1).toNat = k + 1 := by omega
      have hk0p : (0 : Int) ≤ (k : Int) + 1 := by omega
      have hkd : decide ((k : Int) + 1 < 0) = false := decide_eq_false (by omega)
      have c0 := (hbw.cell (p := ⟨g, k, none⟩) hgl).trans (HC.out k hk0)
      have c1 := (hbw.cell (p := ⟨g, k + 1, none⟩) hgl).trans (HC.out (k + 1) hk1)
      have hx0 : xs[k]? = some xs[k] := List.getElem?_eq_getElem hk0
      have hx1 : xs[k + 1]? = some xs[k + 1] := List.getElem?_eq_getElem hk1
      obtain ⟨x, hx⟩ : ∃ x, xs[k] = x := ⟨_, rfl⟩
      obtain ⟨y, hy⟩ : ∃ y, xs[k + 1] = y := ⟨_, rfl⟩
      rw [hx] at c0 hx0
      rw [hy] at c1 hx1
      have hlen := clrTo_len (b := ⟨nm, sp, ln, wd, th, cu, mo, ds⟩) (xs := xs) k
      have QB := Lib.hid (show w.heap.size < wr.heap.size by omega)
      have QK := Lib.hid (show g < wr.heap.size by omega)
      cases hv : soundB ⟨nm, sp, ln, wd, th, cu, mo, ds⟩ ⟨x, 0, y, wd⟩
      · have HS := Lib.hid (clr_step hx0 hx1 hv)
        have IS := fun wx hbx => Lib.hid (isSound_any (dc := dc) hv hdm wx (RcRow.below HD.out (HBW.out.trans hbx)))
        clear hx0 hx1 hx hy hv hbw
        go_wp2
        go_region_held3 (fun wx => Below wr.heap.size wr wx ∧ wx.cell? ⟨w.heap.size, 0, none⟩ = some (.string nm) ∧ wx.cell? ⟨w.heap.size, 1, none⟩ = some (.string sp) ∧ wx.cell? ⟨w.heap.size, 2, none⟩ = some (.int .i64 ln) ∧ wx.cell? ⟨w.heap.size, 3, none⟩ = some (.int .i64 wd) ∧ wx.cell? ⟨w.heap.size, 4, none⟩ = some (.int .i64 th) ∧ wx.cell? ⟨w.heap.size, 5, none⟩ = some (.int .i64 cu) ∧ wx.cell? ⟨w.heap.size, 6, none⟩ = some (.int .i64 mo) ∧ wx.cell? ⟨w.heap.size, 7, none⟩ = some (.slice D dn dc) ∧ wx.cell? ⟨g, k, none⟩ = some (.int .i64 x) ∧ wx.cell? ⟨g, k + 1, none⟩ = some (.int .i64 y)) ((first | (refine ⟨(Below.refl _ _).drew, ?_, ?_, ?_, ?_, ?_, ?_, ?_, ?_, ?_, ?_⟩ <;> assumption) | (refine ⟨?_, ?_, ?_, ?_, ?_, ?_, ?_, ?_, ?_, ?_, ?_⟩ <;> assumption) | (apply kept10 <;> first | assumption | exact QB.out | exact QK.out))) (first | (go_at_call 50; refine Calls.mono (IS _ (by first | assumption | exact (Below.refl _ _).drew | exact And.left (by assumption))).out ?_; rintro e w' ⟨rfl, hbx⟩))
        obtain ⟨hWx, -⟩ := ‹Below wr.heap.size wr w' ∧ _›
        go_wp2
        go_roundw
        case rel => exact ⟨k + 1, by omega, by go_num, by rw [HS.out]; exact own_kept hov hWx, HB.out.trans (hWx.mono (by omega))⟩
        case measure => first | (simp [intOf]; done) | (simp [intOf]; omega)
      · have HS := Lib.hid (clr_step hx0 hx1 hv)
        have IS := fun wx hbx => Lib.hid (isSound_any (dc := dc) hv hdm wx (RcRow.below HD.out (HBW.out.trans hbx)))
        clear hx0 hx1 hx hy hv hbw
        go_wp2
        go_region_held3 (fun wx => Below wr.heap.size wr wx ∧ wx.cell? ⟨w.heap.size, 0, none⟩ = some (.string nm) ∧ wx.cell? ⟨w.heap.size, 1, none⟩ = some (.string sp) ∧ wx.cell? ⟨w.heap.size, 2, none⟩ = some (.int .i64 ln) ∧ wx.cell? ⟨w.heap.size, 3, none⟩ = some (.int .i64 wd) ∧ wx.cell? ⟨w.heap.size, 4, none⟩ = some (.int .i64 th) ∧ wx.cell? ⟨w.heap.size, 5, none⟩ = some (.int .i64 cu) ∧ wx.cell? ⟨w.heap.size, 6, none⟩ = some (.int .i64 mo) ∧ wx.cell? ⟨w.heap.size, 7, none⟩ = some (.slice D dn dc) ∧ wx.cell? ⟨g, k, none⟩ = some (.int .i64 x) ∧ wx.cell? ⟨g, k + 1, none⟩ = some (.int .i64 y)) ((first | (refine ⟨(Below.refl _ _).drew, ?_, ?_, ?_, ?_, ?_, ?_, ?_, ?_, ?_, ?_⟩ <;> assumption) | (refine ⟨?_, ?_, ?_, ?_, ?_, ?_, ?_, ?_, ?_, ?_, ?_⟩ <;> assumption) | (apply kept10 <;> first | assumption | exact QB.out | exact QK.out))) (first | (go_at_call 50; refine Calls.mono (IS _ (by first | assumption | exact (Below.refl _ _).drew | exact And.left (by assumption))).out ?_; rintro e w' ⟨rfl, hbx⟩))
        obtain ⟨hWx, -, -, -, z3, -, -, -, -, z8, z9⟩ := ‹Below wr.heap.size wr w' ∧ _›
        have hov2 := own_kept hov hWx
        have hwx := hWx.size
        have HWX := Lib.hid hWx
        clear hov hWx
        rcases List.eq_nil_or_concat (clrTo ⟨nm, sp, ln, wd, th, cu, mo, ds⟩ xs k) with he | ⟨l, p, he⟩
        · rw [he] at hov2 hlen HS
          obtain ⟨pp, cp, rfl⟩ := own_none hov2 rfl
          have HNE := Lib.hid (show ∀ l' p, ([] : List Iv) = l' ++ [p] → p.2 ≠ x from fun l' p e => by simp at e)
          go_wp2
          go_quiet (fail)
          go_wp2
          go_region_law (refine step_append_lies _ rfl (.tmp 58) (.tmp 69) 84 rfl w1.heap.size 50 i0 (.agg #[.int .i64 0, .int .i64 0]) 2 16 Try.underlying84 hi hz0 hz1 hz2 rfl (by decide) _ _ _ rfl (own_kept hov2 (by first | exact (below_drewN (Below.refl _ _) _).alloc (Nat.le_refl _) _ | exact ((Below.refl _ _).drew).alloc (Nat.le_refl _) _)) ⟨w'.heap.size, 0, none⟩ 1 1 [.int .i64 x, .int .i64 y] rfl rfl (cell_two_new _ _ _ _ rfl) (two_oneCell _ _) (by decide) (by unfold maxLen; simp) (by simp) (by simp; omega) _ rfl ?_; intro g5 cap5 w5 hown5 hgrow5 hor5 hlt5)
          all_goals
            go_wp2
            go_roundw
            case rel =>
              refine ⟨k + 1, by omega, by go_num, ?_, ?_⟩
              · rw [HS.out, cond_true, addSeg_new HNE.out, List.length_append, ivCells_snoc]; exact hown5
              · have hbx := HB.out.trans (HWX.out.mono hsz)
                exact Below.grown (by first | exact (below_drewN hbx _).alloc (Nat.le_trans hsz hwx) _ | exact hbx.drew.alloc (Nat.le_trans hsz hwx) _) hgrow5 (by simp; omega) (fun j hj => own_ge hov2 j hj)
            case measure => first | (simp [intOf]; done) | (simp [intOf]; omega)
        · rw [List.concat_eq_append] at he
          rw [he] at hov2 hlen HS
          have hlp : (l ++ [p]).length = l.length + 1 := by simp
          rw [hlp] at hov2 hlen
          obtain ⟨g4, cap4, rfl, hb4, hg4, hn4, hc4, -, d1, hf4⟩ := own_cell hov2 hlp.symm (k := l.length) (by simp)
          have e4 : (l ++ [p])[l.length]'(by simp) = p := by simp
          rw [e4, Nat.zero_add] at d1
          have hl4 : (l.length : Int) ≤ 121 := by omega
          have f4 := hf4 (l.length * 2 + 1)
          obtain ⟨p1, p2⟩ := p
          simp only at d1
          clear e4 hf4
          by_cases hpx : p2 = x
          · have hpb : (p2 == x) = true := beq_iff_eq.2 hpx
            have HPX := Lib.hid hpx
            clear hpx
            go_wp2
            go_quiet (fail)
            go_wp2
            go_roundw
            case rel =>
              refine ⟨k + 1, by omega, by go_num, ?_, ?_⟩
              · rw [HS.out, cond_true, addSeg_join (p := (p1, p2)) HPX.out, ← iv_set (p := (p1, p2)) rfl, List.length_append]
                exact own_setcell (own_kept hov2 (below_drewN (Below.refl _ _) _)) (by omega) _
              · exact (below_drewN (HB.out.trans (HWX.out.mono hsz)) _).setCell (by simp; omega) _
            case measure => first | (simp [intOf]; done) | (simp [intOf]; omega)
          · have hpb : (p2 == x) = false := beq_eq_false_iff_ne.2 hpx
            have HNE := Lib.hid (show ∀ l' q, l ++ [(p1, p2)] = l' ++ [q] → q.2 ≠ x from fun l' q e => by
              have := List.append_inj_right' e rfl
              injection this with this
              subst this
              exact hpx)
            clear hpx
            go_wp2
            go_quiet (fail)
            go_wp2
            go_region_law (refine step_append_lies _ rfl (.tmp 58) (.tmp 69) 84 rfl w1.heap.size 50 i0 (.agg #[.int .i64 0, .int .i64 0]) 2 16 Try.underlying84 hi hz0 hz1 hz2 rfl (by decide) _ _ _ rfl (own_kept hov2 (by first | exact (below_drewN (Below.refl _ _) _).alloc (Nat.le_refl _) _ | exact ((Below.refl _ _).drew).alloc (Nat.le_refl _) _)) ⟨w'.heap.size, 0, none⟩ 1 1 [.int .i64 x, .int .i64 y] rfl rfl (cell_two_new _ _ _ _ rfl) (two_oneCell _ _) (by decide) (by unfold maxLen; omega) (by omega) (by simp; omega) _ rfl ?_; intro g5 cap5 w5 hown5 hgrow5 hor5 hlt5)
            all_goals
              go_wp2
              go_roundw
              case rel =>
                refine ⟨k + 1, by omega, by go_num, ?_, ?_⟩
                · rw [HS.out, cond_true, addSeg_new HNE.out, List.length_append, hlp, ivCells_snoc]; exact hown5
                · have hbx := HB.out.trans (HWX.out.mono hsz)
                  exact Below.grown (by first | exact (below_drewN hbx _).alloc (Nat.le_trans hsz hwx) _ | exact hbx.drew.alloc (Nat.le_trans hsz hwx) _) hgrow5 (by simp; omega) (fun j hj => own_ge hov2 j hj)
              case measure => first | (simp [intOf]; done) | (simp [intOf]; omega)
    · have hk' : k = n - 1 := by omega
      have hge : ¬ ((k : Int) + 1 < n) := by omega
      clear hbw
      rw [hk', ← HNX.out] at hov
      go_wp2
      go_ret
      exact ⟨_, rfl, ⟨hov.1, hov.2.imp id fun ⟨g, cap, cur, h1, h2, h3⟩ => ⟨g, cap, cur, h1, by omega, h3⟩⟩, HBW.out⟩
end Go.Proofs.Ytnjbhidncicfiaa
