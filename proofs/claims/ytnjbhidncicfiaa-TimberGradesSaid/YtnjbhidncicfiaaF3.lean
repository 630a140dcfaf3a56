/- Walks over the timber seat: what lies across a board. Walks over the timber seat: the reference's lines across a board. Walks over the timber seat: the sort of numbers, over a row of the call's own. -/
import Derived.Test.YtnjbhidncicfiaaE5
import Derived.Test.YtnjbhidncicfiaaMC
import Derived.Test.YtnjbhidncicfiaaE9
import Derived.Shelf.SortM.Plain
import Derived.Shelf.SortM.SortNone
import Derived.Sort.OwnSortedInts
namespace Go.Proofs.Ytnjbhidncicfiaa
open Go.Shelf Go.RowKit Go.Lib Go.Sort

def acT (ds : List Rc) (a e : Int) : List Iv := (ds.filter fun d => decide (d.x1 < e) && decide (a < d.x2)).map fun d => (d.y1, d.y2)
theorem acT_len {ds : List Rc} {a e : Int} : (acT ds a e).length ≤ ds.length := by
  unfold acT; rw [List.length_map]; exact List.length_filter_le _ _
theorem acT_in {ds : List Rc} {a e : Int} {k : Nat} (h : k < ds.length) (h1 : ds[k].x1 < e) (h2 : a < ds[k].x2) : acT (ds.take (k + 1)) a e = acT (ds.take k) a e ++ [(ds[k].y1, ds[k].y2)] := by
  unfold acT
  rw [List.take_succ_eq_append_getElem h, List.filter_append, List.map_append]
  simp [h1, h2]
theorem acT_out {ds : List Rc} {a e : Int} {k : Nat} (h : k < ds.length) (h1 : ¬ (ds[k].x1 < e ∧ a < ds[k].x2)) : acT (ds.take (k + 1)) a e = acT (ds.take k) a e := by
  unfold acT
  rw [List.take_succ_eq_append_getElem h, List.filter_append, List.map_append]
  have : (decide (ds[k].x1 < e) && decide (a < ds[k].x2)) = false := by
    rw [← Bool.not_eq_true, Bool.and_eq_true, decide_eq_true_eq, decide_eq_true_eq]; exact h1
  simp [this]
set_option maxHeartbeats 4000000 in
set_option maxRecDepth 20000 in
theorem across_any {nm sp : ByteArray} {ln wd th cu mo : Int} {D : Option Addr} {dn dc : Nat} {ds : List Rc} {a e : Int} (hdn : dn ≤ 60) (w : World) (hd : RcRow w D dn ds) :
    Calls Try.prog 120 #[.agg #[.string nm, .string sp, .int .i64 ln, .int .i64 wd, .int .i64 th, .int .i64 cu, .int .i64 mo, .slice D dn dc], .int .i64 a, .int .i64 e] w fun en w' => ∃ r : Value, en = .returned r ∧ w'.ownsRow w.heap.size 50 2 r (acrossL ⟨nm, sp, ln, wd, th, cu, mo, ds⟩ a e).length (ivCells (acrossL ⟨nm, sp, ln, wd, th, cu, mo, ds⟩ a e)) ∧ Below w.heap.size w w' := by
  have hdl := hd.1
  obtain ⟨i0, hi, hz0, hz1, hz2⟩ := info_parts info50
  have HD := Lib.hid hd
  clear hd
  show Calls _ _ _ _ fun en w' => ∃ r : Value, en = .returned r ∧ w'.ownsRow w.heap.size 50 2 r (acT ds a e).length (ivCells (acT ds a e)) ∧ Below w.heap.size w w'
  go_enter Try.func120, Try.ntmps120
  go_wp2
  go_loopw [7, 13] (fun v i wr => ∃ k : Nat, k ≤ dn ∧ i = .int .i64 k ∧ wr.ownsRow (w.heap.size + 1) 50 2 v (acT (ds.take k) a e).length (ivCells (acT (ds.take k) a e)) ∧ Below (w.heap.size + 1) (w.alloc (.cells #[.string nm, .string sp, .int .i64 ln, .int .i64 wd, .int .i64 th, .int .i64 cu, .int .i64 mo, .slice D dn dc] 34)) wr) (fun _ i _ => dn - (intOf i).toNat)
  case atStart => exact ⟨0, Nat.zero_le _, rfl, ⟨rfl, .inl ⟨rfl, rfl⟩⟩, Below.refl _ _⟩
  case round =>
    obtain ⟨k, hk, rfl, hov, hbw⟩ := hrel
    have HB := Lib.hid hbw
    have HBW := Lib.hid (show Below w.heap.size w wr from ((Below.refl w.heap.size w).alloc (Nat.le_refl _) _).trans (hbw.mono (by omega)))
    have hsz := hbw.size
    simp at hsz
    clear hbw
    by_cases hlt : k < dn
    · have hkl : k < ds.length := by omega
      obtain ⟨bk, of, rfl, hbk, hx⟩ := HD.out.2 (by omega)
      have hxx := (hx k hkl).below HBW.out hbk
      have HT := fun h => Lib.hid (acT_out (a := a) (e := e) hkl h)
      have HI := fun h1 h2 => Lib.hid (acT_in (a := a) (e := e) hkl h1 h2)
      have hln := acT_len (ds := ds.take k) (a := a) (e := e)
      rw [List.length_take] at hln
      clear hx
      obtain ⟨tk, htk⟩ : ∃ tk, acT (ds.take k) a e = tk := ⟨_, rfl⟩
      rw [htk] at hov HT HI hln
      clear htk
      obtain ⟨d, hdd⟩ : ∃ d, ds[k] = d := ⟨_, rfl⟩
      rw [hdd] at hxx HT HI
      clear hdd
      obtain ⟨a1, b1, a2, b2⟩ := d
      obtain ⟨c0, c1, c2, c3⟩ := hxx
      simp only at c0 c1 c2 c3 HT HI
      have hlk : tk.length ≤ 60 := by omega
      by_cases h1 : a1 < e
      · by_cases h2 : a < a2
        · have H := HI h1 h2
          clear HT HI
          go_wp2_with (at_builtin; refine wpList_append_own_at _ rfl _ _ 84 rfl (w.heap.size + 1) 50 i0 (.agg #[.int .i64 0, .int .i64 0]) 2 16 Try.underlying84 hi hz0 hz1 hz2 rfl (by decide) _ _ _ rfl ((hov.alloc _).alloc _) ⟨wr.heap.size + 1, 0, none⟩ 1 1 [.int .i64 b1, .int .i64 b2] rfl rfl (cell_two_new _ _ _ _ (by simp)) (two_oneCell _ _) (by unfold maxLen; omega) (by omega) (by simp; omega) ?_; intro v3 w3 hown3 hgrow3 hnil3 hloc3)
          all_goals
            go_roundw
            case rel =>
              refine ⟨k + 1, by omega, by go_num, ?_, ?_⟩
              · rw [H.out, ivCells_snoc, List.length_append]; exact hown3
              · exact (((HB.out.alloc hsz _).alloc (by simp; omega) _)).grown hgrow3 (by simp; omega) (fun j hj => own_ge hov j hj)
            case measure => first | (simp [intOf]; done) | (simp [intOf]; omega)
        · have H := HT (fun h => h2 h.2)
          clear HT HI
          go_wp2
          all_goals
            go_roundw
            case rel => exact ⟨k + 1, by omega, by go_num, by rw [H.out]; exact hov.alloc _, HB.out.alloc hsz _⟩
            case measure => first | (simp [intOf]; done) | (simp [intOf]; omega)
      · have H := HT (fun h => h1 h.1)
        clear HT HI
        go_wp2
        all_goals
          go_roundw
          case rel => exact ⟨k + 1, by omega, by go_num, by rw [H.out]; exact hov.alloc _, HB.out.alloc hsz _⟩
          case measure => first | (simp [intOf]; done) | (simp [intOf]; omega)
    · have hk' : k = dn := by omega
      have hall : ds.take k = ds := List.take_of_length_le (by omega)
      rw [hall] at hov
      subst hk'
      go_wp2
      go_ret
      exact ⟨_, rfl, ⟨hov.1, hov.2.imp id fun ⟨g, cap, cur, h1, h2, h3⟩ => ⟨g, cap, cur, h1, by omega, h3⟩⟩, HBW.out⟩
end Go.Proofs.Ytnjbhidncicfiaa
namespace Go.Proofs.Ytnjbhidncicfiaa
open Go.RowKit

set_option maxHeartbeats 4000000 in
set_option maxRecDepth 20000 in
theorem lines_y {nm sp : ByteArray} {ln wd th cu mo : Int} {D : Option Addr} {dn dc : Nat} {ds : List Rc} (hb : BdOk ⟨nm, sp, ln, wd, th, cu, mo, ds⟩) (w : World) (hd : RcRow w D dn ds) :
    Calls Try.prog 94 #[.agg #[.string nm, .string sp, .int .i64 ln, .int .i64 wd, .int .i64 th, .int .i64 cu, .int .i64 mo, .slice D dn dc], .bool true] w fun e w' => ∃ r : Value, e = .returned r ∧ w'.ownsRow w.heap.size 3 1 r (yLines ⟨nm, sp, ln, wd, th, cu, mo, ds⟩).length (intCells (yLines ⟨nm, sp, ln, wd, th, cu, mo, ds⟩)) ∧ Below w.heap.size w w' := by
  have hdl := hd.1
  have hdn := hb.dn
  simp only at hdn
  have hdn' : dn ≤ 60 := by omega
  have HD := Lib.hid hd
  have h0 := insS_len (a := wd) (l := [0])
  have hl0 : (insS wd [0]).length ≤ 2 := by have := h0.2; simpa using this
  have ha0 := Lib.hid (insS_asc (n := wd) (asc_one 0))
  have hX : Hid (yLines ⟨nm, sp, ln, wd, th, cu, mo, ds⟩ = lnF (fun d => d.y1) (fun d => d.y2) ds (insS wd [0])) := Lib.hid rfl
  clear hd hb
  obtain ⟨L0, hL0⟩ : ∃ L0, insS wd [0] = L0 := ⟨_, rfl⟩
  rw [hL0] at h0 hl0 ha0 hX
  have h00 := h0.1
  have HL0 := Lib.hid hL0
  clear h0 hL0
  go_enter Try.func94, Try.ntmps94
  go_wp2_with (go_at_call 122; refine Calls.mono (sortedWith_any (base := w.heap.size + 1) (zs := [0]) (a := wd) _ (by simpa using own_new1 (w.alloc (.cells #[.string nm, .string sp, .int .i64 ln, .int .i64 wd, .int .i64 th, .int .i64 cu, .int .i64 mo, .slice D dn dc] 34)) 0) rfl (by decide) (by decide) (asc_one 0) (by simp)) ?_; rintro e w1 ⟨r1, rfl, hown1, hb1⟩; rw [HL0.out] at hown1)
  have HB1 : Hid (Below (w.heap.size + 1) (w.alloc (.cells #[.string nm, .string sp, .int .i64 ln, .int .i64 wd, .int .i64 th, .int .i64 cu, .int .i64 mo, .slice D dn dc] 34)) w1) := Lib.hid (((Below.refl _ _).alloc (by simp) _).trans (hb1.mono (by simp)))
  have HO1 := Lib.hid hown1
  clear hown1 hb1
  go_loopw [5, 6] (fun ov i wr => ∃ k : Nat, k ≤ dn ∧ i = .int .i64 k ∧ wr.ownsRow (w.heap.size + 1) 3 1 ov (lnF (fun d => d.y1) (fun d => d.y2) (ds.take k) L0).length (intCells (lnF (fun d => d.y1) (fun d => d.y2) (ds.take k) L0)) ∧ Below (w.heap.size + 1) (w.alloc (.cells #[.string nm, .string sp, .int .i64 ln, .int .i64 wd, .int .i64 th, .int .i64 cu, .int .i64 mo, .slice D dn dc] 34)) wr) (fun _ i _ => dn - (intOf i).toNat)
  case atStart => exact ⟨0, Nat.zero_le _, rfl, HO1.out, HB1.out⟩
  case round =>
    obtain ⟨k, hk, rfl, hov, hbw⟩ := hrel
    have HB := Lib.hid hbw
    have HBW := Lib.hid (show Below w.heap.size w wr from ((Below.refl w.heap.size w).alloc (Nat.le_refl _) _).trans (hbw.mono (by omega)))
    have kB : ∀ o, wr.cell? ⟨w.heap.size, o, none⟩ = _ := fun o => hbw.cell (p := ⟨w.heap.size, o, none⟩) (by simp)
    have q7 := kB 7
    simp [go_sem] at q7
    have hsz := hbw.size
    simp at hsz
    clear kB hbw
    have hll := lnF_len (f := fun d => d.y1) (g := fun d => d.y2) (ds := ds.take k) (l := L0) h00
    rw [List.length_take] at hll
    have HAS := Lib.hid (lnF_asc (f := fun d => d.y1) (g := fun d => d.y2) (ds := ds.take k) ha0.out)
    have HOV := Lib.hid hov
    by_cases hlt : k < dn
    · have hkl : k < ds.length := by omega
      obtain ⟨bk, of, rfl, hbk, hx⟩ := HD.out.2 (by omega)
      have hxx := (hx k hkl).below HBW.out hbk
      have HT := Lib.hid (lnF_take (f := fun d => d.y1) (g := fun d => d.y2) (l := L0) hkl)
      clear hx hov
      obtain ⟨lt, hlt2⟩ : ∃ lt, lnF (fun d => d.y1) (fun d => d.y2) (ds.take k) L0 = lt := ⟨_, rfl⟩
      rw [hlt2] at hll HAS HOV HT
      clear hlt2
      obtain ⟨d, hdd⟩ : ∃ d, ds[k] = d := ⟨_, rfl⟩
      rw [hdd] at hxx HT
      clear hdd
      obtain ⟨a1, b1, a2, b2⟩ := d
      obtain ⟨c0, c1, c2, c3⟩ := hxx
      simp only at c0 c1 c2 c3 HT
      have hl1 := insS_len (a := b1) (l := lt)
      have hlt1 : lt.length ≤ 122 := by omega
      have hlt0 := hll.1
      have HAS1 := Lib.hid (insS_asc (n := b1) HAS.out)
      clear hll
      go_wp2
      go_region_with (first | (go_at_call 122; have hown1' := hown1; refine Calls.mono (sortedWith_any (base := w.heap.size + 1) (zs := insS b1 lt) (a := b2) _ hown1 rfl hl1.1 (by omega) HAS1.out (by have := hb1.size; simp at this; omega)) ?_; rintro e w2 ⟨r2, rfl, hown2, hb2⟩) | (go_at_call 122; refine Calls.mono (sortedWith_any (base := w.heap.size + 1) (zs := lt) (a := b1) _ (HOV.out.alloc _) rfl (by omega) (by omega) HAS.out (by simp; omega)) ?_; rintro e w1 ⟨r1, rfl, hown1, hb1⟩; have y2 := (hb1.cell (p := ⟨wr.heap.size, 3, none⟩) (by simp)).trans (show _ = some (Value.int .i64 b2) by simp [go_sem])))
      all_goals
        go_wp2
        go_roundw
        case rel =>
          refine ⟨k + 1, by omega, by go_num, ?_, ?_⟩
          · rw [HT.out]; exact hown2
          · exact ((HB.out.alloc hsz _).drew.trans (hb1.mono (show w.heap.size + 1 ≤ _ by simp; omega))).trans (hb2.mono (show w.heap.size + 1 ≤ _ by have := hb1.size; simp at this; omega))
        case measure => first | (simp [intOf]; done) | (simp [intOf]; omega)
    · have hk' : k = dn := by omega
      have hall : ds.take k = ds := List.take_of_length_le (by omega)
      rw [hall] at hov
      subst hk'
      go_wp2
      go_ret
      refine ⟨_, rfl, ?_, HBW.out⟩
      rw [hX.out]
      exact ⟨hov.1, hov.2.imp id fun ⟨g, cap, cur, h1, h2, h3⟩ => ⟨g, cap, cur, h1, by omega, h3⟩⟩
end Go.Proofs.Ytnjbhidncicfiaa
namespace Go.Proofs.Ytnjbhidncicfiaa
open Go.Shelf Go.RowKit Go.Lib Go.Sort

def Try.sortInts_ren : Go.Shelf.Ren := ⟨fun | 5 => 118 | 8 => 129 | 7 => 128 | 19 => 142 | 20 => 143 | 10 => 133 | 11 => 134 | 12 => 135 | 13 => 136 | 14 => 137 | 15 => 138 | 16 => 139 | 17 => 140 | 18 => 141 | 30 => 146 | 31 => 147 | 32 => 148 | 33 => 149 | 34 => 150 | 35 => 145 | 40 => 159 | n => n, fun | 23 => 117 | 25 => 3 | 3 => 3 | 32 => 173 | 22 => 117 | 0 => 0 | 44 => 184 | 46 => 186 | 4 => 4 | 36 => 178 | 35 => 177 | 41 => 129 | 5 => 5 | 9 => 9 | 53 => 188 | 57 => 192 | 63 => 199 | 64 => 46 | n => n, fun | n => n⟩
theorem Try.sortInts : Go.Proofs.SlLaysM.n5 Try.prog Try.sortInts_ren := {
  mixed := by kernel_rfl
  f5 := ⟨Try.f118.name, by decide, Try.func118.trans (congrArg some (by kernel_rfl))⟩
  f7 := ⟨Try.f128.name, by decide, Try.func128.trans (congrArg some (by kernel_rfl))⟩
  f8 := Try.func129.trans (congrArg some (by kernel_rfl))
  f10 := ⟨Try.f133.name, by decide, Try.func133.trans (congrArg some (by kernel_rfl))⟩
  f11 := ⟨Try.f134.name, by decide, Try.func134.trans (congrArg some (by kernel_rfl))⟩
  f12 := ⟨Try.f135.name, by decide, Try.func135.trans (congrArg some (by kernel_rfl))⟩
  f13 := ⟨Try.f136.name, by decide, Try.func136.trans (congrArg some (by kernel_rfl))⟩
  f14 := ⟨Try.f137.name, by decide, Try.func137.trans (congrArg some (by kernel_rfl))⟩
  f15 := ⟨Try.f138.name, by decide, Try.func138.trans (congrArg some (by kernel_rfl))⟩
  f16 := ⟨Try.f139.name, by decide, Try.func139.trans (congrArg some (by kernel_rfl))⟩
  f17 := ⟨Try.f140.name, by decide, Try.func140.trans (congrArg some (by kernel_rfl))⟩
  f18 := ⟨Try.f141.name, by decide, Try.func141.trans (congrArg some (by kernel_rfl))⟩
  f19 := Try.func142.trans (congrArg some (by kernel_rfl))
  f20 := Try.func143.trans (congrArg some (by kernel_rfl))
  f30 := ⟨Try.f146.name, by decide, Try.func146.trans (congrArg some (by kernel_rfl))⟩
  f31 := Try.func147.trans (congrArg some (by kernel_rfl))
  f32 := Try.func148.trans (congrArg some (by kernel_rfl))
  f33 := ⟨Try.f149.name, by decide, Try.func149.trans (congrArg some (by kernel_rfl))⟩
  f34 := ⟨Try.f150.name, by decide, Try.func150.trans (congrArg some (by kernel_rfl))⟩
  f35 := ⟨Try.f145.name, by decide, Try.func145.trans (congrArg some (by kernel_rfl))⟩
  f40 := ⟨Try.f159.name, by decide, Try.func159.trans (congrArg some (by kernel_rfl))⟩
  t0 := Try.underlying0
  a0 := Try.isAgg0
  z0 := Try.sizeOf0
  v0 := Try.zeroValue0
  t3 := Try.underlying3
  a3 := Try.isAgg3
  z3 := Try.sizeOf3
  v3 := Try.zeroValue3
  t4 := Try.underlying4
  a4 := Try.isAgg4
  z4 := Try.sizeOf4
  v4 := Try.zeroValue4
  t5 := Try.underlying5
  a5 := Try.isAgg5
  z5 := Try.sizeOf5
  v5 := Try.zeroValue5
  t9 := Try.underlying9
  a9 := Try.isAgg9
  z9 := Try.sizeOf9
  v9 := Try.zeroValue9
  t22 := Try.underlying117
  a22 := Try.isAgg117
  z22 := Try.sizeOf117
  v22 := Try.zeroValue117
  t23 := Try.underlying117
  a23 := Try.isAgg117
  z23 := Try.sizeOf117
  v23 := Try.zeroValue117
  t25 := Try.underlying3
  a25 := Try.isAgg3
  z25 := Try.sizeOf3
  v25 := Try.zeroValue3
  t32 := Try.underlying173
  a32 := Try.isAgg173
  z32 := Try.sizeOf173
  v32 := Try.zeroValue173
  t35 := Try.underlying177
  a35 := Try.isAgg177
  z35 := Try.sizeOf177
  v35 := Try.zeroValue177
  t36 := Try.underlying178
  a36 := Try.isAgg178
  z36 := Try.sizeOf178
  v36 := Try.zeroValue178
  t41 := Try.underlying129
  a41 := Try.isAgg129
  z41 := Try.sizeOf129
  v41 := Try.zeroValue129
  t44 := Try.underlying184
  a44 := Try.isAgg184
  z44 := Try.sizeOf184
  v44 := Try.zeroValue184
  t46 := Try.underlying186
  a46 := Try.isAgg186
  z46 := Try.sizeOf186
  v46 := Try.zeroValue186
  t53 := Try.underlying188
  a53 := Try.isAgg188
  z53 := Try.sizeOf188
  v53 := Try.zeroValue188
  t57 := Try.underlying192
  a57 := Try.isAgg192
  z57 := Try.sizeOf192
  v57 := Try.zeroValue192
  t63 := Try.underlying199
  a63 := Try.isAgg199
  z63 := Try.sizeOf199
  v63 := Try.zeroValue199
  t64 := Try.underlying46
  a64 := Try.isAgg46
  z64 := Try.sizeOf46
  v64 := Try.zeroValue46 }
def sortedL (zs : List Int) : List Int := zs.mergeSort fun x y => decide (x ≤ y)
theorem sortedL_perm (zs : List Int) : (sortedL zs).Perm zs := List.mergeSort_perm _ _
theorem sortedL_le (zs : List Int) : (sortedL zs).Pairwise (fun x y => x ≤ y) :=
  (List.pairwise_mergeSort (le := fun (x y : Int) => decide (x ≤ y)) (fun a b c h1 h2 => by simp only [decide_eq_true_eq] at *; omega) (fun a b => by simp only [Bool.or_eq_true, decide_eq_true_eq]; omega) zs).imp fun h => by simpa using h
set_option maxHeartbeats 1000000 in
theorem sortInts_any {base n : Nat} {v : Value} {zs : List Int} (w : World) (hown : w.ownsRow base 3 1 v n (intCells zs)) (hn : n = zs.length) (hle : n ≤ 1000) :
    Calls Try.prog 118 #[v] w fun e w' => e = .returned (.tuple #[]) ∧ w'.ownsRow base 3 1 v n (intCells (sortedL zs)) ∧ w.grownBy w' v.ownBlock := by
  obtain ⟨hl, ⟨rfl, h0⟩ | ⟨g, cap, cur, rfl, hb, hh, hnc, hcm, hcs, htk⟩⟩ := id hown
  · have hz : zs = [] := List.eq_nil_of_length_eq_zero (by omega)
    refine (AnyM.slices_Sort_int_none Try.sortInts none 0 w).mono fun e w' ⟨he, hw⟩ => ⟨he, ?_, ?_⟩
    · subst hz; rw [hw, show sortedL [] = [] by unfold sortedL; simp]; exact hown
    · rw [hw]; exact World.grownBy.refl w _
  · subst hn
    have hg : g < w.heap.size := (Array.getElem?_eq_some_iff.1 hh).1
    rw [Nat.mul_one] at htk
    have S := AnyM.slices_Sort_int Try.sortInts g 0 cap zs w (holds_of_blockI hh htk) hg (by omega)
    refine S.mono fun e w' ⟨he, n, os, hw⟩ => ⟨he, ?_, ?_⟩
    · rw [hw]
      exact ownsRow_sortedI (ts := sortedL zs) (by unfold sortedL; simp) hb hh hnc hcm hcs
    · rw [hw]; exact grownBy_sortedI _
end Go.Proofs.Ytnjbhidncicfiaa
