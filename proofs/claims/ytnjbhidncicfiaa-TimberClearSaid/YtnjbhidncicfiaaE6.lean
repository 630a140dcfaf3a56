/- Walks over the timber seat: the reference's sorted lists. -/
import Derived.Test.YtnjbhidncicfiaaE3
import Derived.Handy
import Derived.Test.YtnjbhidncicfiaaMD
namespace Go.Proofs.Ytnjbhidncicfiaa
open Go.RowKit

def intCells (zs : List Int) : List Value := zs.map (Value.int .i64)
theorem intCells_length (zs : List Int) : (intCells zs).length = zs.length := by unfold intCells; simp
theorem intCells_snoc (zs : List Int) (a : Int) : intCells (zs ++ [a]) = intCells zs ++ [.int .i64 a] := by unfold intCells; simp
def lessThan (a : Int) (zs : List Int) : List Int := zs.filter fun z => decide (z < a)
theorem less_snoc (a : Int) (zs : List Int) (z : Int) : lessThan a (zs ++ [z]) = if z < a then lessThan a zs ++ [z] else lessThan a zs := by
  unfold lessThan
  rw [List.filter_append]
  by_cases h : z < a
  · rw [if_pos h]; simp [h]
  · rw [if_neg h]; simp [h]
theorem less_take {a : Int} {zs : List Int} {k : Nat} (h : k < zs.length) : lessThan a (zs.take (k + 1)) = if zs[k] < a then lessThan a (zs.take k) ++ [zs[k]] else lessThan a (zs.take k) := by
  rw [List.take_succ_eq_append_getElem h, less_snoc]
theorem less_len (a : Int) (zs : List Int) : (lessThan a zs).length ≤ zs.length := List.length_filter_le _ _
theorem insS_in {a : Int} : ∀ {zs : List Int}, Asc zs → a ∈ zs → insS a zs = zs
  | [], _, h => by cases h
  | z :: r, hs, h => by
    have hp := List.pairwise_cons.1 hs
    unfold insS
    by_cases e : z = a
    · rw [if_pos e]
    · rw [if_neg e]
      rcases List.mem_cons.1 h with e2 | h2
      · exact absurd e2.symm e
      · rw [if_pos (hp.1 a h2), insS_in hp.2 h2]
theorem insS_out {a : Int} : ∀ {zs : List Int}, Asc zs → a ∉ zs → insS a zs = lessThan a zs ++ [a] ++ zs.drop (lessThan a zs).length
  | [], _, _ => rfl
  | z :: r, hs, h => by
    have hp := List.pairwise_cons.1 hs
    have hz : z ≠ a := fun e => h (by rw [e]; exact List.mem_cons_self ..)
    have hr : a ∉ r := fun hh => h (List.mem_cons_of_mem _ hh)
    unfold insS
    rw [if_neg hz]
    by_cases e : z < a
    · rw [if_pos e, insS_out hp.2 hr]
      have hl : lessThan a (z :: r) = z :: lessThan a r := by unfold lessThan; simp [e]
      rw [hl]; simp
    · rw [if_neg e]
      have hl : lessThan a (z :: r) = [] := by
        unfold lessThan
        rw [List.filter_eq_nil_iff]
        intro x hx
        rcases List.mem_cons.1 hx with rfl | hx
        · simp [e]
        · have := hp.1 x hx; simp; omega
      rw [hl]; simp
theorem info3 : (Try.prog.info? 3).map (fun i => (i.zero, i.size, i.bytes)) = some (some (.int .i64 0), 1, 8) := by kernel_rfl
theorem own_ge1 {w : World} {base e : Nat} {size n : Nat} {v : Value} {xs : List Value} (h : w.ownsRow base e size v n xs) : ∀ j, v.ownBlock = some j → base ≤ j ∧ j < w.heap.size := by
  intro j hj
  rcases h.2 with ⟨rfl, -⟩ | ⟨g, cap, cur, rfl, hb, hh, -⟩
  · cases hj
  · simp [Value.ownBlock] at hj; subst hj; exact ⟨hb, (Array.getElem?_eq_some_iff.1 hh).1⟩
/-- The cells of an owned row of numbers. -/
theorem own_int {w : World} {base n : Nat} {v : Value} {zs : List Int} (h : w.ownsRow base 3 1 v n (intCells zs)) (hn : n = zs.length) (hpos : 0 < n) :
    ∃ g cap, v = .slice (some ⟨g, 0, none⟩) n cap ∧ base ≤ g ∧ g < w.heap.size ∧ n ≤ cap ∧ cap ≤ maxLen ∧ ∀ k (hk : k < zs.length), w.cell? ⟨g, k, none⟩ = some (.int .i64 zs[k]) := by
  obtain ⟨hl, ⟨-, h0⟩ | ⟨g, cap, cur, rfl, hb, hh, hnc, hcm, hcs, htk⟩⟩ := h
  · omega
  · refine ⟨g, cap, rfl, hb, (Array.getElem?_eq_some_iff.1 hh).1, hnc, hcm, fun k hk => ?_⟩
    have h1 : cur[k]? = (intCells zs)[k]? := by rw [← htk, List.getElem?_take_of_lt (by omega)]; simp
    unfold World.cell?
    simp only [hh]
    have h2 : (intCells zs)[k]? = some (.int .i64 zs[k]) := by unfold intCells; simp [hk]
    simp [h1, h2]
set_option maxHeartbeats 4000000 in
set_option maxRecDepth 20000 in
theorem sortedWith_any {base n : Nat} {v : Value} {zs : List Int} {a : Int} (w : World) (hown : w.ownsRow base 3 1 v n (intCells zs)) (hn : n = zs.length) (hpos : 0 < n) (hle : n ≤ 300) (hasc : Asc zs) (_hbase : base ≤ w.heap.size) :
    Calls Try.prog 122 #[v, .int .i64 a] w fun e w' => ∃ r : Value, e = .returned r ∧ w'.ownsRow base 3 1 r (insS a zs).length (intCells (insS a zs)) ∧ Below w.heap.size w w' := by
  obtain ⟨g, cap, rfl, hbg, hgl, hnc, hcm, hcell⟩ := own_int hown hn hpos
  obtain ⟨i0, hi, hz0, hz1, hz2⟩ := info_parts info3
  have HC := Lib.hid hcell
  have HOWN := Lib.hid hown
  have HA := Lib.hid hasc
  have HNN := Lib.hid hn
  have hn' : (n : Int) ≤ 300 := by omega
  have hn1 : n ≤ zs.length := by omega
  have hn2 : zs.length ≤ n := by omega
  clear hcell hown hasc hn
  go_enter Try.func122, Try.ntmps122
  go_wp2
  go_loopw [5, 6] (fun ov i wr => ∃ k : Nat, k ≤ n ∧ i = .int .i64 k ∧ (∀ j (hj : j < zs.length), j < k → zs[j] ≠ a) ∧ wr.ownsRow w.heap.size 3 1 ov (lessThan a (zs.take k)).length (intCells (lessThan a (zs.take k))) ∧ Below w.heap.size w wr) (fun _ i _ => n - (intOf i).toNat)
  case atStart => exact ⟨0, Nat.zero_le _, rfl, fun j _ h => absurd h (by omega), ⟨rfl, .inl ⟨rfl, rfl⟩⟩, Below.refl _ _⟩
  case round =>
    obtain ⟨k, hk, rfl, hno, hov, hbw⟩ := hrel
    have HB := Lib.hid hbw
    have HNO := Lib.hid hno
    have hwr := hbw.size
    clear hno
    by_cases hlt : k < n
    · have hkl : k < zs.length := by omega
      have c0 := (hbw.cell (p := ⟨g, k, none⟩) hgl).trans (HC.out k hkl)
      have hstep := Lib.hid (less_take (a := a) hkl)
      have hll := less_len a (zs.take k)
      rw [List.length_take] at hll
      have HIN := Lib.hid (fun h : zs[k] = a => insS_in HA.out (h ▸ List.getElem_mem hkl))
      obtain ⟨z, hz⟩ : ∃ z, zs[k] = z := ⟨_, rfl⟩
      have HZ := Lib.hid hz
      rw [hz] at c0 hstep HIN
      obtain ⟨lt, hlt2⟩ : ∃ lt, lessThan a (zs.take k) = lt := ⟨_, rfl⟩
      rw [hlt2] at hov hstep hll
      clear hz hbw hlt2
      by_cases he : z = a
      · have HR := Lib.hid (HIN.out he)
        have hb : (z == a) = true := by rw [beq_iff_eq]; exact he
        clear he
        go_wp2
        go_ret
        refine ⟨_, rfl, ?_, HB.out⟩
        rw [HR.out, ← HNN.out]
        exact HOWN.out.kept ⟨HB.out.os, HB.out.tape, HB.out.output, HB.out.size, fun i hi _ => HB.out.block i hi⟩ (row := none) (.inr (by simp [Value.ownBlock]))
      · have hb : (z == a) = false := by rw [beq_eq_false_iff_ne]; exact he
        have HNO2 : Hid (∀ (j : Nat) (hj : j < zs.length), j < k + 1 → zs[j] ≠ a) := Lib.hid (fun j hj hjk => by
          by_cases e : j = k
          · subst e; rw [HZ.out]; exact he
          · exact HNO.out j hj (by omega))
        by_cases hza : z < a
        · have hs2 : Hid (lessThan a (zs.take (k + 1)) = lt ++ [z]) := Lib.hid (by rw [hstep.out, if_pos hza])
          go_wp2_with (at_builtin; refine wpList_append_own_at _ rfl _ _ 117 rfl w.heap.size 3 i0 (.int .i64 0) 1 8 Try.underlying117 hi hz0 hz1 hz2 rfl (by decide) _ _ _ rfl (hov.alloc _) ⟨wr.heap.size, 0, none⟩ 1 1 [.int .i64 z] rfl rfl (cell_one_new _ _ _) (by intro u hu; simp at hu; subst hu; rfl) (by unfold maxLen; omega) (by omega) (by simp; omega) ?_; intro v3 w3 hown3 hgrow3 hnil3 hloc3)
          go_roundw
          case rel =>
            refine ⟨k + 1, by omega, by go_num, HNO2.out, ?_, ?_⟩
            · rw [hs2.out, intCells_snoc]; simpa using hown3
            · exact (HB.out.alloc HB.out.size _).grown hgrow3 (by have := HB.out.size; simp; omega) (fun j hj => (own_ge1 hov j hj).1)
          case measure => first | (simp [intOf]; done) | (simp [intOf]; omega)
        · have hs2 : Hid (lessThan a (zs.take (k + 1)) = lt) := Lib.hid (by rw [hstep.out, if_neg hza])
          go_wp2
          go_roundw
          case rel =>
            refine ⟨k + 1, by omega, by go_num, HNO2.out, ?_, HB.out⟩
            rw [hs2.out]; exact hov
          case measure => first | (simp [intOf]; done) | (simp [intOf]; omega)
    · have hk' : k = n := by omega
      have hall : zs.take k = zs := List.take_of_length_le (by omega)
      rw [hall] at hov
      have hmem : a ∉ zs := fun h => by
        obtain ⟨j, hj, e⟩ := List.getElem_of_mem h
        exact HNO.out j hj (by omega) e
      have HR := Lib.hid (insS_out HA.out hmem)
      have hll := less_len a zs
      obtain ⟨lt, hlt2⟩ : ∃ lt, lessThan a zs = lt := ⟨_, rfl⟩
      rw [hlt2] at hov HR hll
      clear hlt2 hbw hmem hall
      subst hk'
      have hdl : (zs.drop lt.length).length = k - lt.length := by rw [List.length_drop]; omega
      have HC2 := fun (wx : World) (hx : ∀ o, wx.cell? ⟨g, o, none⟩ = w.cell? ⟨g, o, none⟩) => Lib.hid (show ∀ j u, (intCells (zs.drop lt.length))[j]? = some u → wx.cell? ((⟨g, lt.length, none⟩ : Addr).add j) = some u from fun j u hu => by
        unfold intCells at hu
        rw [List.getElem?_map, List.getElem?_drop] at hu
        rcases hz : zs[lt.length + j]? with _ | z
        · rw [hz] at hu; cases hu
        · rw [hz] at hu
          obtain ⟨h1, h2⟩ := List.getElem?_eq_some_iff.1 hz
          simp at hu
          have e : (⟨g, lt.length, none⟩ : Addr).add j = ⟨g, lt.length + j, none⟩ := by
            by_cases h0 : j = 0
            · subst h0; simp [Addr.add]
            · simp [Addr.add, h0]
          rw [e, hx]
          have := HC.out _ h1
          rw [h2, hu] at this
          exact this)
      have hll2 : lt.length ≤ k := by omega
      have hlk : (lt.length : Int) ≤ k := by omega
      have hcapm : cap ≤ maxLen := hcm
      by_cases hcl : cap = lt.length
      · have hempty : zs.drop lt.length = [] := List.eq_nil_of_length_eq_zero (by omega)
        have HC3 := fun (wx : World) (hx : ∀ o, wx.cell? ⟨g, o, none⟩ = w.cell? ⟨g, o, none⟩) => Lib.hid (show ∀ j u, (intCells (zs.drop lt.length))[j]? = some u → wx.cell? ((⟨g, 0, none⟩ : Addr).add j) = some u from fun j u hu => by
          rw [hempty] at hu
          simp [intCells] at hu)
        clear hempty
        go_wp2_with (at_builtin; first | (refine wpList_append_own_at _ rfl _ _ 117 rfl w.heap.size 3 i0 (.int .i64 0) 1 8 Try.underlying117 hi hz0 hz1 hz2 rfl (by decide) _ _ _ rfl (hov.alloc _) ⟨wr.heap.size, 0, none⟩ 1 1 [.int .i64 a] rfl rfl (cell_one_new _ _ _) (by intro u hu; simp at hu; subst hu; rfl) (by unfold maxLen; omega) (by omega) (by simp; omega) ?_; intro v3 w3 hown3 hgrow3 hnil3 hloc3; rw [← intCells_snoc] at hown3; have hb3 := Lib.hid ((HB.out.alloc HB.out.size _).grown hgrow3 (by have := HB.out.size; simp; omega) (fun j hj => (own_ge1 hov j hj).1)); obtain ⟨g3, cap3, rfl, hbg3, hgl3, hnc3, hcm3, -⟩ := own_int hown3 (by simp) (by omega)) | ((refine wpList_append_own_at _ rfl _ _ 117 rfl w.heap.size 3 i0 (.int .i64 0) 1 8 Try.underlying117 hi hz0 hz1 hz2 rfl (by decide) _ _ _ rfl hown3 ⟨g, 0, none⟩ (k - lt.length) 0 (intCells (zs.drop lt.length)) rfl (by rw [intCells_length, hdl]; omega) (HC3 _ (fun o => hb3.out.cell (p := ⟨g, o, none⟩) hgl)).out (ints_oneCell _ _) (by unfold maxLen; omega) (by omega) (Nat.le_trans hb3.out.size (Nat.le_refl _)) ?_; intro v4 w4 hown4 hgrow4 hnil4 hloc4)))
        go_ret
        refine ⟨_, rfl, ?_, ?_⟩
        · rw [HR.out]
          unfold intCells at *
          have hle4 : (lt ++ [a] ++ zs.drop lt.length).length = lt.length + 1 + (k - lt.length) := by rw [List.length_append, hdl]; simp
          rw [hle4, List.map_append]
          exact ⟨hown4.1, hown4.2.imp id fun ⟨g, cap, cur, h1, h2, h3⟩ => ⟨g, cap, cur, h1, by omega, h3⟩⟩
        · exact hb3.out.grown hgrow4 hb3.out.size (fun j hj => (own_ge1 hown3 j hj).1)
      · go_wp2_with (at_builtin; first | (refine wpList_append_own_at _ rfl _ _ 117 rfl w.heap.size 3 i0 (.int .i64 0) 1 8 Try.underlying117 hi hz0 hz1 hz2 rfl (by decide) _ _ _ rfl (hov.alloc _) ⟨wr.heap.size, 0, none⟩ 1 1 [.int .i64 a] rfl rfl (cell_one_new _ _ _) (by intro u hu; simp at hu; subst hu; rfl) (by unfold maxLen; omega) (by omega) (by simp; omega) ?_; intro v3 w3 hown3 hgrow3 hnil3 hloc3; rw [← intCells_snoc] at hown3; have hb3 := Lib.hid ((HB.out.alloc HB.out.size _).grown hgrow3 (by have := HB.out.size; simp; omega) (fun j hj => (own_ge1 hov j hj).1)); obtain ⟨g3, cap3, rfl, hbg3, hgl3, hnc3, hcm3, -⟩ := own_int hown3 (by simp) (by omega)) | ((refine wpList_append_own_at _ rfl _ _ 117 rfl w.heap.size 3 i0 (.int .i64 0) 1 8 Try.underlying117 hi hz0 hz1 hz2 rfl (by decide) _ _ _ rfl hown3 ⟨g, lt.length, none⟩ (k - lt.length) (cap - lt.length) (intCells (zs.drop lt.length)) rfl (by rw [intCells_length, hdl]; omega) (HC2 _ (fun o => hb3.out.cell (p := ⟨g, o, none⟩) hgl)).out (ints_oneCell _ _) (by unfold maxLen; omega) (by omega) (Nat.le_trans hb3.out.size (Nat.le_refl _)) ?_; intro v4 w4 hown4 hgrow4 hnil4 hloc4)))
        go_ret
        refine ⟨_, rfl, ?_, ?_⟩
        · rw [HR.out]
          unfold intCells at *
          have hle4 : (lt ++ [a] ++ zs.drop lt.length).length = lt.length + 1 + (k - lt.length) := by rw [List.length_append, hdl]; simp
          rw [hle4, List.map_append]
          exact ⟨hown4.1, hown4.2.imp id fun ⟨g, cap, cur, h1, h2, h3⟩ => ⟨g, cap, cur, h1, by omega, h3⟩⟩
        · exact hb3.out.grown hgrow4 hb3.out.size (fun j hj => (own_ge1 hown3 j hj).1)
end Go.Proofs.Ytnjbhidncicfiaa
