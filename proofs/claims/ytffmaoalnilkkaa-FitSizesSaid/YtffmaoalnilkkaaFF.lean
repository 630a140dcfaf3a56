/- Walks over the fits: the groups of a fit. -/
import Derived.Test.YtffmaoalnilkkaaFE
import Derived.Test.YtffmaoalnilkkaaFL
namespace Go.Proofs.Ytffmaoalnilkkaa
open Go.RowKit Go.Maps

/-- The cells of a slice of numbers. -/
def IntsAt (w : World) (A : Option Addr) (l : List Int) : Prop :=
  l ≠ [] → ∃ b o, A = some ⟨b, o, none⟩ ∧ b < w.heap.size ∧ ∀ (i : Nat) (h : i < l.length), w.cell? ⟨b, o + i, none⟩ = some (.int .i64 l[i])
theorem IntsAt.below {w w' : World} {A : Option Addr} {l : List Int} (h : IntsAt w A l) (hb : Below w.heap.size w w') : IntsAt w' A l := fun hl => by
  obtain ⟨b, o, rfl, hlt, hc⟩ := h hl
  exact ⟨b, o, rfl, Nat.lt_of_lt_of_le hlt hb.size, fun i hi => (hb.cell (p := ⟨b, o + i, none⟩) hlt).trans (hc i hi)⟩
theorem own_ints {w : World} {base n : Nat} {v : Value} {l : List Int} (h : w.ownsRow base 3 1 v n (l.map (Value.int .i64))) (hn : n = l.length) : ∃ A c, v = .slice A n c ∧ IntsAt w A l ∧ ∀ a, A = some a → base ≤ a.block := by
  obtain ⟨hl, ⟨rfl, h0⟩ | ⟨g, cap, cur, rfl, hb, hh, hnc, hcm, hcs, htk⟩⟩ := h
  · exact ⟨none, 0, by rw [h0], fun hne => absurd (List.eq_nil_of_length_eq_zero (by omega)) hne, fun _ h => by cases h⟩
  · refine ⟨some ⟨g, 0, none⟩, cap, rfl, fun hne => ⟨g, 0, rfl, (Array.getElem?_eq_some_iff.1 hh).1, fun i hi => ?_⟩, fun a ha => by cases ha; exact hb⟩
    have h1 : w.cell? ⟨g, 0 + i, none⟩ = cur[i]? := by
      rw [Nat.zero_add]
      simp [World.cell?, hh]
    rw [h1]
    have h2 : (cur.toList.take n)[i]? = (l.map (Value.int .i64))[i]? := by
      have := congrArg (fun x : List Value => x[i]?) htk
      simpa using this
    rw [List.getElem?_take_of_lt (by omega)] at h2
    rw [← Array.getElem?_toList, h2]
    simp [hi]

theorem gsOf_nodup (l : List Md) : (gsOf l).Nodup := by
  unfold gsOf
  refine List.Pairwise.filter _ ?_
  refine List.pairwise_map.2 ((List.nodup_range (n := 20)).imp fun {a b} h e => h ?_)
  exact Int.ofNat.inj e
theorem mem_gsOf {l : List Md} (h : ∀ x ∈ l, MdOk x) (g : Int) : g ∈ gsOf l ↔ hasG l g = true := by
  unfold gsOf
  rw [List.mem_filter]
  constructor
  · exact fun h => h.2
  · intro hg
    refine ⟨?_, hg⟩
    obtain ⟨x, hx, he⟩ := List.any_eq_true.1 hg
    have he' : x.g = g := of_decide_eq_true he
    have := (h x hx).g0; have := (h x hx).g1
    exact List.mem_map.2 ⟨g.toNat, List.mem_range.2 (by omega), by show ((g.toNat : Nat) : Int) = g; omega⟩
theorem gsOf_sorted (l : List Md) : (gsOf l).Pairwise (fun a b => leI a b = true) := by
  unfold gsOf
  refine List.Pairwise.filter _ ?_
  refine List.pairwise_map.2 ((List.pairwise_lt_range (n := 20)).imp fun {a b} h => ?_)
  simp only [leI, decide_eq_true_eq]
  show ((a : Nat) : Int) ≤ (b : Int)
  omega
theorem groups_keys {H : Type} {w : World} {b n : Nat} {D : DataW H} {R : Value → Option (DataW H × List MemPlace)} {l : List Md} (hown : w.ownsMap Try.prog 3 R b n D) (hD : ∀ g, Maps.has D (intL g) = hasG l g) (hl : ∀ x ∈ l, MdOk x) {ss : List Int} (hp : ss.Perm (intKeys D)) :
    ss.mergeSort (fun x y => decide (x ≤ y)) = gsOf l := by
  have h1 : CollectedI D (fun _ => false) (gsOf l) := ⟨gsOf_nodup l, fun x => by rw [mem_gsOf hl x]; show hasG l x = true ↔ (Maps.has D (intL x) = true ∧ _); rw [hD x]; simp⟩
  have h2 := h1.perm hown lawI Try.underlying3 (fun _ => rfl)
  have h3 := mergeSort_of_perm_i (hp.trans h2.symm)
  show ss.mergeSort leI = _
  rw [h3]
  exact List.mergeSort_of_pairwise (gsOf_sorted l)
theorem keys_size {H : Type} {w : World} {b n : Nat} {D : DataW H} {R : Value → Option (DataW H × List MemPlace)} (hown : w.ownsMap Try.prog 3 R b n D) : Maps.size D ≤ n := hown.size_le
/-! ### groupsOf -/
theorem index_two {T e : TypeId} (hT : Try.prog.underlying T = some (.array 2 e)) (hs : ∀ w, (sizeOf e).run Try.prog w = .ok 1 w) (ha : ∀ w, (isAgg e).run Try.prog w = .ok false w) {x y : Value} (w : World) : (Instr.index T (.agg #[x, y]) (.int .i64 0)).run Try.prog w = .ok x w ∧ (Instr.index T (.agg #[x, y]) (.int .i64 1)).run Try.prog w = .ok y w := by
  constructor <;> simp [Instr.index, run_underlying hT, Result.andThen, asIntOf, go_sem, hs, ha]
set_option maxHeartbeats 8000000 in
set_option maxRecDepth 20000 in
theorem groupsOf_any {nm : ByteArray} {A A' : Option Addr} {n c n' c' : Nat} {le mo : Int} {o i0 : List Md} (ho : ∀ x ∈ o, MdOk x) (hi : ∀ x ∈ i0, MdOk x) (hn : n + n' ≤ 20)
    (w : World) (hA : MdRow w A n o) (hA' : MdRow w A' n' i0) :
    Calls Try.prog 49 #[.agg #[.string nm, .slice A n c, .slice A' n' c', .int .i64 le, .int .i64 mo]] w
      fun e w' => ∃ G gc, e = .returned (.slice G (gsOf (o ++ i0)).length gc) ∧ IntsAt w' G (gsOf (o ++ i0)) ∧ Below w.heap.size w w' := by
  have hol := hA.1
  have hil := hA'.1
  have HA0 := Lib.hid hA; have HA1 := Lib.hid hA'; have Ho := Lib.hid ho; have Hi := Lib.hid hi
  clear hA hA' ho hi
  have hmk := @run_makeMap Try.prog
  have hix0 := fun w => (index_two (x := .slice A n c) (y := .slice A' n' c') Try.underlying114 Try.sizeOf35 Try.isAgg35 w).1
  have hix1 := fun w => (index_two (x := .slice A n c) (y := .slice A' n' c') Try.underlying114 Try.sizeOf35 Try.isAgg35 w).2
  go_enter Try.func49, Try.ntmps49
  go_wp2
  go_loopw [14] (fun i wr => ∃ (j : Nat) (D : DataW Unit) (cn : Nat), j ≤ 2 ∧ i = .int .i64 j ∧ ((j = 0 ∧ cn = 0 ∧ GroupsOf D []) ∨ (j = 1 ∧ cn ≤ n ∧ GroupsOf D o) ∨ (j = 2 ∧ cn ≤ n + n' ∧ GroupsOf D (o ++ i0))) ∧ wr.ownsMap Try.prog 3 (plainElem Try.prog 4) (w.heap.size + 1) cn D ∧ Below w.heap.size w wr) (fun i _ => 2 - (intOf i).toNat)
  case atStart => exact ⟨0, _, 0, by omega, rfl, .inl ⟨rfl, rfl, groupsOf_nil⟩, (by have := World.ownsMap_made (H := Unit) (w.alloc (.cells #[.string nm, .slice A n c, .slice A' n' c', .int .i64 le, .int .i64 mo] 37)) Try.prog 3 (plainElem Try.prog 4); simpa using this), ((Below.refl _ _).alloc (Nat.le_refl _) _).alloc (by simp) _⟩
  case round =>
    obtain ⟨j, D, cn, hj, rfl, hD, hown, hbw⟩ := hrel
    have HB := Lib.hid hbw
    clear hbw
    rcases hD with ⟨rfl, rfl, hD⟩ | ⟨rfl, hcn, hD⟩ | ⟨rfl, hcn, hD⟩
    · have hD' := Lib.hid hD

      clear hD
      obtain ⟨wz, hwz⟩ : ∃ wz, wz = wr := ⟨_, rfl⟩
      rw [← hwz] at hown HB ⊢
      clear hwz
      go_wp2
      go_loopw [19] (fun i wr => ∃ (k : Nat) (D : DataW Unit), k ≤ n ∧ i = .int .i64 k ∧ wr.ownsMap Try.prog 3 (plainElem Try.prog 4) (w.heap.size + 1) (k) D ∧ GroupsOf D (o.take k) ∧ Below w.heap.size w wr) (fun i _ => n - (intOf i).toNat)
      case atStart => exact ⟨0, D, Nat.zero_le _, rfl, by simpa using hown, by simpa using hD'.out, HB.out⟩
      case round =>
        obtain ⟨k, D2, hk, rfl, hown, hD2, hbw⟩ := hrel
        have HB := Lib.hid hbw
        clear hbw
        by_cases hlt : k < n
        · have hkl : k < o.length := by omega
          obtain ⟨blk, off, rfl, hblk, hx⟩ := HA0.out.2 (by omega)
          have hxx := (hx k hkl).below HB.out hblk
          have hok := Ho.out o[k] (List.getElem_mem hkl)
          have HTK := Lib.hid (List.take_succ_eq_append_getElem hkl)
          clear hx
          obtain ⟨x, hxe⟩ : ∃ x, o[k] = x := ⟨_, rfl⟩
          rw [hxe] at hxx hok HTK
          clear hxe
          have HS := Lib.hid (hD2.snoc x (.lit (.bool true)))
          obtain ⟨s, r, m, g, lo, hi⟩ := x
          obtain ⟨c0, c1, c2, c3, c4, c5⟩ := hxx
          have g0 := hok.g0; have g1 := hok.g1
          simp only at c0 c1 c2 c3 c4 c5 g0 g1
          have hown1 := hown.alloc (.cells #[.int .i64 s, .int .i64 r, .int .i64 m, .int .i64 g, .int .i64 lo, .int .i64 hi] 44)
          have hlt0 := hown.lt
          clear hok hD2
          go_wp2_with (at_mapUpdate; refine wpList_mapUpdate_own _ rfl _ _ _ 113 rfl 3 4 lawI Try.underlying113 _ (w.heap.size + 1) (k) D2 rfl hown1 (by unfold maxLen; omega) _ _ (intL g) rfl rfl (keyOf_int_mk Try.underlying3 (WalkArith.wf_i64 (by omega))) _ [] (plainElem_bool Try.underlying4 true) ?_; intro w2 hown2 hgrow2)
          go_roundw
          case rel =>
            exact ⟨k + 1, by omega, by go_num, D2.put (intL g) (.lit (.bool true)), hown2, by rw [HTK.out]; exact HS.out, (HB.out.alloc (by omega) _).grown hgrow2 (by simp; omega) (fun j hj => by cases hj; omega)⟩
          case measure => simp [intOf]; omega
        · have hk' : k = n := by omega
          have hD3 : Hid (GroupsOf D2 (o)) := Lib.hid (by rw [List.take_of_length_le (by omega)] at hD2; exact hD2)
          clear hD2
          subst hk'
          go_wp2
          go_roundw
          case rel => exact ⟨1, D2, k, by omega, by go_num, .inr (.inl ⟨rfl, by omega, by simpa using hD3.out⟩), hown.mono (by omega), HB.out⟩
          case measure => simp [intOf]

    · have hD' := Lib.hid hD
      replace hown := hown.mono hcn

      clear hD
      obtain ⟨wz, hwz⟩ : ∃ wz, wz = wr := ⟨_, rfl⟩
      rw [← hwz] at hown HB ⊢
      clear hwz
      go_wp2
      go_loopw [19] (fun i wr => ∃ (k : Nat) (D : DataW Unit), k ≤ n' ∧ i = .int .i64 k ∧ wr.ownsMap Try.prog 3 (plainElem Try.prog 4) (w.heap.size + 1) (n + k) D ∧ GroupsOf D (o ++ i0.take k) ∧ Below w.heap.size w wr) (fun i _ => n' - (intOf i).toNat)
      case atStart => exact ⟨0, D, Nat.zero_le _, rfl, by simpa using hown, by simpa using hD'.out, HB.out⟩
      case round =>
        obtain ⟨k, D2, hk, rfl, hown, hD2, hbw⟩ := hrel
        have HB := Lib.hid hbw
        clear hbw
        by_cases hlt : k < n'
        · have hkl : k < i0.length := by omega
          obtain ⟨blk, off, rfl, hblk, hx⟩ := HA1.out.2 (by omega)
          have hxx := (hx k hkl).below HB.out hblk
          have hok := Hi.out i0[k] (List.getElem_mem hkl)
          have HTK := Lib.hid (List.take_succ_eq_append_getElem hkl)
          clear hx
          obtain ⟨x, hxe⟩ : ∃ x, i0[k] = x := ⟨_, rfl⟩
          rw [hxe] at hxx hok HTK
          clear hxe
          have HS := Lib.hid (hD2.snoc x (.lit (.bool true)))
          obtain ⟨s, r, m, g, lo, hi⟩ := x
          obtain ⟨c0, c1, c2, c3, c4, c5⟩ := hxx
          have g0 := hok.g0; have g1 := hok.g1
          simp only at c0 c1 c2 c3 c4 c5 g0 g1
          have hown1 := hown.alloc (.cells #[.int .i64 s, .int .i64 r, .int .i64 m, .int .i64 g, .int .i64 lo, .int .i64 hi] 44)
          have hlt0 := hown.lt
          clear hok hD2
          go_wp2_with (at_mapUpdate; refine wpList_mapUpdate_own _ rfl _ _ _ 113 rfl 3 4 lawI Try.underlying113 _ (w.heap.size + 1) (n + k) D2 rfl hown1 (by unfold maxLen; omega) _ _ (intL g) rfl rfl (keyOf_int_mk Try.underlying3 (WalkArith.wf_i64 (by omega))) _ [] (plainElem_bool Try.underlying4 true) ?_; intro w2 hown2 hgrow2)
          go_roundw
          case rel =>
            exact ⟨k + 1, by omega, by go_num, D2.put (intL g) (.lit (.bool true)), hown2, by rw [HTK.out, ← List.append_assoc]; exact HS.out, (HB.out.alloc (by omega) _).grown hgrow2 (by simp; omega) (fun j hj => by cases hj; omega)⟩
          case measure => simp [intOf]; omega
        · have hk' : k = n' := by omega
          have hD3 : Hid (GroupsOf D2 (o ++ i0)) := Lib.hid (by rw [List.take_of_length_le (by omega)] at hD2; exact hD2)
          clear hD2
          subst hk'
          go_wp2
          go_roundw
          case rel => exact ⟨2, D2, n + k, by omega, by go_num, .inr (.inr ⟨rfl, by omega, by simpa using hD3.out⟩), hown, HB.out⟩
          case measure => simp [intOf]

    · have hD' := Lib.hid hD
      clear hD
      replace hown := hown.mono hcn
      have KL := Lib.hid (fun (ss : List Int) (hp : ss.Perm (intKeys D)) => groups_keys hown hD'.out.has (fun x hx => (List.mem_append.1 hx).elim (Ho.out x) (Hi.out x)) hp)
      have SL := Lib.hid (hown.size_le)
      have SA := Lib.hid (sorted_any hown (Nat.le_trans SL.out (by unfold maxLen; omega)) (by have := SL.out; omega))
      have HS := Lib.hid HB.out.size
      go_wp2_with (first | (go_at_call 75; refine (keys_any _ _).mono ?_; rintro e w' ⟨rfl, rfl⟩) | (go_at_call 74; refine SA.out.mono ?_; rintro e w' ⟨v, ss, rfl, hS, hrow, hnil, hb⟩))
      go_ret
      rw [KL.out ss hS] at hrow
      have hlen : ss.length = (gsOf (o ++ i0)).length := by rw [← KL.out ss hS, List.length_mergeSort]
      obtain ⟨G, gc, rfl, hG, -⟩ := own_ints hrow hlen
      rw [hlen]
      exact ⟨G, gc, rfl, hG, HB.out.trans (hb.mono HS.out)⟩
end Go.Proofs.Ytffmaoalnilkkaa
