/- Walks over the timber seat: stocks. -/
import Derived.Test.YtnjbhidncicfiaaB5
import Derived.Test.YtnjbhidncicfiaaO4
namespace Go.Proofs.Ytnjbhidncicfiaa
open Go.RowKit Go.Maps

def BdAt (w : World) (blk off : Nat) (b : Bd) : Prop := ∃ (D : Option Addr) (dn dc : Nat),
  (w.cell? ⟨blk, off, none⟩ = some (.string b.nm) ∧ w.cell? ⟨blk, off + 1, none⟩ = some (.string b.sp) ∧ w.cell? ⟨blk, off + 2, none⟩ = some (.int .i64 b.ln) ∧ w.cell? ⟨blk, off + 3, none⟩ = some (.int .i64 b.wd) ∧
  w.cell? ⟨blk, off + 4, none⟩ = some (.int .i64 b.th) ∧ w.cell? ⟨blk, off + 5, none⟩ = some (.int .i64 b.cu) ∧ w.cell? ⟨blk, off + 6, none⟩ = some (.int .i64 b.mo) ∧ w.cell? ⟨blk, off + 7, none⟩ = some (.slice D dn dc)) ∧
  (b.nm.size ≤ maxLen ∧ b.sp.size ≤ maxLen ∧ dn ≤ maxLen ∧ dn ≤ dc) ∧ RcRow w D dn b.df
theorem BdAt.below {w w' : World} {blk off : Nat} {b : Bd} (h : BdAt w blk off b) (hb : Below w.heap.size w w') (hlt : blk < w.heap.size) : BdAt w' blk off b := by
  obtain ⟨D, dn, dc, ⟨h0, h1, h2, h3, h4, h5, h6, h7⟩, hl, hr⟩ := h
  have k : ∀ o, w'.cell? ⟨blk, o, none⟩ = w.cell? ⟨blk, o, none⟩ := fun o => hb.cell (p := ⟨blk, o, none⟩) hlt
  exact ⟨D, dn, dc, ⟨by rw [k, h0], by rw [k, h1], by rw [k, h2], by rw [k, h3], by rw [k, h4], by rw [k, h5], by rw [k, h6], by rw [k, h7]⟩, hl, RcRow.below hr hb⟩
abbrev BdRow (w : World) (S : Option Addr) (n : Nat) (bs : List Bd) : Prop := RowOf (BdAt w) 8 S n bs w.heap.size
theorem BdRow.below {w w' : World} {S : Option Addr} {n : Nat} {bs : List Bd} (h : BdRow w S n bs) (hb : Below w.heap.size w w') : BdRow w' S n bs :=
  RowOf.keep h hb.size (fun _ _ _ hlt hx => BdAt.below hx hb hlt)
def seenB (bs : List Bd) (k : Nat) (nm : ByteArray) : Bool := (bs.take k).any fun b => decide (b.nm = nm)
def stFrom (l : List Sp) (bs : List Bd) : Nat → Nat → Int
  | 0, _ => 0
  | n + 1, k => match bs[k]? with
    | none => 0
    | some b => bif decide (bdOf l b = 0) then (bif seenB bs k b.nm then 5 else stFrom l bs n (k + 1)) else bdOf l b
theorem st_from {l : List Sp} {bs : List Bd} {k : Nat} (h : k < bs.length) : stFrom l bs (bs.length - k) k = bif decide (bdOf l bs[k] = 0) then (bif seenB bs k bs[k].nm then 5 else stFrom l bs (bs.length - (k + 1)) (k + 1)) else bdOf l bs[k] := by
  rw [show bs.length - k = (bs.length - (k + 1)) + 1 by omega, stFrom, List.getElem?_eq_getElem h]
theorem st_end {l : List Sp} {bs : List Bd} {k : Nat} (h : ¬ k < bs.length) : stFrom l bs (bs.length - k) k = 0 := by
  rw [show bs.length - k = 0 by omega]; rfl
def stCode (l : List Sp) (bs : List Bd) : Int := bif decide (spsCode l = 0) then (bif decide (100 < bs.length) then 8 else stFrom l bs bs.length 0) else spsCode l
theorem seen_names (bs : List Bd) (k : Nat) (nm : ByteArray) : (((bs.take k).map (·.nm)).any fun n => decide (n = nm)) = seenB bs k nm := by
  unfold seenB; rw [List.any_map]; rfl
theorem names_succ {bs : List Bd} {k : Nat} (h : k < bs.length) : (bs.take (k + 1)).map (·.nm) = (bs.take k).map (·.nm) ++ [bs[k].nm] := by
  rw [List.take_succ_eq_append_getElem h, List.map_append]; rfl
theorem zero4 (w : World) : (zeroValue 4).run Try.prog w = .ok (.bool false) w := by kernel_rfl
set_option maxRecDepth 20000 in
theorem look_seen {w : World} {b n : Nat} {M : DataW Unit} {nm : ByteArray} {v : Bool} (hown : w.ownsMap Try.prog 9 (plainElem Try.prog 4) b n M) (hsz : nm.size ≤ maxLen) (hh : M.atKey (keyL nm) (.lit (.bool false)) = .lit (.bool v)) :
    (Instr.lookup 133 (.map (some b)) (.string nm) false).run Try.prog w = .ok (.bool v) w := by
  obtain ⟨y, ps, hrun, hv⟩ := hown.lookup lawS Try.underlying133 (zero4 w) (plainElem_bool Try.underlying4 false) (WideMaps.keyOf_string_mk Try.underlying9 hsz)
  obtain ⟨x, rfl, hx⟩ := plainElem_bool_inv Try.underlying4 hv
  simp only [Prod.mk.injEq] at hx
  have e := hx.1.symm.trans hh
  injection e with e
  injection e with e
  rw [hrun, e]
set_option maxHeartbeats 4000000 in
set_option maxRecDepth 20000 in
theorem checkStock_any {A S : Option Addr} {n cp sn sc : Nat} {l : List Sp} {bs : List Bd} {c : Int} (hc : stCode l bs = c) (w : World) (hl : SpRow w A n l) (hn : n ≤ maxLen) (hs : BdRow w S sn bs) (hsn : sn ≤ maxLen) :
    Calls Try.prog 28 #[.slice A n cp, .slice S sn sc] w fun e w' => e = .returned (.int .i64 c) ∧ Below w.heap.size w w' := by
  have hsl := hs.1
  have hsn' : sn ≤ 9223372036854775807 := hsn
  by_cases hs0 : spsCode l = 0
  · have B := Lib.hid (byName_ok (cp := cp) hs0 w hl hn)
    have htk : l.take n = l := List.take_of_length_le (by have := hl.1; omega)
    by_cases h100 : 100 < sn
    · have HV : Hid (8 = c) := Lib.hid (by rw [← hc]; unfold stCode; rw [decide_eq_true hs0, decide_eq_true (by omega)]; rfl)
      have hd : decide (100 < (sn : Int)) = true := decide_eq_true (by omega)
      clear hc hl hs hs0
      go_enter Try.func28, Try.ntmps28
      go_wp2_with (go_at_call 74; (refine Calls.mono B.out ?_); rintro e w1 ⟨mb, rfl, ⟨M, hown, hnm⟩, hb1⟩)
      go_ret
      exact ⟨ret_int HV.out, hb1⟩
    · have HV : Hid (stFrom l bs (bs.length - 0) 0 = c) := Lib.hid (by rw [← hc]; unfold stCode; rw [decide_eq_true hs0, decide_eq_false (by omega)]; rfl)
      have hd : decide (100 < (sn : Int)) = false := decide_eq_false (by omega)
      have hmk := @run_makeMap Try.prog
      have HS := Lib.hid hs
      clear hc hl hs hs0
      go_enter Try.func28, Try.ntmps28
      go_wp2_with (go_at_call 74; (refine Calls.mono B.out ?_); rintro e W ⟨mb, rfl, ⟨M, hown, hnm⟩, hb1⟩)
      have HB1 := Lib.hid hb1
      have HNM := Lib.hid hnm
      have HOWN := Lib.hid hown
      have hmb := hown.lt
      clear hb1 hnm hown
      go_loopw [25] (fun i wr => ∃ k : Nat, k ≤ sn ∧ stFrom l bs (bs.length - k) k = c ∧ i = .int .i64 k ∧ (∃ M2, wr.ownsMap Try.prog 9 (plainElem Try.prog 4) W.heap.size k M2 ∧ SeenOf M2 ((bs.take k).map (·.nm))) ∧ Below W.heap.size W wr ∧ W.heap.size < wr.heap.size) (fun i _ => sn - (intOf i).toNat)
      case atStart => exact ⟨0, Nat.zero_le _, HV.out, rfl, ⟨_, World.ownsMap_made _ _ _ _, seenOf_nil⟩, (Below.refl _ _).alloc (Nat.le_refl _) _, by simp⟩
      case round =>
        obtain ⟨k, hk, ht, rfl, ⟨M2, hown2, hseen⟩, hbw, hWr⟩ := hrel
        have HT := Lib.hid ht
        have HB := Lib.hid hbw
        have HSE := Lib.hid hseen
        clear ht hseen
        by_cases hlt : k < sn
        · have hkl : k < bs.length := by omega
          obtain ⟨blk, off, rfl, hblk, hx⟩ := (BdRow.below HS.out (HB1.out.trans (hbw.mono HB1.out.size))).2 (by omega)
          have hxx := hx k hkl
          have HF := Lib.hid (st_from (l := l) hkl)
          have HAT := Lib.hid (fun nm => (HSE.out.at_ nm).trans (by rw [seen_names]))
          have HSU := Lib.hid ((names_succ hkl) ▸ (HSE.out.snoc bs[k].nm))
          clear hx
          obtain ⟨b, hb⟩ : ∃ b, bs[k] = b := ⟨_, rfl⟩
          rw [hb] at hxx HF HSU
          clear hb hbw
          obtain ⟨nm, sp, ln, wd, th, cu, mo, ds⟩ := b
          obtain ⟨D, dn, dc, ⟨c0, c1, c2, c3, c4, c5, c6, c7⟩, ⟨hn1, hn2, hdn, -⟩, hrc⟩ := hxx
          simp only at c0 c1 c2 c3 c4 c5 c6 c7 hn1 hn2 hrc
          have hhas := (HNM.out.has sp).trans (by rw [htk])
          obtain ⟨y, hy⟩ : ∃ y, bdOf l ⟨nm, sp, ln, wd, th, cu, mo, ds⟩ = y := ⟨_, rfl⟩
          have BO := fun wx hb => Lib.hid (boardOf_any (dc := dc) (n := n) (mb := mb) (M := M) (c := y) ((ofCode_bd l ⟨nm, sp, ln, wd, th, cu, mo, ds⟩).symm.trans hy) hn1 hn2 hdn wx (RcRow.below hrc hb) (HOWN.out.kept (below_grown (HB.out.trans (Below.mono hb HB.out.size)) none) (by simp)) hhas)
          have HF2 : Hid (c = bif decide (y = 0) then (bif seenB bs k nm then 5 else stFrom l bs (bs.length - (k + 1)) (k + 1)) else y) := Lib.hid (by rw [← HT.out, HF.out, hy])
          clear hy hrc hhas
          by_cases hy0 : y = 0
          · subst hy0
            have hat := HAT.out nm
            cases hse : seenB bs k nm
            · have HV2 : Hid (stFrom l bs (bs.length - (k + 1)) (k + 1) = c) := Lib.hid (by rw [HF2.out, hse]; rfl)
              rw [hse] at hat
              clear hse
              go_wp2_with (first | (go_at_call 77; (refine Calls.mono (BO _ ((Below.refl wr.heap.size wr).alloc (Nat.le_refl _) _)).out ?_); rintro e w1 ⟨rfl, hb1⟩; have hs1 : wr.heap.size < w1.heap.size := (by have := hb1.size; (try simp at this); omega); have hBW1 : Below wr.heap.size wr w1 := (((Below.refl wr.heap.size wr).alloc (Nat.le_refl _) _).trans (hb1.mono (by first | omega | simp))); obtain ⟨hc1, hf1⟩ := bcell hb1; have hown3 := hown2.kept (below_grown hBW1 none) (by simp); have hlook := look_seen hown3 hn1 hat) | (at_mapUpdate; refine wpList_mapUpdate_own _ rfl _ _ _ 133 rfl 9 4 lawS Try.underlying133 _ W.heap.size k M2 rfl hown3 (by unfold maxLen; omega) _ _ _ rfl rfl (WideMaps.keyOf_string_mk Try.underlying9 hn1) _ [] (plainElem_bool Try.underlying4 true) ?_; intro w2 hown4 hgrow2))
              go_roundw
              case rel =>
                have hx := HB.out.trans (hBW1.mono HB.out.size)
                exact ⟨k + 1, by omega, HV2.out, by go_num, ⟨_, hown4, HSU.out⟩, hx.grown hgrow2 hx.size (fun j hj => by cases hj; exact Nat.le_refl _), by have := hgrow2.size; omega⟩
              case measure => simp [intOf]; omega
            · have HV2 : Hid (5 = c) := Lib.hid (by rw [HF2.out, hse]; rfl)
              rw [hse] at hat
              clear hse
              go_wp2_with (go_at_call 77; (refine Calls.mono (BO _ ((Below.refl wr.heap.size wr).alloc (Nat.le_refl _) _)).out ?_); rintro e w1 ⟨rfl, hb1⟩; have hs1 : wr.heap.size < w1.heap.size := (by have := hb1.size; (try simp at this); omega); have hBW1 : Below wr.heap.size wr w1 := (((Below.refl wr.heap.size wr).alloc (Nat.le_refl _) _).trans (hb1.mono (by first | omega | simp))); obtain ⟨hc1, hf1⟩ := bcell hb1; have hown3 := hown2.kept (below_grown hBW1 none) (by simp); have hlook := look_seen hown3 hn1 hat)
              go_ret
              exact ⟨ret_int HV2.out, HB1.out.trans ((HB.out.trans (hBW1.mono HB.out.size)).mono HB1.out.size)⟩
          · have HV2 : Hid (y = c) := Lib.hid (by rw [HF2.out, decide_eq_false hy0]; rfl)
            have hyb : (y == 0) = false := beq_eq_false_iff_ne.2 hy0
            go_wp2_with (go_at_call 77; (refine Calls.mono (BO _ ((Below.refl wr.heap.size wr).alloc (Nat.le_refl _) _)).out ?_); rintro e w1 ⟨rfl, hb1⟩; have hBW1 : Below wr.heap.size wr w1 := (((Below.refl wr.heap.size wr).alloc (Nat.le_refl _) _).trans (hb1.mono (by first | omega | simp))))
            go_ret
            exact ⟨ret_int HV2.out, HB1.out.trans ((HB.out.trans (hBW1.mono HB.out.size)).mono HB1.out.size)⟩
        · have HV2 : Hid (0 = c) := Lib.hid (by rw [← HT.out, st_end (by omega)])
          have hk' : k = sn := by omega
          subst hk'
          go_wp2
          go_ret
          exact ⟨ret_int HV2.out, HB1.out.trans (HB.out.mono HB1.out.size)⟩
  · have hcs : spsCode l = c := by rw [← hc]; unfold stCode; rw [decide_eq_false hs0]; rfl
    have hz : c ≠ 0 := by rw [← hcs]; exact hs0
    have hzb : (c == 0) = false := beq_eq_false_iff_ne.2 hz
    have B := Lib.hid (byName_err (cp := cp) hcs hz w hl hn)
    clear hc hl hs hs0 hcs
    go_enter Try.func28, Try.ntmps28
    go_wp2_with (go_at_call 74; (refine Calls.mono B.out ?_); rintro e w1 ⟨rfl, hb1⟩)
    go_ret
    exact ⟨rfl, hb1⟩
end Go.Proofs.Ytnjbhidncicfiaa
