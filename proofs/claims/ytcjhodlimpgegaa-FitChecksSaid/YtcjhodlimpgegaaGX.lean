/- Walks over the fits: the reference's check of lists of fits. -/
import Derived.Test.YtcjhodlimpgegaaGW
import Derived.Test.YtcjhodlimpgegaaFW
namespace Go.Proofs.Ytcjhodlimpgegaa
open Go.RowKit Go.Maps

theorem any_namesF {l : List Ft} {k : Nat} {nm : ByteArray} (h : ∀ i (hi : i < l.length), i < k → l[i].nm ≠ nm) : (((l.take k).map Ft.nm).any fun n => decide (n = nm)) = false := by
  rw [List.any_eq_false]
  intro n hn
  obtain ⟨x, hx, rfl⟩ := List.mem_map.1 hn
  obtain ⟨i, hi, rfl⟩ := List.mem_iff_getElem.1 hx
  rw [List.length_take] at hi
  rw [List.getElem_take]
  simpa using h i (by omega) (by omega)
theorem any_namesF' {l : List Ft} {k i : Nat} {nm : ByteArray} (hi : i < l.length) (hik : i < k) (h : l[i].nm = nm) : (((l.take k).map Ft.nm).any fun n => decide (n = nm)) = true := by
  rw [List.any_eq_true]
  exact ⟨nm, List.mem_map.2 ⟨l[i], List.mem_iff_getElem.2 ⟨i, by rw [List.length_take]; omega, by rw [List.getElem_take]⟩, h⟩, by simp⟩
set_option maxHeartbeats 4000000 in
set_option maxRecDepth 20000 in
theorem rfits_any {l : List Ft} {S : Option Addr} {cd : Int} {m d : Nat} (hc : ftsCode l = cd) (hmm : m ≤ maxLen) (hsl : ∀ x ∈ l, x.f.o.length ≤ 1000000 ∧ x.f.i.length ≤ 1000000) (w : World) (hS : FtRow w.heap.size w S m l) :
    Calls Try.prog 12 #[.slice S m d] w fun e w' => e = .returned (.int .i64 cd) ∧ Below w.heap.size w w' := by
  have hln := hS.1
  have hm' : m ≤ 9223372036854775807 := Nat.le_trans hmm (by decide)
  have HSR := Lib.hid hS
  have HSL := Lib.hid hsl
  clear hS hsl
  by_cases h60 : 60 < m
  · have HC : Hid (cd = 8) := Lib.hid (by rw [← hc]; unfold ftsCode; rw [decide_eq_true (by omega)]; rfl)
    clear hc
    have hd : decide (60 < (m : Int)) = true := decide_eq_true (by omega)
    go_enter Try.func12, Try.ntmps12
    go_wp2
    go_ret
    exact ⟨ret_int HC.out.symm, Below.refl _ _⟩
  · have HC : Hid (ftFrom [] (l.drop 0) = cd) := Lib.hid (by rw [← hc]; unfold ftsCode; rw [decide_eq_false (by omega)]; rfl)
    clear hc
    have hd : decide (60 < (m : Int)) = false := decide_eq_false (by omega)
    go_enter Try.func12, Try.ntmps12
    go_wp2
    go_loopw [3] (fun i wr => ∃ k : Nat, k ≤ m ∧ Hid (ftFrom ((l.take k).map Ft.nm) (l.drop k) = cd) ∧ i = .int .i64 k ∧ Hid (Below w.heap.size w wr)) (fun i _ => m - (intOf i).toNat)
    case atStart => exact ⟨0, Nat.zero_le _, HC, rfl, Lib.hid (Below.refl _ _)⟩
    case round =>
      obtain ⟨k, hk, HT, rfl, HB⟩ := hrel
      by_cases hlt : k < m
      · have hkl : k < l.length := by omega
        obtain ⟨blk, off, rfl, hblk, hx⟩ := HSR.out.2 (by omega)
        have hxx := (hx k hkl).below HB.out hblk
        have HX := Lib.hid hx
        have HS := Lib.hid (ftFrom_cons (seen := (l.take k).map Ft.nm) hkl)
        have HNS := Lib.hid (namesF_succ hkl)
        have HAN := Lib.hid (fun (h : ∀ i (hi : i < l.length), i < k → l[i].nm ≠ l[k].nm) => any_namesF h)
        have HAY := Lib.hid (fun i (hi : i < l.length) (hik : i < k) (h : l[i].nm = l[k].nm) => any_namesF' hi hik h)
        clear hx
        have hsl := HSL.out l[k] (List.getElem_mem hkl)
        obtain ⟨x, hxe⟩ : ∃ x, l[k] = x := ⟨_, rfl⟩
        rw [hxe] at hxx HS HNS HAN HAY hsl
        clear hxe
        obtain ⟨nm, ⟨le, mo, o, i⟩⟩ := x
        obtain ⟨A, p, c, A', p', c', q0, q1, q2, q3, q4, qo, qi, hsz, -⟩ := hxx
        simp only at q0 q1 q2 q3 q4 qo qi hsz HS HNS HAN HAY hsl
        have hbr : blk < wr.heap.size := Nat.lt_of_lt_of_le hblk HB.out.size
        have hpp : p ≤ 1000000 := by rw [← qo.1]; exact hsl.1
        have hpp' : p' ≤ 1000000 := by rw [← qi.1]; exact hsl.2
        have ro : MdRow wr A p o := mdRow_up qo HB.out.size
        have ri : MdRow wr A' p' i := mdRow_up qi HB.out.size
        clear qo qi hsl
        by_cases hs0 : fitCode nm ⟨le, mo, o, i⟩ = 0
        · have CO := Lib.hid (rfit_any (F := ⟨le, mo, o, i⟩) (c := c) (c' := c') hs0 hsz hpp hpp' wr ro ri)
          unfold ftV at CO
          simp only at CO
          have HV : Hid (cd = bif (((l.take k).map Ft.nm).any fun n => decide (n = nm)) then 5 else ftFrom (((l.take k).map Ft.nm) ++ [nm]) (l.drop (k + 1))) := Lib.hid (by rw [← HT.out, HS.out, decide_eq_true hs0]; rfl)
          clear hs0 HS
          obtain ⟨wq, hwq⟩ : ∃ wq, wq = wr := ⟨_, rfl⟩
          rw [← hwq] at q0 q1 q2 q3 q4 HB hbr CO ⊢
          clear ro ri
          clear hwq
          go_wp2_with (go_at_call 16; refine Calls.mono CO.out ?_; rintro e w1 ⟨rfl, hb1⟩)
          have HB1 := Lib.hid (HB.out.trans (hb1.mono HB.out.size))
          have y0 := (hb1.cell (p := ⟨blk, off + k * 5, none⟩) hbr).trans q0
          go_loopw [5] (fun j wr => ∃ ii : Nat, ii ≤ k ∧ Hid (∀ a (ha : a < l.length), a < ii → l[a].nm ≠ nm) ∧ j = .int .i64 ii ∧ ∃ n, wr = w1.drewN n) (fun j _ => k - (intOf j).toNat)
          case atStart => exact ⟨0, Nat.zero_le _, Lib.hid (fun a _ h => absurd h (by omega)), rfl, 0, rfl⟩
          case round =>
            obtain ⟨ii, hi', HI, rfl, n, rfl⟩ := hrel
            by_cases hil : ii < k
            · have hill : ii < l.length := by omega
              obtain ⟨_, _, _, _, _, _, z0, -⟩ := (HX.out ii hill).below HB1.out hblk
              have hA1 := HAY.out ii hill hil
              have HA1 := Lib.hid hA1
              obtain ⟨u, hu⟩ : ∃ u, l[ii].nm = u := ⟨_, rfl⟩
              rw [hu] at z0 HA1
              have HU := Lib.hid hu
              clear hu hA1
              have hik : (ii : Int) < (m : Int) := by omega
              have hkk : (k : Int) < (m : Int) := by omega
              cases he : (u.toList == nm.toList)
              · have hne : Hid (u ≠ nm) := Lib.hid (by rw [string_eq] at he; exact of_decide_eq_false he)
                go_wp2
                go_quiet (fail)
                go_wp2
                go_roundw
                case rel =>
                  refine ⟨ii + 1, by omega, Lib.hid (fun a ha hai => ?_), by go_num, _, rfl⟩
                  by_cases e : a = ii
                  · subst e; rw [HU.out]; exact hne.out
                  · exact HI.out a ha (by omega)
                case measure => simp [intOf]; omega
              · have hee : u = nm := by rw [string_eq] at he; exact of_decide_eq_true he
                have HV5 : Hid (cd = 5) := Lib.hid (by rw [HV.out, HA1.out hee]; rfl)
                clear hee
                go_wp2
                go_quiet (fail)
                go_wp2
                go_ret
                exact ⟨ret_int HV5.out.symm, below_drewN (below_drewN HB1.out _) _⟩
            · have hki : ii = k := by omega
              have HVN : Hid (ftFrom ((l.take (k + 1)).map Ft.nm) (l.drop (k + 1)) = cd) := Lib.hid (by rw [HV.out, HAN.out (fun a ha hak => HI.out a ha (by omega)), HNS.out]; rfl)
              subst hki
              go_wp2
              go_roundw
              case rel => exact ⟨ii + 1, by omega, HVN, by go_num, Lib.hid (below_drewN HB1.out _)⟩
              case measure => simp [intOf]; omega
        · have HV : Hid (cd = fitCode nm ⟨le, mo, o, i⟩) := Lib.hid (by rw [← HT.out, HS.out, decide_eq_false hs0]; rfl)
          obtain ⟨y, hy⟩ : ∃ y, fitCode nm ⟨le, mo, o, i⟩ = y := ⟨_, rfl⟩
          have CO := Lib.hid (rfit_any (F := ⟨le, mo, o, i⟩) (c := c) (c' := c') hy hsz hpp hpp' wr ro ri)
          unfold ftV at CO
          simp only at CO
          rw [hy] at HV hs0
          have hyb : (y == 0) = false := beq_eq_false_iff_ne.2 hs0
          have hyb' : (y != 0) = true := bne_iff_ne.2 hs0
          clear hy HS
          go_wp2_with (go_at_call 16; refine Calls.mono CO.out ?_; rintro e w1 ⟨rfl, hb1⟩)
          go_ret
          exact ⟨ret_int HV.out.symm, HB.out.trans (hb1.mono HB.out.size)⟩
      · have HV : Hid (cd = 0) := Lib.hid (by rw [← HT.out, ftFrom_end (by omega)])
        have hk' : k = m := by omega
        subst hk'
        go_wp2
        go_ret
        exact ⟨ret_int HV.out.symm, HB.out⟩
end Go.Proofs.Ytcjhodlimpgegaa
