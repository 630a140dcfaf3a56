/- Walks over the fits: the reference's groups. -/
import Derived.Test.YtcjhodlimpgegaaGreatGB
import Derived.Test.YtcjhodlimpgegaaGreatFF
import Derived.Test.YtcjhodlimpgegaaGreatFG
namespace Go.Proofs.YtcjhodlimpgegaaGreat
open Go.RowKit Go.Maps

theorem hasG_take_succ {l : List Md} {k : Nat} (h : k < l.length) (g : Int) : hasG (l.take (k + 1)) g = (hasG (l.take k) g || decide (l[k].g = g)) := by
  rw [List.take_succ_eq_append_getElem h, hasG_snoc]
def gsTo (l : List Md) (k : Nat) : List Int := ((List.range k).map Int.ofNat).filter (hasG l)
theorem gsTo_succ (l : List Md) (k : Nat) : gsTo l (k + 1) = gsTo l k ++ (if hasG l (k : Int) then [(k : Int)] else []) := by
  unfold gsTo
  rw [List.range_succ, List.map_append, List.filter_append]
  congr 1
  show List.filter (hasG l) [(k : Int)] = _
  cases h : hasG l (k : Int)
  · rw [List.filter_cons_of_neg (by rw [h]; simp)]; rfl
  · rw [List.filter_cons_of_pos h]; rfl
theorem gsTo_len (l : List Md) (k : Nat) : (gsTo l k).length ≤ k := by
  unfold gsTo
  refine Nat.le_trans (List.length_filter_le _ _) ?_
  simp
set_option maxHeartbeats 4000000 in
set_option maxRecDepth 20000 in
theorem rgroups_any {nm : ByteArray} {A A' : Option Addr} {n c n' c' : Nat} {le mo : Int} {o i0 : List Md} (hn : n ≤ 1000000) (hn' : n' ≤ 1000000) (w : World) (hA : MdRow w A n o) (hA' : MdRow w A' n' i0) :
    Calls Tryz.prog 19 #[ftV nm A n c A' n' c' le mo] w
      fun e w' => ∃ G gc, e = .returned (.slice G (gsOf (o ++ i0)).length gc) ∧ IntsAt w' G (gsOf (o ++ i0)) ∧ Below w.heap.size w w' := by
  have hol := hA.1
  have hil := hA'.1
  have hB0 : Below w.heap.size w (w.alloc (.cells #[.string nm, .slice A n c, .slice A' n' c', .int .i64 le, .int .i64 mo] 24)) := (Below.refl _ _).alloc (Nat.le_refl _) _
  have HR := Lib.hid (hA.below hB0)
  have HR' := Lib.hid (hA'.below hB0)
  have e1 : (w.alloc (.cells #[.string nm, .slice A n c, .slice A' n' c', .int .i64 le, .int .i64 mo] 24)).cell? ⟨w.heap.size, 1, none⟩ = some (.slice A n c) := by rw [World.cell?_alloc_new]; rfl
  have e2 : (w.alloc (.cells #[.string nm, .slice A n c, .slice A' n' c', .int .i64 le, .int .i64 mo] 24)).cell? ⟨w.heap.size, 2, none⟩ = some (.slice A' n' c') := by rw [World.cell?_alloc_new]; rfl
  have hs0 : w.heap.size < (w.alloc (.cells #[.string nm, .slice A n c, .slice A' n' c', .int .i64 le, .int .i64 mo] 24)).heap.size := by simp
  obtain ⟨i1, hi1, hz0, hz1, hz2⟩ := info_parts infoI
  clear hA hA'
  unfold ftV
  go_enter Tryz.func19, Tryz.ntmps19
  go_wp2
  generalize (w.alloc (.cells #[.string nm, .slice A n c, .slice A' n' c', .int .i64 le, .int .i64 mo] 24)) = W0 at hB0 HR HR' e1 e2 hs0 ⊢
  have HB0 := Lib.hid hB0
  have HE1 := Lib.hid e1
  have HE2 := Lib.hid e2
  clear hB0 e1 e2
  go_loopw [3, 4] (fun v i wr => ∃ g : Nat, g ≤ 20 ∧ i = .int .i64 g ∧ wr.ownsRow W0.heap.size 3 1 v (gsTo (o ++ i0) g).length ((gsTo (o ++ i0) g).map (Value.int .i64)) ∧ Below W0.heap.size W0 wr) (fun _ i _ => 20 - (intOf i).toNat)
  case atStart => exact ⟨0, Nat.zero_le _, rfl, ⟨rfl, .inl ⟨rfl, rfl⟩⟩, Below.refl _ _⟩
  case round =>
    obtain ⟨g, hg, rfl, hov, hbw⟩ := hrel
    have HB := Lib.hid hbw
    have HOV := Lib.hid hov
    have hsw := hbw.size
    have c1 := (hbw.cell (p := ⟨w.heap.size, 1, none⟩) hs0).trans HE1.out
    have c2 := (hbw.cell (p := ⟨w.heap.size, 2, none⟩) hs0).trans HE2.out
    have HGL := Lib.hid (gsTo_len (o ++ i0) g)
    clear hbw hov
    by_cases hlt : g < 20
    · obtain ⟨wq, hwq⟩ : ∃ wq, wq = wr := ⟨_, rfl⟩
      rw [← hwq] at HB HOV hsw c1 c2 ⊢
      clear hwq
      go_wp2
      go_loopw [5, 6] (fun b i wr => ∃ k : Nat, k ≤ n ∧ i = .int .i64 k ∧ b = .bool (hasG (o.take k) g) ∧ wq = wr) (fun _ i _ => n - (intOf i).toNat)
      case atStart => exact ⟨0, Nat.zero_le _, rfl, rfl, rfl⟩
      case round =>
        obtain ⟨k, hk, rfl, rfl, rfl⟩ := hrel
        by_cases hkn : k < n
        · have hkl : k < o.length := by omega
          have HS := Lib.hid (hasG_take_succ hkl (g : Int))
          obtain ⟨blk, off, rfl, hblk, hx⟩ := HR.out.2 (by omega)
          obtain ⟨-, -, -, x3, -, -⟩ := (hx k hkl).below HB.out hblk
          clear hx
          obtain ⟨xg, hxg⟩ : ∃ xg, o[k].g = xg := ⟨_, rfl⟩
          rw [hxg] at x3 HS
          clear hxg
          obtain ⟨b, hb⟩ : ∃ b, hasG (o.take k) (g : Int) = b := ⟨_, rfl⟩
          rw [hb] at HS ⊢
          clear hb
          cases b with
          | true =>
            go_wp2
            go_roundw
            case rel => exact ⟨k + 1, by omega, by go_num, by rw [HS.out]; rfl, by first | rfl | trivial⟩
            case measure => simp [intOf]; omega
          | false =>
            by_cases e : xg = (g : Int)
            · have HS2 : Hid (hasG (o.take (k + 1)) (g : Int) = true) := Lib.hid (by rw [HS.out, decide_eq_true e]; rfl)
              subst e
              go_wp2
              go_roundw
              case rel => exact ⟨k + 1, by omega, by go_num, by rw [HS2.out], by first | rfl | trivial⟩
              case measure => simp [intOf]; omega
            · have HS2 : Hid (hasG (o.take (k + 1)) (g : Int) = false) := Lib.hid (by rw [HS.out, decide_eq_false e]; rfl)
              have eb : (xg == (g : Int)) = false := beq_eq_false_iff_ne.2 e
              go_wp2
              go_roundw
              case rel => exact ⟨k + 1, by omega, by go_num, by rw [HS2.out], by first | rfl | trivial⟩
              case measure => simp [intOf]; omega
        · have hfull : o.take k = o := List.take_of_length_le (by omega)
          rw [hfull]
          have hk' : k = n := by omega
          subst hk'
          go_wp2
          go_loopw [5, 7] (fun b i wr => ∃ k2 : Nat, k2 ≤ n' ∧ i = .int .i64 k2 ∧ b = .bool (hasG o g || hasG (i0.take k2) g) ∧ wq = wr) (fun _ i _ => n' - (intOf i).toNat)
          case atStart => exact ⟨0, Nat.zero_le _, rfl, by simp [hasG], rfl⟩
          case round =>
            obtain ⟨k2, hk2, rfl, rfl, rfl⟩ := hrel
            by_cases hkn : k2 < n'
            · have hkl : k2 < i0.length := by omega
              have HS := Lib.hid (hasG_take_succ hkl (g : Int))
              obtain ⟨blk, off, rfl, hblk, hx⟩ := HR'.out.2 (by omega)
              obtain ⟨-, -, -, x3, -, -⟩ := (hx k2 hkl).below HB.out hblk
              clear hx
              obtain ⟨xg, hxg⟩ : ∃ xg, i0[k2].g = xg := ⟨_, rfl⟩
              rw [hxg] at x3 HS
              clear hxg
              have HS1 : Hid ((hasG o (g : Int) || hasG (i0.take (k2 + 1)) (g : Int)) = ((hasG o (g : Int) || hasG (i0.take k2) (g : Int)) || decide (xg = (g : Int)))) := Lib.hid (by rw [HS.out, Bool.or_assoc])
              obtain ⟨b, hb⟩ : ∃ b, (hasG o (g : Int) || hasG (i0.take k2) (g : Int)) = b := ⟨_, rfl⟩
              rw [hb] at HS1 ⊢
              clear hb HS
              cases b with
              | true =>
                go_wp2
                go_roundw
                case rel => exact ⟨k2 + 1, by omega, by go_num, by rw [HS1.out]; rfl, by first | rfl | trivial⟩
                case measure => simp [intOf]; omega
              | false =>
                by_cases e : xg = (g : Int)
                · have HS2 : Hid ((hasG o (g : Int) || hasG (i0.take (k2 + 1)) (g : Int)) = true) := Lib.hid (by rw [HS1.out, decide_eq_true e]; rfl)
                  subst e
                  go_wp2
                  go_roundw
                  case rel => exact ⟨k2 + 1, by omega, by go_num, by rw [HS2.out], by first | rfl | trivial⟩
                  case measure => simp [intOf]; omega
                · have HS2 : Hid ((hasG o (g : Int) || hasG (i0.take (k2 + 1)) (g : Int)) = false) := Lib.hid (by rw [HS1.out, decide_eq_false e]; rfl)
                  have eb : (xg == (g : Int)) = false := beq_eq_false_iff_ne.2 e
                  go_wp2
                  go_roundw
                  case rel => exact ⟨k2 + 1, by omega, by go_num, by rw [HS2.out], by first | rfl | trivial⟩
                  case measure => simp [intOf]; omega
            · have hfull2 : i0.take k2 = i0 := List.take_of_length_le (by omega)
              rw [hfull2]
              have hk2' : k2 = n' := by omega
              subst hk2'
              have HG := Lib.hid (gsTo_succ (o ++ i0) g)
              have hcat : hasG (o ++ i0) (g : Int) = (hasG o (g : Int) || hasG i0 (g : Int)) := by unfold hasG; rw [List.any_append]
              rw [hcat] at HG
              clear hcat
              obtain ⟨b, hb⟩ : ∃ b, (hasG o (g : Int) || hasG i0 (g : Int)) = b := ⟨_, rfl⟩
              rw [hb] at HG ⊢
              clear hb
              cases b with
              | true =>
                have hgl := HGL.out
                have HG2 : Hid (gsTo (o ++ i0) (g + 1) = gsTo (o ++ i0) g ++ [(g : Int)]) := Lib.hid HG.out
                go_wp2_with (at_builtin; refine wpList_append_own_at _ rfl _ _ 25 rfl W0.heap.size 3 i1 (.int .i64 0) 1 8 Tryz.underlying25 hi1 hz0 hz1 hz2 rfl (by decide) _ _ _ rfl (HOV.out.alloc _) ⟨wq.heap.size, 0, none⟩ 1 1 [.int .i64 (g : Int)] rfl rfl (cell_one_new _ _ _) (ints_oneCell .i64 [(g : Int)]) (by unfold maxLen; omega) (by omega) (by simp; omega) ?_; intro v4 w4 hown4 hgrow4 hnil4 hloc4)
                go_roundw
                case rel =>
                  refine ⟨g + 1, by omega, by go_num, ?_, ?_⟩
                  · rw [HG2.out, List.map_append, List.length_append]; exact hown4
                  · exact (HB.out.alloc (by omega) _).grown hgrow4 (by simp; omega) (fun j hj => own_ge HOV.out j hj)
                case measure => simp [intOf]; omega
              | false =>
                have HG2 : Hid (gsTo (o ++ i0) (g + 1) = gsTo (o ++ i0) g) := Lib.hid (by rw [HG.out]; simp)
                go_wp2
                go_roundw
                case rel => exact ⟨g + 1, by omega, by go_num, by rw [HG2.out]; exact HOV.out, HB.out⟩
                case measure => simp [intOf]; omega
    · have hg' : g = 20 := by omega
      subst hg'
      obtain ⟨A1, c1', rfl, hia, -⟩ := own_ints HOV.out rfl
      go_wp2
      go_ret
      exact ⟨_, _, rfl, hia, HB0.out.trans (HB.out.mono (Nat.le_of_lt hs0))⟩
end Go.Proofs.YtcjhodlimpgegaaGreat
