/- Walks over the fits: groups, the reference's; lists of numbers compared; the law's bound on fits. -/
import Derived.Test.YtcjhodlimpgegaaGX
import Derived.Test.YtcjhodlimpgegaaFF
import Derived.Test.YtcjhodlimpgegaaFG
namespace Go.Proofs.Ytcjhodlimpgegaa
open Go.RowKit Go.Maps

theorem hasG_take_succ {l : List Md} {k : Nat} (h : k < l.length) (g : Int) : hasG (l.take (k + 1)) g = (hasG (l.take k) g || decide (l[k].g = g)) := by
  rw [List.take_succ_eq_append_getElem h, hasG_snoc]
def gsTo (l : List Md) (k : Nat) : List Int := ((List.range k).map Int.ofNat).filter (hasG l)
theorem gsTo_succ (l : List Md) (k : Nat) : gsTo l (k + 1) = gsTo l k ++ (if hasG l (k : Int) then [(k : Int)] else []) := by
  unfold gsTo
  rw [List.range_succ, List.map_append, List.filter_append]
  congr 1
  show List.filter (hasG l) [(k : Int)] = _
  cases h : hasG l (k : Int)
  · rw [List.filter_cons_of_neg (by rw [h]; simp)]; rfl
  · rw [List.filter_cons_of_pos h]; rfl
theorem gsTo_len (l : List Md) (k : Nat) : (gsTo l k).length ≤ k := by
  unfold gsTo
  refine Nat.le_trans (List.length_filter_le _ _) ?_
  simp
set_option maxHeartbeats 4000000 in
set_option maxRecDepth 20000 in
theorem rgroups_any {nm : ByteArray} {A A' : Option Addr} {n c n' c' : Nat} {le mo : Int} {o i0 : List Md} (hn : n ≤ 1000000) (hn' : n' ≤ 1000000) (w : World) (hA : MdRow w A n o) (hA' : MdRow w A' n' i0) :
    Calls Try.prog 19 #[ftV nm A n c A' n' c' le mo] w
      fun e w' => ∃ G gc, e = .returned (.slice G (gsOf (o ++ i0)).length gc) ∧ IntsAt w' G (gsOf (o ++ i0)) ∧ Below w.heap.size w w' := by
  have hol := hA.1
  have hil := hA'.1
  have hB0 : Below w.heap.size w (w.alloc (.cells #[.string nm, .slice A n c, .slice A' n' c', .int .i64 le, .int .i64 mo] 37)) := (Below.refl _ _).alloc (Nat.le_refl _) _
  have HR := Lib.hid (hA.below hB0)
  have HR' := Lib.hid (hA'.below hB0)
  have e1 : (w.alloc (.cells #[.string nm, .slice A n c, .slice A' n' c', .int .i64 le, .int .i64 mo] 37)).cell? ⟨w.heap.size, 1, none⟩ = some (.slice A n c) := by rw [World.cell?_alloc_new]; rfl
  have e2 : (w.alloc (.cells #[.string nm, .slice A n c, .slice A' n' c', .int .i64 le, .int .i64 mo] 37)).cell? ⟨w.heap.size, 2, none⟩ = some (.slice A' n' c') := by rw [World.cell?_alloc_new]; rfl
  have hs0 : w.heap.size < (w.alloc (.cells #[.string nm, .slice A n c, .slice A' n' c', .int .i64 le, .int .i64 mo] 37)).heap.size := by simp
  obtain ⟨i1, hi1, hz0, hz1, hz2⟩ := info_parts infoI
  clear hA hA'
  unfold ftV
  go_enter Try.func19, Try.ntmps19
  go_wp2
  generalize (w.alloc (.cells #[.string nm, .slice A n c, .slice A' n' c', .int .i64 le, .int .i64 mo] 37)) = W0 at hB0 HR HR' e1 e2 hs0 ⊢
  have HB0 := Lib.hid hB0
  have HE1 := Lib.hid e1
  have HE2 := Lib.hid e2
  clear hB0 e1 e2
  go_loopw [3, 4] (fun v i wr => ∃ g : Nat, g ≤ 20 ∧ i = .int .i64 g ∧ wr.ownsRow W0.heap.size 3 1 v (gsTo (o ++ i0) g).length ((gsTo (o ++ i0) g).map (Value.int .i64)) ∧ Below W0.heap.size W0 wr) (fun _ i _ => 20 - (intOf i).toNat)
  case atStart => exact ⟨0, Nat.zero_le _, rfl, ⟨rfl, .inl ⟨rfl, rfl⟩⟩, Below.refl _ _⟩
  case round =>
    obtain ⟨g, hg, rfl, hov, hbw⟩ := hrel
    have HB := Lib.hid hbw
    have HOV := Lib.hid hov
    have hsw := hbw.size
    have c1 := (hbw.cell (p := ⟨w.heap.size, 1, none⟩) hs0).trans HE1.out
    have c2 := (hbw.cell (p := ⟨w.heap.size, 2, none⟩) hs0).trans HE2.out
    have HGL := Lib.hid (gsTo_len (o ++ i0) g)
    clear hbw hov
    by_cases hlt : g < 20
    · obtain ⟨wq, hwq⟩ : ∃ wq, wq = wr := ⟨_, rfl⟩
      rw [← hwq] at HB HOV hsw c1 c2 ⊢
      clear hwq
      go_wp2
      go_loopw [5, 6] (fun b i wr => ∃ k : Nat, k ≤ n ∧ i = .int .i64 k ∧ b = .bool (hasG (o.take k) g) ∧ wq = wr) (fun _ i _ => n - (intOf i).toNat)
      case atStart => exact ⟨0, Nat.zero_le _, rfl, rfl, rfl⟩
      case round =>
        obtain ⟨k, hk, rfl, rfl, rfl⟩ := hrel
        by_cases hkn : k < n
        · have hkl : k < o.length := by omega
          have HS := Lib.hid (hasG_take_succ hkl (g : Int))
          obtain ⟨blk, off, rfl, hblk, hx⟩ := HR.out.2 (by omega)
          obtain ⟨-, -, -, x3, -, -⟩ := (hx k hkl).below HB.out hblk
          clear hx
          obtain ⟨xg, hxg⟩ : ∃ xg, o[k].g = xg := ⟨_, rfl⟩
          rw [hxg] at x3 HS
          clear hxg
          obtain ⟨b, hb⟩ : ∃ b, hasG (o.take k) (g : Int) = b := ⟨_, rfl⟩
          rw [hb] at HS ⊢
          clear hb
          cases b with
          | true =>
            go_wp2
            go_roundw
            case rel => exact ⟨k + 1, by omega, by go_num, by rw [HS.out]; rfl, by first | rfl | trivial⟩
            case measure => simp [intOf]; omega
          | false =>
            by_cases e : xg = (g : Int)
            · have HS2 : Hid (hasG (o.take (k + 1)) (g : Int) = true) := Lib.hid (by rw [HS.out, decide_eq_true e]; rfl)
              subst e
              go_wp2
              go_roundw
              case rel => exact ⟨k + 1, by omega, by go_num, by rw [HS2.out], by first | rfl | trivial⟩
              case measure => simp [intOf]; omega
            · have HS2 : Hid (hasG (o.take (k + 1)) (g : Int) = false) := Lib.hid (by rw [HS.out, decide_eq_false e]; rfl)
              have eb : (xg == (g : Int)) = false := beq_eq_false_iff_ne.2 e
              go_wp2
              go_roundw
              case rel => exact ⟨k + 1, by omega, by go_num, by rw [HS2.out], by first | rfl | trivial⟩
              case measure => simp [intOf]; omega
        · have hfull : o.take k = o := List.take_of_length_le (by omega)
          rw [hfull]
          have hk' : k = n := by omega
          subst hk'
          go_wp2
          go_loopw [5, 7] (fun b i wr => ∃ k2 : Nat, k2 ≤ n' ∧ i = .int .i64 k2 ∧ b = .bool (hasG o g || hasG (i0.take k2) g) ∧ wq = wr) (fun _ i _ => n' - (intOf i).toNat)
          case atStart => exact ⟨0, Nat.zero_le _, rfl, by simp [hasG], rfl⟩
          case round =>
            obtain ⟨k2, hk2, rfl, rfl, rfl⟩ := hrel
            by_cases hkn : k2 < n'
            · have hkl : k2 < i0.length := by omega
              have HS := Lib.hid (hasG_take_succ hkl (g : Int))
              obtain ⟨blk, off, rfl, hblk, hx⟩ := HR'.out.2 (by omega)
              obtain ⟨-, -, -, x3, -, -⟩ := (hx k2 hkl).below HB.out hblk
              clear hx
              obtain ⟨xg, hxg⟩ : ∃ xg, i0[k2].g = xg := ⟨_, rfl⟩
              rw [hxg] at x3 HS
              clear hxg
              have HS1 : Hid ((hasG o (g : Int) || hasG (i0.take (k2 + 1)) (g : Int)) = ((hasG o (g : Int) || hasG (i0.take k2) (g : Int)) || decide (xg = (g : Int)))) := Lib.hid (by rw [HS.out, Bool.or_assoc])
              obtain ⟨b, hb⟩ : ∃ b, (hasG o (g : Int) || hasG (i0.take k2) (g : Int)) = b := ⟨_, rfl⟩
              rw [hb] at HS1 ⊢
              clear hb HS
              cases b with
              | true =>
                go_wp2
                go_roundw
                case rel => exact ⟨k2 + 1, by omega, by go_num, by rw [HS1.out]; rfl, by first | rfl | trivial⟩
                case measure => simp [intOf]; omega
              | false =>
                by_cases e : xg = (g : Int)
                · have HS2 : Hid ((hasG o (g : Int) || hasG (i0.take (k2 + 1)) (g : Int)) = true) := Lib.hid (by rw [HS1.out, decide_eq_true e]; rfl)
                  subst e
                  go_wp2
                  go_roundw
                  case rel => exact ⟨k2 + 1, by omega, by go_num, by rw [HS2.out], by first | rfl | trivial⟩
                  case measure => simp [intOf]; omega
                · have HS2 : Hid ((hasG o (g : Int) || hasG (i0.take (k2 + 1)) (g : Int)) = false) := Lib.hid (by rw [HS1.out, decide_eq_false e]; rfl)
                  have eb : (xg == (g : Int)) = false := beq_eq_false_iff_ne.2 e
                  go_wp2
                  go_roundw
                  case rel => exact ⟨k2 + 1, by omega, by go_num, by rw [HS2.out], by first | rfl | trivial⟩
                  case measure => simp [intOf]; omega
            · have hfull2 : i0.take k2 = i0 := List.take_of_length_le (by omega)
              rw [hfull2]
              have hk2' : k2 = n' := by omega
              subst hk2'
              have HG := Lib.hid (gsTo_succ (o ++ i0) g)
              have hcat : hasG (o ++ i0) (g : Int) = (hasG o (g : Int) || hasG i0 (g : Int)) := by unfold hasG; rw [List.any_append]
              rw [hcat] at HG
              clear hcat
              obtain ⟨b, hb⟩ : ∃ b, (hasG o (g : Int) || hasG i0 (g : Int)) = b := ⟨_, rfl⟩
              rw [hb] at HG ⊢
              clear hb
              cases b with
              | true =>
                have hgl := HGL.out
                have HG2 : Hid (gsTo (o ++ i0) (g + 1) = gsTo (o ++ i0) g ++ [(g : Int)]) := Lib.hid HG.out
                go_wp2_with (at_builtin; refine wpList_append_own_at _ rfl _ _ 32 rfl W0.heap.size 3 i1 (.int .i64 0) 1 8 Try.underlying32 hi1 hz0 hz1 hz2 rfl (by decide) _ _ _ rfl (HOV.out.alloc _) ⟨wq.heap.size, 0, none⟩ 1 1 [.int .i64 (g : Int)] rfl rfl (cell_one_new _ _ _) (ints_oneCell .i64 [(g : Int)]) (by unfold maxLen; omega) (by omega) (by simp; omega) ?_; intro v4 w4 hown4 hgrow4 hnil4 hloc4)
                go_roundw
                case rel =>
                  refine ⟨g + 1, by omega, by go_num, ?_, ?_⟩
                  · rw [HG2.out, List.map_append, List.length_append]; exact hown4
                  · exact (HB.out.alloc (by omega) _).grown hgrow4 (by simp; omega) (fun j hj => own_ge HOV.out j hj)
                case measure => simp [intOf]; omega
              | false =>
                have HG2 : Hid (gsTo (o ++ i0) (g + 1) = gsTo (o ++ i0) g) := Lib.hid (by rw [HG.out]; simp)
                go_wp2
                go_roundw
                case rel => exact ⟨g + 1, by omega, by go_num, by rw [HG2.out]; exact HOV.out, HB.out⟩
                case measure => simp [intOf]; omega
    · have hg' : g = 20 := by omega
      subst hg'
      obtain ⟨A1, c1', rfl, hia, -⟩ := own_ints HOV.out rfl
      go_wp2
      go_ret
      exact ⟨_, _, rfl, hia, HB0.out.trans (HB.out.mono (Nat.le_of_lt hs0))⟩
set_option maxHeartbeats 2000000 in
set_option maxRecDepth 20000 in
/-- Two lists of numbers compared. -/
theorem ints_any {A B : Option Addr} {n m c d : Nat} {la lb : List Int} (hn : la.length = n) (hm : lb.length = m) (hnn : n ≤ 1000000) (hmm : m ≤ 1000000) (w : World) (hA : IntsAt w A la) (hB : IntsAt w B lb) :
    Calls Try.prog 18 #[.slice A n c, .slice B m d] w fun e w' => e = .returned (.bool (decide (la = lb))) ∧ Below w.heap.size w w' := by
  have HA := Lib.hid hA
  have HB := Lib.hid hB
  obtain ⟨v, hv⟩ : ∃ v, decide (la = lb) = v := ⟨_, rfl⟩
  rw [hv]
  have HV := Lib.hid hv
  clear hA hB hv
  by_cases hlen : n = m
  · subst hlen
    go_enter Try.func18, Try.ntmps18
    go_wp2
    go_loopw [5] (fun i wr => ∃ k : Nat, k ≤ n ∧ i = .int .i64 k ∧ Hid (la.take k = lb.take k) ∧ ∃ q, wr = w.drewN q) (fun i _ => n - (intOf i).toNat)
    case atStart => exact ⟨0, Nat.zero_le _, rfl, Lib.hid rfl, 0, rfl⟩
    case round =>
      obtain ⟨k, hk, rfl, HT, q, rfl⟩ := hrel
      by_cases hlt : k < n
      · have h1 : k < la.length := by omega
        have h2 : k < lb.length := by omega
        obtain ⟨b1, o1, rfl, hb1, hc1⟩ := HA.out (by intro h; rw [h] at h1; simp at h1)
        obtain ⟨b2, o2, rfl, hb2, hc2⟩ := HB.out (by intro h; rw [h] at h2; simp at h2)
        have x1 := hc1 k h1
        have x2 := hc2 k h2
        clear hc1 hc2
        have HN : Hid (la[k] = lb[k] → la.take (k + 1) = lb.take (k + 1)) := Lib.hid (fun e => by rw [List.take_succ_eq_append_getElem h1, List.take_succ_eq_append_getElem h2, HT.out, e])
        have HF : Hid (la[k] ≠ lb[k] → v = false) := Lib.hid (fun e => by
          rw [← HV.out]
          refine decide_eq_false (fun h => e ?_)
          subst h; rfl)
        obtain ⟨a, ha⟩ : ∃ a, la[k] = a := ⟨_, rfl⟩
        obtain ⟨b, hb⟩ : ∃ b, lb[k] = b := ⟨_, rfl⟩
        simp only [ha, hb] at x1 x2 HN HF
        clear ha hb
        have hkm : (k : Int) < (n : Int) := by omega
        by_cases e : a = b
        · have HN2 := Lib.hid (HN.out e)
          subst e
          go_wp2
          go_quiet (fail)
          go_wp2
          go_roundw
          case rel => exact ⟨k + 1, by omega, by go_num, HN2, _, rfl⟩
          case measure => simp [intOf]; omega
        · have HF2 := Lib.hid (HF.out e)
          have eb : (a == b) = false := beq_eq_false_iff_ne.2 e
          have eb' : (a != b) = true := bne_iff_ne.2 e
          go_wp2
          go_quiet (fail)
          go_wp2
          go_ret
          exact ⟨ret_bool HF2.out.symm, below_drewN (below_drewN (Below.refl _ _) _) _⟩
      · have HT2 : Hid (v = true) := Lib.hid (by
          rw [← HV.out]
          have := HT.out
          rw [List.take_of_length_le (by omega), List.take_of_length_le (by omega)] at this
          exact decide_eq_true this)
        go_wp2
        go_ret
        exact ⟨ret_bool HT2.out.symm, below_drewN (Below.refl _ _) _⟩
  · have HT2 : Hid (v = false) := Lib.hid (by
      rw [← HV.out]
      exact decide_eq_false (fun h => hlen (by rw [← hn, ← hm, h])))
    have e1 : ((n : Int) == (m : Int)) = false := beq_eq_false_iff_ne.2 (by omega)
    have e2 : ((n : Int) != (m : Int)) = true := bne_iff_ne.2 (by omega)
    have e3 : (n == m) = false := beq_eq_false_iff_ne.2 hlen
    go_enter Try.func18, Try.ntmps18
    go_wp2
    go_ret
    exact ⟨ret_bool HT2.out.symm, Below.refl _ _⟩
set_option maxHeartbeats 2000000 in
theorem groups_any {nm : ByteArray} {A A' : Option Addr} {n c n' c' : Nat} {F : FitD} (hc : fitCode nm F = 0) (hsz : nm.size ≤ maxLen) (w : World) (hA : MdRow w A n F.o) (hA' : MdRow w A' n' F.i) :
    Calls Try.prog 15 #[ftV nm A n c A' n' c' F.le F.mo] w fun e w' => ∃ G gc, e = .returned (.tuple #[.slice G (gsOf (F.o ++ F.i)).length gc, .int .i64 0]) ∧ IntsAt w' G (gsOf (F.o ++ F.i)) ∧ Below w.heap.size w w' := by
  have hok := (fitCode_ok hc).1
  have hn2 : n + n' ≤ 20 := by have := hok.hn; have := hA.1; have := hA'.1; omega
  have HMD := Lib.hid (fun wx (hb : Below w.heap.size w wx) => And.intro (hA.below hb) (hA'.below hb))
  have CF := Lib.hid (fun wx (hb : Below w.heap.size w wx) => checkFit_any (c := c) (c' := c') hc hsz (by omega) (by omega) wx (HMD.out wx hb).1 (HMD.out wx hb).2)
  have GR := Lib.hid (fun wx (hb : Below w.heap.size w wx) => groupsOf_any (nm := nm) (c := c) (c' := c') (le := F.le) (mo := F.mo) hok.ho hok.hi hn2 wx (HMD.out wx hb).1 (HMD.out wx hb).2)
  have hB1 : Hid (∀ o, Below w.heap.size w (w.alloc o)) := Lib.hid (fun o => (Below.refl _ _).alloc (Nat.le_refl _) _)
  clear hA hA' hok hc HMD
  unfold ftV at CF ⊢
  go_enter Try.func15, Try.ntmps15
  go_wp2_with (first | (go_at_call 17; refine Calls.mono (CF.out _ (hB1.out _)) ?_; rintro e w1 ⟨rfl, hb1⟩; have hB2 := (hB1.out _).trans (hb1.mono (by simp)); obtain ⟨hc1, hf1⟩ := bcell hb1) | (go_at_call 49; refine Calls.mono (GR.out _ hB2) ?_; rintro e w2 ⟨G, gc, rfl, hG, hb2⟩))
  go_ret2
  exact ⟨_, _, rfl, hG, hB2.trans (hb2.mono hB2.size)⟩
set_option maxHeartbeats 1000000 in
theorem groups_bad {nm : ByteArray} {A A' : Option Addr} {n c n' c' : Nat} {F : FitD} {cd : Int} (hc : fitCode nm F = cd) (h0 : cd ≠ 0) (hsz : nm.size ≤ maxLen) (hn : n ≤ 1000000) (hn' : n' ≤ 1000000) (w : World) (hA : MdRow w A n F.o) (hA' : MdRow w A' n' F.i) :
    Calls Try.prog 15 #[ftV nm A n c A' n' c' F.le F.mo] w fun e w' => e = .returned (.tuple #[.slice none 0 0, .int .i64 cd]) ∧ Below w.heap.size w w' := by
  have HMD := Lib.hid (fun wx (hb : Below w.heap.size w wx) => And.intro (hA.below hb) (hA'.below hb))
  have CF := Lib.hid (fun wx (hb : Below w.heap.size w wx) => checkFit_any (c := c) (c' := c') hc hsz hn hn' wx (HMD.out wx hb).1 (HMD.out wx hb).2)
  have hB1 : Hid (∀ o, Below w.heap.size w (w.alloc o)) := Lib.hid (fun o => (Below.refl _ _).alloc (Nat.le_refl _) _)
  have hcb : (cd == 0) = false := beq_eq_false_iff_ne.2 h0
  have hcb' : (cd != 0) = true := bne_iff_ne.2 h0
  clear hA hA' hc HMD
  unfold ftV at CF ⊢
  go_enter Try.func15, Try.ntmps15
  go_wp2_with (first | (go_at_call 17; refine Calls.mono (CF.out _ (hB1.out _)) ?_; rintro e w1 ⟨rfl, hb1⟩; have hB2 := (hB1.out _).trans (hb1.mono (by simp)); obtain ⟨hc1, hf1⟩ := bcell hb1))
  go_ret2
  exact ⟨rfl, hB2⟩
/-- The law's bound on fits. -/
def slB (l : List Ft) : Bool := !(decide (4 < l.length) && decide (l.length ≤ 60)) && (decide (l.length ≤ 65) && l.all (fun x => slightB x.nm x.f.o.length x.f.i.length))
theorem slB_ok {l : List Ft} (h : slB l = true) : l.length ≤ 65 ∧ ∀ x ∈ l, x.nm.size ≤ 30 ∧ x.f.o.length ≤ 30 ∧ x.f.i.length ≤ 30 := by
  unfold slB at h
  simp only [Bool.and_eq_true, decide_eq_true_eq, List.all_eq_true] at h
  refine ⟨h.2.1, fun x hx => ?_⟩
  have := h.2.2 x hx
  unfold slightB at this
  simpa [Bool.and_eq_true] using this
theorem slAll_succ {l : List Ft} {k : Nat} (h : k < l.length) : (l.take (k + 1)).all (fun x => slightB x.nm x.f.o.length x.f.i.length) = ((l.take k).all (fun x => slightB x.nm x.f.o.length x.f.i.length) && slightB l[k].nm l[k].f.o.length l[k].f.i.length) := by
  rw [List.take_succ_eq_append_getElem h, List.all_append]; simp
set_option maxHeartbeats 2000000 in
set_option maxRecDepth 20000 in
theorem slights_law {l : List Ft} {S : Option Addr} {m d : Nat} {v : Bool} (hv : slB l = v) (hmm : m ≤ maxLen) (w : World) (hS : FtRow w.heap.size w S m l) (hle : ∀ x ∈ l, x.f.o.length ≤ maxLen ∧ x.f.i.length ≤ maxLen) :
    Calls Try.prog 9 #[.slice S m d] w fun e w' => e = .returned (.bool v) ∧ Below w.heap.size w w' := by
  have hln := hS.1
  have hm' : m ≤ 9223372036854775807 := Nat.le_trans hmm (by decide)
  have HSR := Lib.hid hS
  have HLE := Lib.hid hle
  have HV : Hid ((!(decide (4 < m) && decide (m ≤ 60)) && (decide (m ≤ 65) && l.all (fun x => slightB x.nm x.f.o.length x.f.i.length))) = v) := Lib.hid (by rw [← hv]; unfold slB; rw [hln])
  clear hS hv hle
  by_cases h65 : m ≤ 65
  · by_cases h4 : 4 < m ∧ m ≤ 60
    · obtain ⟨h4, h6⟩ := h4
      have HW : Hid (v = false) := Lib.hid (by rw [← HV.out, decide_eq_true h4, decide_eq_true h6]; rfl)
      go_enter Try.func9, Try.ntmps9
      go_wp2
      go_ret
      exact ⟨ret_bool HW.out.symm, Below.refl _ _⟩
    · have d1 : decide (65 < (m : Int)) = false := decide_eq_false (by omega)
      have HW : Hid (l.all (fun x => slightB x.nm x.f.o.length x.f.i.length) = v) := Lib.hid (by
        rw [← HV.out, decide_eq_true h65]
        have : (decide (4 < m) && decide (m ≤ 60)) = false := by rw [Bool.and_eq_false_iff]; simp; omega
        rw [this]; simp)
      clear HV
      go_enter Try.func9, Try.ntmps9
      go_wp2
      all_goals
        go_loopw [3] (fun i wr => ∃ k : Nat, k ≤ m ∧ i = .int .i64 k ∧ Hid ((l.take k).all (fun x => slightB x.nm x.f.o.length x.f.i.length) = true) ∧ Hid (Below w.heap.size w wr)) (fun i _ => m - (intOf i).toNat)
        case atStart => exact ⟨0, Nat.zero_le _, rfl, Lib.hid rfl, Lib.hid (Below.refl _ _)⟩
        case round =>
          obtain ⟨k, hk, rfl, HT, HB⟩ := hrel
          by_cases hlt : k < m
          · have hkl : k < l.length := by omega
            obtain ⟨blk, off, rfl, hblk, hx⟩ := HSR.out.2 (by omega)
            have hxx := (hx k hkl).below HB.out hblk
            have HS := Lib.hid (slAll_succ hkl)
            have HM := Lib.hid (List.getElem_mem hkl)
            have hll := HLE.out l[k] (List.getElem_mem hkl)
            clear hx
            obtain ⟨x, hxe⟩ : ∃ x, l[k] = x := ⟨_, rfl⟩
            rw [hxe] at hxx HS HM hll
            clear hxe
            obtain ⟨nm, ⟨le, mo, o, i⟩⟩ := x
            obtain ⟨A, p, c, A', p', c', q0, q1, q2, q3, q4, qo, qi, hsz, -⟩ := hxx
            simp only at q0 q1 q2 q3 q4 qo qi hsz HS hll
            rw [qo.1, qi.1] at HS hll
            have HMF : Hid (slightB nm p p' = false → v = false) := Lib.hid (fun hb => by
              rw [← HW.out, List.all_eq_false]
              exact ⟨_, HM.out, by simp only; rw [qo.1, qi.1, hb]; simp⟩)
            have SL := fun wx => Lib.hid (slight_law (A := A) (c := c) (A' := A') (c' := c') (le := le) (mo := mo) hsz hll.1 hll.2 wx)
            unfold ftV at SL
            obtain ⟨b, hb⟩ : ∃ b, slightB nm p p' = b := ⟨_, rfl⟩
            simp only [hb] at SL HS HMF
            clear hb qo qi hll
            have hsw := HB.out.size
            cases b with
            | true =>
              have HT2 : Hid ((l.take (k + 1)).all (fun x => slightB x.nm x.f.o.length x.f.i.length) = true) := Lib.hid (by rw [HS.out, HT.out]; rfl)
              go_wp2_with (go_at_call 35; refine Calls.mono (SL _).out ?_; rintro e w2 ⟨rfl, hb2⟩)
              go_roundw
              case rel => exact ⟨k + 1, by omega, by go_num, HT2, Lib.hid (HB.out.trans (hb2.mono hsw))⟩
              case measure => simp [intOf]; omega
            | false =>
              have HF := Lib.hid (HMF.out rfl)
              go_wp2_with (go_at_call 35; refine Calls.mono (SL _).out ?_; rintro e w2 ⟨rfl, hb2⟩)
              go_ret
              exact ⟨ret_bool HF.out.symm, HB.out.trans (hb2.mono hsw)⟩
          · have HF : Hid (v = true) := Lib.hid (by rw [← HW.out]; have := HT.out; rwa [List.take_of_length_le (by omega)] at this)
            go_wp2
            go_ret
            exact ⟨ret_bool HF.out.symm, HB.out⟩
  · have d1 : decide (65 < (m : Int)) = true := decide_eq_true (by omega)
    have HW : Hid (v = false) := Lib.hid (by rw [← HV.out, decide_eq_false h65]; simp)
    go_enter Try.func9, Try.ntmps9
    go_wp2
    all_goals
      go_ret
      exact ⟨ret_bool HW.out.symm, Below.refl _ _⟩
end Go.Proofs.Ytcjhodlimpgegaa
